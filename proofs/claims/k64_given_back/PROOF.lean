import PyProof.Rows.All
import Wide.All
import OpenK.AllK
import PySem.Challenge.RW_yardkeep_k64_given_back
set_option Elab.async false
set_option linter.all false
set_option maxRecDepth 100000
set_option maxHeartbeats 4000000
open PySem.W (Frag kitOne keepIn findIn nsIn mg_of fnOf codeIn)
set_option compiler.extract_closed false
set_option genSizeOf false
set_option hygiene false
local macro_rules|`(tactic|and_intros)=>`(tactic|first|exact .inl rfl|exact .inr rfl|assumption)
local macro_rules|`(tactic|bv_omega)=>`(tactic|(rintro _ _ _ _ ⟨⟩<;>subst_vars<;>first|rfl|(rename_i h;cases h;subst_vars;rfl)))
local macro_rules|`(tactic|subst_eqs)=>`(tactic|first|exact λ_ _ q=>q|(intro b o q;rw[Zd (Ze q<|by assumption)];exact q))
set_option hygiene true
set_option hygiene false
local macro_rules|`(∅)=>`(wpAny (model X.prog X.w) X.A)
local macro_rules|`(~~~$x)=>`(($x :lR)++".<locals>."++"<lambda>")
local macro_rules|`(tactic|rfl')=>`(tactic|intro d6 A mB s H vs Q E hr h)
set_option hygiene true
local macro_rules|`(tactic|lk)=>`(tactic|decide)
local macro_rules|`(tactic|left)=>`(tactic|decide +kernel)
open Lean in
local macro_rules|`(lay_quick $i*)=>do
 let g s:=mkIdent (.mkSimple s!"tw{(Name.str `PySem.Challenge.cw_yardkeep_k64_given_back_holds s).hash}")
 return mkNullNode (<-(i.map (g ·.getId.toString)++(Array.range 1093).map fun k=>g s!"o_{k+43}").mapM fun x=>`(def $x :=True))
local macro_rules(kind:=Lean.Parser.Command.declaration)|x=>do
 if x.getPos?.isNone then Lean.Macro.throwUnsupported
 let n<-`(noncomputable def a:=1)
 return (if [`Lean.Parser.Command.definition,`Lean.Parser.Command.abbrev].contains x[1].getKind&&x[0].getArgs.all (·.isNone) then x.setArg 0 n.raw[0] else x).rewriteBottomUp (·.setInfo .none)
set_option bootstrap.genMatcherCode false
abbrev lQ:=@List
abbrev lR:=PySem.Str
abbrev lS:=PySem.Addr
abbrev lT:=PySem.Value
abbrev lU:=PySem.Shared
abbrev lV:=@Option
abbrev lW:=PySem.W.Frag
abbrev lX:=PySem.Stmt
abbrev lY:=PySem.Heap
abbrev lZ:=PySem.World
abbrev ma:=PySem.Expr
abbrev md:=PySem.Program
abbrev me:=PySem.Around
abbrev mf:=PySem.FuncData
def mK:=@List.length_map
def nj:=@List.map_append
def mS:=@PySem.wpAny_bind
def nQ:=@PySem.Heap.get?_push_of_some
def nR:=@Option.map_eq_some_iff
def nJ:=@List.getElem?_map
def mX:=@List.mem_map
def oo:=@List.getElem?_eq_some_iff
def oy:=@List.getElem?_eq_getElem
def nk:=@Nat.le_refl
def nH:=@PySem.Paired.length
def nX:=@List.length_append
def og:=@List.take_add_one
def nS:=@decide_eq_true
def oh:=@List.length_take
def nG:=@PySem.wpAny_pure
def nO:=@PySem.Heap.lt_size
def nU:=@List.mem_cons
def oz:=@List.size_toArray
def oj:=@List.mem_append
def nV:=@List.map_cons
def om:=@decide_eq_false
def pe:=@List.mem_of_getElem?
def oQ:=@PySem.Heap.get?_push_size
def mT:=@if_neg
def oP:=@List.mem_singleton
def oU:=@Bool.false_ne_true
def nw:=@PyProof.Rows.wpS_bind
def mU:=@if_pos
def oJ:=@List.take_length
def qo:=@List.getD_eq_getElem?_getD
def pU:=@PySem.Str.length_append
def ph:=@List.mem_cons_self
def pG:=@List.mem_cons_of_mem
def oK:=@Option.some.inj
def oi:=@Nat.ne_of_lt
def nI:=@PyProof.Rows.wpS_pure
def oO:=@PySem.PassesOwn.never
def pq:=@of_decide_eq_true
def pr:=@List.append_assoc
def pK:=@Nat.lt_of_lt_of_le
def ow:=@Nat.le_trans
def rP:=@PyProof.Rows.boot_isinstance
def qv:=@List.mem_append_right
def pE:=@List.length_cons
def qg:=@Int.emod_lt_of_pos
def pI:=@List.lookup_cons
def qF:=@List.forall_mem_cons
def qt:=@beq_eq_false_iff_ne
def pH:=@List.append_nil
def qk:=@List.nodup_append
def pS:=@List.nodup_cons
def tF:=@PySem.F.excBase_ValueError
def pi:=@List.map_map
def pY:=@Int.emod_nonneg
def qu:=@Bool.and_eq_true
def sK:=@List.take_of_length_le
def pA:=@Nat.le_of_lt
def qh:=@List.Perm.refl
def rS:=@PySem.mem_of_lookup
def tT:=@PySem.Heap.get?_update_other
def uD:=@List.length_eq_zero_iff
def rh:=@Bool.eq_iff_iff
def oE:=@congrArg
def vG:=@PyProof.Rows.boot_sorted
def se:=@List.filter_cons
def sN:=@Array.getElem_mem
def qL:=@Nat.lt_irrefl
def rA:=@PySem.W.kia_one
def tP:=@List.filter_append
def tV:=@Array.length_toList
def qW:=@PySem.wpAny_holding
def uX:=@List.mem_of_mem_take
def sP:=@List.length_drop
def uc:=@Bool.false_eq_true
def uL:=@Array.toList_append
def pX:=@PySem.wpAny_mono
def tX:=@PySem.wpAny_truthy_bool
def wR:=@List.extract_eq_take_drop
def wq:=@Array.getElem?_toList
def vL:=@List.length_filter_le
def wb:=@List.getElem?_eq_none
def vX:=@List.perm_append_comm
def wI:=@PyProof.Rows.boot_str
def vZ:=@PyProof.Rows.boot_int
def xO:=@PySem.F.plainAttrs_list
def yM:=@List.getElem?_append_right
def oM:=@Ne.symm
def vB:=@PySem.wpAny_Call_Name_kw
def xx:=@PySem.Calls.callWith_builtin
def tw:=@List.nodup_nil
def yl:=@List.drop_eq_getElem_cons
def uI:=@List.mem_nil_iff
def uj:=@List.mem_flatMap
def vP:=@List.mem_map_of_mem
def xr:=@List.take_append_drop
def rQ:=@PyProof.Rows.wpS_forRange
def Ar:=@PyProof.Rows.callWith_type1
def uV:=@List.of_mem_zip
def tH:=@List.map_take
def xc:=@List.mem_append_left
def wX:=@Array.toList_extract
def zc:=@PyProof.Rows.boot_dict
def ri:=@True.intro
def rV:=@Nat.le_succ
def wx:=@PySem.wpAny_newObj_type
def wo:=@decide_eq_true_eq
def xR:=@List.flatMap_append
def AT:=@List.getElem?_append_left
def vC:=@List.mem_filter
def zi:=@List.mem_iff_getElem?
def vI:=@List.filter_nil
def rK:=@beq_iff_eq
def sH:=@Nat.zero_le
def wj:=@List.all_eq_true
def we:=@beq_self_eq_true
def AE:=@PySem.F.plainAttrs_dict
def Cd:=@List.dropLast_concat_getLast
def vD:=@PySem.Heap.size_push
def Dl:=@PyProof.Rows.slot_tuple_getitem
def tW:=@Nat.lt_trans
def tJ:=@PySem.sizeLine_eq
def yX:=@PySem.W.KT.app_list
def wc:=@PySem.wpAny_loadPart'
def vT:=@Nat.not_lt_zero
def Ak:=@PyProof.Rows.boot_list
def Am:=@PyProof.Rows.boot_bool
def Dy:=@Array.getElem?_eq_some_iff
def yK:=@PySem.Calls.spliced_cons
def uP:=@List.map_nil
def yt:=@PySem.tupleKind_room_in1
def zt:=@List.Pairwise.sublist
def Bm:=@PySem.Heap.get?_none_of_le
def zM:=@Array.mem_toList_iff
def Ap:=@PySem.W.looks_findIn
def zr:=@PySem.Calls.evalArgs_plain
def Ag:=@List.getElem?_of_mem
def xU:=@PySem.wpAny_pyIter_list
def wZ:=@PySem.wpAny_passesOwn
def DI:=@PySem.F.slot_list_getattribute
def zl:=@List.foldl_append
def vJ:=@Nat.le_of_eq
def ve:=@PySem.codeAny_mono
def Cz:=@PySem.wpAny_getItem_str_slice
def zI:=@Option.some_ne_none
def AO:=@List.getElem_of_mem
def Ao:=@List.map_congr_left
def Cb:=@List.eraseIdx_cons_succ
def wE:=@List.map_drop
def xT:=@Nat.succ_le_succ
def AU:=@PySem.F.slot_list_pop
def Cg:=@List.Perm.append_right
def AI:=@PySem.W.callWith_K
def rD:=@if_false
def zP:=@PySem.Code.quiet_builtin
def Ad:=@List.getElem?_drop
def DM:=@List.length_singleton
def yj:=@List.find?_cons
def vO:=@PySem.call_meetsIn
def Cs:=@PySem.Heap.get?_update_self
def Db:=@PySem.Obj.isFreed_of_fields
def BV:=@List.Perm.append_left
def yb:=@List.range_succ
def AF:=@PySem.Calls.spliced_nil
def ux:=@PySem.wpAny_call
def zC:=@Int.toNat_natCast
def xE:=@List.any_cons
def zT:=@PySem.wpAny_loadPart_at
def AB:=@List.length_range
def BB:=@PySem.codeAny_call_builtin
def yB:=@List.mem_range
def Gx:=@PySem.Calls.call_function_entry
def Et:=@Classical.byContradiction
def zK:=@Nat.lt_succ_self
def Be:=@List.not_mem_nil
def sS:=@PyProof.Rows.wpS_mono
def vQ:=@Sum.inr.inj
def Dg:=@PySem.BindsTo.of_defaults
def xJ:=@Nat.ne_of_gt
def Gj:=@Option.isSome_iff_exists
def xw:=@Nat.lt_or_ge
def vh:=@PySem.wpAny_rule
def Bj:=@List.cons.injEq
def Cf:=@PySem.W.of_hideAll
def AD:=@PySem.wpAny_execs_nil
def BG:=@List.mem_filterMap
def FJ:=@List.getElem?_replicate
def zS:=@PySem.SeqAt.EqAt.same
def Hx:=@PySem.wpAny_Call_method0_late
def BS:=@PySem.Obj.data_mapFields
def yy:=@Prod.mk.injEq
def EG:=@List.filter_cons_of_pos
def GG:=@List.filter_cons_of_neg
def Hq:=@List.getElem?_set_self
def HU:=@PySem.W.cellsFrom_some
def CA:=@List.flatMap_cons
def Ry:=@PySem.plainObj_wpAny_Assign_Attribute
def Ca:=@List.take_sublist
def xP:=@PySem.wpAny_field
def Jl:=@List.eraseIdxIfInBounds_toArray
def CU:=@bne_self_eq_false
def LD:=@Array.getElem?_setIfInBounds_ne
def Ce:=@Bool.eq_false_iff
def BQ:=@List.reverse_cons
def BA:=@List.reverse_perm
def Av:=@List.Perm.swap
def FH:=@PySem.W.methodCall_KW
def Ei:=@PySem.F.slot_dict_get
def EH:=@PySem.F.type_list_pop
def CS:=@PySem.wpAny_eqBool_str
def CO:=@PySem.wpAny_execs_cons
def DL:=@PySem.wpAny_call_entry
def CD:=@decide_eq_decide
def DK:=@List.nil_sublist
def BI:=@List.drop_length
def Ci:=@Nat.min_eq_right
def Ib:=@List.getElem?_set_ne
def Il:=@PySem.SeqAt.EqAt.bool_bool
def Fu:=@PySem.F.slot_dict_update
def Fk:=@PySem.Around.under_plainId
def FW:=@Array.toList_reverse
def GM:=@List.mem_of_mem_drop
def zX:=@PySem.wpAny_standAt
def uO:=@or_false
def Bb:=@List.take_nil
def wO:=@PySem.typeIs_str
def Fy:=@PySem.W.hideAll_get
def EC:=@List.filterMap_cons
def HS:=@PySem.W.plainGet_of
def GZ:=@PySem.W.looks_clsIn
def Do:=@PySem.post_val_or_str
def CQ:=@Bool.or_eq_true
def Fc:=@PySem.evalArgs_none
def Fe:=@PySem.W.KeqHits.hit
def CC:=@PySem.codeAny_builtin
def FE:=@PySem.W.codeHd_of_K
def BE:=@List.Perm.trans
def FL:=@List.filter_eq_self
def IJ:=@PySem.wpAny_richCompare_same_room
def Br:=@Nat.min_eq_left
def LH:=@PySem.Calls.Name_function_global
def JO:=@PySem.wpAny_newFunctionEnv_cells
def MZ:=@Array.toList_setIfInBounds
def QK:=@Array.perm_iff_toList_perm
def Ba:=@PySem.wpAny_typeOf
def Eh:=@Nat.lt_of_le_of_lt
def Fx:=@Nat.pos_of_ne_zero
def ud:=@if_true
def NE:=@PySem.F.slot_dict_delitem
def Lp:=@List.getLast?_eq_some_iff
def Qv:=@List.getLast?_eq_getElem?
def Ik:=@PySem.slot_list_getitem
def Qo:=@PySem.wpAny_getItem_list_slice
def xV:=@PySem.call_meets
def Hr:=@Option.isSome_map
def FO:=@PySem.wpAny_Call_method
def Pg:=@PySem.F.slot_dict_values
def FA:=@Nat.lt_succ_of_lt
def Fm:=@List.Pairwise.map
def JW:=@PySem.F.args_tuple_add_2
def Ht:=@Array.toList_push
def QU:=@List.sublist_append_left
def Od:=@PySem.F.args_dict_get_3
def QO:=@PySem.F.slot_dict_items
def IS:=@PySem.F.attr_ValueError
def JF:=@decide_eq_false_iff_not
def zU:=@List.not_lt
def ON:=@PySem.F.entry_tuple_add
def uK:=@PyProof.Rows.wpS_get
def LF:=@PyProof.Rows.boot_tuple
def GD:=@PySem.W.kat_cons
def Mp:=@PySem.F.entry_dict_get
def Qy:=@PySem.W.funFrames_hide
def PX:=@PySem.F.slot_tuple_add
def NR:=@List.drop_of_length_le
def OL:=@List.append_eq_nil_iff
def IH:=@PyProof.Rows.boot_repr
def FI:=@List.nil_append
def Oy:=@List.length_replicate
def Qc:=@PySem.F.slot_list_append
def Jt:=@PySem.F.slot_list_extend
def Fi:=@List.length_nil
def KR:=@PySem.F.slot_dict_pop
def Bv:=@PySem.Txt.slice_le
def Oc:=@List.getElem?_toArray
def BP:=@Nat.zero_add
def DA:=@Nat.add_zero
def Ja:=@List.contains_iff_mem
def HN:=@PySem.W.kat_yes
def QX:=@PySem.F.slot_tuple_lt
def QZ:=@PyProof.Rows.boot_min
def QD:=@PyProof.Rows.boot_max
def GL:=@List.sum_append
def Aa:=@PyProof.Rows.wpS_modify
def xQ:=@PyProof.Rows.wpS_lift
def Nw:=@PySem.W.hideAll_none
def Rm:=@PySem.W.KatTups.cons
def JH:=@List.Pairwise.filter
def Rg:=@Nat.mul_le_mul_right
def Iw:=@PySem.wpAny_loadPart
def FP:=@PySem.wpAny_setField
def Ec:=@List.drop_zero
def Hg:=@PySem.boot_len
def Fj:=@List.drop_drop
def Ee:=@PySem.W.kat_go
def GC:=@PySem.W.kat_no
def Nc:=@PySem.W.findObj_own
def DN:=@PySem.Paired.snoc
def KM:=@PySem.W.looks_mroIn
def Ox:=@List.take_succ_cons
def Rt:=@PySem.W.KatTups.nil
def Pc:=@Nat.add_sub_cancel'
def Rh:=@List.length_pos_iff
def JU:=@List.map_eq_nil_iff
def Rv:=@PySem.W.codeRec_of
def Em:=@List.all_cons
def Gz:=@Bool.false_or
def OA:=@PySem.W.check_slot
def LJ:=@Option.isNone_none
def Pq:=@List.pairwise_cons
def Go:=@List.cons.inj
def FG:=@List.take_add
def Oa:=@Array.size_extract
def GB:=@Bool.not_true
def Nf:=@List.getElem?_take
def Du:=@PySem.Walks.list
def GY:=@Nat.sub_self
def Hw:=@getElem?_pos
def GJ:=@List.map_id
def xY:=@Or.inl
def yZ:=@Or.inr
open Prod(fst snd)
section
local macro_rules|`(tactic|show $t)=>`(tactic|exact $t)
local macro_rules|`(#v[$a])=>`(($a).heap.objs.size)
local macro_rules|`(#[$a])=>`(⟨$a⟩)|`(#[$a,$b,*])=>`(⟨$a,$b,*⟩)
namespace L2
open PySem PySem.Spec PyProof.Rows
abbrev ng:=Sum Int lR
def wv:ng->lT->Bool
 | .inl k,v=>Value.isInt k v
 | .inr x,v=>Value.isStrOf x v
def ZU(w:lZ):ng->Int
 | .inl k=>hashInt k
 | .inr x=>hashStr w x
theorem Xj:∀{k:ng}{v:lT},wv k v=true->(∃i t,k=Sum.inl i/\v=Value.int i t)\/(∃x t,k=Sum.inr x/\v=Value.str x t)
 | .inl i,v,h=>by
  obtain⟨t,e⟩:=Value.isInt_shape (k:=i) (v:=v) h;show .inl #[i,t,rfl,e]
 | .inr x,v,h=>by
  obtain⟨t,e⟩:=Value.isStrOf_shape (x:=x) (v:=v) h;show .inr #[x,t,rfl,e]
def Zyj(i:Int)(t:Tok):wv (.inl i) (.int i t)=true:=by simp[wv,Value.isInt]
def Zxe(x:lR)(t:Tok):wv (.inr x) (.str x t)=true:=by simp[wv,Value.isStrOf]
def TC(a b:Int):decide ((Sum.inl a:ng)=Sum.inl b)=(a ==b):=by
 by_cases e:a=b
 ·subst e;simp
 ·have h:¬(Sum.inl a:ng)=Sum.inl b:=λq=>e<|Sum.inl.inj q
  rw[om h];show(qt.mpr e).symm
def Yfc(a b:lR):decide ((Sum.inr a:ng)=Sum.inr b)=decide (a=b):=by
 by_cases e:a=b
 ·subst e;simp
 ·have h:¬(Sum.inr a:ng)=Sum.inr b:=λq=>e<|vQ q
  rw[om h,om e]
def Ye7(a:Int)(b:lR):decide ((Sum.inl a:ng)=Sum.inr b)=false:=om (λq=>nomatch q)
def YL(a:lR)(b:Int):decide ((Sum.inr a:ng)=Sum.inl b)=false:=om (λq=>nomatch q)
def Z1(prog:md)(w:lZ):PySem.KeyKind prog w ng where
 is:=wv
 hash:=ZU w
 inj:=λv a b q r=>by
  rcases Xj q with⟨i,t,rfl,rfl⟩|⟨x,t,rfl,rfl⟩
  ·rcases Xj r with⟨j,u,rfl,e⟩|⟨y,u,rfl,e⟩
   ·injection e with z _;rw[z]
   ·show nomatch e
  ·rcases Xj r with⟨j,u,rfl,e⟩|⟨y,u,rfl,e⟩
   ·show nomatch e
   ·injection e with z _;rw[z]
 byValue:=λk v h=>by
  rcases Xj h with⟨i,t,rfl,rfl⟩|⟨x,t,rfl,rfl⟩<;>rfl
 pyHash:=λs h=>by
  rcases Xj s with⟨i,t,rfl,rfl⟩|⟨x,t,rfl,rfl⟩
  ·show wpAny_pyHash_int h
  ·show wpAny_pyHash_str h
 eqBool:=λp s h=>by
  rcases Xj p with⟨i,t,rfl,rfl⟩|⟨x,t,rfl,rfl⟩
  ·rcases Xj s with⟨j,u,rfl,rfl⟩|⟨y,u,rfl,rfl⟩
   ·rw[TC]at h;show wpAny_eqBool_int h
   ·rw[Ye7]at h;show SeqAt.EqAt.int_str i t y u _ _ _ _ h
  ·rcases Xj s with⟨j,u,rfl,rfl⟩|⟨y,u,rfl,rfl⟩
   ·rw[YL]at h;show SeqAt.EqAt.str_int x t j u _ _ _ _ h
   ·rw[Yfc]at h;show CS h
 «strs» :=λk x t v h=>by
  rcases Xj h with⟨i,u,rfl,e⟩|⟨y,u,rfl,e⟩
  ·show nomatch e
  ·injection e with z _
   subst z;cases v<;>rfl
def Zru(prog:md)(w:lZ)(i:Int)(t:Tok):(Z1 prog w).is (.inl i) (.int i t)=true:=Zyj i t
def Uq(prog:md)(w:lZ)(x:lR)(t:Tok):(Z1 prog w).is (.inr x) (.str x t)=true:=Zxe x t
inductive V where
 | non|bl (b:Bool)|int (i:Int)|str (x:Str)|byt (b:Array UInt8)|flt (b:UInt64)|ref (a:Addr)|ty (n:String)
 deriving DecidableEq
def Yd:V->lT->Prop
 | .non,u=>u=Value.none
 | .bl b,u=>u=Value.bool b
 | .int i,u=>∃t,u=Value.int i t
 | .str x,u=>∃t,u=Value.str x t
 | .byt b,u=>∃t,u=Value.bytes b t
 | .flt b,u=>∃t,u=Value.float b t
 | .ref a,u=>u=Value.ref a
 | .ty n,u=>u=Value.type n
abbrev Z7:lQ V->lQ lT->Prop:=Paired Yd
def Z7.length(r:Z7 xs us):xs.length=us.length:=nH r
theorem Z7.get:∀{xs:lQ V}{us:lQ lT}{i:Nat}{x:V},Z7 xs us->xs[i]? =some x->∃u,us[i]? =some u/\Yd x u
 | _,_,_,_,.nil,e=>by simp at e
 | _,_,0,_,.cons r _,e=>by simp at e;subst e;show#[_,rfl,r]
 | _,_,i+1,x,.cons _ t,e=>by
  obtain⟨u,z,y⟩:=Z7.get (i:=i) (x:=x) t (by simpa using e);show#[u,by simpa using z,y]
theorem Z7.set(r:Yd x u):∀{xs:lQ V}{us:lQ lT}(i:Nat),Z7 xs us->Z7 (xs.set i x) (us.set i u)
 | _,_,_,.nil=>.nil
 | _,_,0,.cons _ t=>.cons r t
 | _,_,i+1,.cons q t=>.cons q<|Z7.set r i t
def Z7.append{xs z:lQ V}{us y:lQ lT}(h:Z7 xs us)(s:Z7 z y):Z7 (xs++z) (us++y):=by
 induction h with
 | nil=>show s
 | cons r _ t=>show .cons r t
theorem Z7.take:∀{xs:lQ V}{us:lQ lT}(n:Nat),Z7 xs us->Z7 (xs.take n) (us.take n)
 | _,_,0,_=>.nil
 | _,_,_+1,.nil=>.nil
 | _,_,n+1,.cons r t=>.cons r<|Z7.take n t
theorem Z7.drop:∀{xs:lQ V}{us:lQ lT}(n:Nat),Z7 xs us->Z7 (xs.drop n) (us.drop n)
 | _,_,0,r=>r
 | _,_,_+1,.nil=>.nil
 | _,_,n+1,.cons _ t=>Z7.drop n t
def pR:lV V->lV lT->Prop
 | some v,some u=>Yd v u
 | none,none=>True
 | _,_=>False
def KV{z:Type}:lQ (z×V)->lQ (z×lT)->Prop:=Paired λ(p:z×V) (q:z×lT)=>p.1=q.1/\Yd p.2 q.2
def kV:ng->V
 | .inl i=>.int i
 | .inr x=>.str x
inductive HO where
  | lst (xs:List V)
  | tup (xs:List V)
  | dK (kvs:List (ng×V))|dT (kvs:List (List ng×V))
  | set (S:Int->Bool) (n:Nat)
  | ins (C dx:Addr) (fs:List (Str×V))
  | own (x:Addr)
  | xd (fs:List (Str×V))
  | met (f x:Addr)
  | rng (lo hi:Int)
  | frz (o:Obj) (u:HO)
  | tbl (ps:Array Value)
  | ext (φ:Heap->Prop)
abbrev Hp:=lS->lV HO
def mJ(H:Hp)(a:lS)(o:HO):Hp:=λb=>if b=a then some o else H b
def Zc :mJ H a o a=some o:=by unfold mJ;rw[mU rfl]
def Zd(h:b≠a):mJ H a o b=H b:=by unfold mJ;rw[mT h]
def Fg :mJ (mJ H a o) a u=mJ H a u:=by
 funext b;unfold mJ;split<;>rfl
def MO{H:Hp}{a b:lS}{o u:HO}(h:H a=some o)(h':H b=some u)(d:o≠u):a≠b:=by
 intro e;subst e;rw[h]at h';show d<|oK h'
def Ze{H:Hp}{a b:lS}{o:HO}(h:H a=some o)(h':H b=none):a≠b:=by
 intro e;subst e;rw[h]at h';cases h'
def GS(z:Obj)(c y:lS):Prop:=∀h:lY,h.get? c=some z->PySem.W.CodeHd h c y
def Wk(z:lQ (Nat×Nat×lR)):Array lT:=(z.flatMap λp=>[rawInt p.1,rawInt p.2.1,.str p.2.2 0]).toArray
def rF(fs:lQ (Nat×Nat×lR×lS)):Array lT:=(fs.flatMap λf=>[rawInt f.1,rawInt f.2.1,.ref f.2.2.2]).toArray
def Ra{m n:Nat}(h:rawInt m=rawInt n):m=n:=by
 unfold rawInt at h
 injection h with h
 lia
def Tj:∀{y z:lQ (Nat×Nat×lR)},Wk y=Wk z->y=z:=by
 intro y z h;have h:(y.flatMap λp=>[rawInt p.1,rawInt p.2.1,Value.str p.2.2 0])=z.flatMap λp=>[rawInt p.1,rawInt p.2.1,Value.str p.2.2 0]:=by
  unfold Wk at h;simpa using h
 induction y generalizing z with
 | nil=>cases z with
  | nil=>rfl
  | cons m r=>simp at h
 | cons l r w=>cases z with
  | nil=>simp at h
  | cons m u =>
   simp only[CA,List.cons_append,FI,Bj]at h;obtain⟨s,q,o,x⟩:=h;obtain⟨n,j,i⟩:=l;obtain⟨g,e,d⟩:=m;have c:n=g:=Ra s;have a:j=e:=Ra q;have Y:i=d:=by injection o
   have U:r=u:=by first|show w (oE List.toArray x) x|show w<|oE List.toArray x
   rw[c,a,Y,U]
theorem Sg:∀{z:lQ (Nat×Nat×lR)},Wk z≠ (List.toArray [Value.none])
 | [],h=>by simp[Wk]at h
 | _ ::_,h=>by simp[Wk]at h
theorem Hu:∀fs:lQ (Nat×Nat×lR×lS),TriplesOk (rF fs).toList
 | []=>trivial
 | f ::fs=>by
  have:=Hu fs;unfold rF at this ⊢;simpa[TriplesOk,rawInt]using this
theorem Nq :∀{fs:lQ (Nat×Nat×lR×lS)},codeAmong pos (rF fs).toList=some cv->∃f∈fs,cv=.ref f.2.2.2/\f.1=pos.line/\f.2.1=pos.col
 | [],h=>by simp[rF,codeAmong]at h
 | f ::fs,h=>by
  have e:(rF<|f ::fs).toList=rawInt f.1 ::rawInt f.2.1 ::Value.ref f.2.2.2 ::(rF fs).toList:=by simp[rF]
  rw[e]at h;have h:(if((f.1:Int) ==(pos.line:Int) && (f.2.1:Int) ==(pos.col:Int))=true then some (Value.ref f.2.2.2)else codeAmong pos (rF fs).toList)=some cv:=h;split at h
  ·rename_i z;simp only[qu,rK]at z;show#[f,ph,(oK h).symm,by lia,by lia]
  ·obtain⟨g,y,r⟩:=Nq h;show#[g,pG _ y,r]
def Zw8(fs:lQ (Nat×Nat×lR×lS))(f:Nat×Nat×lR×lS):rF (fs++[f])=rF fs++ (List.toArray [rawInt f.1,rawInt f.2.1,.ref f.2.2.2]):=by
 unfold rF;simp
section
variable (P:md) (w:lZ)
def Z8(H:Hp)(h:lY)(a:lS):HO->Prop
 | .lst s=>s.length<=sizeLine/\∃(l:lQ lT)(n:Nat),Z7 s l/\h.get? a=some {cls:=.type "list",data:=.seq l.toArray n}
 | .tup s=>s.length<=sizeLine/\∃l:lQ lT,Z7 s l/\IsTup h a l.toArray
 | .dK y=>y.length<=sizeLine/\(a ==sysModules)=false/\∃j,KV y j/\h.DictOf (Z1 P w) a j
 | .dT y=>y.length<=sizeLine/\(a ==sysModules)=false/\∃s:lQ (lQ ng×lS×lT),
   Paired (λ(p:lQ ng×V) (q:lQ ng×lS×lT)=>p.1=q.1/\H q.2.1=some (.tup<|p.1.map kV)/\Yd p.2 q.2.2) y s/\
   ∃o z x,h.get? a=some o/\o.ExactDict/\o.data=.dict z x/\z.toList=s.map (entryOfKey<|tupleKind<|Z1 P w)/\(s.map (·.1)).Nodup
 | .set S n=>h.SetOf (intKind P w) a S n
 | .ins C z fs=>H z=some (.own a)/\fs.length<=1000/\z≠a/\h.get? a=some (PySem.W.instObj C z)/\
   ∃r,h.Ns1 z r/\(∀f,pR (fs.lookup f)<|r f)/\PySem.Within r (fs.map (·.1))
 | .own _=>∃o,h.get? a=some o
 | .xd fs=>∃r,h.Ns1 a r/\∀f,pR (fs.lookup f) (r f)
 | .rng lo z=>∃t u v,h.get? a=some {cls:=.type "range",data:=.fields (List.toArray [.int lo t,.int z u,.int 1 v])}
 | .frz o u=>h.get? a=some o/\Z8 H h a u
 | .tbl i=>∃z:Array lT,h.get? a=some {cls:=.none,data:=.fields z}/\(i=(List.toArray [.none])/\TriplesOk z.toList\/∃(x:lQ (Nat×Nat×lR)) (fs:lQ (Nat×Nat×lR×lS)),i=Wk x/\(x.map λp=>(p.1,p.2.1)).Nodup/\z=rF fs/\
   ∀f∈fs,((f.1,f.2.1,f.2.2.1):Nat×Nat×lR)∈x/\∃(q:Obj)(j:Array lT)(e:Nat)(g:lS),H f.2.2.2=some (.frz q<|.own a)/\q.data=.fields j/\j[1]? =some (.str f.2.2.1 e)/\H g=some (.tbl<|List.toArray [.none])/\GS q f.2.2.2 g)
 | .met f x=>h.get? a=some (PySem.W.methodObj (.ref f)<|.ref x)
 | .ext z=>z h/\(∃o,h.get? a=some o)/\∀x q:lY,z x->(∀o,x.get? a=some o->q.get? a=some o)->z q
def oq(H:Hp)(h:lY):Prop:=∀a o,H a=some o->Z8 P w H h a o
end
section
def Z8.lt(x:Z8 P w H h a o):a<h.objs.size:=by
 cases o with
 | lst r=>obtain⟨_,_,_,_,e⟩:=x;show nO e
 | tup r=>obtain⟨_,_,_,p⟩:=x;show p.lt
 | dK s=>obtain⟨_,_,_,_,o,_,_,e,_⟩:=x;show nO e
 | dT s=>obtain⟨_,_,_,_,o,_,_,e,_⟩:=x;show nO e
 | set S n=>obtain⟨o,_,_,_,e,_⟩:=x;show nO e
 | ins C z fs=>obtain⟨_,_,_,e,_⟩:=x;show nO e
 | own y=>obtain⟨_,e⟩:=x;show nO e
 | xd fs=>obtain⟨_,⟨_,_,_,e,_⟩,_⟩:=x;show nO e
 | rng lo z=>obtain⟨_,_,_,e⟩:=x;show nO e
 | frz z u=>obtain⟨e,_⟩:=x;show nO e
 | tbl z =>
  obtain⟨_,e,_⟩:=x;show nO e
 | met f y=>show nO (show h.get? a=some _ from x)
 | ext z=>obtain⟨_,⟨_,e⟩,_⟩:=x;show nO e
def Paired.mapP{z y:Type}{F G:z->y->Prop}{l₁:lQ z}{l₂:lQ y}(h:Paired F l₁ l₂)(f:∀a b,F a b->G a b):Paired G l₁ l₂:=by
 induction h with
 | nil=>show .nil
 | cons r _ t=>show .cons (f _ _ r) t
def Z8.stay(x:Z8 P w H h a o)(k:∀b u,(b=a\/H b=some (.own a))->h.get? b=some u->h'.get? b=some u)
  (L:∀b,H b=some (.own a)->H' b=some (.own a)) (J:∀b xs,H b=some (.tup xs)->H' b=some (.tup xs))
  (I:∀b o,H b=some (.frz o<|.own a)->H' b=some (.frz o<|.own a):=by subst_eqs)
  (G:∀b ps,H b=some (.tbl ps)->H' b=some (.tbl ps):=by subst_eqs):Z8 P w H' h' a o:=by
 induction o with
 | lst xs=>obtain⟨y,g,n,r,e⟩:=x;show#[y,g,n,r,k _ _ (.inl rfl) e]
 | tup xs=>obtain⟨y,g,r,l,e,c⟩:=x;show#[y,g,r,l,k _ _ (.inl rfl) e,c]
 | dK Y=>obtain⟨y,s,U,r,l,j,i,e,c⟩:=x;show#[y,s,U,r,l,j,i,k _ _ (.inl rfl) e,c]
 | dT Y =>
  obtain⟨y,s,xs,r,l,j,i,e,c⟩:=x;show#[y,s,xs,Paired.mapP r λp q y=>#[y.1,J _ _ y.2.1,y.2.2],l,j,i,k _ _ (.inl rfl) e,c]
 | set S n=>obtain⟨l,j,i,t,e,c⟩:=x;show#[l,j,i,t,k _ _ (.inl rfl) e,c]
 | ins C E fs =>
  obtain⟨d,y,z,e,Q,⟨N,j,i,M,c⟩,r⟩:=x;show#[L _ d,y,z,k _ _ (.inl rfl) e,Q,#[N,j,i,k _ _ (.inr d) M,c],r]
 | own s=>obtain⟨l,e⟩:=x;show#[l,k _ _ (.inl rfl) e]
 | xd fs=>obtain⟨Q,⟨N,j,i,e,c⟩,r⟩:=x;show#[Q,#[N,j,i,k _ _ (.inl rfl) e,c],r]
 | rng lo z=>obtain⟨t,u,v,e⟩:=x;show#[t,u,v,k _ _ (.inl rfl) e]
 | frz l u z=>obtain⟨e,q⟩:=x;show#[k _ _ (.inl rfl) e,z q]
 | tbl ps =>
  obtain⟨z,e,q⟩:=x;show#[z,k a _ (.inl rfl) e,q.imp_right λy=>by obtain⟨d,fs,E,M,D,q⟩:=y;refine#[d,fs,E,M,D,λf C=>?_];obtain⟨B,A,U,tt,Pn,f1,f2,f3,f4,f5⟩:=q f C;show#[B,A,U,tt,Pn,I _ _ f1,f2,f3,G _ _ f4,f5]]
 | met f s =>
  have e:h.get? a=some (PySem.W.methodObj (.ref f)<|.ref s):=x;change h'.get? a=some (PySem.W.methodObj (.ref f)<|.ref s);show k a _ (.inl rfl) e
 | ext z=>obtain⟨p,⟨o,e⟩,st⟩:=x;show#[st _ _ p λo q=>k _ _ (.inl rfl) q,#[o,k _ _ (.inl rfl) e],st]
def oq.lt(x:oq P w H h)(e:H a=some o):a<h.objs.size:=(x a o e).lt
def oq.fresh(x:oq P w H h)(e:h.objs.size<=a):H a=none:=by
 cases q:H a with
 | none=>rfl
 | some u=>show absurd (pK (x.lt q) e)<|qL _
def oq.kept(x:oq P w H h)(k:∀b u,h.get? b=some u->h'.get? b=some u):oq P w H h':=λa o e =>
 (x a o e).stay (λb u _ q=>k b u q) (λ_ q=>q) λ_ _ q=>q
def oq.laid(x:oq P w H h)(k:∀b u,h.get? b=some u->h'.get? b=some u)(s:h.objs.size<=a)(new:Z8 P w (mJ H a o) h' a o):oq P w (mJ H a o) h':=λb u e=>by
 have z:=x.fresh s
 by_cases y:b=a
 ·subst y;rw[Zc]at e;cases e;show new
 ·rw[Zd y]at e;show(x b u e).stay (λc v _ q=>k c v q) (λc q=>by rw[Zd (Ze q z)];show q) λc r q=>by rw[Zd (Ze q z)];show q
end
def Rd(H:Hp)(a:lS)(u:HO):Prop:=H a=some u\/∃o,H a=some (.frz o u)
def Rd.ok(r:Rd H a u)(x:oq P w H h):Z8 P w H h a u:=by
 rcases r with r|⟨o,r⟩
 ·show x a u r
 ·obtain⟨_,q⟩:=x a _ r;show q
def Bg:lV HO->Prop
 | some (.lst _)=>True
 | some (.dK _)=>True
 | some (.dT _)=>True
 | some (.set _ _)=>True
 | some (.ins _ _ _)=>True
 | some (.ext _)=>True
 | _=>False
section
def oq.write(ok:oq P w H h)(p:Bg (H x))(he:e=x\/H e=some (.own x))(k:∀b u,b≠e->h.get? b=some u->h'.get? b=some u)(a:∃u,h'.get? e=some u)
  (new:Z8 P w (mJ H x o') h' x o'):oq P w (mJ H x o') h':=λb u q=>by
 have n:∀c y,H c=some (.own y)->c≠x:=λc y r z=>by subst z;rw[r]at p;show p
 have l:∀c i,H c=some (.tup i)->c≠x:=λc i r z=>by subst z;rw[r]at p;show p
 have j:∀c o y,H c=some (.frz o<|.own y)->c≠x:=λc o y r z=>by subst z;rw[r]at p;show p
 by_cases g:b=x
 ·subst g;rw[Zc]at q;cases q;show new
 ·rw[Zd g]at q
  by_cases s:b=e
  ·have d:H b=some (.own x):=by
    rcases he with z|z
    ·show absurd (s.trans z) g
    ·rw[s];show z
   rw[q]at d;cases d;obtain⟨v,Y⟩:=a;show#[v,by rw[s];show Y]
  ·refine(ok b u q).stay (λc v d r=>k c v ?_ r) (λc r=>by rw[Zd (n c b r)];show r) (λc i r=>by rw[Zd (l c i r)];show r) (λc o r=>by rw[Zd (j c o b r)];show r) (λc Y r=>by rw[Zd λz=>by subst z;rw[r]at p;show p];show r);rcases d with rfl|d
   ·show s
   ·rintro rfl;rcases he with z|z
    ·show n c b d z
    ·rw[d]at z;cases z;show g rfl
end
structure Un(fs ex:List Addr)(H H':Hp)(h h':Heap):Prop where
 keep:∀b o,h.get? b=some o->H b=none->b∉fs->b∉ex->h'.get? b=some o
 slot:∀b o,h.get? b=some o->H b=none->b∈fs->b∉ex->∃sl,h'.get? b=some {o with slots:=sl}
 free:∀b o,h.get? b=some o->H b=none->b∉ex->H' b=none
 there:∀b o,h.get? b=some o->b∉ex->∃o',h'.get? b=some o'
 tups:∀b xs,H b=some (.tup xs)->H' b=some (.tup xs)
 frzs:∀b o u,H b=some (.frz o u)->H' b=some (.frz o u)
 tbls:∀b ps,H b=some (.tbl ps)->∃more,H' b=some (.tbl<|ps++more)
section
def Un.any(u:Un fs x H r h w)(q:h.get? b=some ob)(n:H b=none)(z:b∉x):∃s,w.get? b=some {ob with slots:=s}:=by
 by_cases y:b∈fs
 ·show u.slot b ob q n y z
 ·show#[ob.slots,u.keep b ob q n y z]
def Un.kept(k:∀b u,h.get? b=some u->h'.get? b=some u):Un fs y H H h h' :=
 #[λb z q _ _ _=>k b z q,λb z q _ _ _=>#[z.slots,k b z q],λ_ _ _ n _=>n,λb z q _=>#[z,k b z q],λ_ _ q=>q,λ_ _ _ q=>q,λ_ x q=>#[#[],by rw[q];simp]]
def Un.refl:Un fs z H H h h:=Un.kept λ_ _ q=>q
def Un.laid(k:∀b u,h.get? b=some u->h'.get? b=some u)(y:h.objs.size<=a)(z:H a=none):Un fs w H (mJ H a o) h h' where
 keep:=λb u q _ _ _=>k b u q
 slot:=λb u q _ _ _=>#[u.slots,k b u q]
 free:=λb u q n _=>by rw[Zd (oi<|pK (nO q) y)];show n
 there:=λb u q _=>#[u,k b u q]
 tups:=λb x q=>by rw[Zd (Ze q z)];show q
 frzs:=λb u x q=>by rw[Zd (Ze q z)];show q
 tbls:=λb s q=>#[#[],by rw[Zd (Ze q z),q];simp]
def Un.write(w:Bg (H x))(he:e=x\/H e=some (.own x))(k:∀b u,b≠e->h.get? b=some u->h'.get? b=some u)(s:∃u,h'.get? e=some u):Un fs g H (mJ H x o) h h':=by
 have l:∀b,H b=none->b≠x:=λb n z=>by subst z;rw[n]at w;show w
 have j:∀b,H b=none->b≠e:=λb n z=>by
  subst z;rcases he with r|r
  ·show l b n r
  ·rw[n]at r;cases r
 have p:∀b u,H b=some u->¬Bg (some u)->b≠x:=λb u q nm z=>by subst z;rw[q]at w;show nm w
 refine#[λb u q n _ _=>k b u (j b n) q,λb u q n _ _=>#[u.slots,k b u (j b n) q],λb u q n _=>by rw[Zd (l b n)];show n,λb u q _=>?_,
  λb i q=>by rw[Zd (p b _ q λz=>z)];show q,λb u i q=>by rw[Zd (p b _ q λz=>z)];show q,λb d q=>#[#[],by rw[Zd (p b _ q λz=>z),q];simp]]
 by_cases y:b=e
 ·subst y;show s
 ·show#[u,k b u y q]
end
def vp(h:lY)(H:Hp):lQ lS:=(List.range h.objs.size).filter λa=>(H a).isSome
def vq(h:lY)(H:Hp):lY:=PySem.W.hideAll h<|vp h H
def SV(h:lY)(H:Hp):(vq h H).objs.size=h.objs.size:=PySem.W.hideAll_size _ _
def UT(e:h.get? b=some o)(n:H b=none):(vq h H).get? b=some o :=
 Fy _ e λz=>by
  have q:(H b).isSome=true:=(vC.mp z).2;rw[n]at q;simp at q
def Yb3(e:(vq h H).get? b=some o):h.get? b=some o/\H b=none:=by
 have y:h.get? b=some o:=Cf (vp h H) e;refine#[y,?_];cases q:H b with
 | none=>rfl
 | some x =>
  have w:b∈vp h H:=vC.mpr #[yB.mpr<|nO y,by simp[q]];have z:(vq h H).get? b=none:=Nw (vp h H) w;rw[z]at e;cases e
def YJ(g h:lY)(L:lS):lQ (lS×Obj):=(List.range h.objs.size).filterMap λa=>if a=L\/(g.get? a).isSome=true then none else(h.get? a).map λo=>(a,o)
def Zs(g h:lY)(L d:lS):lQ (lS×Obj):=(YJ g h L).filter λp=>decide<|p.1≠d
def Jv(x:lR->lV lT)(h:lY):Prop:=∃y z,x "__builtins__"=some (.ref y)/\y≠builtinsNs/\h.get? y=some z/\z.cls=.type "module"/\z.dict=some builtinsNs/\z.data=.plain
structure Mod(K:Frag)(mg:Str->Option Value)(mD:Heap):Prop where
 kin:K.In mD
 glob:mD.Ns mainGlobals mg
 blt:∃mb,mD.Ns builtinsNs mb/\∀x:Str,x≠ "__name__"->mb x=bootBuiltins x
 nolimit:mD.NoLimit
 bm:Jv mg mD
structure Cx where
 prog:Program
 w:World
 K:Frag
 mg:Str->Option Value
 mD:Heap
 A:Around
 N:List Str
 mh:Shared
 mj:Hp
 env:Env
 mB:List Env
 stack:List Env
 ex:List Addr
 fn:Str->Bool
 calm:Bool
 pn:List (Addr×Obj)
 xe:Value->Shared->Prop
def oF(l:lQ Env):lQ lS:=l.filterMap (·.frame)
abbrev Cx.fs(X:Cx):lQ lS:=oF X.mB
def Cq(z:Scope)(x:lR):Prop:=z.names.lookup x=some .local\/z.names.lookup x=some .cell\/z.names.lookup x=some .free
def vo(z:Scope)(x:lR):Prop:=z.names.lookup x=some .local\/z.names.lookup x=some .cell
def Yj2(env:Env)(h:lY)(m:lR->lV lT)(x:lR)(u:lT):Prop :=
 (env.kindOf x=some .local/\m x=some u)\/((env.kindOf x=some .cell\/env.kindOf x=some .free)/\∃c,env.cells.lookup x=some c/\h.IsCell c (some u))
structure Cx.Ok(X:Cx):Prop where
 mod:Mod X.K X.mg X.mD
 kind:X.env.scope.kind=.function
 glob:X.env.globals=mainGlobals
 blt:X.env.builtins=builtinsNs
 above:X.mh.heap.objs.size<=X.env.locals
 inj:∀x y c,X.env.cells.lookup x=some c->X.env.cells.lookup y=some c->x=y
 has:∀x,(X.env.kindOf x=some .cell\/X.env.kindOf x=some .free)->∃c,X.env.cells.lookup x=some c
 cab:∀x c,X.fn x=true->X.env.cells.lookup x=some c->X.mh.heap.objs.size<=c
 hd:X.calm=true->X.A.handled=none
 frames:X.A.frames=some X.stack
 stk:X.stack=X.mB\/(X.stack=X.env ::X.mB/\X.env.frame=some X.env.locals)
 exf:∀b∈X.ex,b≠X.env.locals/\∀x c,X.env.cells.lookup x=some c->c≠b
 bs:∀b o,X.mD.get? b=some o->X.mh.heap.get? b=some o/\X.mj b=none
 bsz:X.mD.objs.size<=X.mh.heap.objs.size
 noex:∀b o,X.mD.get? b=some o->b∉X.ex
 exfs:∀b∈X.ex,b∉X.fs
 funs:X.mh.heap.FunFrames X.mD X.mB
 frf:∀b∈X.fs,X.mj b=none
structure mI(X:Cx)(c7:List (Addr×Obj))(σ:List (Option V))(H:Hp)(s:Shared):Prop where
 ok:X.Ok
 os:s.os=X.mh.os
 bare:AllBare s.gens
 mD:Un X.fs X.ex X.mj H X.mh.heap s.heap
 loc:∃m,s.heap.Ns X.env.locals m/\∀(i:Nat)(x:Str)(v:V),X.N[i]? =some x->σ[i]? =some (some v)->Cq X.env.scope x->∃u,Yd v u/\Yj2 X.env s.heap m x u
 cell:∀x c,X.env.cells.lookup x=some c->∃v,s.heap.IsCell c v
 free:H X.env.locals=none
 freeC:∀x c,X.env.cells.lookup x=some c->H c=none
 pin:∀p∈X.pn++c7,s.heap.get? p.1=some p.2/\H p.1=none/\p.1≠X.env.locals/\p.1∉X.fs/\∀v,p.2.data≠.cell v
 hok:oq X.prog X.w H s.heap
 len:σ.length=X.N.length
variable {X:Cx}
def Cx.Ok.nofr(ok:X.Ok)(e:X.mD.get? b=some o):b∉X.fs:=λz=>by
 have:=(ok.funs.mem z).1;rw[e]at this;cases this
def mI.bs(I:mI X y z H s):∀b o,X.mD.get? b=some o->s.heap.get? b=some o/\H b=none:=λb o e =>
 #[I.mD.keep b o (I.ok.bs b o e).1 (I.ok.bs b o e).2 (I.ok.nofr e) (I.ok.noex b o e),I.mD.free b o (I.ok.bs b o e).1 (I.ok.bs b o e).2 (I.ok.noex b o e)]
def mI.bk(I:mI X y z H s):∀b o,X.mD.get? b=some o->s.heap.get? b=some o:=λb o e=>(I.bs b o e).1
def mI.mod(I:mI X y z H s):Mod X.K X.mg X.mD:=I.ok.mod
def mI.kIn(I:mI X y z H s):X.K.In s.heap:=I.ok.mod.kin.keeps I.bk
def mI.fr(I:mI X x z H s):∃m,Fr X.mD X.env.locals s.heap m :=
 let⟨m,y,_⟩:=I.loc
 #[m,y,I.bk,ow I.ok.bsz I.ok.above]
def mI.lt(I:mI X x z H s):X.env.locals<#v[s]:=let⟨_,y,_⟩:=I.loc;y.lt
def mI.sz(I:mI X y z H s):X.mh.heap.objs.size<=#v[s]:=ow I.ok.above<|pA I.lt
def mI.nofs(I:mI X w z H s)(h:#v[s]<=a):a∉X.fs:=λy=>by
 obtain⟨_,o,x,_⟩:=I.ok.funs.mem y;show absurd (pK (nO x)<|ow I.sz h)<|qL _
def mI.cne(I:mI X q z H s):∀x c,X.env.cells.lookup x=some c->c≠X.env.locals:=λx c e y=>by
 obtain⟨v,o,r,hd⟩:=I.cell x c e;obtain⟨m,⟨p,o,n,w,u,_⟩,_⟩:=I.loc;rw[y,w]at r;cases r;rw[u]at hd;cases hd
def mI.funs(I:mI X d z H s):s.heap.FunFrames X.mD X.mB:=by
 have all:∀(l:lQ Env),(∀b∈oF l,b∈X.fs)->X.mh.heap.FunFrames X.mD l->s.heap.FunFrames X.mD l:=by
  intro l
  induction l with
  | nil=>intro _ _;trivial
  | cons env r p =>
   intro q n;obtain⟨j,⟨L,o,x,i,h,hd⟩,g⟩:=n;have w:L∈X.fs:=q L (by unfold oF;rw[EC,x];show ph);obtain⟨c,e⟩:=I.mD.slot L o h (I.ok.frf L w) w λy=>I.ok.exfs L y w
   show#[j,#[L,_,x,i,e,hd],p (λb u=>q b (by unfold oF;rw[EC,x];show pG _ u)) g]
 show all X.mB (λ_ u=>u) I.ok.funs
def mI.stack(I:mI X w z H s):s.heap.FunFrames X.mD X.stack:=by
 rcases I.ok.stk with e|⟨e,y⟩
 ·rw[e];show I.funs
 ·rw[e];obtain⟨m,x,_⟩:=I.loc;refine .cons (by rw[I.ok.kind];decide) y x ?_ I.funs;show Bm<|ow I.ok.bsz I.ok.above
def mI.stkSub(I:mI X w z H s):∀b∈oF X.stack,b∈X.env.locals ::X.fs:=λb y=>by
 rcases I.ok.stk with e|⟨e,x⟩
 ·rw[e]at y;show pG _ y
 ·rw[e]at y;unfold oF at y;rw[EC,x]at y;show y
def mI.stkFree(I:mI X u z H s):∀b∈oF X.stack,H b=none:=λb x=>by
 rcases nU.mp (I.stkSub b x)with e|x
 ·rw[e];show I.free
 ·obtain⟨_,o,w,_⟩:=I.ok.funs.mem x;show I.mD.free b o w (I.ok.frf b x) λy=>I.ok.exfs b y x
def mI.step{g':Array GenState}{t':Nat}{d':Drawn}{ch:lQ lS}(I:mI X C z H s)
  (Q:∀b∈ch,(b∈X.ex\/X.mh.heap.objs.size<=b)/\b≠X.env.locals/\(∀x c,X.env.cells.lookup x=some c->c≠b)/\∀p∈X.pn++C,p.1≠b)
  (keep:∀b o,b≠X.env.locals->b∉X.fs->b∉ch->s.heap.get? b=some o->H b=none->h'.get? b=some o)
  (slot:∀b o,b≠X.env.locals->b∈X.fs->b∉ch->s.heap.get? b=some o->H b=none->∃E,h'.get? b=some {o with slots:=E}) (free:∀b o,b∉ch->s.heap.get? b=some o->H b=none->H' b=none)
  (there:∀b o,b∉ch->s.heap.get? b=some o->∃o',h'.get? b=some o')
  (N:∀b xs,H b=some (.tup xs)->H' b=some (.tup xs)) (M:∀b o u,H b=some (.frz o u)->H' b=some (.frz o u)) (L:∀b ps,H b=some (.tbl ps)->∃more,H' b=some (.tbl<|ps++more))
  (ns:∀m,s.heap.Ns X.env.locals m->h'.Ns X.env.locals m) (D:oq X.prog X.w H' h') (hg:AllBare g') :
  mI X C z H' {s with heap:=h',gens:=g',drawn:=d',toks:=t'}:=by
 have J:∀b o,X.mh.heap.get? b=some o->b≠X.env.locals:=λb o e=>oi<|pK (nO e) I.ok.above
 have g:∀b o,X.mh.heap.get? b=some o->b∉X.ex->b∉ch:=λb o e w Y=>by
  rcases(Q b Y).1 with y|y
  ·show w y
  ·show absurd (pK (nO e) y)<|qL _
 have j:∀x c,X.env.cells.lookup x=some c->∀v,s.heap.IsCell c v->h'.IsCell c v:=λx c e v ⟨o,U,hd⟩=>by
  have h:c∉ch:=λy=>(Q c y).2.2.1 x c e rfl
  by_cases B:c∈X.fs
  ·obtain⟨E,q⟩:=slot c o (I.cne x c e) B h U<|I.freeC x c e;show#[_,q,hd]
  ·show#[o,keep c o (I.cne x c e) B h U<|I.freeC x c e,hd]
 refine#[I.ok,I.os,hg,#[λb o e n Y w=>?_,λb o e n Y w=>?_,λb o e n w=>?_,λb o e w=>?_,λb xs e=>N b xs<|I.mD.tups b xs e,λb o xs e=>M b o xs<|I.mD.frzs b o xs e,λb ps e=>?_],?_,λx c e=>?_,?_,λx c e=>?_,λp A=>?_,D,I.len]
 ·show keep b o (J b o e) Y (g b o e w) (I.mD.keep b o e n Y w)<|I.mD.free b o e n w
 ·obtain⟨E,a⟩:=I.mD.slot b o e n Y w;obtain⟨r,G⟩:=slot b _ (J b o e) Y (g b o e w) a<|I.mD.free b o e n w;show#[r,G]
 ·obtain⟨o',a⟩:=I.mD.there b o e w;show free b o' (g b o e w) a<|I.mD.free b o e n w
 ·obtain⟨o',a⟩:=I.mD.there b o e w;show there b o' (g b o e w) a
 ·obtain⟨r,a⟩:=I.mD.tbls b ps e;obtain⟨q,G⟩:=L b _ a;show#[r++q,by rw[G,Array.append_assoc]]
 ·obtain⟨m,q,d⟩:=I.loc;refine#[m,ns m q,λi x v a G e3=>?_];obtain⟨u,r,l⟩:=d i x v a G e3;refine#[u,r,?_];rcases l with l|⟨k,c,e,y⟩
  ·show .inl l
  ·show .inr #[k,c,e,j x c e _ y]
 ·obtain⟨v,y⟩:=I.cell x c e;show#[v,j x c e v y]
 ·obtain⟨m,⟨o,_,_,U,_⟩,_⟩:=I.loc;show free _ o (λy=>(Q _ y).2.1 rfl) U I.free
 ·obtain⟨v,o,U,hd⟩:=I.cell x c e;show free c o (λy=>(Q c y).2.2.1 x c e rfl) U<|I.freeC x c e
 ·obtain⟨e,n,r,q,d⟩:=I.pin p A;have h:p.1∉ch:=λy=>(Q p.1 y).2.2.2 p A rfl
  show#[keep p.1 p.2 r q h e n,free p.1 p.2 h e n,r,q,d]
def mI.un{t':Nat}(I:mI X p z H s)(u:Un X.fs [] H H' s.heap h')(x:oq X.prog X.w H' h'):mI X p z H' {s with heap:=h',toks:=t'}:=by
 obtain⟨m,⟨o,y,j,q,r⟩,_⟩:=id I.loc;obtain⟨y,l⟩:=u.any q I.free (by simp);show I.step (g':=s.gens) (d':=s.drawn) (ch:=[]) (λ_ y=>nomatch y) (λb o _ w _ e n=>u.keep b o e n w<|by simp) (λb o _ w _ e n=>u.slot b o e n w<|by simp) (λb o _ e n=>u.free b o e n<|by simp) (λb o _ e=>u.there b o e<|by simp) u.tups u.frzs u.tbls (λg j=>by
  obtain⟨d,i,r,y,h⟩:=j;rw[q]at y;cases y;show#[_,i,r,l,h]) x I.bare
def mI.call{g':Array GenState}{t':Nat}{d':Drawn}{ch:lQ lS}(I:mI X i z H s)(u:Un (oF X.stack) ch H H' s.heap h')(q:oq X.prog X.w H' h')(d:AllBare g')
  (h:∀b∈ch,(b∈X.ex\/X.mh.heap.objs.size<=b)/\b≠X.env.locals/\(∀x c,X.env.cells.lookup x=some c->c≠b)/\∀p∈X.pn++i,p.1≠b) :
  mI X i z H' {s with heap:=h',gens:=g',drawn:=d',toks:=t'}:=by
 obtain⟨m,⟨o,j,a,g,r⟩,_⟩:=id I.loc;obtain⟨r,l⟩:=u.any g I.free λy=>(h _ y).2.1 rfl
 show I.step (ch:=ch) h (λb o l r w e n=>u.keep b o e n (λy=>(nU.mp<|I.stkSub b y).elim l r) w) (λb o _ _ w e n=>u.any e n w) (λb o w e n=>u.free b o e n w) (λb o w e=>u.there b o e w) u.tups u.frzs u.tbls (λQ a=>by
  obtain⟨N,Y,j,r,U⟩:=a;rw[g]at r;cases r;show#[_,Y,j,l,U]) q d
def mI.turned{t':Nat}{it:lS}(I:mI X j z H s)(k:∀b o,b≠it->s.heap.get? b=some o->h'.get? b=some o)(h:H it=none)(i:it≠X.env.locals)
  (g:it∈X.ex\/X.mh.heap.objs.size<=it) (d:∀x c,X.env.cells.lookup x=some c->c≠it) (a:∀p∈X.pn++j,p.1≠it):mI X j z H {s with heap:=h',toks:=t'}:=by
 have l:∀b u,H b=some u->b≠it:=λb u e y=>by rw[y,h]at e;cases e
 refine I.step (g':=s.gens) (d':=s.drawn) (ch:=[it]) (λb Y=>?_) (λb o _ _ w e _=>k b o (λy=>w<|by simp[y]) e) (λb o _ _ w e _=>#[o.slots,k b o (λy=>w<|by simp[y]) e]) (λ_ _ _ _ n=>n)
  (λb o w e=>#[o,k b o (λy=>w<|by simp[y]) e]) (λ_ _ e=>e) (λ_ _ _ e=>e) (λb r e=>#[#[],by rw[e];simp]) (λm U=>?_) (λb u e=>?_) I.bare
 ·have e:b=it:=by simpa using Y
  subst e;show#[g,i,d,a]
 ·obtain⟨o,q,n,Q,r⟩:=U;show#[o,q,n,k _ o (oM i) Q,r]
 ·refine(I.hok b u e).stay (λc v w q=>k c v ?_ q) (λ_ q=>q) λ_ _ q=>q
  rcases w with y|y
  ·rw[y];show l b u e
  ·show l c _ y
def mI.tok(I:mI X y z H s)(t:Nat):mI X y z H {s with toks:=t}:=I.un (h':=s.heap) (t':=t) Un.refl I.hok
def mI.kept(I:mI X y z H s)(k:∀b u,s.heap.get? b=some u->h'.get? b=some u):mI X y z H {s with heap:=h',toks:=t'}:=I.un (Un.kept k)<|I.hok.kept k
def mI.laid(I:mI X x z H s)(k:∀b u,s.heap.get? b=some u->h'.get? b=some u)(y:#v[s]<=a)(new:Z8 X.prog X.w (mJ H a o) h' a o) :
  mI X x z (mJ H a o) {s with heap:=h',toks:=t'}:=I.un (Un.laid k y<|I.hok.fresh y)<|I.hok.laid k y new
def mI.write(I:mI X r z H s)(w:Bg (H x))(he:e=x\/H e=some (.own x))(k:∀b u,b≠e->s.heap.get? b=some u->h'.get? b=some u)(y:∃u,h'.get? e=some u)
  (new:Z8 X.prog X.w (mJ H x o) h' x o):mI X r z (mJ H x o) {s with heap:=h',toks:=t'}:=I.un (Un.write w he k y)<|I.hok.write w he k y new
def mI.weak(I:mI X r z H s)(q:y.length=z.length)(w:∀(i:Nat) v,y[i]? =some (some v)->z[i]? =some (some v)):mI X r y H s :=
 #[I.ok,I.os,I.bare,I.mD,let⟨m,p,u⟩:=I.loc;#[m,p,λi x v o n l=>u i x v o (w i v n) l],I.cell,I.free,I.freeC,I.pin,I.hok,q.trans I.len]
def mI.pins_of(I:mI X u z H s)(h:∀p∈x,s.heap.get? p.1=some p.2/\H p.1=none/\p.1≠X.env.locals/\p.1∉X.fs/\∀v,p.2.data≠.cell v):mI X x z H s :=
 #[I.ok,I.os,I.bare,I.mD,I.loc,I.cell,I.free,I.freeC,λp w=>(oj.mp w).elim (λy=>I.pin p<|xc _ y) (h p),I.hok,I.len]
def Jn{N:lQ lR}(z:N.Nodup){i j:Nat}{x:lR}(a:N[i]? =some x)(b:N[j]? =some x):i=j:=by
 obtain⟨u,y⟩:=oo.mp a;obtain⟨u,w⟩:=oo.mp b;show(List.getElem_inj z).mp (y.trans w.symm)
def XB{M:Model}{A:me}{E:lT->lU->Prop}{i:Nat}{x:lR}{v:V}{u:lT}{Q:Unit->lU->Prop}(I:mI X c7 z H s)(hN:X.N.Nodup)(B:X.N[i]? =some x)(U:vo X.env.scope x)(r:Yd v u)
  (h:∀s',mI X c7 (z.set i<|some v) H s'->(∃a,Heap.SameBut a s.heap s'.heap/\(a=X.env.locals\/X.env.cells.lookup x=some a))->Q () s') (hf:X.fn x=true\/X.env.scope.names.lookup x=some .local:=by and_intros):wpAny M A (storeName X.env x u) Q E s:=by
 obtain⟨m,hn,hl⟩:=id I.loc;have hcls:(X.env.scope.kind ==.class || (X.env.scope.kind ==.module && X.env.locals !=X.env.globals))=false:=by rw[I.ok.kind];rfl
 have L:i<z.length:=by rw[I.len];show(oo.mp B).1
 have cne:=I.cne;have S5:∀{a:lS}{C:lY},(∃o,s.heap.get? a=some o/\H a=none)->Heap.SameBut a s.heap C->oq X.prog X.w H C:=λ{a C} ha l b ob e=>by
  obtain⟨_,_,B4⟩:=ha;refine(I.hok b ob e).stay (λc w' Y q=>(l.2 c ?_).trans q) (λ_ q=>q) λ_ _ q=>q
  rintro rfl;rcases Y with rfl|Y
  ·rw[B4]at e;cases e
  ·rw[B4]at Y;cases Y
 rcases U with J|J
 ·refine wpAny_storeName_local J hn (λC hn' l=>?_) hcls;obtain⟨oL,_,_,hoL,_⟩:=id hn;refine h _ #[I.ok,I.os,I.bare,#[λb o e n G U=>?_,λb o e n G U=>?_,I.mD.free,λb o e U=>?_,I.mD.tups,I.mD.frzs,I.mD.tbls],#[_,hn',λj y v' g N e3=>?_],λy c e=>?_,I.free,I.freeC,λp hp=>?_,S5 #[oL,hoL,I.free] l,by simpa using I.len] #[_,l,.inl rfl]
  ·show(l.2 b<|oi<|pK (nO e) I.ok.above).trans (I.mD.keep b o e n G U)
  ·obtain⟨sl,g⟩:=I.mD.slot b o e n G U;show#[sl,(l.2 b<|oi<|pK (nO e) I.ok.above).trans g]
  ·obtain⟨o',g⟩:=I.mD.there b o e U;show#[o',(l.2 b<|oi<|pK (nO e) I.ok.above).trans g]
  ·by_cases D:j=i
   ·subst D;rw[B]at g;cases g;rw[Hq L]at N;cases N;show#[u,r,.inl #[J,by simp]]
   ·rw[Ib (oM D)]at N;obtain⟨u',r',q⟩:=hl j y v' g N e3;refine#[u',r',?_];rcases q with⟨k,e⟩|⟨k,c,e,w⟩
    ·refine .inl #[k,?_];have:y≠x:=λe=>D<|Jn hN g<|e ▸ B
     simp[this,e]
    ·show .inr #[k,c,e,w.sameBut l<|cne y c e]
  ·obtain⟨w',w⟩:=I.cell y c e;show#[w',w.sameBut l<|cne y c e]
  ·obtain⟨e,n,ne,nf,d⟩:=I.pin p hp;show#[(l.2 p.1 ne).trans e,n,ne,nf,d]
 ·have M9:X.fn x=true:=by
   rcases hf with w|w
   ·show w
   ·rw[w]at J;cases J
  obtain⟨c,Y⟩:=I.ok.has x<|.inl J;obtain⟨w',w⟩:=I.cell x c Y;refine wpAny_storeName_cell I.ok.kind J Y w λC Q3 l=>?_;obtain⟨oc,hoc,hocd⟩:=id w;refine h {s with heap:=C} #[I.ok,I.os,I.bare,#[λb o e n G U=>?_,λb o e n G U=>?_,I.mD.free,λb o e U=>?_,I.mD.tups,I.mD.frzs,I.mD.tbls],#[m,hn.sameBut l<|oM<|cne x c Y,λj y v' g N e3=>?_],λy c' e=>?_,I.free,I.freeC,λp hp=>?_,S5 #[oc,hoc,I.freeC x c Y] l,by simpa using I.len] #[c,l,.inr Y]
  ·show(l.2 b<|oi<|pK (nO e)<|I.ok.cab x c M9 Y).trans (I.mD.keep b o e n G U)
  ·obtain⟨sl,g⟩:=I.mD.slot b o e n G U;show#[sl,(l.2 b<|oi<|pK (nO e)<|I.ok.cab x c M9 Y).trans g]
  ·obtain⟨o',g⟩:=I.mD.there b o e U;show#[o',(l.2 b<|oi<|pK (nO e)<|I.ok.cab x c M9 Y).trans g]
  ·by_cases D:j=i
   ·subst D;rw[B]at g;cases g;rw[Hq L]at N;cases N;show#[u,r,.inr #[.inl J,c,Y,Q3]]
   ·rw[Ib (oM D)]at N;obtain⟨u',r',q⟩:=hl j y v' g N e3;refine#[u',r',?_];rcases q with q|⟨k,c',e,z'⟩
    ·show .inl q
    ·refine .inr #[k,c',e,z'.sameBut l ?_];rintro rfl;show D<|Jn hN g<|I.ok.inj _ _ _ e Y ▸ B
  ·by_cases hcc:c'=c
   ·subst hcc;show#[_,Q3]
   ·obtain⟨w2,z2⟩:=I.cell y c' e;show#[w2,z2.sameBut l hcc]
  ·obtain⟨e,n,ne,nf,d⟩:=I.pin p hp;refine#[(l.2 p.1 ?_).trans e,n,ne,nf,d];intro q;rw[q,hoc]at e;have q':oc=p.2:=oK e;show d w' (by rw[<-q'];show hocd)
def Gu{E:lT->lU->Prop}{Q:Unit->lU->Prop}(I:mI X y z H s)(w:X.N.Nodup)(q:X.N[i]? =some x)(p:vo X.env.scope x)(r:Yd v u)
  (h:∀s',mI X y (z.set i<|some v) H s'->Q () s') (o:X.fn x=true\/X.env.scope.names.lookup x=some .local:=by and_intros):wpAny M A (storeName X.env x u) Q E s :=
 XB I w q p r (λs' n _=>h s' n) o
def mI.call'(I:mI X w z H s)(r:s'.os=s.os)(u:Un (oF X.stack) ch H H' s.heap s'.heap)(y:oq X.prog X.w H' s'.heap)(q:AllBare s'.gens)
  (o:∀b∈ch,(b∈X.ex\/X.mh.heap.objs.size<=b)/\b≠X.env.locals/\(∀x c,X.env.cells.lookup x=some c->c≠b)/\∀p∈X.pn++w,p.1≠b):mI X w z H' s':=by
 obtain⟨h,n,l,j,i⟩:=s';have e:i=s.os:=r;subst e;show I.call (g':=n) (t':=j) (d':=l) u y q o
abbrev XK:=lT->lV lS->Hp->Prop
abbrev St:=lQ<|lV V
abbrev VK:=V->Hp->Prop
abbrev TE:=St->Hp->VK->Prop
abbrev TT:=St->Hp->(Bool->Hp->Prop)->Prop
abbrev TA:=St->Hp->(lQ V->Hp->Prop)->Prop
structure pT where
 nx:St->Hp->Prop
 rt:VK
 bk:St->Hp->Prop:=λ_ _=>False
 ct:St->Hp->Prop:=λ_ _=>False
abbrev TS:=pT->St->Hp->Prop
def EP(X:Cx)(x:lQ (lS×Obj))(z:St)(Q:VK)(u:lT)(s':lU):Prop:=∃v y,mI X x z y s'/\Yd v u/\Q v y
def TP(X:Cx)(x:lQ (lS×Obj))(z:St)(Q:Bool->Hp->Prop)(b:Bool)(s':lU):Prop:=∃y,mI X x z y s'/\Q b y
def AP(X:Cx)(w:lQ (lS×Obj))(z:St)(Q:lQ V->Hp->Prop)(us:lQ lT)(s':lU):Prop:=∃y x,mI X w z x s'/\Z7 y us/\Q y x
def SP(X:Cx)(x:lQ (lS×Obj))(D:pT)(f:Flow)(s':lU):Prop :=
 match f with
 | .next=>∃z y,mI X x z y s'/\D.nx z y
 | .brk=>∃z y,mI X x z y s'/\D.bk z y
 | .cont=>∃z y,mI X x z y s'/\D.ct z y
 | .ret u=>∃v z y,mI X x z y s'/\Yd v u/\D.rt v y
def PE(X:Cx)(e:ma)(t:TE):Prop :=
 ∀(y:lQ (lS×Obj)) (s:lU) (z:St) (H:Hp) (Q:VK),mI X y z H s->t z H Q->∅ (eval e X.env) (EP X y z Q) X.xe s
def PT(X:Cx)(e:ma)(t:TT):Prop :=
 ∀(y:lQ (lS×Obj)) (s:lU) (z:St) (H:Hp) (Q:Bool->Hp->Prop),mI X y z H s->t z H Q->∅ (isTrue e X.env<|eval e X.env) (TP X y z Q) X.xe s
def PW(X:Cx)(e:ma)(t:TT):Prop :=
 ∀(x:Sem lT)(y:lQ (lS×Obj)) (s:lU) (z:St) (H:Hp) (Q:Bool->Hp->Prop),mI X y z H s->t z H Q->∅ (isTrue e X.env x) (TP X y z Q) X.xe s
def PW.pt(h:PW X e t):PT X e t:=h _
def PA(X:Cx)(w:lQ ma)(t:TA):Prop :=
 ∀(y:Pos)(x:lQ (lS×Obj)) (s:lU) (z:St) (H:Hp) (Q:lQ V->Hp->Prop),mI X x z H s->t z H Q->∅ (spliced<|backTo y<|starEach w X.env) (AP X x z Q) X.xe s
def PS(X:Cx)(st:lX)(t:TS):Prop :=
 ∀(y:lQ (lS×Obj)) (s:lU) (z:St) (H:Hp) (D:pT),mI X y z H s->t D z H->∅ (exec st X.env) (SP X y D) X.xe s
def qM(X:Cx)(st:lQ lX)(t:TS):Prop :=
 ∀(y:lQ (lS×Obj)) (s:lU) (z:St) (H:Hp) (D:pT),mI X y z H s->t D z H->∅ (execs st X.env) (SP X y D) X.xe s
def mZ{z:Type}{t:Sem z}{Q y:z->lU->Prop}{E:lT->lU->Prop}(h:wpAny M A t Q E s)(w:∀a s,Q a s->y a s):wpAny M A t y E s:=pX h w λ_ _ x=>x
section
variable {X:Cx}
def ER(n:PE X a l)(j:PE X b i){R:V->V->Hp->Prop}(I:mI X p z H s)(h:l z H λx o=>i z o λw r=>R x w r)
  {y:Type} {Q:y->lU->Prop} {f:lT->lT->Sem y}
  (g:∀v u q x w r,mI X p z r q->Yd x v->Yd w u->R x w r->∅ (f v u) Q X.xe q) :
  ∅ (eval a X.env) (λv e=>∅ (eval b X.env) (λu d=>∅ (f v u) Q X.xe d) X.xe e) X.xe s:=by
 refine mZ (n p s z H _ I h) λv c ⟨x,o,Y,U,N⟩=>?_
 refine mZ (j p c z o _ Y N) λu q ⟨w,r,M,L,J⟩=>?_
 show g v u q x w r M U L J
def oB:V->(Bool->Prop)->Prop
 | .bl c,k=>k c
 | _,_=>False
def oB.out{x:V}{k:Bool->Prop}(h:oB x k):∃c,x=.bl c/\k c:=by cases x<;>first|show#[_,rfl,h]|show False.elim h
def oB.of{x:V}{c:Bool}{k:Bool->Prop}(e:x=.bl c)(h:k c):oB x k:=by subst e;show h
def oB.t{b:Bool}{k:Bool->Prop}(e:b=true)(h:k true):oB (.bl b) k:=by subst e;show h
def oB.f{b:Bool}{k:Bool->Prop}(e:b=false)(h:k false):oB (.bl b) k:=by subst e;show h
def oI:V->(Int->Prop)->Prop
 | .int i,k=>k i
 | _,_=>False
def oI.out{x:V}{k:Int->Prop}(h:oI x k):∃i,x=.int i/\k i:=by cases x<;>first|show#[_,rfl,h]|show False.elim h
def oC:lQ V->(V->lQ V->Prop)->Prop
 | v ::r,k=>k v r
 | [],_=>False
theorem oC.out:∀{l:lQ V}{k:V->lQ V->Prop},oC l k->∃v r,l=v ::r/\k v r
 | _ ::_,_,h=>#[_,_,rfl,h]
def oV:lV (lV V)->(V->Prop)->Prop
 | some (some v),k=>k v
 | _,_=>False
def oV.of{o:lV (lV V)}{k:V->Prop}{v:V}(e:o=some (some v))(h:k v):oV o k:=by subst e;show h
theorem oV.out:∀{o:lV (lV V)}{k:V->Prop},oV o k->∃v,o=some (some v)/\k v
 | some (some _),_,h=>#[_,rfl,h]
 | some none,_,h=>nomatch h
 | none,_,h=>nomatch h
def rB(i:Nat):TE:=λz H Q=>oV z[i]? λv=>Q v H
def tC(v:V):TE:=λ_ H Q=>Q v H
def ZE(p:X.N[i]? =some x)(o:Cq X.env.scope x)(hd:(x ==("__debug__":lR))=false:=by lk)(n:(x ==("__classdict__":lR))=false:=by lk):PE X (.Name x pos) (rB i):=by
 intro j s z H Q I h;obtain⟨v,e,h⟩:=oV.out h;obtain⟨m,g,d⟩:=I.loc;obtain⟨u,r,l⟩:=d i x v p e o;have fin:EP X j z Q u s:=#[v,H,I,r,h]
 rcases l with⟨w,a⟩|⟨w,c,q,y⟩
 ·show wpAny_Name (wpAny_loadName_local I.ok.kind w g a fin) hd
 ·rcases w with w|w
  ·show wpAny_Name (wpAny_loadName_cell I.ok.kind w q y fin) hd
  ·show wpAny_Name (wpAny_loadName_free I.ok.kind w q y fin n) hd
def Zf{i j pos}:PE X (.Constant (.int i) j pos) (tC<|.int i):=λ_ _ _ H _ I h=>wpAny_Constant_int #[.int i,H,I.tok _,#[_,rfl],h]
def qR{b j pos}:PE X (.Constant (.bool b) j pos) (tC<|.bl b):=λ_ _ _ H _ I h=>Constant_bool #[.bl b,H,I,rfl,h]
def tD{j pos}:PE X (.Constant .none j pos) (tC .non):=λ_ _ _ H _ I h=>Constant_none #[.non,H,I,rfl,h]
def Zg{x j pos}:PE X (.Constant (.str x) j pos) (tC<|.str x):=λ_ _ _ H _ I h=>Calls.Constant_str #[.str x,H,I.tok _,#[_,rfl],h]
def Gl(X:Cx)(x:lR):Prop:=X.env.kindOf x=some .globalImplicit
def xj{E:lT->lU->Prop}{Q:lT->lU->Prop}(I:mI X r z H s)(y:Gl X x)(w:X.mg x=some u)(h:Q u s)
  (hd:(x ==("__debug__":lR))=false:=by lk):∅ (eval (.Name x pos) X.env) Q E s :=
 LH I.ok.kind y (Calls.loadGlobal_global (by rw[I.ok.glob];show I.mod.glob.keeps I.bk) w h) hd
def xy{E:lT->lU->Prop}{Q:lT->lU->Prop}(I:mI X n z H s)(y:Gl X x)(w:X.mg x=none)(r:bootBuiltins x=some u)(h:Q u s)
  (q:x≠ "__name__":=by lk) (hd:(x ==("__debug__":lR))=false:=by lk):∅ (eval (.Name x pos) X.env) Q E s:=by
 obtain⟨l,p,o⟩:=I.mod.blt;show LH I.ok.kind y (Calls.loadGlobal_builtin (by rw[I.ok.glob];show I.mod.glob.keeps I.bk) w (by rw[I.ok.blt];show p.keeps I.bk) ((o x q).trans r) h) hd
def X7(z:Gl X x)(y:X.mg x=some u)(r:Yd v u)(hd:(x ==("__debug__":lR))=false:=by lk):PE X (.Name x pos) (tC v) :=
 λ_ _ _ H _ I h=>xj I z y #[v,H,I,r,h] hd
def Mm(z:Gl X x)(y:X.mg x=none)(w:bootBuiltins x=some u)(r:Yd v u)(s:x≠ "__name__":=by lk)(hd:(x ==("__debug__":lR))=false:=by lk):PE X (.Name x pos) (tC v) :=
 λ_ _ _ H _ I h=>xy I z y w #[v,H,I,r,h] s hd
variable {a b:ma} {ta tb:TE} {pos:Pos}
def tB(t:TE):TT:=λz H Q=>t z H λx y=>oB x λc=>Q c y
def Ym(h:PE X e t)(he:∀y,isTrue e X.env y=(do let v <-y;standAt e.pos;holding [v] (truthy v)):=by intro _;rfl):PT X e (tB t):=by
 intro w s z H Q I u;refine isTrue_plain (mZ (h w s z H _ I u) λv l ⟨x,r,p,o,n⟩=>?_)<|he _;obtain⟨d,rfl,q⟩:=oB.out n;cases o;show tX #[r,p,q]
variable {tA tB':TT} {Zs:lQ ma}
def Sh(t u:TT):TT:=λz H Q=>t z H λc y=>if c=true then u z y Q else Q false y
def YO(t u:TT):TT:=λz H Q=>t z H λc y=>if c=true then Q true y else u z y Q
def SH(t:TT):TT:=λz H Q=>t z H λc y=>Q (!c) y
def yU(y:PT X a tA):PW X (.BoolOp .And [a] pos) tA:=by
 intro w x s z H Q I h;refine isTrue_and<|mZ (y x s z H Q I h) λc u e=>?_;cases c with
 | true=>show isTrue_and_nil e
 | false=>show e
def sv(y:PT X a tA):PW X (.BoolOp .Or [a] pos) tA:=by
 intro w x s z H Q I h;refine isTrue_or<|mZ (y x s z H Q I h) λc u e=>?_;cases c with
 | false=>show isTrue_or_nil e
 | true=>show e
def wY(r:PT X a tA)(q:PW X (.BoolOp .And (b ::Zs) pos) tB'):PW X (.BoolOp .And (a ::b ::Zs) pos) (Sh tA tB'):=by
 intro p y s z H Q I h;refine isTrue_and<|mZ (r y s z H _ I h) λc o ⟨x,w,u⟩=>?_;cases c with
 | true=>show q p y o z x Q w u
 | false=>show#[x,w,u]
def qr(r:PT X a tA)(q:PW X (.BoolOp .Or (b ::Zs) pos) tB'):PW X (.BoolOp .Or (a ::b ::Zs) pos) (YO tA tB'):=by
 intro p y s z H Q I h;refine isTrue_or<|mZ (r y s z H _ I h) λc o ⟨x,w,u⟩=>?_;cases c with
 | true=>show#[x,w,u]
 | false=>show q p y o z x Q w u
def Xc(y:PT X a tA):PT X (.UnaryOp .Not a pos) (SH tA):=by
 intro x s z H Q I h;show isTrue_not<|y x s z H (λc w=>Q (!c) w) I h
def UV(ta tb:TE):TE:=λz H Q=>ta z H λx y=>oB x λc=>if c=true then tb z y Q else Q (.bl false) y
def VF(ta tb:TE):TE:=λz H Q=>ta z H λx y=>oB x λc=>if c=true then Q (.bl true) y else tb z y Q
def xZ{op}(h:PE X a t):PE X (.BoolOp op [a] pos) t:=λy s z H Q I x=>BoolOp_one<|h y s z H Q I x
def xq(q:PE X a ta)(p:PE X (.BoolOp .And (b ::Zs) pos) tb):PE X (.BoolOp .And (a ::b ::Zs) pos) (UV ta tb):=by
 intro w s z H Q I h;refine BoolOp_and<|mZ (q w s z H _ I h) λv o ⟨x,u,r,n,y⟩=>?_;obtain⟨c,rfl,y⟩:=oB.out y;cases n;refine tX ?_;cases c with
 | true=>show p w o z u Q r y
 | false=>show#[.bl false,u,r,rfl,y]
def TM(q:PE X a ta)(p:PE X (.BoolOp .Or (b ::Zs) pos) tb):PE X (.BoolOp .Or (a ::b ::Zs) pos) (VF ta tb):=by
 intro w s z H Q I h;refine BoolOp_or<|mZ (q w s z H _ I h) λv o ⟨x,u,r,n,y⟩=>?_;obtain⟨c,rfl,y⟩:=oB.out y;cases n;refine tX ?_;cases c with
 | false=>show p w o z u Q r y
 | true=>show#[.bl true,u,r,rfl,y]
def tIf(t:TT)(ta tb:TE):TE:=λz H Q=>t z H λc y=>if c=true then ta z y Q else tb z y Q
def W7(q:PT X c tA)(p:PE X a ta)(o:PE X b tb):PE X (.IfExp c a b pos) (tIf tA ta tb):=by
 intro y s z H Q I h;refine wpAny_IfExp<|mZ (q y s z H _ I h) λd x ⟨w,u,r⟩=>?_;cases d with
 | true=>show p y x z w Q u r
 | false=>show o y x z w Q u r
end
def SqL(K:lW)(H:Hp)(a:lS)(xs:lQ V):Prop :=
 Rd H a (.lst xs)\/
  ∃(o:Obj)(z:Array lT)(n:Nat),K.lookup a=some o/\o.cls=.type "list"/\o.dict=none/\o.data=.seq z n/\z.size<=sizeLine/\Z7 xs z.toList
def SqT(K:lW)(H:Hp)(a:lS)(xs:lQ V):Prop :=
 Rd H a (.tup xs)\/
  ∃(o:Obj)(z:Array lT)(n:Nat),K.lookup a=some o/\o.cls=.type "tuple"/\o.data=.seq z n/\z.size<=sizeLine/\Z7 xs z.toList
def Yjn:lT->lV V
 | .none=>some .non
 | .bool b=>some (.bl b)
 | .int i _=>some (.int i)
 | .str x _=>some (.str x)
 | .bytes b _=>some (.byt b)
 | .float b _=>some (.flt b)
 | .ref a=>some (.ref a)
 | .type n=>some (.ty n)
 | _=>none
def Yd.abs(r:Yd x u):Yjn u=some x:=by
 cases x with
 | non=>cases r;rfl
 | bl _=>cases r;rfl
 | int _=>obtain⟨t,rfl⟩:=r;rfl
 | str _=>obtain⟨t,rfl⟩:=r;rfl
 | byt _=>obtain⟨t,rfl⟩:=r;rfl
 | flt _=>obtain⟨t,rfl⟩:=r;rfl
 | ref _=>cases r;rfl
 | ty _=>cases r;rfl
def Yd.inj(r:Yd x u)(q:Yd y u):x=y:=oK<|r.abs.symm.trans q.abs
def Z7.inj{xs z:lQ V}{us:lQ lT}(h:Z7 xs us)(h':Z7 z us):xs=z:=by
 induction h generalizing z with
 | nil=>cases h';rfl
 | cons r t y=>cases h' with
  | cons x w=>rw[r.inj x,y w]
def SqL.of{K:lW}(h:H a=some (.lst xs)):SqL K H a xs:=.inl<|.inl h
def SqT.of{K:lW}(h:H a=some (.tup xs)):SqT K H a xs:=.inl<|.inl h
def mI.list(I:mI X p z H s)(h:SqL X.K H a xs):∃x:lQ lT,Z7 xs x/\PlainL s.heap a x.toArray/\xs.length<=sizeLine:=by
 rcases h with h|⟨o,x,n,w,u,hd,q,y,r⟩
 ·obtain⟨y,x,n,r,e⟩:=h.ok I.hok;show#[x,r,#[_,n,e,rfl,rfl,rfl],y]
 ·refine#[x.toList,r,#[o,n,I.kIn a o w,u,hd,by simpa using q],?_];have e:=r.length;simp only[tV]at e;lia
def mI.tuple(I:mI X l z H s)(h:SqT X.K H a xs):∃x:lQ lT,Z7 xs x/\IsTup s.heap a x.toArray/\xs.length<=sizeLine:=by
 rcases h with h|⟨o,x,n,w,u,q,y,r⟩
 ·obtain⟨y,x,r,p⟩:=h.ok I.hok;show#[x,r,p,y]
 ·refine#[x.toList,r,#[o,I.kIn a o w,u,n,by simpa using q],?_];have e:=r.length;simp only[tV]at e;lia
def mI.list_inj(I:mI X j z H s)(h:SqL X.K H a xs)(h':SqL X.K H a u):xs=u:=by
 obtain⟨q,r,⟨o,n,e,_,_,d⟩,_⟩:=I.list h;obtain⟨y,p,⟨o,n,x,_,_,w⟩,_⟩:=I.list h';rw[e]at x;cases x;rw[d]at w
 injection w with l _
 have:q=y:=by simpa using oE Array.toList l
 subst this;show r.inj p
def mI.tuple_inj(I:mI X j z H s)(h:SqT X.K H a xs)(h':SqT X.K H a u):xs=u:=by
 obtain⟨q,r,⟨o,e,_,n,d⟩,_⟩:=I.tuple h;obtain⟨y,p,⟨o,x,_,n,w⟩,_⟩:=I.tuple h';rw[e]at x;cases x;rw[d]at w
 injection w with l _
 have:q=y:=by simpa using oE Array.toList l
 subst this;show r.inj p
abbrev Cx.wish(X:Cx)(E:lT->lU->Prop):Cx:={X with xe:=E}
abbrev Cx.nox(X:Cx):Cx:=X.wish λ_ _=>False
def Cx.Ok.wish{X:Cx}(ok:X.Ok)(E:lT->lU->Prop):(X.wish E).Ok :=
 #[ok.mod,ok.kind,ok.glob,ok.blt,ok.above,ok.inj,ok.has,ok.cab,ok.hd,ok.frames,ok.stk,ok.exf,ok.bs,ok.bsz,ok.noex,ok.exfs,ok.funs,ok.frf]
def Cx.Ok.unwish{X:Cx}{E:lT->lU->Prop}(ok:(X.wish E).Ok):X.Ok :=
 #[ok.mod,ok.kind,ok.glob,ok.blt,ok.above,ok.inj,ok.has,ok.cab,ok.hd,ok.frames,ok.stk,ok.exf,ok.bs,ok.bsz,ok.noex,ok.exfs,ok.funs,ok.frf]
section
variable {E:lT->lU->Prop}
def mI.wish(I:mI X y z H s)(E:lT->lU->Prop):mI (X.wish E) y z H s:=#[I.ok.wish E,I.os,I.bare,I.mD,I.loc,I.cell,I.free,I.freeC,I.pin,I.hok,I.len]
def mI.unwish(I:mI (X.wish E) y z H s):mI X y z H s:=#[I.ok.unwish,I.os,I.bare,I.mD,I.loc,I.cell,I.free,I.freeC,I.pin,I.hok,I.len]
def SP.unwish(h:SP (X.wish E) x D f s'):SP X x D f s':=by
 cases f with
 | next=>obtain⟨z,y,I,q⟩:=h;show#[z,y,I.unwish,q]
 | brk=>obtain⟨z,y,I,q⟩:=h;show#[z,y,I.unwish,q]
 | cont=>obtain⟨z,y,I,q⟩:=h;show#[z,y,I.unwish,q]
 | ret u=>obtain⟨v,z,y,I,r,q⟩:=h;show#[v,z,y,I.unwish,r,q]
def qM.nox{st:lQ lX}{t:TS}(h:qM X.nox st t):qM X st t:=λx s z H D I w =>
 pX (h x s z H D (I.wish _) w) (λ_ _ q=>q.unwish) λ_ _ y=>False.elim y
end
section
variable {st:lX} {Zs:lQ lX} {t u:TS} {e:ma} {te:TE} {pos:Pos}
def RR:TS:=λD z H=>D.nx z H
def Yji(t u:TS):TS:=λD z H=>t {D with nx:=u D} z H
def Zk:qM X [] RR:=λ_ _ z H _ I h=>AD #[z,H,I,h]
def UE(w:PS X st t)(r:qM X Zs u):qM X (st ::Zs) (Yji t u):=by
 intro x s z H D I h;refine CO<|mZ (w x s z H {D with nx:=u D} I h) λf p q=>?_;cases f with
 | next =>
  obtain⟨y,o,n,q⟩:=q;show r x p y o D n q
 | ret v=>show q
 | brk=>show q
 | cont=>show q
def Yc8(y:PS X st t):qM X [st] t:=by
 intro x s z H D I h;refine CO<|mZ (y x s z H D I h) λf w q=>?_;cases f with
 | next=>show AD q
 | ret v=>show q
 | brk=>show q
 | cont=>show q
def YR:TS:=λD z H=>D.ct z H
def Zs9:PS X (.Continue pos) YR:=λ_ _ z H _ I h=>wpAny_Continue #[z,H,I,h]
def mI.quiet(I:mI X y z H s):interactive X.env=false:=by simp[interactive,I.ok.kind]
def Yhn(te:TE):TS:=λD z H=>te z H λ_ y=>D.nx z y
def Z3(he:PE X e te)(y:swapsWith e none pos.line X.env=pure false:=by rfl):PS X (.Expr e pos) (Yhn te):=by
 intro w s z H D I h;show wpAny_Expr_any (mZ (he w s z H _ I h) λv o ⟨x,r,q,n,p⟩=>#[z,r,q,p]) I.quiet y
def Ub(te:TE):TS:=λD z H=>te z H D.rt
def Zl(he:PE X e te):PS X (.Return (some e) pos) (Ub te):=by
 intro y s z H D I h;show wpAny_Return_some<|mZ (he y s z H _ I h) λv o ⟨x,w,r,q,p⟩=>#[x,z,w,r,q,p]
def RM:TS:=λD _ H=>D.rt .non H
def OR:PS X (.Return none pos) RM:=λ_ _ z H _ I h=>wpAny_Return_none #[.non,z,H,I,rfl,h]
def Yj0(c:TT)(t u:TS):TS:=λD z H=>c z H λb y=>if b=true then t D z y else u D z y
def Zv(p:PT X c o)(n:qM X a t)(l:qM X b u):PS X (.If c a b pos) (Yj0 o t u):=by
 intro y s z H D I h;refine wpAny_If<|mZ (p y s z H _ I h) λd x ⟨w,r,q⟩=>?_;cases d with
 | true=>show n y x z w D r q
 | false=>show l y x z w D r q
end
abbrev TG:=V->St->Hp->(St->Hp->Prop)->Prop
abbrev xu:=lQ V->St->Hp->(St->Hp->Prop)->Prop
def PG(X:Cx)(r:ma)(t:TG):Prop :=
 ∀(x:lQ (lS×Obj)) (s:lU) (z:St) (H:Hp) (v:V) (u:lT) (Q:St->Hp->Prop),mI X x z H s->Yd v u->t v z H Q->
  ∅ (assign r X.env u) (λ_ q=>∃y w,mI X x y w q/\Q y w) X.xe s
def yw(X:Cx)(ts:lQ ma)(t:xu):Prop :=
 ∀(x:lQ (lS×Obj)) (s:lU) (z:St) (H:Hp) (w:lQ V) (u:lQ lT) (Q:St->Hp->Prop),mI X x z H s->Z7 w u->t w z H Q->
  ∅ (assignInOrder ((assignEach ts X.env).map (·.2)) u) (λ_ q=>∃y r,mI X x y r q/\Q y r) X.xe s
def qI(i:Nat):TG:=λv z H Q=>Q (z.set i<|some v) H
def Gf(y:X.N.Nodup)(w:X.N[i]? =some x)(q:vo X.env.scope x)(p:X.fn x=true\/X.env.scope.names.lookup x=some .local:=by and_intros):PG X (.Name x pos) (qI i):=by
 intro n s z H v u Q I r h;show wpAny_assign_Name<|Gu I y w q r (λl o=>#[_,H,o,h]) p
def PD:xu:=λy z H Q=>y=[]/\Q z H
def EY(t:TG)(u:xu):xu:=λx z H Q=>oC x λv r=>t v z H λy w=>u r y w Q
def Xd:yw X [] PD:=by
 intro y s z H x w Q I r h;obtain⟨e,h⟩:=h;subst e;cases r;show assignInOrder_nil #[z,H,I,h]
def Zu(q:PG X e t)(p:yw X y u)
  (o:(assignEach (e ::y) X.env).map (·.2)=assign e X.env ::(assignEach y X.env).map (·.2):=by rfl):yw X (e ::y) (EY t u):=by
 intro w s z H c a Q I r h;obtain⟨v,x,n,h⟩:=oC.out h;subst n;cases r with
 | cons r l =>
  rw[o];refine assignInOrder_cons<|mZ (q w s z H _ _ _ I r h) λ_ j ⟨x,i,g,d⟩=>?_;show p w j x i _ _ Q g l d
inductive GT(S:Hp->Addr->List V->Prop)(n:Nat)(H:Hp)(k:List V->Prop):V->Prop
 | mk {a xs}:S H a xs->xs.length=n->k xs->GT S n H k (.ref a)
def Ez(K:lW)(n:Nat)(t:xu):TG:=λv z H Q=>GT (SqT K) n H (λy=>t y z H Q) v
def rE(p:X.calm=true)(h:yw X y t)
  (l:(assignEach y X.env).length=n:=by rfl) (j:(assignEach y X.env).findIdx? (·.1)=none:=by rfl):PG X (.Tuple y k pos) (Ez X.K n t):=by
 intro w s z H v u Q I r x;obtain@⟨a,i,g,d,x⟩:=x;cases r;obtain⟨a,q,c,M⟩:=I.tuple g;refine assign_Tuple_tuple (I.ok.hd p) c (by simp[l,<-d,q.length]) j λY U=>?_
 have N:mI X w z H {s with heap:=Y}:=I.kept (t':=s.toks) λb o e=>U b o (oi<|nO e) e
 show h w _ z H i _ Q N (by simpa using q) x
def AM(y:TE)(g:TG):TS:=λD z H=>y z H λx w=>g x z w D.nx
def MV(he:PE X e u)(r:PG X y g)(p:swapsWithSole [y] e pos.line X.env=pure false:=by rfl)(o:swappedStores [y] e X.env=pure none:=by rfl)
  (n:(assignEach [y] X.env).map (·.2)=[assign y X.env]:=by rfl):PS X (.Assign [y] e pos) (AM u g):=by
 intro w s z H D I h;refine wpAny_Assign_stores (mZ (he w s z H _ I h) λv l ⟨x,j,i,d,c⟩=>?_) p o;rw[n];show mZ (r w l z j x v _ i d c) λ_ a q=>q
def Yf4(w:X.N.Nodup)(u:X.N[i]? =some x)(r:vo X.env.scope x)(he:PE X e q)(p:swapsWith e (some<|.Name x o) pos.line X.env=pure false:=by rfl)(n:X.fn x=true\/X.env.scope.names.lookup x=some .local:=by and_intros) :
  PS X (.Assign [.Name x o] e pos) (AM q<|qI i):=by
 intro l s z H D I h;refine wpAny_Assign_Name (mZ (he l s z H _ I h) λv a ⟨y,j,g,d,c⟩=>?_) p;show Gu g w u r d (λa y=>#[_,j,y,c]) n
structure It where
 go:Nat->Hp->Prop
 yld:Nat->Hp->V->Hp->Prop
 stop:Nat->Hp->Prop
def tz(X:Cx)(z:lQ (lS×Obj))(H:Hp)(b:lS):Prop :=
 H b=none/\b≠X.env.locals/\b∉X.fs/\(b∈X.ex\/X.mh.heap.objs.size<=b)/\(∀x c,X.env.cells.lookup x=some c->c≠b)/\∀p∈X.pn++z,p.1≠b
def mI.fpOk(I:mI X u z H s)(w:#v[s]<=b)(r:H' b=none):tz X u H' b:=by
 refine#[r,xJ<|pK I.lt w,I.nofs w,.inr<|ow I.sz w,λx c e y=>?_,λp o y=>?_]
 ·obtain⟨v,q⟩:=I.cell x c e;show absurd (pK q.lt (by rw[y];show w))<|qL _
 ·show absurd (pK (nO (I.pin p o).1) (by rw[y];show w))<|qL _
structure vS(P:Program)(w:World)(K:Frag)(tg:Expr)(J:It)(fp:List Addr)(it:Addr)(tn:Nat->Heap->Prop):Prop where
 mem:it∈fp
 obj:∀i h,tn i h->∀b∈fp,∃o,h.get? b=some o/\∀v,o.data≠.cell v
 keep:∀i h h',tn i h->(∀b∈fp,∀o,h.get? b=some o->h'.get? b=some o)->tn i h'
 item:∀(X:Cx),X.prog=P->X.w=w->X.K=K->X.calm=true->∀(i:Nat)(c7:List (Addr×Obj)) (s:Shared) (σ:St) (H:Hp) (E:Value->Shared->Prop),mI X c7 σ H s->(∀b∈fp,tz X c7 H b)->tn i s.heap->J.go i H->
  wpAny (model P w) X.A (pyNext<|.ref it) (λr s1=>∃u,r=some u/\
   wpAny (model P w) X.A (letOwnedTupleGo tg (.ref it) u) (λ_ s2=>∃x H',mI X c7 σ H' s2/\Yd x u/\J.yld i H x H'/\tn (i+1) s2.heap/\∀b∈fp,H' b=none) E s1) E s
 done:∀(X:Cx),X.prog=P->X.w=w->X.K=K->X.calm=true->∀(i:Nat)(c7:List (Addr×Obj)) (s:Shared) (σ:St) (H:Hp) (E:Value->Shared->Prop),mI X c7 σ H s->(∀b∈fp,tz X c7 H b)->tn i s.heap->J.stop i H->
  wpAny (model P w) X.A (pyNext<|.ref it) (λr s1=>r=none/\mI X c7 σ H s1) E s
 self:∀(A:Around)(i:Nat)(s:Shared)(Q:Value->Shared->Prop)(E:Value->Shared->Prop),tn i s.heap->Q (.ref it) s->wpAny (model P w) A (pyIter<|.ref it) Q E s
abbrev TI:=St->Hp->(It->Hp->Prop)->Prop
def MN(X:Cx)(w:lQ (lS×Obj))(z:St)(p:ma)(R:It->Hp->Prop)(y:lT)(u:lU):Prop :=
 ∃(s:lS)(r:lQ lS)(q:Nat->lY->Prop)(J:It)(x:Hp),y=.ref s/\mI X w z x u/\vS X.prog X.w X.K p J r s q/\q 0 u.heap/\(∀b∈r,tz X w x b)/\R J x
def PI(X:Cx)(x w:ma)(u:TI):Prop :=
 ∀(y:lQ (lS×Obj)) (s:lU) (z:St) (H:Hp) (R:It->Hp->Prop),mI X y z H s->u z H R->
  ∅ (eval w X.env) (λv r=>∅ (pyIter v) (MN X y z x R) X.xe r) X.xe s
def AJ{E:lT->lU->Prop}{Q:Unit->lU->Prop}(y:s.heap.get? it=some o)(x:o.cls=.type n)(hd:o.data=.fields vs)
    (w:["enumerate","zip","dict_itemiterator","dict_reverseitemiterator","odict_iterator","itertools.zip_longest","itertools.pairwise"].contains n=false) (z:Q () s):wpAny M A (letOwnedTupleGo r (.ref it) u) Q E s:=by
  unfold letOwnedTupleGo;cases r<;>first
    | show nG z
    | (cases u<;>first
        | show nG z
        | (refine mS<|wpAny_load y ?_
           rw[x,hd];change wpAny M A (if(["enumerate","zip","dict_itemiterator","dict_reverseitemiterator","odict_iterator","itertools.zip_longest","itertools.pairwise"].contains n && vs[0]? ==some (rawInt _))=true then _ else _) Q E s;rw[mT (by intro h;rw[w,Bool.false_and]at h;cases h)];show nG z))
def ub(K:lW)(a:lS):It :=
 #[λi H=>∃z x,SqL K H a z/\z[i]? =some x,λi H x y=>y=H/\∀z,SqL K H a z->z[i]? =some x,λi H=>∃z,SqL K H a z/\z.length<=i]
def DF(K:lW)(a:lS):It :=
 #[λi H=>∃z x,SqT K H a z/\z[i]? =some x,λi H x y=>y=H/\∀z,SqT K H a z->z[i]? =some x,λi H=>∃z,SqT K H a z/\z.length<=i]
def ym(lo:Int)(n:Nat):It:=#[λi _=>i<n,λi H x z=>z=H/\x=.int (lo+i),λi _=>n<=i]
def Zxt{P:md}{w:lZ}{K:lW}{tg:ma}(a it:lS):vS P w K tg (ub K a) [it] it (λi h=>h.IsListIter it a i) where
 mem:=by simp
 obj:=λi h st b r=>by
  have e:b=it:=by simpa using r
  subst e;obtain⟨o,e,c,d⟩:=st;show#[o,e,λv y=>by rw[d]at y;cases y]
 keep:=λi h q st k=>st.at λo e=>k it (by simp) o e
 item:=by
  intro X j g Y C i B s z H E I n st U;subst j g Y;obtain⟨xs,x,l,Q⟩:=U;obtain⟨c8,N,p,hz⟩:=I.list l;obtain⟨u,hu,ru⟩:=N.get Q;obtain⟨M,L,f2,J,G,D⟩:=n it (by simp);refine wpAny_pyNext_list_item st p.isList (x:=u) (by simpa using hu) λq A sb=>?_
  have I1:mI X B z H {s with heap:=q}:=I.turned (t':=s.toks) (λb o r e=>(sb.2 b r).trans e) M L J G D;obtain⟨o,e,c,d⟩:=id A;show#[u,rfl,AJ (s:={s with heap:=q}) e c d (by lk) #[x,H,I1,ru,#[rfl,λys y=>by rw[I.list_inj y l];show Q],A,λb r=>(n b r).1]]
 done:=by
  intro X j g Y C i B s z H E I n st U;subst j g Y;obtain⟨xs,l,Q⟩:=U;obtain⟨c8,N,p,hz⟩:=I.list l;obtain⟨M,L,f2,J,G,D⟩:=n it (by simp);have hl:=N.length;show wpAny_pyNext_list_end (I.ok.hd C) st p.isList (by simp;lia) λq eb=>#[rfl,I.turned (t':=s.toks) (λb o r e=>eb b o r e) M L J G D]
 self:=λ_ _ _ _ _ st h=>wpAny_pyIter_listiter st h
def YW{P:md}{w:lZ}{K:lW}{tg:ma}(a it:lS):vS P w K tg (DF K a) [it] it (λi h=>h.IsTupleIter it a i) where
 mem:=by simp
 obj:=λi h st b r=>by
  have e:b=it:=by simpa using r
  subst e;obtain⟨o,e,c,d⟩:=st;show#[o,e,λv y=>by rw[d]at y;cases y]
 keep:=λi h q st k=>st.at λo e=>k it (by simp) o e
 item:=by
  intro X j g Y B i A s z H E I n st U;subst j g Y;obtain⟨xs,x,l,Q⟩:=U;obtain⟨N,M,p,hz⟩:=I.tuple l;obtain⟨u,hu,ru⟩:=M.get Q;obtain⟨L,J,f2,G,D,C⟩:=n it (by simp);refine wpAny_pyNext_tuple_item st (show s.heap.IsTuple a N.toArray from p) (x:=u) (by simpa using hu) λq B2 sb=>?_
  have I1:mI X A z H {s with heap:=q}:=I.turned (t':=s.toks) (λb o r e=>(sb.2 b r).trans e) L J G D C;obtain⟨o,e,c,d⟩:=id B2;show#[u,rfl,AJ (s:={s with heap:=q}) e c d (by lk) #[x,H,I1,ru,#[rfl,λys y=>by rw[I.tuple_inj y l];show Q],B2,λb r=>(n b r).1]]
 done:=by
  intro X j g Y B i A s z H E I n st U;subst j g Y;obtain⟨xs,l,Q⟩:=U;obtain⟨N,M,p,hz⟩:=I.tuple l;obtain⟨L,J,f2,G,D,C⟩:=n it (by simp);have hl:=M.length;show wpAny_pyNext_tuple_end (I.ok.hd B) st (show s.heap.IsTuple a N.toArray from p) (by simp;lia) λq eb=>#[rfl,I.turned (t':=s.toks) (λb o r e=>eb b o r e) L J G D C]
 self:=λ_ _ _ _ _ st h=>wpAny_pyIter_tupleiter st h
def Zve{P:md}{w:lZ}{K:lW}{L:ma}(it:lS)(lo:Int)(n:Nat):vS P w K L (ym lo n) [it] it (λi h=>IsRangeIter h it (lo+(i:Nat) * 1) ((n:Int)-(i:Nat)) 1) where
 mem:=by simp
 obj:=λi h st b x=>by
  have e:b=it:=by simpa using x
  subst e;show#[_,st,λv y=>by
   have J:Data.fields _=Data.cell v:=y;cases J]
 keep:=λi h u st k=>k it (by simp) _ st
 item:=by
  intro X q p l j i Q s z H E I r st g;subst q p l;obtain⟨d,c,G,a,Y,U⟩:=r it (by simp);have W:=Walks.range (prog:=X.prog) (w:=X.w) (I.ok.hd j) it lo 1 n;refine W.item i s _ _ g st λv u N D M C=>?_
  obtain⟨t,rfl⟩:=D;have B:mI X Q z H {s with heap:=u,toks:=N}:=I.turned (λb o x e=>C b o (by simpa using x) e) d c a Y U;refine#[_,rfl,AJ (s:={s with heap:=u,toks:=N}) (n :="range_iterator") M rfl rfl (by lk) #[.int<|lo+i,H,B,#[t,?_],#[rfl,rfl],M,λb x=>(r b x).1]];rw[Int.mul_one]
 done:=by
  intro X q p l j i Q s z H E I r st g;subst q p l;obtain⟨d,c,G,a,Y,U⟩:=r it (by simp);show wpAny_pyNext_range_end (I.ok.hd j) st (by have:n<=i:=g;lia) λu A=>#[rfl,I.turned (t':=s.toks) (λb o x e=>A b o x e) d c a Y U]
 self:=λ_ _ _ _ _ st h=>wpAny_pyIter_rangeiter st h
inductive Hc(S:Hp->Addr->List V->Prop)(I:Addr->It)(R:It->Hp->Prop)(H:Hp):V->Prop
 | mk {a xs}:S H a xs->R (I a) H->Hc S I R H (.ref a)
def UP(K:lW)(y:TE):TI:=λz H R=>y z H λx w=>Hc (SqL K) (ub K) R w x
def YY(K:lW)(y:TE):TI:=λz H R=>y z H λx w=>Hc (SqT K) (DF K) R w x
def Ya{l:ma}{u:TE}(r:PE X l u):PI X Y l (UP X.K u):=by
 intro n s z H R I h;refine mZ (r n s z H _ I h) λv y ⟨x,j,w,i,g⟩=>?_
 obtain@⟨a,x,d,q⟩:=g;cases i;obtain⟨x,o,p,U⟩:=w.list d;refine xU p.isList ?_;refine#[#v[y],[#v[y]],_,_,j,rfl,w.kept (t':=y.toks) λb o e=>nQ _ e,Zxt a _,#[_,oQ _ rfl,rfl,rfl],λb c=>?_,q];have e:b=#v[y]:=by simpa using c
 subst e;show w.fpOk (nk _)<|w.hok.fresh<|nk _
def Au{l:ma}{u:TE}(r:PE X l u):PI X U l (YY X.K u):=by
 intro n s z H R I h;refine mZ (r n s z H _ I h) λv y ⟨x,j,w,i,g⟩=>?_
 obtain@⟨a,x,d,q⟩:=g;cases i;obtain⟨c,x,p,o⟩:=w.tuple d;refine wpAny_pyIter_tuple (show y.heap.IsTuple a c.toArray from p) ?_;refine#[#v[y],[#v[y]],_,_,j,rfl,w.kept (t':=y.toks) λb o e=>nQ _ e,YW a _,#[_,oQ _ rfl,rfl,rfl],λb Y=>?_,q];have e:b=#v[y]:=by simpa using Y
 subst e;show w.fpOk (nk _)<|w.hok.fresh<|nk _
def OP{x:lQ (lS×Obj)}{z:St}{H:Hp}{s:lU}{R:It->Hp->Prop}{E:lT->lU->Prop}{lo y:Int}{t u v:Tok}{w:Nat}(I:mI X x z H s)(p:-(2 ^ 62)<=lo)(n:lo<2 ^ 62)(l:-(2 ^ 62)<=y)(j:y<2 ^ 62)
  (q:R (ym lo (y-lo).toNat) H):∅ (pyIter<|.ref #v[s]) (MN X x z d R) E {s with heap:=s.heap.push {cls:=.type "range",data:=.fields (List.toArray [.int lo t,.int y u,.int 1 v])},toks:=w}:=by
 refine wpAny_pyIter_range (IsRange.new ..) (small_one p n l j) ?_;have r:mI X x z H {s with heap:=s.heap.push {cls:=.type "range",data:=.fields (List.toArray [.int lo t,.int y u,.int 1 v])},toks:=w}:=I.kept λb o e=>nQ _ e
 refine#[(s.heap.push {cls:=.type "range",data:=.fields (List.toArray [.int lo t,.int y u,.int 1 v])}).objs.size,[(s.heap.push {cls:=.type "range",data:=.fields (List.toArray [.int lo t,.int y u,.int 1 v])}).objs.size],_,_,H,rfl,
  r.kept (t':=w) λb o e=>nQ _ e,Zve _ lo (y-lo).toNat,?_,λb i=>?_,q]
 ·have h:lo+((0:Nat):Int) * 1=lo:=by simp
  have g:(((y-lo).toNat:Nat):Int)-((0:Nat):Int)=Builtin.Range.rangeSize lo y 1:=by rw[rangeSize_one];split<;>lia
  change IsRangeIter _ _ (lo+((0:Nat):Int) * 1) ((((y-lo).toNat:Nat):Int)-((0:Nat):Int)) 1;rw[h,g];show oQ _ rfl
 ·have e:b=(s.heap.push {cls:=.type "range",data:=.fields (List.toArray [.int lo t,.int y u,.int 1 v])}).objs.size:=by simpa using i
  subst e;show r.fpOk (nk _)<|r.hok.fresh<|nk _
def Sl(y:TA):TI:=λz H R=>y z H λx w=>∃j:Int,x=[.int j]/\-(2 ^ 62)<=j/\j<2 ^ 62/\R (ym 0 j.toNat) w
def Yi9(y:TA):TI:=λz H R=>y z H λx w=>∃i j:Int,x=[.int i,.int j]/\(-(2 ^ 62)<=i/\i<2 ^ 62/\-(2 ^ 62)<=j/\j<2 ^ 62)/\R (ym i (j-i).toNat) w
def Nn{a:ma}{x:TA}{p pos:Pos}(w:Gl X "range")(u:X.mg "range"=none)(o:PA X [a] x)(n:starEach [a] X.env=[(false,eval a X.env)]:=by rfl):PI X c (.Call (.Name "range" p) [a] [] pos) (Sl x):=by
 intro l s z H R I h;refine Call_<|xy I w u boot_range<|Ar (mZ (o pos l s z H _ I h) λr j ⟨Y,U,i,g,y⟩=>?_) n rfl;obtain⟨j,e,y,d,q⟩:=y;subst e;cases g with
 | cons r j =>
  cases j;obtain⟨t,rfl⟩:=r;show call_range_1 (OP i (by lia) (by lia) y d<|by simpa using q)
def Dv(u:Gl X "range")(o:X.mg "range"=none)(n:PA X [a,b] l)(g:starEach [a,b] X.env=[(false,eval a X.env),(false,eval b X.env)]:=by rfl)(y:starEach [b] X.env=[(false,eval b X.env)]:=by rfl) :
  PI X M (.Call (.Name "range" p) [a,b] [] pos) (Yi9 l):=by
 intro d s z H R I h;refine Call_ (xy I u o boot_range<|Ar (mZ (n pos d s z H _ I h) λw r ⟨j,i,c,Y,x⟩=>?_) (by rw[g,y])<|by rw[y];rfl);obtain⟨i,j,e,⟨x,U,Q,N⟩,q⟩:=x;subst e;cases Y with
 | cons r w =>
  cases w with
  | cons j w =>
   cases w;obtain⟨t,rfl⟩:=r;obtain⟨i,rfl⟩:=j;show call_range_2<|OP c x U Q N q
def Yjt(r:TI)(g:TG)(q:TS):TS:=λD z H=>r z H λJ p=>∃W:Nat->Nat->St->Hp->Prop,(∃m,W 0 m z p)/\∀i m z H,W i m z H->
 (J.stop i H/\D.nx z H)\/(J.go i H/\∃N:St->Hp->Prop,(∀y w,N y w->∃s,s<m/\W (i+1) s y w)/\∀x w,J.yld i H x w->g x z w λu o=>q {D with nx:=N,ct:=N,bk:=D.nx} u o)
def zu(z:lQ lS)(h:lY):lQ (lS×Obj):=z.filterMap λb=>(h.get? b).map λo=>(b,o)
def DE(z:b∈y)(e:h.get? b=some o):(b,o)∈zu y h:=BG.mpr #[b,z,by rw[e];rfl]
def Sy(z:p∈zu y h):p.1∈y/\h.get? p.1=some p.2:=by
 obtain⟨b,x,e⟩:=BG.mp z;cases q:h.get? b with
 | none=>rw[q]at e;cases e
 | some o =>
  rw[q]at e;have w:(b,o)=p:=oK e;subst w;show#[x,q]
def mI.pinned(I:mI X x z H s)(q:∀b∈w,tz X x H b)(n:∀b∈w,∃o,s.heap.get? b=some o/\∀v,o.data≠.cell v):mI X (x++zu w s.heap) z H s :=
 I.pins_of λp l=>(oj.mp l).elim (λy=>I.pin p<|qv _ y) λy=>by
  obtain⟨u,e⟩:=Sy y;obtain⟨j,i,h,_⟩:=q p.1 u;obtain⟨o,r,d⟩:=n p.1 u;rw[e]at r;cases r;show#[e,j,i,h,d]
def mI.unpinned(I:mI X (y++pl) z H s):mI X y z H s:=I.pins_of λp x=>I.pin p<|qv _<|xc _ x
def Yw(U:PassesOwn (model X.prog X.w) X.A X.env X.xe)(hc:X.calm=true)(hi:PI X tg u6 wi)(hg:PG X tg g)(w:qM X body tb)
  (hs:∀x,foldedSetIterable u6 X.env x=pure x:=by intro _;rfl):PS X (.For tg u6 body [] pos) (Yjt wi g tb):=by
 intro Y s z H D I h;refine wpAny_For (mZ (hi Y s z H _ I h) λv o y=>mZ y λu l h2=>?_) hs;obtain⟨y,Q,tn,J,H2,e,I2,T,d9,f2,W,⟨m0,w0⟩,Q8⟩:=h2;subst e;have E:∀{c:Hp},(∀b∈Q,c b=none)->∀b∈Q,tz X Y c b:=λhn b w=>#[hn b w,(f2 b w).2]
 refine codeAny_forLoop_any (λn y=>∃i q c,mI X Y q c y/\tn i y.heap/\(∀b∈Q,c b=none)/\W i n q c) ?_ m0 #[0,z,H2,I2,d9,λb w=>(f2 b w).1,w0];rintro n s3 ⟨i,p,G,I3,x0,M,w3⟩;rcases Q8 i n p G w3 with⟨stop,qn⟩|⟨go,N,hN,step⟩
 ·refine wZ U<|mZ (T.done X rfl rfl rfl hc i Y s3 p G X.xe I3 (E M) x0 stop) λr s4 ⟨C,y⟩=>?_;subst C;show AD #[p,G,y,qn]
 ·refine wZ U<|mZ (T.item X rfl rfl rfl hc i Y s3 p G X.xe I3 (E M) x0 go) λr s4 ⟨u,C,h4⟩=>?_;subst C;refine wZ U<|mZ h4 λ_ s5 h9=>?_;obtain⟨x,H5,I5,r5,y5,J,B⟩:=h9;have A:=I5.pinned (E B)<|T.obj _ _ J;refine wZ U<|mZ (hg _ s5 p H5 x u _ A r5<|step x H5 y5) λ_ s6 ⟨σ6,H6,I6,q6⟩=>?_;refine wZ U<|mZ (w _ s6 σ6 H6 _ I6 q6) λf s7 a=>?_;have N9:∀{y:St}{l:Hp},mI X (Y++zu Q s5.heap) y l s7->N y l->∃m,m<n/\∃i q c,mI X Y q c s7/\tn i s7.heap/\(∀b∈Q,c b=none)/\W i m q c:=λ{y l} j L=>by
   obtain⟨m',hm,w7⟩:=hN y l L;refine#[m',hm,i+1,y,l,j.unpinned,T.keep _ _ _ J λb w o e=>(j.pin (b,o)<|qv _<|qv _<|DE w e).1,λb w=>?_,w7];obtain⟨o,e,d⟩:=T.obj _ _ J b w;show(j.pin (b,o)<|qv _<|qv _<|DE w e).2.1
  cases f with
  | next=>obtain⟨y,l,j,L⟩:=a;show N9 j L
  | cont=>obtain⟨y,l,j,L⟩:=a;show N9 j L
  | brk=>obtain⟨y,l,j,a⟩:=a;show#[y,l,j.unpinned,a]
  | ret v=>obtain⟨d,y,l,j,r7,a⟩:=a;show#[d,y,l,j.unpinned,r7,a]
abbrev yL(J:It)(g:TG)(tb:TS)(D:pT)(σ:St)(H:Hp):Prop:=∃W:Nat->Nat->St->Hp->Prop,(∃m,W 0 m σ H)/\∀i m σ H,W i m σ H->
   (J.stop i H/\D.nx σ H)\/(J.go i H/\∃N:St->Hp->Prop,(∀σ' H',N σ' H'->∃m',m'<m/\W (i+1) m' σ' H')/\∀x H',J.yld i H x H'->g x σ H' λσ2 H2=>tb {D with nx:=N,ct:=N,bk:=D.nx} σ2 H2)
def Wh{S:Type}{J:It}{n:Nat}{w:S}{u:Hp}{B:S->V->Hp->(S->Hp->Prop)->Prop}{Dn:S->Hp->Prop}(Pv:Nat->S->Hp->Prop)(q:Pv 0 w u)(o:∀s H,Pv n s H->J.stop n H)(z:∀i s H,i<n->Pv i s H->J.go i H/\∀x H',J.yld i H x H'->B s x H' (Pv<|i+1))(hd:∀s H,Pv n s H->Dn s H) :
  ∃W:Nat->Nat->S->Hp->Prop,(∃m,W 0 m w u)/\∀i m s H,W i m s H->(J.stop i H/\Dn s H)\/(J.go i H/\∃N:S->Hp->Prop,(∀s' H',N s' H'->∃r,r<m/\W (i+1) r s' H')/\∀x H',J.yld i H x H'->B s x H' N):=by
 refine#[λi m s H=>m=n-i/\i<=n/\Pv i s H,#[n,by simp,sH _,q],?_];rintro i m s H ⟨rfl,l,p⟩
 by_cases y:i<n
 ·show .inr #[(z i s H y p).1,Pv<|i+1,λs' H' l=>#[n-(i+1),Nat.sub_succ_lt_self _ _ y,rfl,y,l],(z i s H y p).2]
 ·obtain rfl:i=n:=by lia
  show .inl #[o s H p,hd s H p]
def Xm{K:lW}{a:lS}{xs:lQ V}{g:TG}{q:TS}{D:pT}{z:St}{H:Hp}(Pv:Nat->St->Hp->Prop)(o:Pv 0 z H)(w:∀i z H,i<=xs.length->Pv i z H->SqL K H a xs)
  (n:∀i x z H,xs[i]? =some x->Pv i z H->g x z H λu l=>q {D with nx:=Pv<|i+1,ct:=Pv<|i+1,bk:=D.nx} u l) (hd:∀z H,Pv xs.length z H->D.nx z H) :
  yL (ub K a) g q D z H:=Wh Pv o (λs H p=>#[xs,w _ s H (nk _) p,nk _]) (λi s H r p=>#[#[xs,xs[i],w i s H (pA r) p,oy r],λx j ⟨e,y⟩=>e ▸ n i x s _ (y xs<|w i s H (pA r) p) p]) hd
def MR{K:lW}{a:lS}{xs:lQ V}{g:TG}{q:TS}{D:pT}{z:St}{H:Hp}(Pv:Nat->St->Hp->Prop)(o:Pv 0 z H)(w:∀i z H,i<=xs.length->Pv i z H->SqT K H a xs)
  (n:∀i x z H,xs[i]? =some x->Pv i z H->g x z H λu l=>q {D with nx:=Pv<|i+1,ct:=Pv<|i+1,bk:=D.nx} u l) (hd:∀z H,Pv xs.length z H->D.nx z H) :
  yL (DF K a) g q D z H:=Wh Pv o (λs H p=>#[xs,w _ s H (nk _) p,nk _]) (λi s H r p=>#[#[xs,xs[i],w i s H (pA r) p,oy r],λx j ⟨e,y⟩=>e ▸ n i x s _ (y xs<|w i s H (pA r) p) p]) hd
def yD{lo:Int}{n:Nat}{g:TG}{u:TS}{D:pT}{z:St}{H:Hp}(Pv:Nat->St->Hp->Prop)(q:Pv 0 z H)
  (o:∀i z H,i<n->Pv i z H->g (.int<|lo+i) z H λw l=>u {D with nx:=Pv<|i+1,ct:=Pv<|i+1,bk:=D.nx} w l) (hd:∀z H,Pv n z H->D.nx z H) :
  yL (ym lo n) g u D z H:=Wh Pv q (λ_ _ _=>nk _) (λi s H r p=>#[r,λx j ⟨e,y⟩=>by subst e y;show o i s _ r p]) hd
abbrev R2:=V->V->Hp->VK->Prop
def nW(X:Cx)(f:lT->lT->Sem lT)(r:R2):Prop :=
 ∀(w:lQ (lS×Obj)) (s:lU) (z:St) (H:Hp) (x y:V) (v u:lT) (Q:VK),mI X w z H s->Yd x v->Yd y u->r x y H Q->
  ∅ (f v u) (EP X w z Q) X.xe s
def FY(X:Cx)(f:lT->Sem lT)(r:V->Hp->VK->Prop):Prop :=
 ∀(y:lQ (lS×Obj)) (s:lU) (z:St) (H:Hp) (x:V) (v:lT) (Q:VK),mI X y z H s->Yd x v->r x H Q->
  ∅ (f v) (EP X y z Q) X.xe s
def Xe(X:Cx)(f:lT)(r:lQ V->Hp->VK->Prop):Prop :=
 ∀(y:lQ (lS×Obj)) (s:lU) (z:St) (H:Hp) (x:lQ V) (w:lQ lT) (Q:VK),mI X y z H s->Z7 x w->r x H Q->
  ∅ (call f w) (EP X y z Q) X.xe s
def Yjl(X:Cx)(r:V->Hp->(Bool->Hp->Prop)->Prop):Prop :=
 ∀(y:lQ (lS×Obj)) (s:lU) (z:St) (H:Hp) (x:V) (v:lT) (Q:Bool->Hp->Prop),mI X y z H s->Yd x v->r x H Q->
  ∅ (truthy v) (TP X y z Q) X.xe s
def qQ(r:R2)(w u:TE):TE:=λz H Q=>w z H λx s=>u z s λy q=>r x y q Q
def tUn(r:V->Hp->VK->Prop)(y:TE):TE:=λz H Q=>y z H λx w=>r x w Q
def rI(C:Int->Int->Prop)(g:Int->Int->V):R2:=λx y H Q=>oI x λi=>oI y λj=>C i j/\Q (g i j) H
def vf(g:Int->Int->V):R2:=λx y H Q=>oI x λi=>oI y λj=>Q (g i j) H
def rU(g:Int->V):V->Hp->VK->Prop:=λx H Q=>oI x λi=>Q (g i) H
def Gg(o:PE X a n)(l:PE X b j){R:V->V->Hp->Prop}(I:mI X q z H s)
  (h:n z H λx p=>j z p λy w=>R x y w) {Q:lT->lU->Prop} {f:lT->lT->Sem lT}
  (i:∀v u r x y w,mI X q z w r->Yd x v->Yd y u->R x y w->∅ (f v u) Q X.xe r) :
  ∅ (eval a X.env) (λv g=>∅ (eval b X.env) (λu e=>∅ (f v u) Q X.xe e) X.xe g) X.xe s:=by
 refine mZ (o q s z H _ I h) λv d ⟨x,p,c,Y,U⟩=>?_
 refine mZ (l q d z p _ c U) λu r ⟨y,w,N,M,L⟩=>?_
 show i v u r x y w N Y M L
def Zp(w:nW X (binaryOp op) r)(p:PE X a o)(n:PE X b l):PE X (.BinOp a op b pos) (qQ r o l):=by
 intro j s z H Q I h;show wpAny_BinOp<|Gg p n I h λv u i x y g e d c q=>w j i z g x y v u Q e d c q
def zZ{r:V->Hp->VK->Prop}(w:FY X (unaryOp op) r)(u:PE X a q):PE X (.UnaryOp op a pos) (tUn r q):=by
 intro y s z H Q I h;show UnaryOp_<|mZ (u y s z H _ I h) λv p ⟨x,o,n,l,j⟩=>w y p z o x v Q n l j
def Hh{f:lT->lT->Sem lT}{C:Int->Int->Prop}{g:Int->Int->Int}
  (w:∀(i j:Int)(t u:Tok)(s:lU)(Q:lT->lU->Prop)(E:lT->lU->Prop),C i j->Q (.int (g i j) s.toks) {s with toks:=s.toks+1}->∅ (f (.int i t)<|.int j u) Q E s) :
  nW X f (rI C λi j=>.int<|g i j):=by
 intro e s z H x y v u Q I r p h;obtain⟨i,rfl,o⟩:=oI.out h;obtain⟨j,rfl,n,q⟩:=oI.out (x:=y) o;obtain⟨t,rfl⟩:=r;obtain⟨l,rfl⟩:=p;show w i j t l s _ _ n #[.int<|g i j,H,I.tok _,#[_,rfl],q]
def Nm{f:lT->lT->Sem lT}{g:Int->Int->Int}
  (w:∀(i j:Int)(t u:Tok)(s:lU)(Q:lT->lU->Prop)(E:lT->lU->Prop),Q (.int (g i j) s.toks) {s with toks:=s.toks+1}->∅ (f (.int i t)<|.int j u) Q E s) :
  nW X f (vf λi j=>.int<|g i j):=by
 intro l s z H x y v u Q I r p h;obtain⟨i,rfl,o⟩:=oI.out h;obtain⟨j,rfl,q⟩:=oI.out (x:=y) o;obtain⟨t,rfl⟩:=r;obtain⟨n,rfl⟩:=p;show w i j t n s _ _ #[.int<|g i j,H,I.tok _,#[_,rfl],q]
def Ic{f:lT->lT->Sem lT}{g:Int->Int->Bool}
  (w:∀(i j:Int)(t u:Tok)(s:lU)(Q:lT->lU->Prop)(E:lT->lU->Prop),Q (.bool<|g i j) s->∅ (f (.int i t)<|.int j u) Q E s) :
  nW X f (vf λi j=>.bl<|g i j):=by
 intro l s z H x y v u Q I r p h;obtain⟨i,rfl,o⟩:=oI.out h;obtain⟨j,rfl,q⟩:=oI.out (x:=y) o;obtain⟨t,rfl⟩:=r;obtain⟨n,rfl⟩:=p;show w i j t n s _ _ #[.bl<|g i j,H,I,rfl,q]
def RT(i j:Int):Prop:=0<j/\j<1073741824
def Gn(i j:Int):Prop:=(-(2 ^ 64)<i/\i<2 ^ 64)\/(-(2 ^ 64)<j/\j<2 ^ 64)
def Gn.ok(h:Gn i j):IntMulOk i j:=by
 rcases h with⟨z,y⟩|⟨z,y⟩
 ·show .of_left<|intBits_le_64 z y
 ·show .of_right<|intBits_le_64 z y
def Ta:nW X (binaryOp .Add) (vf λi j=>.int<|i+j):=Nm λ_ _ _ _ _ _ _ q=>add_int q
def vM:nW X (binaryOp .Sub) (vf λi j=>.int<|i-j):=Nm λ_ _ _ _ _ _ _ q=>sub_int q
def xS:nW X (binaryOp .Mult) (rI Gn λi j=>.int<|i * j):=Hh λ_ _ _ _ _ _ _ z q=>mul_int q z.ok
def Yq:nW X (binaryOp .FloorDiv) (rI RT λi j=>.int<|i / j):=Hh λi j _ _ _ _ _ z q=>by
 have y:(0:Int)<j:=z.1;have x:j<1073741824:=z.2;show floordiv_int (by lia) (by rw[Int.fdiv_eq_ediv_of_nonneg i (by lia)];show q) (.inl<|PyProof.noPylong_small<|by lia)
def Yl:nW X (binaryOp .Mod) (rI (λ_ j=>0<j) λi j=>.int<|i%j):=Hh λi j _ _ _ _ _ z q=>by
 have y:(0:Int)<j:=z;show mod_int' (by lia) (by rw[Int.fmod_eq_emod_of_nonneg i (by lia)];show q)
def unI{f:lT->Sem lT}{g:Int->Int}
  (y:∀(i:Int)(t:Tok)(s:lU)(Q:lT->lU->Prop)(E:lT->lU->Prop),Q (.int (g i) s.toks) {s with toks:=s.toks+1}->∅ (f<|.int i t) Q E s) :
  FY X f (rU λi=>.int<|g i):=by
 intro u s z H x v Q I w h;obtain⟨i,rfl,q⟩:=oI.out h;obtain⟨t,rfl⟩:=w;show y i t s _ _ #[.int<|g i,H,I.tok _,#[_,rfl],q]
def An:FY X (unaryOp .USub) (rU λi=>.int (-i)):=unI λ_ _ _ _ _ q=>neg_int q
def NW:V->V->Bool
 | .non,.non=>true|.non,.int _=>true|.int _,.non=>true|.non,.bl _=>true|.bl _,.non=>true|.non,.str _=>true|.str _,.non=>true
 | .int _,.int _=>true|.bl _,.bl _=>true|.str _,.str _=>true|.byt _,.byt _=>true
 | .int _,.str _=>true|.str _,.int _=>true|.bl _,.str _=>true|.str _,.bl _=>true
 | _,_=>false
def Mh:R2:=λx y H Q=>NW x y=true/\Q (.bl<|decide<|x=y) H
def NZ:R2:=λx y H Q=>NW x y=true/\Q (.bl (!decide (x=y))) H
def LX:decide (V.int i=V.int j)=(i ==j):=by
 rw[rh];simp
def Mn:decide (V.bl i=V.bl j)=(i ==j):=by
 rw[rh];simp
def Kv:decide (V.str i=V.str j)=(i ==j):=by
 rw[rh];simp
def MU:decide (V.byt i=V.byt j)=(i.toList ==j.toList):=by
 rw[rh];cases i;cases j;simp
def Yx(I:mI X y z H s)(q:Q (.bl k) H)(e:k=x):EP X y z Q (.bool x) s:=by
 subst e;show#[.bl k,H,I,rfl,q]
def OG:nW X (compareOp .Eq) Mh:=by
 intro n s z H x y v u Q I o w h;obtain⟨p,q⟩:=h;cases x with
 | non =>
  cases o;cases y with
  | non=>cases w;show PySem.EqNone.eq_none_none (Yx I q<|by simp)
  | bl j=>cases w;show PySem.EqNone.eq_none_bool (Yx I q<|by simp)
  | int j=>obtain⟨r,rfl⟩:=w;show PySem.EqNone.eq_none_int (Yx I q<|by simp)
  | str j=>obtain⟨r,rfl⟩:=w;show PySem.EqNone.eq_none_str (Yx I q<|by simp)
  | _=>show absurd (show false=true from p) oU
 | bl i =>
  cases o;cases y with
  | non=>cases w;show PySem.EqNone.eq_bool_none (Yx I q<|by simp)
  | bl j=>cases w;show eq_bool (Yx I q Mn)
  | str j=>obtain⟨r,rfl⟩:=w;show PySem.EqMixed.eq_bool_str (Yx I q<|by simp)
  | _=>show absurd (show false=true from p) oU
 | int i =>
  obtain⟨t,rfl⟩:=o;cases y with
  | non=>cases w;show PySem.EqNone.eq_int_none (Yx I q<|by simp)
  | int j=>obtain⟨r,rfl⟩:=w;show eq_int (Yx I q LX)
  | str j=>obtain⟨r,rfl⟩:=w;show PySem.EqMixed.eq_int_str (Yx I q<|by simp)
  | _=>show absurd (show false=true from p) oU
 | str i =>
  obtain⟨t,rfl⟩:=o;cases y with
  | non=>cases w;show PySem.EqNone.eq_str_none (Yx I q<|by simp)
  | bl j=>cases w;show PySem.EqMixed.eq_str_bool (Yx I q<|by simp)
  | int j=>obtain⟨r,rfl⟩:=w;show PySem.EqMixed.eq_str_int (Yx I q<|by simp)
  | str j=>obtain⟨r,rfl⟩:=w;show eq_str (Yx I q Kv)
  | _=>show absurd (show false=true from p) oU
 | byt i =>
  obtain⟨t,rfl⟩:=o;cases y with
  | byt j=>obtain⟨r,rfl⟩:=w;show PySem.W.eq_bytes (Yx I q MU)
  | _=>show absurd (show false=true from p) oU
 | _=>cases y<;>show absurd (show false=true from p) oU
def VV:nW X (compareOp .NotEq) NZ:=by
 intro n s z H x y v u Q I o w h;obtain⟨p,q⟩:=h;cases x with
 | non =>
  cases o;cases y with
  | non=>cases w;show PySem.EqNone.ne_none_none (Yx I q<|by simp)
  | bl j=>cases w;show PySem.EqNone.ne_none_bool (Yx I q<|by simp)
  | int j=>obtain⟨r,rfl⟩:=w;show PySem.EqNone.ne_none_int (Yx I q<|by simp)
  | str j=>obtain⟨r,rfl⟩:=w;show PySem.EqNone.ne_none_str (Yx I q<|by simp)
  | _=>show absurd (show false=true from p) oU
 | bl i =>
  cases o;cases y with
  | non=>cases w;show PySem.EqNone.ne_bool_none (Yx I q<|by simp)
  | bl j=>cases w;show ne_bool (Yx I q<|oE not Mn)
  | str j=>obtain⟨r,rfl⟩:=w;show PySem.EqMixed.ne_bool_str (Yx I q<|by simp)
  | _=>show absurd (show false=true from p) oU
 | int i =>
  obtain⟨t,rfl⟩:=o;cases y with
  | non=>cases w;show PySem.EqNone.ne_int_none (Yx I q<|by simp)
  | int j=>obtain⟨r,rfl⟩:=w;show ne_int (Yx I q<|oE not LX)
  | str j=>obtain⟨r,rfl⟩:=w;show PySem.EqMixed.ne_int_str (Yx I q<|by simp)
  | _=>show absurd (show false=true from p) oU
 | str i =>
  obtain⟨t,rfl⟩:=o;cases y with
  | non=>cases w;show PySem.EqNone.ne_str_none (Yx I q<|by simp)
  | bl j=>cases w;show PySem.EqMixed.ne_str_bool (Yx I q<|by simp)
  | int j=>obtain⟨r,rfl⟩:=w;show PySem.EqMixed.ne_str_int (Yx I q<|by simp)
  | str j=>obtain⟨r,rfl⟩:=w;show ne_str (Yx I q<|oE not Kv)
  | _=>show absurd (show false=true from p) oU
 | byt i =>
  obtain⟨t,rfl⟩:=o;cases y with
  | byt j=>obtain⟨r,rfl⟩:=w;show PySem.W.ne_bytes (Yx I q<|oE not MU)
  | _=>show absurd (show false=true from p) oU
 | _=>cases y<;>show absurd (show false=true from p) oU
def xb:nW X (compareOp .Lt) (vf λi j=>.bl<|decide<|i<j):=Ic λ_ _ _ _ _ _ _ q=>lt_int q
def sw:nW X (compareOp .LtE) (vf λi j=>.bl<|decide<|i<=j):=Ic λ_ _ _ _ _ _ _ q=>le_int q
def vU:nW X (compareOp .Gt) (vf λi j=>.bl<|decide<|j<i):=Ic λ_ _ _ _ _ _ _ q=>gt_int q
def WK:nW X (compareOp .In) (λx y H Q=>∃i j,x=.str i/\y=.str j/\Q (.bl (!(Builtin.Str.occurrences j i 0 j.length 1).isEmpty)) H):=by
 intro p s z H x y v u Q I w r h;obtain⟨i,j,rfl,rfl,q⟩:=h;obtain⟨t,rfl⟩:=w;obtain⟨o,rfl⟩:=r;show in_str<|Yx I q rfl
def yu:nW X (compareOp .Is) (λx y H Q=>y=.non/\Q (.bl<|decide<|x=.non) H):=by
 intro p s z H x y v u Q I w r h;obtain⟨rfl,q⟩:=h;cases r;refine is_none_gen<|Yx I q ?_;cases x<;>first
  | (cases w;rfl)
  | (obtain⟨t,rfl⟩:=w;rfl)
def Yco:nW X (compareOp .IsNot) (λx y H Q=>y=.non/\Q (.bl (!decide (x=.non))) H):=by
 intro p s z H x y v u Q I w r h;obtain⟨rfl,q⟩:=h;cases r;refine isnot_none_gen<|Yx I q ?_;cases x<;>first
  | (cases w;rfl)
  | (obtain⟨t,rfl⟩:=w;rfl)
def nW.or{f:lT->lT->Sem lT}(h:nW X f r)(h':nW X f n):nW X f (λx y H Q=>r x y H Q\/n x y H Q):=by
 intro w s z H x y v u Q I p o q;rcases q with q|q
 ·show h w s z H x y v u Q I p o q
 ·show h' w s z H x y v u Q I p o q
def Yn(b:ma)(h:op≠.In:=by lk)(z:op≠.NotIn:=by lk):behindInMarks op b=false:=by
 have y:(op ==CmpOp.In)=false:=by cases op<;>first|rfl|show absurd rfl h
 have x:(op ==CmpOp.NotIn)=false:=by cases op<;>first|rfl|show absurd rfl z
 cases b<;>simp[behindInMarks,y,x]
def uT(w:nW X (compareOp op) r)(p:PE X a o)(n:PE X b l)(j:behindInMarks op b=false):PE X (.Compare a [op] [b] pos) (qQ r o l):=by
 intro i s z H Q I h;show wpAny_Compare1 (Gg p n I h λv u g x y e d c Y q=>w i g z e x y v u Q d c Y q) j
def xL(t:TE):TT:=λz H Q=>t z H λx y=>oB x λk=>Q k y
def Yf(o:nW X (compareOp op) r)(n:PE X a l)(j:PE X b i)(g:behindInMarks op b=false):PT X (.Compare a [op] [b] pos) (xL<|qQ r l i):=by
 intro q s z H Q I h;refine wpAny_isTrue_Compare1 (mZ (n q s z H _ I h) λv d ⟨x,Y,U,N,M⟩=>mZ (j q d z Y _ U M) λu L ⟨y,J,G,E,D⟩ =>
  mZ (o q L z J x y v u _ G N E D) λc s3 ⟨w,C,B,A,p⟩=>?_) g
 obtain⟨k,e,p⟩:=oB.out p;subst e;cases A;show tX #[C,B,p]
def YX(r s:R2)(q p o:TE):TE:=λz H Q=>q z H λx n=>p z n λy l=>r x y l λw u=>oB w λk =>
 (if k=true then o z u λj i=>s y j i Q else Q (.bl false) u)
def zm(g:nW X (compareOp op) r)(n:nW X (compareOp q) Y)(U:PE X a N)(M:PE X b L)(J:PE X c G)
  (E:lastMarks [op,q] [b,c]=false:=by with_unfolding_all rfl):PT X (.Compare a [op,q] [b,c] pos) (xL<|YX r Y N L G):=by
 intro p s z H Q I h;refine isTrue_chain (mZ (U p s z H _ I h) λv D ⟨x,C,B,A,q1⟩=>test_link (mZ (M p D z C _ B q1) λu s2 ⟨y,H2,I2,l,q2⟩ =>
  mZ (g p s2 z H2 x y v u _ I2 A l q2) λd s3 ⟨w,j,i,r3,o⟩=>?_)) E
 obtain⟨k,e,o⟩:=oB.out o;subst e;cases r3;refine tX ?_;cases k with
 | false =>
  show ite_ff #[j,i,o]
 | true =>
  refine ite_tt<|test_last<|mZ (J p s3 z j _ i o) λw d ⟨D,C,B,A,q4⟩=>mZ (n p d z C y D u w _ B l A q4) λd' s5 ⟨z2,H5,I5,r5,x⟩=>?_;obtain⟨w,e2,x⟩:=oB.out x;subst e2;cases r5;show tX #[H5,I5,x]
def OC(K:lW)(x:V)(H:Hp)(k:Bool):Prop :=
 match x with
 | .non=>k=false
 | .bl b=>k=b
 | .int i=>k=(i !=0)
 | .str y=>y.length<=sizeLine/\k=((y.length:Int) !=0)
 | .byt y=>y.size<=sizeLine/\k=((y.size:Int) !=0)
 | .ref p=>(∃z,SqL K H p z/\k=!z.isEmpty)\/(∃z,SqT K H p z/\k=!z.isEmpty)\/∃w,H p=some (.dK w)/\k=!w.isEmpty
 | _=>False
def Zt7{z:Type}{kvs:lQ (z×V)}{vs:lQ (z×lT)}(r:KV kvs vs):(!vs.isEmpty)=!kvs.isEmpty:=by
 cases r<;>rfl
def Qw(r:Z7 xs z):(!z.toArray.isEmpty)=!xs.isEmpty:=by
 cases r<;>simp
def yQ:(sizeLine:Nat)<2 ^ 63:=by rw[tJ];decide
def SW:Yjl X (λx H Q=>∃k,OC X.K x H k/\Q k H):=by
 intro U s z H x v Q I n h;obtain⟨k,e,q⟩:=h;have N:=yQ;have M:sizeLine=16777216:=tJ;cases x with
 | non =>
  cases n;have w:k=false:=e;subst w;show truthy_none #[H,I,q]
 | bl b =>
  cases n;have w:k=b:=e;subst w;show tX #[H,I,q]
 | int i =>
  obtain⟨t,rfl⟩:=n;have w:k=(i !=0):=e;subst w;show PySem.P.truthy_int #[H,I,q]
 | str y =>
  obtain⟨t,rfl⟩:=n;obtain⟨c,w⟩:y.length<=sizeLine/\k=((y.length:Int) !=0):=e;subst w;show PySem.P.truthy_str (by lia) #[H,I.tok _,q]
 | byt y =>
  obtain⟨t,rfl⟩:=n;obtain⟨c,w⟩:y.size<=sizeLine/\k=((y.size:Int) !=0):=e;subst w;show PySem.W.truthy_bytes (by lia) #[H,I.tok _,q]
 | ref p =>
  cases n;have w:(∃o,SqL X.K H p o/\k=!o.isEmpty)\/(∃o,SqT X.K H p o/\k=!o.isEmpty)\/∃u,H p=some (.dK u)/\k=!u.isEmpty:=e;rcases w with⟨o,l,w⟩|⟨o,l,w⟩|⟨u,l,w⟩
  ·subst w;obtain⟨a,r,i,g⟩:=I.list l;have d:=r.length;show wpAny_truthy_list i.isList (by simp only[oz];lia) #[H,I.tok _,by rw[Qw r];show q]
  ·subst w;obtain⟨a,r,i,g⟩:=I.tuple l;have d:=r.length;show truthy_tuple i (by simp only[oz];lia) #[H,I.tok _,by rw[Qw r];show q]
  ·subst w;obtain⟨g,Y,j,r,m⟩:u.length<=sizeLine/\(p ==sysModules)=false/\∃j,KV u j/\s.heap.DictOf (Z1 X.prog X.w) p j:=I.hok p _ l;have d:u.length=j.length:=nH r;show wpAny_truthy_dict Y m (by lia) #[H,I.tok _,by rw[Zt7 r];show q]
 | _=>show(show False from e).elim
def HW(u:PE X a r)(he:∀y,isTrue a X.env y=(do let v <-y;standAt a.pos;holding [v] (truthy v))) :
  PT X a (λz H Q=>r z H λx H'=>∃k,OC X.K x H' k/\Q k H'):=by
 intro w s z H Q I h;show isTrue_plain (mZ (u w s z H _ I h) λv q ⟨x,p,o,n,l⟩=>SW w q z p x v Q o n l)<|he _
def ZJ:nW X (binaryOp .Add) (λx y H Q=>∃i j,x=.str i/\y=.str j/\i.length+j.length<=sizeLine/\Q (.str<|i++j) H):=by
 intro n s z H x y v u Q I w r h;obtain⟨i,j,rfl,rfl,p,q⟩:=h;obtain⟨t,rfl⟩:=w;obtain⟨o,rfl⟩:=r;show add_str (λo l=>#[.str<|i++j,H,I.tok _,#[_,rfl],q]) p
def W5(r:Z7 [x] us):∃u,us=[u]/\Yd x u:=by
 cases r with
 | cons z y=>cases y;show#[_,rfl,z]
def wp(r:Z7 [x,y] us):∃u z,us=[u,z]/\Yd x u/\Yd y z:=by
 cases r with
 | cons w s =>
  cases s with
  | cons q p=>cases p;show#[_,_,rfl,w,q]
def Lo(x:X.calm=true):Xe X (.builtin "max") (λxs H Q=>∃i j,xs=[.int i,.int j]/\Q (.int<|if j >i then j else i) H):=by
 intro w s z H xs p Q I r h;obtain⟨i,j,rfl,q⟩:=h;obtain⟨u,o,rfl,⟨t,rfl⟩,⟨n,rfl⟩⟩:=wp r;refine max_two_ints (I.ok.hd x) λl g k=>#[_,H,I.kept k,?_,q]
 by_cases y:j >i
 ·rw[mU y,mU y];show#[_,rfl]
 ·rw[mT y,mT y];show#[_,rfl]
def Li(x:X.calm=true):Xe X (.builtin "min") (λxs H Q=>∃i j,xs=[.int i,.int j]/\Q (.int<|if j<i then j else i) H):=by
 intro w s z H xs p Q I r h;obtain⟨i,j,rfl,q⟩:=h;obtain⟨u,o,rfl,⟨t,rfl⟩,⟨n,rfl⟩⟩:=wp r;refine min_two_ints (I.ok.hd x) λl g k=>#[_,H,I.kept k,?_,q]
 by_cases y:j<i
 ·rw[mU y,mU y];show#[_,rfl]
 ·rw[mT y,mT y];show#[_,rfl]
def HM:Xe X (.type "int") (λxs H Q=>(∃i,xs=[.int i]/\Q (.int i) H)\/∃k,xs=[.bl k]/\Q (.int<|if k then 1 else 0) H):=by
 intro x s z H xs w Q I r h;rcases h with⟨i,rfl,q⟩|⟨k,rfl,q⟩
 ·obtain⟨u,rfl,t,rfl⟩:=W5 r;show call_int_int #[.int i,H,I,#[_,rfl],q]
 ·obtain⟨u,rfl,y⟩:=W5 r;cases y;show call_int_bool #[.int<|if k then 1 else 0,H,I.tok _,#[_,rfl],q]
def By:Xe X (.type "str") (λxs H Q=>∃i,xs=[.int i]/\i.natAbs.log2<1920/\Q (.str<|toString i) H):=by
 intro x s z H xs w Q I r h;obtain⟨i,rfl,y,q⟩:=h;obtain⟨u,rfl,t,rfl⟩:=W5 r;show PySem.P.str_of_int y #[.str _,H,I.tok _,#[_,rfl],q]
structure wU(h:Heap)(x dx C:Addr)(mA:Str->Option Value):Prop where
 obj:h.get? x=some (PySem.W.instObj C dx)
 ns:h.Ns1 dx mA
 ne:dx≠x
def FK{h:lY}{x:lS}{w:lR->lV lT}(n:h.Ns1 x w):∃od,h.get? x=some od/\∀name,PySem.W.lookIn name od=some (w name):=by
 obtain⟨o,u,g,s,hd,r,_,p⟩:=n;refine#[o,s,λname=>?_];have e:=p name;unfold nsFind findBy at e;rw[<-Array.find?_toList]at e;unfold PySem.W.lookIn;rw[hd];dsimp only;split
 ·rename_i y q;rw[q]at e;show oE some e
 ·rename_i q;rw[q]at e;have a:u.toList.any (·.refKey)=false:=by
   rw[List.any_eq_false];intro y l;obtain⟨z,t,j⟩:=r y<|zM.mp l;simp[DictEntry.refKey,j]
  have i:¬u.toList.any (·.refKey)=true:=by rw[a];show oU
  rw[mT i];show oE some e
def wU.look{z:lR->lV lT}(I:wU h x y C z):∃od,PySem.W.InstAt h x (PySem.W.instObj C y) C (some od)/\∀name,PySem.W.lookIn name od=some (z name) :=
 let⟨od,w,u⟩:=FK I.ns
 #[od,#[I.obj,rfl,rfl,w],u]
section
variable {prog:md} {w:lZ} {A:me} {E:lT->lU->Prop} {s:lU} {K:lW} {x dx C f:lS} {mA:lR->lV lT} {name:lR} {v:lT}
def Uz{Q:lT->lU->Prop}(X:K.In s.heap)(I:wU s.heap x dx C mA)(y:PySem.W.plainGet K C name=true)(u:PySem.W.hasDictIn K C=true)
  (r:findIn K (.ref C) name=some none) (q:mA name=some v) (z:PySem.W.handedIn v=true) (h:Q v {s with toks:=s.toks+1}) :
  wpAny (model prog w) A (getAttr (.ref x) name expr) Q E s:=by
 obtain⟨o,J,p⟩:=I.look;show PySem.W.get_value X J (HS y).1 (Nc u r rfl<|by rw[p,q]) z h
def Yax{Q:lT×lQ lT->lU->Prop}(X:K.In s.heap)(I:wU s.heap x dx C mA)(z:PySem.W.plainGet K C name=true)
  (y:findIn K (.ref C) name=some (some<|.ref f)) (u:PySem.W.isFn K (.ref f)=true) (r:mA name=none) (h:Q (.ref f,[.ref x]) s) :
  wpAny (model prog w) A (getMethod (.ref x) name pl) Q E s:=by
 obtain⟨q,J,p⟩:=I.look;show PySem.W.method_fn X J (HS z).1 (HS z).2 y (rK.mp u) (by change(PySem.W.lookIn name q).map (·.isSome)=some false;rw[p,r];rfl) h
def YN{Q:Unit->lU->Prop}(X:K.In s.heap)(I:wU s.heap x dx C mA)
  (l:findIn K (.ref C) "__setattr__"=some (some<|.builtin "object.__setattr__")) (j:PySem.W.plainOver K C=true) (i:PySem.W.takerIn K C name=some none) (g:PySem.W.hasDictIn K C=true)
  (e:PySem.Within mA ns) (hsz:ns.length<=sizeLine)
  (h:∀h',wU h' x dx C (λy=>if y=name then some v else mA y)->Heap.SameBut dx s.heap h'->Q () {s with heap:=h',toks:=s.toks+2}) :
  wpAny (model prog w) A (setAttr (.ref x) name v) Q E s:=by
 obtain⟨Y,J,U⟩:=I.look;refine PySem.W.set_plain X J l<|PySem.W.osa_open (s:={s with toks:=s.toks+1}) (r:=none) X J j i λb=>?_;obtain⟨Y,d,q⟩:=PySem.W.any_some g;have c:s.heap.get? x=some #[.ref C,some dx,.plain,#[]]:=I.obj;refine mS<|nG<|mS<|mS<|Iw c<|mS<|PySem.W.Looks.here (s:={s with toks:=s.toks+1}) (GZ X d) ?_;rw[q];refine nG (a:=some dx)<|mS<|nG<|mS ?_;refine wpAny_nsSet1 (s:={s with toks:=s.toks+1}) I.ns λh' z u=>?_
 obtain⟨N,Y,U,p,o,n⟩:=z.count<|PySem.Within.cons name v e;refine mS<|wpAny_lookBehind p (by rw[o];show pastItsLine_dict<|ow n<|by rw[pE];lia) ?_;show nG<|h _ #[(u.2 _<|oM I.ne).trans I.obj,z,I.ne] u
def Ya8{R:Result->lU->Prop}(X:K.In s.heap)(y:PySem.W.makesIn K C=true)
  (u:findIn K (.ref C) "__init__"=some (some<|.ref f)) (r:PySem.W.typeIn K (.ref f)=some (.type "function"))
  (h:codeAny (model prog w) (A.under<|.builtin "type.__call__" #[.ref C ::vs,z]) (.call (.ref f) #[.ref (#v[s]+1) ::vs,z]) (PySem.W.InitBack (#v[s]+1) R)
   {s with heap:=(s.heap.push PySem.W.emptyDict).push (PySem.W.instObj C #v[s])}) :
  codeAny (model prog w) A (.call (.ref C) #[vs,z]) R s:=by
 obtain⟨q,g,d,t,os⟩:=s;show PySem.W.make_core (PySem.W.makes_of X y) (Ap X u) (λself=>PySem.W.bind_fn X self r) (.inl rfl) h
end
def rn(f:lR)(v:V):lQ (lR×V)->lQ (lR×V)
 | []=>[(f,v)]
 | (g,x) ::r=>if g=f then(g,v) ::r else(g,x) ::rn f v r
theorem Lg(f g:lR)(v:V):∀fs:lQ (lR×V),(rn f v fs).lookup g=if g=f then some v else fs.lookup g
 | []=>by
  change List.lookup g [(f,v)]=_
  by_cases h:g=f
  ·have z:(g ==f)=true:=rK.mpr h;simp only[List.lookup,z,mU h]
  ·have z:(g ==f)=false:=qt.mpr h;simp only[List.lookup,z,mT h]
 | (k,x) ::r=>by
  have w:=Lg f g v r;rw[show rn f v ((k,x) ::r)=(if k=f then(k,v) ::r else(k,x) ::rn f v r)from rfl]
  by_cases y:k=f
  ·rw[mU y]
   by_cases h:g=k
   ·have z:(g ==k)=true:=rK.mpr h;simp only[List.lookup,z,mU<|h.trans y]
   ·have z:(g ==k)=false:=qt.mpr h;simp only[List.lookup,z,mT (λe:g=f=>h<|e.trans y.symm)]
  ·rw[mT y]
   by_cases h:g=k
   ·have z:(g ==k)=true:=rK.mpr h;simp only[List.lookup,z,mT (λe:g=f=>y<|h.symm.trans e)]
   ·have z:(g ==k)=false:=qt.mpr h;simp only[List.lookup,z];show w
theorem Ef(f:lR)(v:V):∀fs:lQ (lR×V),f∈(rn f v fs).map (·.1)/\∀g,g∈fs.map (·.1)->g∈(rn f v fs).map (·.1)
 | []=>#[by simp[rn],λg h=>by simp at h]
 | (k,x) ::r=>by
  obtain⟨y,w⟩:=Ef f v r;rw[show rn f v ((k,x) ::r)=(if k=f then(k,v) ::r else(k,x) ::rn f v r)from rfl]
  by_cases z:k=f
  ·rw[mU z];subst z;show#[by simp,λg h=>by simpa using h]
  ·rw[mT z];refine#[?_,λg h=>?_]
   ·rw[nV];show pG _ y
   ·rw[nV]at h ⊢;rcases nU.mp h with e|e
    ·show nU.mpr<|.inl e
    ·show pG _<|w g e
theorem QG(f:lR)(v:V):∀fs:lQ (lR×V),(rn f v fs).length<=fs.length+1
 | []=>by simp[rn]
 | (k,x) ::r=>by
  have y:=QG f v r;rw[show rn f v ((k,x) ::r)=(if k=f then(k,v) ::r else(k,x) ::rn f v r)from rfl]
  by_cases z:k=f
  ·rw[mU z,pE,pE];lia
  ·rw[mT z,pE,pE];lia
def pR.some_of(r:pR (some v) o):∃u,o=some u/\Yd v u:=by
 cases o with
 | none=>show(show False from r).elim
 | some u=>show#[u,rfl,r]
def pR.none_of(r:pR none o):o=none:=by
 cases o with
 | none=>rfl
 | some u=>show(show False from r).elim
def PJ(r:Yd v u):PySem.W.handedIn u=true:=by
 cases v with
 | non=>cases(show u=Value.none from r);rfl
 | bl b=>cases(show u=Value.bool b from r);rfl
 | int i=>obtain⟨t,e⟩:=(show ∃t,u=Value.int i t from r);cases e;rfl
 | str x=>obtain⟨t,e⟩:=(show ∃t,u=Value.str x t from r);cases e;rfl
 | byt b=>obtain⟨t,e⟩:=(show ∃t,u=Value.bytes b t from r);cases e;rfl
 | flt b=>obtain⟨t,e⟩:=(show ∃t,u=Value.float b t from r);cases e;rfl
 | ref a=>cases(show u=Value.ref a from r);rfl
 | ty n=>cases(show u=Value.type n from r);rfl
section
def DH(x:oq P w H h)(e:H a=some (.ins C u fs)):∃y,wU h a u C y/\(∀f,pR (fs.lookup f)<|y f)/\PySem.Within y (fs.map (·.1))/\fs.length<=1000/\H u=some (.own a):=by
 obtain⟨d,z,s,p,y,n,r,q⟩:=(show Z8 P w H h a (.ins C u fs)from x a _ e)
 show#[y,#[p,n,s],r,q,z,d]
end
structure pP(K:Frag)(C:Addr):Prop where
 pg:PySem.W.plainGet K C Str.empty=true
 hd:PySem.W.hasDictIn K C=true
 po:PySem.W.plainOver K C=true
 sa:findIn K (.ref C) "__setattr__"=some (some<|.builtin "object.__setattr__")
def pP.get{K:lW}{C:lS}(c:pP K C)(f:lR):PySem.W.plainGet K C f=true:=c.pg
def mV(K:lW)(C:lS)(f:lR):Prop:=findIn K (.ref C) f=some none
def mV.taker{K:lW}{C:lS}{f:lR}(n:mV K C f):PySem.W.takerIn K C f=some none:=by
 unfold PySem.W.takerIn;rw[show findIn K (.ref C) f=some none from n]
 rfl
structure Xb(K:Frag)(C:Addr)(m:Str)(f:Addr):Prop where
 at_:findIn K (.ref C) m=some (some<|.ref f)
 fn:PySem.W.isFn K (.ref f)=true
 kp:keepIn K (.ref f)=true
section
variable {E:lT->lU->Prop}
def ZA{Q:lT->lU->Prop}(I:mI X x z H s)(e:H a=some (.ins C p fs))(c:pP X.K C)(n:mV X.K C f)(l:fs.lookup f=some v)
  (h:∀u s',mI X x z H s'->Yd v u->Q u s'):wpAny (model X.prog X.w) A (getAttr (.ref a) f b) Q E s:=by
 obtain⟨w,O,r,_,_,_⟩:=DH I.hok e;obtain⟨u,q,y⟩:=pR.some_of (v:=v) (o:=w f) (by rw[<-l];show r f);show Uz I.kIn O (c.get f) c.hd n q (PJ y)<|h u _ (I.tok _) y
def ET{Q:lT×lQ lT->lU->Prop}(I:mI X w z H s)(e:H a=some (.ins C u fs))(c:pP X.K C)(k:Xb X.K C m g)(l:fs.lookup m=none)
  (h:Q (.ref g,[.ref a]) s):wpAny (model X.prog X.w) A (getMethod (.ref a) m pl) Q E s:=by
 obtain⟨y,O,r,_,_,_⟩:=DH I.hok e;have x:y m=none:=pR.none_of (by rw[<-l];show r m);show Yax I.kIn O (c.get m) k.at_ k.fn x h
def XC{Q:Unit->lU->Prop}(I:mI X Y z H s)(e:H a=some (.ins C p fs))(c:pP X.K C)(n:mV X.K C f)(B:fs.length<1000)(U:Yd y u)
  (h:∀s',mI X Y z (mJ H a<|.ins C p<|rn f y fs) s'->Q () s'):wpAny (model X.prog X.w) A (setAttr (.ref a) f u) Q E s:=by
 obtain⟨j,O,r,i,_,d⟩:=DH I.hok e;have N:(fs.map (·.1)).length<=sizeLine:=by rw[mK,tJ];lia
 refine YN I.kIn O c.sa c.po n.taker c.hd i N λM l L=>h _ ?_
 have hd:∃o,M.get? p=some o:=let⟨o,_,_,J,_⟩:=l.ns;#[o,J];refine I.write (x:=a) (e:=p) (by rw[e];show ri) (.inr d) (λb q G w=>(L.2 b G).trans w) hd ?_;refine#[by rw[Zd O.ne];show d,?_,O.ne,l.obj,_,l.ns,λg=>?_,λg D=>?_]
 ·have:=QG f y fs;lia
 ·change pR ((rn f y fs).lookup g) (if g=f then some u else j g);rw[Lg]
  by_cases q:g=f
  ·rw[mU q,mU q];show U
  ·rw[mT q,mT q];show r g
 ·by_cases q:g=f
  ·rw[q];show(Ef f y fs).1
  ·refine(Ef f y fs).2 g (i g λw=>D ?_);change(if g=f then some u else j g)=none;rw[mT q];show w
def mI.made(I:mI X r z H s):mI X r z (mJ (mJ H #v[s] (.own<|#v[s]+1)) (#v[s]+1)<|.ins C #v[s] [])
  {s with heap:=(s.heap.push PySem.W.emptyDict).push (PySem.W.instObj C #v[s])}:=by
 have x:(s.heap.push PySem.W.emptyDict).get? #v[s]=some PySem.W.emptyDict:=oQ s.heap rfl;have p:((s.heap.push PySem.W.emptyDict).push (PySem.W.instObj C #v[s])).get? (#v[s]+1)=some (PySem.W.instObj C #v[s]):=by
  have:=oQ (s.heap.push PySem.W.emptyDict) (o:=PySem.W.instObj C #v[s]) rfl;rwa[vD]at this
 have n:(s.heap.push PySem.W.emptyDict).Ns #v[s] (λ_=>none):=#[PySem.W.emptyDict,#[],_,x,rfl,(λe he=>absurd he<|by simp),λ_=>rfl]
 have l:=I.laid (a:=#v[s]) (o:=.own<|#v[s]+1) (h':=s.heap.push PySem.W.emptyDict) (t':=s.toks) (λb u q=>nQ _ q) (nk _) #[_,x];refine l.laid (a:=#v[s]+1) (o:=.ins C #v[s] []) (t':=s.toks) (λb u q=>nQ _ q) (vJ<|vD _ _) ?_;have w:#v[s]≠#v[s]+1:=oi<|zK _;refine#[by rw[Zd w,Zc],sH _,w,p,λ_=>none,(Heap.Ns1.of_empty n).at λo q=>nQ _ q,λ_=>ri,λy j=>absurd rfl j]
def Nx{Q:lT->lU->Prop}(z:attributeBase e f env (eval e env)=eval e env)
  (h:wpAny (model prog w) A (eval e env) (λo y=>wpAny (model prog w) A (getAttr o f true) Q E y) E s):wpAny (model prog w) A (eval (.Attribute e f pos) env) Q E s :=
 Attribute_any_ h (by rw[arm_eval_Attribute,z])
end
inductive PM(K:Frag)(f:Str)(Q:VK)(H:Hp):V->Prop
 | mk {a C dx fs v}:H a=some (.ins C dx fs)->pP K C->mV K C f->fs.lookup f=some v->Q v H->PM K f Q H (.ref a)
def Yje(K:lW)(y:TE)(f:lR):TE:=λz H Q=>y z H λx w=>PM K f Q w x
inductive SF(K:Frag)(f:Str)(y:V)(H:Hp)(k:Hp->Prop):V->Prop
 | mk {a C dx fs}:H a=some (.ins C dx fs)->pP K C->mV K C f->fs.length<1000->k (mJ H a<|.ins C dx<|rn f y fs)->SF K f y H k (.ref a)
def Yju(K:lW)(w u:TE)(f:lR):TS:=λD z H=>u z H λy s=>w z s λx r=>SF K f y r (D.nx z) x
def Z6(he:PE X e y)(w:attributeBase e f X.env (eval e X.env)=eval e X.env):PE X (.Attribute e f pos) (Yje X.K y f):=by
 intro r s z H Q I h;refine Nx w<|mZ (he r s z H _ I h) λu x p=>?_;obtain⟨x,o,j,i,@⟨a,C,U,fs,v,g,c,n,l,q⟩⟩:=p;obtain rfl:u=Value.ref a:=i;show ZA j g c n l λN M d Y=>#[v,o,d,Y,q]
def Wr(r:PE X o p)(j:PE X value i)(g:swapsWith value (some<|.Attribute o f e) pos.line X.env=pure false):PS X (.Assign [.Attribute o f e] value pos) (Yju X.K p i f):=by
 intro w s z H D I h;refine Ry (mZ (j w s z H _ I h) λu d Y=>?_) g;obtain⟨y,U,Q,N,q⟩:=Y;refine mZ (r w d z U _ Q q) λM s2 L=>?_
 obtain⟨x,y,J,G,@⟨a,C,u,fs,E,c,n,l,B⟩⟩:=L;obtain rfl:M=Value.ref a:=G;show XC J E c n l N λs3 A=>#[z,_,A,B]
def Yeu{pl:Sem Bool}{m:lR}{w:Pos}{args:lQ ma}{r:lQ (lS×Obj)}{s:lU}{z:St}{H:Hp}{Q:lT->lU->Prop}{o:TE}(he:PE X e o)(I:mI X r z H s)
  (h:o z H λx p=>∃a C n fs g,x=.ref a/\p a=some (.ins C n fs)/\pP X.K C/\Xb X.K C m g/\fs.lookup m=none/\
   ∀y,mI X r z p y->∅ (callWith pos (.ref g) [.ref a] (backTo pos<|starEach args X.env) (backToKw pos<|keywordEach [] X.env)) Q X.xe y)
  (d:eval (.Call (.Attribute e m w) args [] pos) X.env=(do
   let j <-eval e X.env
   standAt w.atName
   let(f,first) <-holding [j] (getMethod j m pl)
   callWith pos f first (backTo pos<|starEach args X.env) (backToKw pos<|keywordEach [] X.env))) :
  ∅ (eval (.Call (.Attribute e m w) args [] pos) X.env) Q X.xe s:=by
 refine FH (pl:=pl) (mZ (he r s z H _ I h) λu y Y=>?_) d;obtain⟨x,p,i,U,a,C,n,fs,g,N,M,c,k,l,q⟩:=Y;subst N;obtain rfl:u=Value.ref a:=U;show ET i M c k l<|q y i
section
variable {E:lT->lU->Prop} {Q:lT->lU->Prop}
inductive Xp(K:Frag)(H:Hp):V->Value->Prop where
 | non:Xp K H .non (.type "NoneType")
 | bl (x:Bool):Xp K H (.bl x) (.type "bool")
 | int (i:Int):Xp K H (.int i) (.type "int")
 | str (x:Str):Xp K H (.str x) (.type "str")
 | flt (x:UInt64):Xp K H (.flt x) (.type "float")
 | lst {a:Addr} {xs:List V} (e:H a=some (.lst xs)):Xp K H (.ref a) (.type "list")
 | frz {a:Addr} {o:Obj} {xs:List V} (e:H a=some (.frz o<|.lst xs)):Xp K H (.ref a) (.type "list")
 | tup {a:Addr} {xs:List V} (e:H a=some (.tup xs)):Xp K H (.ref a) (.type "tuple")
 | dK {a:Addr} {kvs:List (ng×V)} (e:H a=some (.dK kvs)):Xp K H (.ref a) (.type "dict")
 | dT {a:Addr} {kvs:List (List ng×V)} (e:H a=some (.dT kvs)):Xp K H (.ref a) (.type "dict")
 | ins {a C dx:Addr} {fs:List (Str×V)} (e:H a=some (.ins C dx fs)) (cl:pP K C) (ha:findIn K (.ref C) "__class__"=some (some<|.builtin "object.__class__"))
   (hn:PySem.W.specialIn K (.builtin "object.__class__") "__get__"=some (some<|.builtin "getset_descriptor.__get__")) (htk:PySem.W.takesIn K (.builtin "object.__class__")=some true)
   (hm:PySem.W.mroIn K C (.type "object")=some true):Xp K H (.ref a) (.ref C)
def OS(I:mI X c7 z H s)(r:Yd x u)(N:Xp X.K H x t)(e:kitOne X.K t c=some b)(h:∀M,Q (.bool b) {s with toks:=M}) :
  wpAny (model X.prog X.w) A (call (.builtin "isinstance") [u,c]) Q E s:=by
 cases N with
 | non=>cases(show u=Value.none from r);show rA PySem.W.kitx_none I.kIn ri e (λy=>nomatch y) h
 | bl w=>cases(show u=Value.bool w from r);show rA PySem.W.kitx_bool I.kIn ri e (λy=>nomatch y) h
 | int i=>obtain⟨t,q⟩:=(show ∃t,u=Value.int i t from r);cases q;show rA PySem.W.kitx_int I.kIn ri e (λy=>nomatch y) h
 | str w=>obtain⟨t,q⟩:=(show ∃t,u=Value.str w t from r);cases q;show rA PySem.W.kitx_str I.kIn ri e (λy=>nomatch y) h
 | flt w=>obtain⟨t,q⟩:=(show ∃t,u=Value.float w t from r);cases q;show rA PySem.W.kitx_float I.kIn ri e (λy=>nomatch y) h
 | @lst a d l =>
  cases(show u=Value.ref a from r);obtain⟨_,_,n,_,j⟩:=(show Z8 X.prog X.w H s.heap a (.lst d)from I.hok a _ l)
  show rA PySem.W.kitx_list I.kIn #[_,j,rfl] e (λy=>nomatch y) h
 | @frz a i d l =>
  cases(show u=Value.ref a from r);obtain⟨_,_,_,n,_,j⟩:=(show Z8 X.prog X.w H s.heap a (.frz i<|.lst d)from I.hok a _ l)
  show rA PySem.W.kitx_list I.kIn #[_,j,rfl] e (λy=>nomatch y) h
 | @tup a d l =>
  cases(show u=Value.ref a from r);obtain⟨_,_,_,p⟩:=(show Z8 X.prog X.w H s.heap a (.tup d)from I.hok a _ l)
  obtain⟨o,j,Y,_⟩:=p;show rA PySem.W.kitx_tuple I.kIn #[o,j,Y] e (λy=>nomatch y) h
 | @dK a g l =>
  cases(show u=Value.ref a from r);obtain⟨_,_,i,_,p⟩:=(show Z8 X.prog X.w H s.heap a (.dK g)from I.hok a _ l)
  obtain⟨o,L,G,j,Y,_⟩:=p;show rA PySem.W.kitx_dict I.kIn #[o,j,Y.1] e (λy=>nomatch y) h
 | @dT a g l =>
  cases(show u=Value.ref a from r);obtain⟨_,_,d,_,o,L,G,j,Y,_⟩:=(show Z8 X.prog X.w H s.heap a (.dT g)from I.hok a _ l)
  show rA PySem.W.kitx_dict I.kIn #[o,j,Y.1] e (λy=>nomatch y) h
 | @ins a C dx fs l U D B i hm =>
  cases(show u=Value.ref a from r);obtain⟨mA,O,_⟩:=DH I.hok l;obtain⟨od,J,_⟩:=O.look;show rA (PySem.W.kitx_own (U.get _) U.hd D B i hm) I.kIn J e (λy=>nomatch y) h
end
structure Y4(k:Nat)(A:Around):Prop where
 hd:A.handled=none
 dp:A.depth+3 * k+5<recursionLimit
 un:A.units+16 * k+200<cLine
 gd:A.guards=some []
def Y4.mono(r:Y4 k A)(h:j<=k):Y4 j A:=#[r.hd,by have:=r.dp;lia,by have:=r.un;lia,r.gd]
def Y4.m{j k:Nat}{A:me}(r:Y4 k A)(h:j<=k:=by lk):Y4 j A:=r.mono h
def Y4.deeper(r:Y4 (k+1) A)(env:Env):Y4 k (A.deeper env) :=
 #[r.hd,by have:=r.dp;change A.depth+1+3 * k+5<_;lia,by have:=r.un;change A.units+3+16 * k+200<_;lia,r.gd]
def RK{A:me}{C:lS}{us:lQ lT}{z:lQ (lR×lT)}:(A.under<|.builtin "type.__call__" #[.ref C ::us,z]).depth=A.depth+1:=by
 first|rfl|simp[Around.under,Code.weight,Code.isCreation,Code.isGuard,Code.isCaller,Code.frames,Code.isFrame,guardIds]
def WM{A:me}{C:lS}{us:lQ lT}{z:lQ (lR×lT)}:(A.under<|.builtin "type.__call__" #[.ref C ::us,z]).units=A.units+1:=by
 first|rfl|simp[Around.under,Code.cUnits,Code.frames,Code.isFrame]
def UA{A:me}{C:lS}{us:lQ lT}{z:lQ (lR×lT)}:(A.under<|.builtin "type.__call__" #[.ref C ::us,z]).guards=A.guards:=by
 first|rfl|simp[Around.under,Code.guards,Code.isGuard,guardIds,pushGuards]
def Y4.make{k:Nat}{A:me}(r:Y4 (k+1) A)(C:lS)(us:lQ lT)(z:lQ (lR×lT)):Y4 k (A.under<|.builtin "type.__call__" #[.ref C ::us,z]) :=
 #[r.hd,by have:=r.dp;rw[RK];lia,by have:=r.un;rw[WM];lia,UA.trans r.gd]
def Y4.depth(r:Y4 k A):A.depth<recursionLimit:=by have:=r.dp;lia
def Y4.units(r:Y4 k A):A.units+64<cLine:=by have:=r.un;lia
def wD:TA:=λ_ H Q=>Q [] H
def tY(y:TE)(w:TA):TA:=λz H Q=>y z H λx u=>w z u λs r=>Q (x ::s) r
def Za:PA X [] wD:=λ_ _ _ _ H Q I h=>AF #[[],H,I,.nil,h]
def Vy(q:PE X e p)(o:PA X w t)(n:starEach (e ::w) X.env=(false,eval e X.env) ::starEach w X.env:=by rfl):PA X (e ::w) (tY p t):=by
 intro y r s z H Q I h;rw[n];change wpAny _ _ (spliced<|(false,eval e X.env) ::backTo y (starEach w X.env)) _ _ s;refine yK<|mZ (q r s z H _ I h) λu l ⟨x,j,i,g,d⟩=>?_;show mZ (o y r l z j _ i d) λM L ⟨c,a,Y,U,N⟩=>#[x ::c,a,Y,.cons g U,N]
abbrev Sp:=lQ V->Hp->VK->XK->Prop
abbrev uJ:=lQ Env->Hp->lU->XK->lT->lU->Prop
structure sZ(P:Program)(w:World)(K:Frag)(mg:Str->Option Value)(mD:Heap)(A:Around)(mB:List Env)(s:Shared)(H:Hp):Prop where
 frames:A.frames=some mB
 mod:Mod K mg mD
 bs:∀b o,mD.get? b=some o->s.heap.get? b=some o/\H b=none
 bsz:mD.objs.size<=#v[s]
 funs:s.heap.FunFrames mD mB
 frf:∀b∈oF mB,H b=none
 hok:oq P w H s.heap
 bare:AllBare s.gens
def CE(y:lQ Env)(P:md)(w:lZ)(H:Hp)(s:lU)(Q:VK)(u:lT)(s':lU):Prop :=
 ∃v z,s'.os=s.os/\AllBare s'.gens/\Un (oF y) [] H z s.heap s'.heap/\oq P w z s'.heap/\Yd v u/\Q v z
def CR(y:uJ)(z:lQ Env)(P:md)(w:lZ)(H:Hp)(s:lU)(Q:VK)(E:XK)(r:Result)(s':lU):Prop :=
 match r with
 | .ok (.ret u)=>CE z P w H s Q u s'
 | .ok _=>False
 | .error e=>y z H s E e s'
structure Xs(P:Program)(w:World)(K:Frag)(mg:Str->Option Value)(mD:Heap)(CX:uJ)(k:Nat)(f:Addr)(fd:FuncData)(ps:List Str)(sp:Sp):Prop where
 len:∀vs H Q E,sp vs H Q E->vs.length=ps.length
 run:∀(A:Around)(mB:List Env)(s:Shared)(H:Hp)(args:Args)(us:List Value)(vs:List V)(Q:VK)(E:XK),Y4 k A->sZ P w K mg mD A mB s H->BindsTo s fd args (ps.zip us)->Z7 vs us->sp vs H Q E->
  codeAny (model P w) A (.call (.ref f) args) (CR CX mB P w H s Q E) s
def Xs.mono{P:md}{w:lZ}{K:lW}{z:lR->lV lT}{mD:lY}{y:uJ}{j k:Nat}{f:lS}{fd:mf}{ps:lQ lR}{x:Sp}(F:Xs P w K z mD y j f fd ps x)(h:j<=k) :
  Xs P w K z mD y k f fd ps x:=#[F.len,λA u s H args r q Q E p=>F.run A u s H args r q Q E<|p.mono h]
def sZ.make{P:md}{w:lZ}{K:lW}{z:lR->lV lT}{mD:lY}{A:me}{y:lQ Env}{s:lU}{H:Hp}(e:sZ P w K z mD A y s H)(C:lS)(us:lQ lT)(x:lQ (lR×lT)) :
  sZ P w K z mD (A.under<|.builtin "type.__call__" #[.ref C ::us,x]) y s H:=#[by first|show e.frames|(simpa[Around.under,Code.envs,Code.isFrame,pushEnvs]using e.frames),e.mod,e.bs,e.bsz,e.funs,e.frf,e.hok,e.bare]
def mI.env0(I:mI X y z H s):sZ X.prog X.w X.K X.mg X.mD X.A X.stack s H :=
 #[I.ok.frames,I.ok.mod,I.bs,ow I.ok.bsz I.sz,I.stack,I.stkFree,I.hok,I.bare]
def mI.after(I:mI X o z H s)(h:CE X.stack X.prog X.w H s Q u s'):EP X o z Q u s':=by
 obtain⟨v,n,os,x,un,w,r,q⟩:=h;obtain⟨l,g,d,t,p⟩:=s';obtain rfl:p=s.os:=os;show#[v,n,I.call (h':=l) (g':=g) (d':=d) (t':=t) (ch:=[]) un w x (λb y=>absurd y<|by simp),r,q]
def IK(y:Sp)(x:lQ V)(E:XK)(t:TA):TE:=λz H Q=>t z H λw u=>y (w++x) u Q E
inductive MI(C:Addr)(m:Str)(H:Hp)(k:V->Prop):V->Prop
 | mk {a dx fs}:H a=some (.ins C dx fs)->fs.lookup m=none->k (.ref a)->MI C m H k (.ref a)
def GO(C:lS)(m:lR)(w:Sp)(u:lQ V)(E:XK)(s:TE)(t:TA):TE:=λz H Q=>s z H λx y=>MI C m y (λx=>t z y λr q=>w (x ::(r++u)) q Q E) x
def qx(K:lW)(fd:mf)(ps:lQ lR)(ds:lQ lT):Prop :=
 ∀(s:lU)(z:lQ lT),K.In s.heap->(z++ds).length=ps.length->BindsTo s fd #[z,[]] (ps.zip<|z++ds)
def qx.all{K:lW}{fd:mf}{ps:lQ lR}(h:∀us:lQ lT,us.length=ps.length->bindArgs fd #[us,[]]=pure (ps.zip us)):qx K fd ps []:=λs us _ z=>by
 rw[pH]at z ⊢;show .of_eq<|h us z
def sM(x:uJ)(X:Cx)(E:XK):Prop:=∀(w:lQ (lS×Obj)) (z:St) (H:Hp) (s:lU) (e:lT) (y:lU),mI X w z H s->x X.stack H s E e y->X.xe e y
def Fb(F:Xs X.prog X.w X.K X.mg X.mD p k f fd ps o)(n:Y4 k X.A)(l:qx X.K fd ps ds)(hd:Z7 x ds)(j:sM p X E)
  (I:mI X w z H s) (r:Z7 vs us) (h:o (vs++x) H Q E):∅ (call (.ref f) us) (EP X w z Q) X.xe s:=by
 have q:Z7 (vs++x) (us++ds):=r.append hd;have i:(us++ds).length=ps.length:=by rw[<-q.length];show F.len _ _ _ _ h
 refine ux<|ve (F.run X.A X.stack s H #[us,[]] (us++ds) (vs++x) Q E n I.env0 (l s us I.kIn i) q h) λr g y=>?_;cases r with
 | error e=>show j w z H s e g I y
 | ok e =>
  cases e with
  | ret u=>show I.after y
  | next=>show False.elim y
  | brk=>show False.elim y
  | cont=>show False.elim y
def Xy(F:Xs X.prog X.w X.K X.mg X.mD u k f fd ps o)(n:Y4 k X.A)(l:Gl X x)(j:X.mg x=some (.ref f))(i:keepIn X.K (.ref f)=true)(g:qx X.K fd ps ds)(hd:Z7 d ds)(c:sM u X E)
  (a:PA X (e ::y) t) (Y:(x ==("__debug__":lR))=false:=by lk) (he:starEach (e ::y) X.env=(false,eval e X.env) ::starEach y X.env:=by rfl) (U:(backTo pos<|starEach y X.env).any (·.1)=false:=by rfl) :
  PE X (.Call (.Name x p) (e ::y) [] pos) (IK o d E t):=by
 intro N s z H Q I h;refine vB<|xj I l j ?_ Y;refine AI (h₀:=X.mD) I.ok.mod.kin i (mZ (a pos N s z H _ I h) λM L ⟨J,G,w,r,q⟩=>#[w.kIn,?_]) he U;show Fb F n g hd c w r q
def Yb(he:PE X o d)(c:pP X.K C)(w:Xb X.K C m f)(F:Xs X.prog X.w X.K X.mg X.mD Y k f fd ps U)(N:Y4 k X.A)(M:qx X.K fd ps ds)(hd:Z7 L ds)(J:sM Y X E)(G:PA X (e ::y) t)
  (D:starEach (e ::y) X.env=(false,eval e X.env) ::starEach y X.env:=by rfl) (B:(backTo pos<|starEach y X.env).any (·.1)=false:=by rfl)
  (A:eval (.Call (.Attribute o m p) (e ::y) [] pos) X.env=(do
   let n <-eval o X.env
   standAt p.atName
   let(f,first) <-holding [n] (getMethod n m pl)
   callWith pos f first (backTo pos<|starEach (e ::y) X.env) (backToKw pos<|keywordEach [] X.env)):=by rfl) :
  PE X (.Call (.Attribute o m p) (e ::y) [] pos) (GO C m U L E d t):=by
 intro j s z H Q I h;refine FH (pl:=pl) (mZ (he j s z H _ I h) λu s1 h9=>?_) A;obtain⟨x,H1,i,rx,@⟨a,dx,fs,ea,l,q⟩⟩:=h9;obtain rfl:u=Value.ref a:=rx;refine ET i ea c w l ?_;refine AI (first:=[.ref a]) (h₀:=X.mD) I.ok.mod.kin w.kp (mZ (G pos j s1 z H1 _ i q) λus x ⟨vs,H2,g,r,q2⟩=>#[g.kIn,?_]) D B;show Fb (us:=.ref a ::us) (vs:=.ref a ::vs) F N M hd J g (.cons rfl r) q2
def Y1{pl:Sem Bool}(he:PE X o n)(c:pP X.K C)(w:Xb X.K C m f)(F:Xs X.prog X.w X.K X.mg X.mD j k f fd ps i)(g:Y4 k X.A)(e:qx X.K fd ps ds)(hd:Z7 d ds)(Y:sM j X E)
  (U:eval (.Call (.Attribute o m r) [] [] pos) X.env=(do
   let p <-eval o X.env
   standAt r.atName
   let(f,first) <-holding [p] (getMethod p m pl)
   callWith pos f first (backTo pos<|starEach [] X.env) (backToKw pos<|keywordEach [] X.env)):=by rfl) :
  PE X (.Call (.Attribute o m r) [] [] pos) (GO C m i d E n wD):=by
 intro N s z H Q I h;refine FH (pl:=pl) (mZ (he N s z H _ I h) λu x M=>?_) U;obtain⟨x,G,y,L,@⟨a,D,fs,J,l,q⟩⟩:=M;obtain rfl:u=Value.ref a:=L;refine ET y J c w l ?_;show PySem.W.callWith_K0 (first:=[.ref a]) y.kIn w.kp<|Fb (us:=[.ref a]) (vs:=[.ref a]) F g e hd Y y (.cons rfl .nil) q
structure Mk(K:Frag)(C f:Addr):Prop where
 makes:PySem.W.makesIn K C=true
 init:findIn K (.ref C) "__init__"=some (some<|.ref f)
 fn:PySem.W.isFn K (.ref f)=true
 kp:keepIn K (.ref C)=true
def Ybo(M:Mk X.K C f)(F:Xs X.prog X.w X.K X.mg X.mD j k f fd ps i)(g:Y4 (k+1) X.A)(d:qx X.K fd ps ds)(hd:Z7 p ds)
  (c:sM j X E) (I:mI X o z H s) (r:Z7 vs us)
  (h:∀x w,H x=none->H w=none->w≠x->i (.ref x ::(vs++p)) (mJ (mJ H w<|.own x) x<|.ins C w []) (λv a=>v=.non/\Q (.ref x) a) E) :
  ∅ (call (.ref C) us) (EP X o z Q) X.xe s:=by
 have n:=h (#v[s]+1) #v[s] (I.hok.fresh<|rV _) (I.hok.fresh<|nk _) (oi<|zK _);have q:=mI.made (C:=C) I;have l:Z7 (V.ref (#v[s]+1) ::(vs++p)) (Value.ref (#v[s]+1) ::(us++ds)):=.cons rfl<|r.append hd;have Y:(Value.ref (#v[s]+1) ::us++ds).length=ps.length:=by
  have e:=l.length;rw[F.len _ _ _ _ n]at e;show e.symm
 refine ux (Ya8 (f:=f) I.kIn M.makes M.init (rK.mp M.fn) (ve (F.run _ X.stack _ _ #[Value.ref (#v[s]+1) ::us,[]] (Value.ref (#v[s]+1) ::(us++ds)) _ _ E (g.make C us [])
  (q.env0.make C us []) (d _ (Value.ref (#v[s]+1) ::us) q.kIn Y) l n) λr U y=>?_))
 cases r with
 | error e=>show c o z _ _ e U q y
 | ok N =>
  cases N with
  | ret u =>
   obtain⟨v,L,J,G,D,B⟩:=q.after y;subst D;show#[G,#[V.ref<|#v[s]+1,L,J,rfl,B]]
  | next=>show False.elim y
  | brk=>show False.elim y
  | cont=>show False.elim y
structure Zw(N P:List Str)(sc:Scope):Prop where
 kind:sc.kind=.function:=by rfl
 co:sc.isCoroutine=false:=by rfl
 gen:sc.isGenerator=false:=by rfl
 nd:N.Nodup:=by left
 pre:N.take P.length=P:=by rfl
 par:∀x∈P,sc.names.lookup x=some .local\/sc.names.lookup x=some .cell:=by left
 nofree:∀y∈sc.names,y.2≠.free:=by left
theorem Km{kindOf:lR->lV NameKind}:∀{binds:lQ (lR×lT)}{m:lR->lV lT},(∀v,(x,v)∉binds)->bindL kindOf binds m x=m x
 | [],_,_=>rfl
 | (n,v) ::r,m,h=>by
  unfold bindL;rw[Km λw z=>h w<|pG _ z];split
  ·have:x≠n:=by rintro rfl;show h v ph
   simp[this]
  ·rfl
theorem Mi{kindOf:lR->lV NameKind}:∀{binds:lQ (lR×lT)}{m:lR->lV lT},(∀v,(x,v)∉binds)->bindC kindOf binds m x=m x
 | [],_,_=>rfl
 | (n,v) ::r,m,h=>by
  unfold bindC;rw[Mi λw z=>h w<|pG _ z];split
  ·rfl
  ·have:x≠n:=by rintro rfl;show h v ph
   simp[this]
theorem Op{kindOf:lR->lV NameKind} :∀{P:lQ lR}{vs:lQ lT}{i:Nat}{m:lR->lV lT},P.Nodup->P[i]? =some x->vs[i]? =some v->kindOf x=some .local->
  bindL kindOf (P.zip vs) m x=some v
 | [],_,_,_,_,h,_,_=>by simp at h
 | _ ::_,[],_,_,_,_,h,_=>by simp at h
 | p ::P,w ::vs,0,m,u,z,y,s=>by
  simp at z y;subst z;subst y;change bindL kindOf ((p,w) ::P.zip vs) m p=_;unfold bindL;rw[Km λv r=>(pS.mp u).1 (uV r).1,mU s];simp
 | p ::P,w ::vs,i+1,m,u,z,y,s=>by
  change bindL kindOf ((p,w) ::P.zip vs) m x=_;unfold bindL;show Op (i:=i) (pS.mp u).2 (by simpa using z) (by simpa using y) s
theorem Lf{kindOf:lR->lV NameKind} :∀{P:lQ lR}{vs:lQ lT}{i:Nat}{m:lR->lV lT},P.Nodup->P[i]? =some x->vs[i]? =some v->kindOf x≠some .local->
  bindC kindOf (P.zip vs) m x=some v
 | [],_,_,_,_,h,_,_=>by simp at h
 | _ ::_,[],_,_,_,_,h,_=>by simp at h
 | p ::P,w ::vs,0,m,u,z,y,s=>by
  simp at z y;subst z;subst y;change bindC kindOf ((p,w) ::P.zip vs) m p=_;unfold bindC;rw[Mi λv r=>(pS.mp u).1 (uV r).1,mT s];simp
 | p ::P,w ::vs,i+1,m,u,z,y,s=>by
  change bindC kindOf ((p,w) ::P.zip vs) m x=_;unfold bindC;show Lf (i:=i) (pS.mp u).2 (by simpa using z) (by simpa using y) s
def start(N:lQ lR)(vs:lQ V):St:=vs.map some++List.replicate (N.length-vs.length) none
def oS(x:uJ)(P:md)(w:lZ)(K:lW)(mg:lR->lV lT)(mD:lY)(N:lQ lR)(qual:lR)(scope:Scope)(f:lS)(z:lT)(A:me)(mB:lQ Env)(s:lU)(H:Hp)(E:XK):Cx where
 prog:=P
 w:=w
 K:=K
 mg:=mg
 mD:=mD
 A:=A.deeper (envOfC qual scope #v[s] f z)
 N:=N
 mh:=s
 mj:=H
 env:=envOfC qual scope #v[s] f z
 mB:=mB
 stack:=envOfC qual scope #v[s] f z ::mB
 ex:=[]
 calm:=true
 fn:=λ_=>true
 pn:=[]
 xe:=λe u=>wpAny (model P w) (A.deeper<|envOfC qual scope #v[s] f z) (leaving (envOfC qual scope #v[s] f z) e) (λ_ y=>x mB H s E e y) (λr y=>x mB H s E r y) u
def OT{z:Scope}{n:Nat}{x:lR}(h:z.names.lookup x=some .cell):∃c,(cellsFrom n z.names []).lookup x=some c:=by
 have q:=HU z.names n [] (.inl h);show Gj.mp q
def ME{J:uJ}{P:md}{w:lZ}{K:lW}{M:lR->lV lT}{mD:lY}{N ps:lQ lR}{qual:lR}{scope:Scope}{f:lS}{Y:lT}{A:me}{L:lQ Env}{s I:lU}{H:Hp}{E:XK}{us:lQ lT}{vs:lQ V}
  (S:Zw N ps scope) (hd:A.handled=none) (l:sZ P w K M mD A L s H) (hl:vs.length=ps.length) (r:Z7 vs us)
  (x:InCallC s #v[s] (bindL (envOfC qual scope #v[s] f Y).kindOf (ps.zip us) λ_=>none) (cellsFrom (#v[s]+1) scope.names []) (bindC (envOfC qual scope #v[s] f Y).kindOf (ps.zip us) λ_=>none) I) :
  mI (oS J P w K M mD N qual scope f Y A L s H E) [] (start N vs) H I:=by
 have u0:ps.length<=N.length:=by have:=oE List.length S.pre;rw[oh]at this;lia
 obtain⟨U,u,rfl,G⟩:=x.done;have j:∀b:lS,b∉(oS J P w K M mD N qual scope f Y A L s H E).ex:=λb z=>absurd (show b∈([]:lQ lS)from z) (by simp)
 refine#[#[l.mod,S.kind,rfl,rfl,nk _,λy z c U o=>?_,λy g=>?_,λy c _ h=>?_,λ_=>hd,Around.frames_deeper l.frames,.inr #[rfl,rfl],λb z=>absurd z<|j b,l.bs,l.bsz,λb _ _=>j b,λb z=>absurd z<|j b,l.funs,l.frf],
  rfl,l.bare,Un.kept G,#[_,x.toInCall.ns,λi y v U o u=>?_],λy c h=>#[_,x.cell y c h],l.hok.fresh<|nk _,λy c h=>?_,λp d=>absurd (show p∈([]:lQ (lS×Obj))from d) (by simp),l.hok.kept G,?_]
 ·show name_of_addr x.apart (rS U)<|rS o
 ·have g:scope.names.lookup y=some .cell\/scope.names.lookup y=some .free:=g;rcases g with g|g
  ·show OT g
  ·show absurd rfl<|S.nofree _<|rS g
 ·show pA<|x.above y c<|rS h
 ·have Q:i<vs.length:=by
   unfold start at o
   by_cases Q:i<vs.length
   ·show Q
   ·rw[yM (by simpa using Q)]at o;rw[FJ]at o;split at o<;>cases o
  have C:vs[i]? =some v:=by
   unfold start at o;rw[AT (by simpa using Q),nJ]at o;cases e:vs[i]? with
   | none=>rw[e]at o;cases o
   | some a=>rw[e]at o;cases o;rfl
  obtain⟨u,D,B⟩:=r.get C;have d:ps[i]? =some y:=by
   rw[<-S.pre,List.getElem?_take_of_lt<|by lia];show U
  have p:ps.Nodup:=by rw[<-S.pre];show S.nd.sublist<|Ca _ _
  refine#[u,B,?_];rcases S.par y (pe d)with k|k
  ·show .inl #[k,Op p d D k]
  ·obtain⟨c,e⟩:=OT (n:=#v[s]+1) k;refine .inr #[.inl k,c,e,?_];have q:=x.cell y c e;rw[Lf p d D (by change scope.names.lookup y≠_;rw[k];decide)]at q;show q
 ·show l.hok.fresh<|pA<|x.above y c<|rS h
 ·unfold start;change _=N.length;rw[nX,mK,Oy];lia
def Dw{g:uJ}{P:md}{w:lZ}{K:lW}{d:lR->lV lT}{mD:lY}{k:Nat}{f:lS}{name qual:lR}{params:Arguments}{body:lQ lX}{scope:Scope}{L kV G D p C oc:lT}{B od:lV lS}
  {O0:Array (lV lT)} {N ps:lQ lR} {c:Sp} (lk:K.lookup f=some #[oc,od,.func<|fnOf name qual params body scope L kV G D B p C,O0]) (E6:codeIn K p qual=true) (S:Zw N ps scope)
  (len:∀vs H Q E,c vs H Q E->vs.length=ps.length)
  (w5:∀(A:me)(j:lQ Env)(s:lU)(H:Hp)(vs:lQ V)(Q:VK)(E:XK),Y4 k (A.deeper<|envOfC qual scope #v[s] f p)->c vs H Q E->
   ∃t,qM (oS g P w K d mD N qual scope f p A j s H E) body t/\t {nx:=λ_ H'=>Q .non H',rt:=Q} (start N vs) H) :
  Xs P w K d mD g (k+1) f (fnOf name qual params body scope L kV G D B p C) ps c:=by
 refine#[len,λA j s H args us vs Q E a h hb r T4=>?_];have hl:=len _ _ _ _ T4;have KX:K.In s.heap:=h.mod.kin.keeps λb o e=>(h.bs b o e).1
 have Y:s.heap.NoLimit:=h.mod.nolimit.keeps λb o e=>(h.bs b o e).1
 have l:∀y∈ps.zip us,scope.names.lookup y.1=some .local\/(scope.names.lookup y.1=some .cell/\((cellsFrom (#v[s]+1) scope.names []).lookup y.1).isSome=true):=λ⟨n,v⟩ hy=>by
  rcases S.par n (uV hy).1 with q|q
  ·show .inl q
  ·show .inr #[q,HU _ _ _<|.inl q]
 refine codeAny_call_function a.depth (KX _ _ lk) rfl S.co S.gen rfl (Rv KX E6)<|hb _ _ _ _ ?_;refine JO S.kind l λenv he s1 x=>?_
 subst he;refine#[Y.keeps x.toInCall.keep,codeAny_func ?_];obtain⟨t,ht,hq⟩:=w5 A j s H vs Q E (a.deeper _) T4;have I:mI (oS g P w K d mD N qual scope f p A j s H E) [] (start N vs) H s1:=ME S a.hd h hl r x;refine pX (ht [] s1 (start N vs) H _ I hq) (λfl U i=>?_) λe U i=>i
 have fin:∀{z:St}{H':Hp}{v:V}{u:lT},mI (oS g P w K d mD N qual scope f p A j s H E) [] z H' U->Yd v u->Q v H'->CE j P w H s Q u U :=
  λ{z H' v u} J M q=>#[v,H',J.os,J.bare,J.mD,J.hok,M,q]
 cases fl with
 | ret u =>
  obtain⟨v,z,H',J,M,q⟩:=i;show fin J M q
 | next =>
  obtain⟨z,H',J,q⟩:=i;show fin (v:=V.non) (u:=Value.none) J rfl q
 | brk =>
  obtain⟨_,_,_,q⟩:=i;show False.elim q
 | cont =>
  obtain⟨_,_,_,q⟩:=i;show False.elim q
section
variable {x:lR} {p pos:Pos} {e:ma} {es:lQ ma} {t:TA} {id T:String} {r:lQ V->Hp->VK->Prop}
def yx(r:lQ V->Hp->VK->Prop)(t:TA):TE:=λz H Q=>t z H λy w=>r y w Q
def Z4(w:Xe X (.builtin id) r)(u:Gl X x)(q:X.mg x=none)(o:bootBuiltins x=some (.builtin id))(n:PA X (e ::es) t)(l:x≠ "__name__":=by lk)(j:(x ==("__debug__":lR))=false:=by lk)
  (he:starEach (e ::es) X.env=(false,eval e X.env) ::starEach es X.env:=by rfl) (i:(backTo pos<|starEach es X.env).any (·.1)=false:=by rfl):PE X (.Call (.Name x p) (e ::es) [] pos) (yx r t):=by
 intro y s z H Q I h;refine vB<|xy I u q o ?_ l j;show PyProof.Rows.callWith_builtin1 (mZ (n pos y s z H _ I h) λg d ⟨c,a,Y,U,N⟩=>w y d z a c g Q Y U N) he i
def Y0(w:Xe X (.type T) r)(u:Gl X x)(q:X.mg x=none)(o:bootBuiltins x=some (.type T))(n:PA X (e ::es) t)(l:x≠ "__name__":=by lk)(j:(x ==("__debug__":lR))=false:=by lk)
  (he:starEach (e ::es) X.env=(false,eval e X.env) ::starEach es X.env:=by rfl) (i:(backTo pos<|starEach es X.env).any (·.1)=false:=by rfl):PE X (.Call (.Name x p) (e ::es) [] pos) (yx r t):=by
 intro y s z H Q I h;refine vB<|xy I u q o ?_ l j;show Ar (mZ (n pos y s z H _ I h) λg d ⟨c,a,Y,U,N⟩=>w y d z a c g Q Y U N) he i
end
end L2
namespace HT
open PySem PyProof.Rows
section
variable {E:lT->lU->Prop}
def sIx(n d:Nat):lV Int->Nat
 | none=>d
 | some v=>if v<0 then(v+(n:Int)).toNat else min v.toNat n
def sIx_none(n d:Nat):sIx n d none=d:=rfl
def sIx_nat(n d k:Nat):sIx n d (some (k:Int))=min k n:=by
 change(if(k:Int)<0 then((k:Int)+(n:Int)).toNat else min (k:Int).toNat n)=min k n;rw[mT (by lia),zC]
def Ygp(n d:Nat)(hd:d<=n)(o:lV Int):sIx n d o<=n:=by
 cases o with
 | none=>show hd
 | some v =>
  change(if v<0 then(v+(n:Int)).toNat else min v.toNat n)<=n
  by_cases z:v<0
  ·rw[mU z];lia
  ·rw[mT z];show Nat.min_le_right _ _
def Kd(v:Int)(n d:Nat):(if v<0 then max (v+(n:Int)) 0 else min v (n:Int))=((sIx n d (some v):Nat):Int):=by
 change(if v<0 then max (v+(n:Int)) 0 else min v (n:Int))=(((if v<0 then(v+(n:Int)).toNat else min v.toNat n):Nat):Int)
 by_cases z:v<0
 ·simp only[mU z];lia
 ·simp only[mT z];lia
def Ue(lo z:lV Int)(n:Nat):Builtin.Slice.sliceAdjust lo z 1 (n:Int)=(((sIx n 0 lo:Nat):Int),((sIx n n z:Nat):Int)):=by
 have y:¬((1:Int)<0):=by lia
 unfold Builtin.Slice.sliceAdjust;simp only[y,rD];refine Prod.ext ?_ ?_
 ·cases lo with
  | none=>rfl
  | some v=>show Kd v n 0
 ·cases z with
  | none=>rfl
  | some v=>show Kd v n n
def Vl(i j:Nat):Builtin.Slice.slicePlaces (i:Int) (j:Int) 1=j-i:=by
 unfold Builtin.Slice.slicePlaces;have z:(1:Int)>0:=by lia
 simp only[z,ud,Int.ediv_one];split<;>lia
def QJ{Q:lV Int->lU->Prop}(p:IsPart v o)(h:Q o s):wpAny (model prog w) A (Builtin.Slice.slicePartIndex v) Q E s:=by
 cases p with
 | none=>show slicePart_none h
 | int i t=>show slicePart_int h
def UB{q:lS}{vl r:lT}{lo z:lV Int}{n:Nat}{Q:Int×Int×Nat->lU->Prop}(p:s.heap.IsSliceOf q vl r .none)(pl:IsPart vl lo)(o:IsPart r z)
  (h:Q (((sIx n 0 lo:Nat):Int),1,sIx n n z-sIx n 0 lo) s):wpAny (model prog w) A (Builtin.Slice.sliceApplied (.ref q)<|pure (n:Int)) Q E s:=by
 obtain⟨os,y,l,u⟩:=id p;unfold Builtin.Slice.sliceApplied Builtin.Slice.sliceFields;refine mS<|mS<|xP y u (x:=vl) rfl<|mS<|xP y u (x:=r) rfl<|mS<|xP y u (x:=.none) rfl<|nG ?_;refine mS<|slicePart_none ?_;change wpAny _ _ (if((1:Int) ==0)=true then _ else _) _ _ s;rw[mT (by lk)];refine mS<|QJ pl<|mS<|QJ o<|mS<|nG ?_;change wpAny _ _ (match Builtin.Slice.sliceAdjust lo z 1 (n:Int)with|(lo,z)=>pure (lo,(1:Int),Builtin.Slice.slicePlaces lo z 1)) _ _ s;rw[Ue lo z n];change wpAny _ _ (pure (((sIx n 0 lo:Nat):Int),(1:Int),Builtin.Slice.slicePlaces ((sIx n 0 lo:Nat):Int) ((sIx n n z:Nat):Int) 1)) _ _ s;rw[Vl];show nG h
def Uc(xs:Array lT)(i k:Nat):((List.range k).filterMap λ(m:Nat)=>xs[((i:Int)+(m:Int) * 1).toNat]?).toArray=((xs.toList.drop i).take k).toArray:=by
 have e:(λ(m:Nat)=>xs[((i:Int)+(m:Int) * 1).toNat]?)=λm=>xs[i+m]? :=by
  funext m
  have:((i:Int)+(m:Int) * 1).toNat=i+m:=by lia
  rw[this]
 rw[e];have:=pick_run xs i k;rw[List.filterMap_map]at this;have z:((λx=>xs[x]?) ∘ λx=>i+x)=λm=>xs[i+m]? :=rfl
 rw[z]at this;rw[this]
def getItem_tuple_cut{t r:lS}{z:Array lT}{vl n:lT}{lo y:lV Int}{Q:lT->lU->Prop}(x:IsTup s.heap t z)(l:s.heap.IsSliceOf r vl n .none)(pl:IsPart vl lo)(j:IsPart n y)
  (i:¬(sIx z.size 0 lo=0/\sIx z.size z.size y=z.size))
  (h:Q (.ref #v[s]) {s with heap:=s.heap.push {cls:=.type "tuple",data:=.seq ((z.toList.drop<|sIx z.size 0 lo).take (sIx z.size z.size y-sIx z.size 0 lo)).toArray}})
  (hsz:z.size<=sizeLine):wpAny (model prog w) A (getItem (.ref t)<|.ref r) Q E s:=by
 have u:sizeOk (.seq ((z.toList.drop<|sIx z.size 0 lo).take (sIx z.size z.size y-sIx z.size 0 lo)).toArray):=by
  change((z.toList.drop<|sIx z.size 0 lo).take (sIx z.size z.size y-sIx z.size 0 lo)).toArray.size<=sizeLine;rw[oz,oh,sP,tV];show ow (Nat.min_le_right ..)<|ow (Nat.sub_le ..) hsz
 have c:sIx z.size z.size y<=z.size:=Ygp _ _ (nk _) y;obtain⟨os,p,g,e⟩:=id l;have o:s.TypeIs (.ref r) "slice":=#[os,p,g]
 unfold getItem
 try with_reducible refine qW ?_
 first|refine mS (nG ?_)|skip
 refine mS<|wpAny_sequenceKey x.typeIs (by lk) ?_;refine mS (wpAny_callSpecial?_slot (name:=Str.ofString "__getitem__") x.typeIs Dl
  (DL Dl x.typeIs entry_tuple_getitem ?_<|args_tuple_getitem _ _))
 change wpAny _ _ (Builtin.Tuple.tupleItemsOf (.ref t)>>=_) _ _ s;refine mS<|tupleItemsOf_ x ?_;refine mS<|Ba o ?_;rw[mU (by lk)];refine mS<|UB l pl j ?_;have d:¬((((sIx z.size 0 lo:Nat):Int) ==0 && (1:Int) ==1 && (sIx z.size z.size y-sIx z.size 0 lo) ==z.size)=true):=by
  intro q;rw[qu,qu]at q;have a:((sIx z.size 0 lo:Nat):Int)=0:=eq_of_beq q.1.1;have Y:sIx z.size z.size y-sIx z.size 0 lo=z.size:=eq_of_beq q.2;show i #[by lia,by lia]
 change wpAny _ _ (if(((sIx z.size 0 lo:Nat):Int) ==0 && (1:Int) ==1 && (sIx z.size z.size y-sIx z.size 0 lo) ==z.size)=true then _ else _) _ _ s;rw[mT d,Uc]
 first
  | show mS (m:=Builtin.Tuple.tupleExact _) (wx (nG #[_,rfl,nG h]) u)
  | show mS (m:=Builtin.Tuple.tupleExact _) (wx (mS<|nG<|nG #[_,rfl,nG h]) u)
  | show mS (mS (m:=Builtin.Tuple.tupleExact _)<|wx (nG<|nG #[_,rfl,nG h]) u)
  | show mS<|mS (m:=Builtin.Tuple.tupleExact _)<|wx (nG #[_,rfl,nG h]) u
end
end HT
namespace L2
open PySem PySem.Spec PyProof.Rows
abbrev TO:=St->Hp->(lV Int->Hp->Prop)->Prop
def PO(X:Cx)(e:lV ma)(t:TO):Prop :=
 ∀(y:lQ (lS×Obj)) (s:lU) (z:St) (H:Hp) (Q:lV Int->Hp->Prop),mI X y z H s->t z H Q->
  ∅ (evalPart e X.env) (λu w=>∃o x,mI X y z x w/\IsPart u o/\Q o x) X.xe s
def Ycr:TO:=λ_ H Q=>Q none H
def Sk(t:TE):TO:=λz H Q=>t z H λx y=>oI x λi=>Q (some i) y
section
variable {X:Cx} {e:ma} {te:TE} {lo hi:lV ma} {tl th:TO} {pos p2:Pos}
def Wl:PO X none Ycr:=by
 intro y s z H Q I h;rw[evalPart_none];show nG #[none,H,I,.none,h]
def Xw(h:PE X e te):PO X (some e) (Sk te):=by
 intro y s z H Q I w;rw[evalPart_some];refine mZ (h y s z H _ I w) λu l ⟨x,r,p,o,n⟩=>?_
 obtain⟨i,rfl,q⟩:=oI.out n;obtain⟨t,rfl⟩:=o;show#[some i,r,p,.int i t,q]
def rT(X:Cx)(r:V->lV Int->lV Int->Hp->VK->Prop):Prop :=
 ∀(y:lQ (lS×Obj)) (s:lU) (z:St) (H:Hp) (x:V) (v w u:lT) (lo hi:lV Int) (q:lS) (Q:VK),mI X y z H s->Yd x v->s.heap.IsSliceOf q w u .none->IsPart w lo->IsPart u hi->r x lo hi H Q->
  ∃T id,typeLookup (.type T) "__getitem__"=pure (some<|.builtin id)/\s.TypeIs v T/\∅ (getItem v<|.ref q) (EP X y z Q) X.xe s
def rT.or{r y:V->lV Int->lV Int->Hp->VK->Prop}(h:rT X r)(h':rT X y):rT X (λx lo hi H Q=>r x lo hi H Q\/y x lo hi H Q):=by
 intro w s z H x v u p lo hi o Q I n l j i q;rcases q with q|q
 ·show h w s z H x v u p lo hi o Q I n l j i q
 ·show h' w s z H x v u p lo hi o Q I n l j i q
def tSl(r:V->lV Int->lV Int->Hp->VK->Prop)(te:TE)(tl th:TO):TE:=λz H Q=>te z H λx y=>tl z y λl w=>th z w λu s=>r x l u s Q
def Xq{r:V->lV Int->lV Int->Hp->VK->Prop}(n:rT X r)(he:PE X e te)(j:PO X lo tl)(i:PO X hi th):PE X (.Subscript e (.Slice lo hi none p2) pos) (tSl r te tl th):=by
 intro y s z H Q I h;refine Subscript_<|mZ (he y s z H _ I h) λv g ⟨x,d,c,a,Y⟩=>?_;refine wpAny_Slice<|mZ (j y g z d _ c Y) λw U ⟨l,N,M,L,J⟩=>mZ (i y U z N _ M J) λp s3 ⟨u,o,G,E,D⟩=>?_;rw[evalPart_none];refine nG ?_;have C:mI X y z o {s3 with heap:=s3.heap.push {cls:=.type "slice",data:=.fields (List.toArray [w,p,.none])}}:=G.kept (t':=s3.toks) λb ob q=>nQ _ q
 obtain⟨T,id,B,A,hg⟩:=n y {s3 with heap:=s3.heap.push {cls:=.type "slice",data:=.fields (List.toArray [w,p,.none])}} z o x v w p l u #v[s3] Q C a (Heap.IsSliceOf.new ..) L E D;change ∅ (subscriptTail e (.Slice lo hi none p2) v<|.ref #v[s3]) (EP X y z Q) X.xe {s3 with heap:=s3.heap.push {cls:=.type "slice",data:=.fields (List.toArray [w,p,.none])}};show tail_any (ops:=[.ref #v[s3],v]) A B hg (by with_unfolding_all rfl)
def qi(xs:lQ V)(lo hi:lV Int):lQ V:=(xs.drop<|HT.sIx xs.length 0 lo).take (HT.sIx xs.length xs.length hi-HT.sIx xs.length 0 lo)
def Ka(xs:lQ V)(lo hi:lV Int):(qi xs lo hi).length<=xs.length:=by
 unfold qi;rw[oh,sP];lia
def Vx(K:lW):V->lV Int->lV Int->Hp->VK->Prop:=λx lo hi H Q=>∃a z,x=.ref a/\SqT K H a z/\
 ¬(HT.sIx z.length 0 lo=0/\HT.sIx z.length z.length hi=z.length)/\∀p,H p=none->Q (.ref p) (mJ H p<|.tup<|qi z lo hi)
def ZS:rT X (Vx X.K):=by
 intro Y s z H x v U N lo hi M Q I n l j i h;obtain⟨a,y,rfl,g,d,q⟩:=h;cases n;obtain⟨c,r,u,p⟩:=I.tuple g;have w:c.toArray.size=y.length:=by rw[oz];show r.length.symm
 refine#["tuple",_,Dl.lookup,u.typeIs,?_];refine HT.getItem_tuple_cut u l j i (by rw[w];show d) ?_ (by rw[w];show p);rw[w];refine#[.ref #v[s],_,I.laid (t':=s.toks) (o:=.tup<|qi y lo hi) (λb a q=>nQ _ q) (nk _) ?_,rfl,q _<|I.hok.fresh<|nk _];show#[ow (Ka y lo hi) p,_,(r.drop<|HT.sIx y.length 0 lo).take (HT.sIx y.length y.length hi-HT.sIx y.length 0 lo),IsTup.new _ _]
end
def wm(n:Nat)(i:Int):lV Nat:=if 0<=i then(if i<n then some i.toNat else none)else if -(n:Int)<=i then some (i+n).toNat else none
def oH{z:Type}(xs:lQ z)(i:Int):lV z:=(wm xs.length i).bind λj=>xs[j]?
def Ycs(h:wm n i=some j):seqIndex? i n=some j/\j<n/\-(n:Int)<=i/\i<n:=by
 unfold wm at h
 by_cases y:0<=i
 ·rw[mU y]at h
  by_cases z:i<n
  ·rw[mU z]at h;have e:i.toNat=j:=oK h;show#[by rw[seqIndex_of y z,e],by lia,by lia,z]
  ·rw[mT z]at h;cases h
 ·rw[mT y]at h
  by_cases z:-(n:Int)<=i
  ·rw[mU z]at h;have e:(i+n).toNat=j:=oK h;show#[by rw[seqIndex_neg (by lia) z,e],by lia,z,by lia]
  ·rw[mT z]at h;cases h
def Hj{z:Type}{xs:lQ z}{v:z}(h:oH xs i=some v):∃j,seqIndex? i xs.length=some j/\xs[j]? =some v/\j<xs.length/\-(xs.length:Int)<=i/\i<xs.length:=by
 unfold oH at h;cases e:wm xs.length i with
 | none=>rw[e]at h;cases h
 | some j =>
  rw[e]at h;obtain⟨y,x,w,u⟩:=Ycs e;show#[j,y,h,x,w,u]
def Zq{z:Type}{xs:lQ z}{j:Nat}{v:z}(h:xs[j]? =some v):oH xs (j:Int)=some v:=by
 have y:j<xs.length:=(oo.mp h).1;have e:wm xs.length (j:Int)=some j:=by
  unfold wm;rw[mU (by lia),mU<|by lia];simp
 unfold oH;rw[e];show h
def EQ(b:ma):Prop:=∀o i,subscripted b false o i=operate [o,i] (getItem o i)
def vm(X:Cx)(r:R2):Prop :=
 ∀(value slice:ma)(w:lQ (lS×Obj)) (s:lU) (z:St) (H:Hp) (x y:V) (v u:lT) (Q:VK),mI X w z H s->Yd x v->Yd y u->r x y H Q->
  subscripted slice false v u=operate [v,u] (getItem v u)->∅ (subscriptTail value slice v u) (EP X w z Q) X.xe s
def AL(X:Cx)(id:String)(r:V->lQ V->Hp->VK->Prop):Prop :=
 ∀(y:lQ (lS×Obj)) (s:lU) (z:St) (H:Hp) (x:V) (w:lQ V) (v:lT) (u:lQ lT) (Q:VK),mI X y z H s->Yd x v->Z7 w u->r x w H Q->
  ∅ (call (.builtin id)<|v ::u) (EP X y z Q) X.xe s
section
variable {X:Cx} {a b:ma} {ta tb:TE} {pos:Pos}
def vm.or(h:vm X r)(h':vm X l):vm X (λx y H Q=>r x y H Q\/l x y H Q):=by
 intro value slice w s z H x y v u Q I p o q n;rcases q with q|q
 ·show h value slice w s z H x y v u Q I p o q n
 ·show h' value slice w s z H x y v u Q I p o q n
def KN(w:vm X r)(p:PE X a ta)(o:PE X b tb)(n:EQ b):PE X (.Subscript a b pos) (qQ r ta tb):=by
 intro l s z H Q I h;show Subscript_<|Gg p o I h λv u j x y i g e d q=>w a b l j z i x y v u Q g e d q<|n _ _
inductive Io(S:Hp->Addr->List V->Prop)(H:Hp)(Q:VK):V->V->Prop
 | mk {p xs i v}:S H p xs->oH xs i=some v->Q v H->Io S H Q (.ref p) (.int i)
def PY(K:lW):R2:=λx y H Q=>Io (SqL K) H Q x y
def LG(K:lW):R2:=λx y H Q=>Io (SqT K) H Q x y
def Pz:R2:=λx y H Q=>∃z i c,x=.str z/\y=.int i/\z.length<=sizeLine/\oH z.cps.toList i=some c/\Q (.str #[(List.toArray [c])]) H
def Yb2:vm X (PY X.K):=by
 intro value slice e s z H x y v u Q I U N h d;obtain@⟨p,B,i,w,M,he,q⟩:=h;cases U;obtain⟨t,rfl⟩:=N;obtain⟨L,r,l,p⟩:=I.list M;obtain⟨j,n,J,p,G,E⟩:=Hj he;obtain⟨o,c,D⟩:=r.get J;have C:=r.length;have A:=yQ;have fin:EP X e z Q o s:=#[w,H,I,D,q]
 by_cases Y:0<=i
 ·have g:i.toNat=j:=by
   rw[seqIndex_of Y E]at n;show oK n
  show item_listR l.isList Y (by lia) (by rw[g];simpa using c) fin d
 ·have g:(i+(L.toArray.size:Int)).toNat=j:=by
   rw[seqIndex_neg (by lia) G]at n;rw[oz,<-C];show oK n
  show subscriptTail_builtinR (x:=o) l.isList.typeIs Ik.lookup
   (wpAny_getItem_list_neg (Q:=λr p=>r=o/\EP X e z Q r p) l.isList (by lia) (by rw[oz]<;>lia) (by lia) (by rw[g];simpa using c) #[rfl,fin]) d
def Vp:vm X (LG X.K):=by
 intro value slice n s z H x y v u Q I g e h d;obtain@⟨p,J,i,w,c,he,q⟩:=h;cases g;obtain⟨t,rfl⟩:=e;obtain⟨p,r,l,i⟩:=I.tuple c;obtain⟨j,Y,U,p,i,J⟩:=Hj he;obtain⟨o,N,M⟩:=r.get U;have L:=r.length;have G:=yQ;have fin:EP X n z Q o s:=#[w,H,I,M,q]
 show subscriptTail_builtinR (x:=o) l.typeIs Dl.lookup
  (getItem_tuple (j:=j) (Q:=λr p=>r=o/\EP X n z Q r p) l (by lia) (by lia) (by rw[oz,<-L];show Y) (by simpa using N) #[rfl,fin]) d
def Yg3:vm X Pz:=by
 intro value slice U s z H x y v u Q I p o h n;obtain⟨w,i,c,rfl,rfl,j,he,q⟩:=h;obtain⟨t,rfl⟩:=p;obtain⟨j,rfl⟩:=o;obtain⟨j,r,l,Y,g,e⟩:=Hj he;have d:w.cps.toList.length=w.length:=by simp[Str.length]
 rw[d]at r g e;have N:=yQ;show tail_any (wO s w t) slot_str_getitem.lookup (getItem_str (c:=c) (by
  have j:decide (i < -(2 ^ 63:Int))=false:=om (by lia);have Y:decide (i ≥ 2 ^ 63)=false:=om (by lia);rw[j,Y,Bool.or_false]) (by rw[r];simpa using l) #[.str #[(List.toArray [c])],H,I.tok _,#[_,rfl],q]) n
def zf(K:lW):R2:=λx y H Q=>PY K x y H Q\/LG K x y H Q\/Pz x y H Q
def Mx:vm X (zf X.K):=Yb2.or<|Vp.or Yg3
def Tv(lo z:lV Int)(n:Nat):(sliceBounds lo z none n).1=((HT.sIx n 0 lo:Nat):Int)/\(sliceBounds lo z none n).2.1=((HT.sIx n n z:Nat):Int)/\(sliceBounds lo z none n).2.2=1:=by
 refine#[?_,?_,rfl]
 ·cases lo with
  | none=>simp[sliceBounds,HT.sIx]
  | some i =>
   simp only[sliceBounds,HT.sIx,Option.getD_none,show(1:Int)>0 by lk,ud]
   by_cases h:i<0
   ·simp only[h,ud]<;>lia
   ·simp only[h,rD]<;>lia
 ·cases z with
  | none=>simp[sliceBounds,HT.sIx]
  | some i =>
   simp only[sliceBounds,HT.sIx,Option.getD_none,show(1:Int)>0 by lk,ud]
   by_cases h:i<0
   ·simp only[h,ud]<;>lia
   ·simp only[h,rD]<;>lia
def TN(z:lQ lT)(lo y:lV Int):slicePick z.toArray lo y none=((z.drop<|HT.sIx z.length 0 lo).take (HT.sIx z.length z.length y-HT.sIx z.length 0 lo)).toArray:=by
 obtain⟨x,w,u⟩:=Tv lo y z.toArray.size;unfold slicePick;rw[x,w,u];simp only[sliceRange_one,pick_run,oz]<;>rfl
def YS(K:lW):V->lV Int->lV Int->Hp->VK->Prop:=λx lo y H Q=>∃a z,x=.ref a/\SqL K H a z/\∀p,H p=none->Q (.ref p) (mJ H p<|.lst<|qi z lo y)
def WP:rT X (YS X.K):=by
 intro d s z H x v c Y lo w U Q I p n l j h;obtain⟨a,y,rfl,i,q⟩:=h;cases p;obtain⟨N,r,u,g⟩:=I.list i;have e:=r.length;refine#["list",_,Ik.lookup,u.isList.typeIs,?_];refine Qo u.isList n l j .none (by simp) ?_ (by rw[oz]<;>lia);rw[TN,<-e];refine#[.ref #v[s],_,I.laid (t':=s.toks) (o:=.lst<|qi y lo w) (λb N q=>nQ _ q) (nk _) ?_,rfl,q _<|I.hok.fresh<|nk _];show#[ow (Ka y lo w) g,_,0,(r.drop<|HT.sIx y.length 0 lo).take (HT.sIx y.length y.length w-HT.sIx y.length 0 lo),oQ _ rfl]
def sX:V->Bool
 | .non=>true
 | .bl _=>true
 | .int _=>true
 | .str _=>true
 | _=>false
def rY:V->V->Bool
 | .non,.non=>true
 | .bl a,.bl b=>a ==b
 | .bl a,.int b=>(if a then 1 else 0) ==b
 | .int a,.bl b=>a ==(if b then 1 else 0)
 | .int a,.int b=>a ==b
 | .str a,.str b=>a ==b
 | _,_=>false
def zY(r:Yd y u)(z:Yd x v)(p:sX y=true)(q:sX x=true):SeqAt.EqAt A s u v (rY y x):=by
 cases y with
 | non =>
  cases r;cases x with
  | non=>cases z;show zS _
  | bl b=>cases z;show SeqAt.EqAt.none_bool b
  | int b=>obtain⟨t,rfl⟩:=z;show SeqAt.EqAt.none_int b t
  | str b=>obtain⟨t,rfl⟩:=z;show SeqAt.EqAt.none_str b t
  | _=>show absurd (show false=true from q) oU
 | bl a =>
  cases r;cases x with
  | non=>cases z;show SeqAt.EqAt.bool_none a
  | bl b=>cases z;show Il a b
  | int b=>obtain⟨t,rfl⟩:=z;show SeqAt.EqAt.bool_int a b t
  | str b=>obtain⟨t,rfl⟩:=z;show SeqAt.EqAt.bool_str a b t
  | _=>show absurd (show false=true from q) oU
 | int a =>
  obtain⟨w,rfl⟩:=r;cases x with
  | non=>cases z;show SeqAt.EqAt.int_none a w
  | bl b=>cases z;show SeqAt.EqAt.int_bool a w b
  | int b=>obtain⟨t,rfl⟩:=z;show SeqAt.EqAt.int_int a w b t
  | str b=>obtain⟨t,rfl⟩:=z;show SeqAt.EqAt.int_str a w b t
  | _=>show absurd (show false=true from q) oU
 | str a =>
  obtain⟨w,rfl⟩:=r;cases x with
  | non=>cases z;show SeqAt.EqAt.str_none a w
  | bl b=>cases z;show SeqAt.EqAt.str_bool a w b
  | int b=>obtain⟨t,rfl⟩:=z;show SeqAt.EqAt.str_int a w b t
  | str b=>obtain⟨t,rfl⟩:=z;show SeqAt.EqAt.str_str a w b t
  | _=>show absurd (show false=true from q) oU
 | _=>show absurd (show false=true from p) oU
def rL(x:V)(u:lT):Bool:=match u with
 | .none=>rY .non x
 | .bool b=>rY (.bl b) x
 | .int i _=>rY (.int i) x
 | .str z _=>rY (.str z) x
 | _=>false
def Nk(r:Yd y u)(f:sX y=true):rL x u=rY y x:=by
 cases y with
 | non=>cases r;rfl
 | bl b=>cases r;rfl
 | int i=>obtain⟨t,rfl⟩:=r;rfl
 | str z=>obtain⟨t,rfl⟩:=r;rfl
 | _=>show absurd (show false=true from f) oU
theorem zy:∀{xs:lQ V}{us:lQ lT},Z7 xs us->xs.all sX=true->us.any (rL x)=xs.any λy=>rY y x
 | _,_,.nil,_=>rfl
 | y ::xs,u ::us,.cons r t,f=>by
  rw[Em,qu]at f;rw[xE,xE,Nk r f.1,zy t f.2]
theorem zO(w:Yd x v)(q:sX x=true):∀{xs:lQ V}{us:lQ lT},Z7 xs us->xs.all sX=true->∀u∈us,SeqAt.EqAt A s u v (rL x u)
 | _,_,.nil,_=>λu z=>by cases z
 | y ::xs,u ::us,.cons r t,f=>λp z=>by
  rw[Em,qu]at f;rcases nU.mp z with rfl|z
  ·rw[Nk r f.1];show zY r w f.1 q
  ·show zO w q t f.2 p z
def ur(x:V)(xs:lQ V):Bool:=xs.any λy=>rY y x
inductive KI(K:Frag)(U6:Bool)(x:V)(H:Hp)(Q:VK):V->Prop
 | mk {p xs}:(SqL K H p xs\/SqT K H p xs)->sX x=true->xs.all sX=true->Q (.bl<|if U6 then !ur x xs else ur x xs) H->KI K U6 x H Q (.ref p)
def zW(K:lW)(z:Bool):R2:=λx y H Q=>KI K z x H Q y
def Rf:nW X (compareOp .In) (zW X.K false):=by
 intro c s z H x y v u Q I i e h;obtain@⟨p,Y,o,g,fs,q⟩:=h;cases e;rcases o with o|o
 ·obtain⟨n,r,l,d⟩:=I.list o;refine SeqAt.in_listAt (rL x) l.isList (λw j=>zO i g r fs w<|by simpa using j) #[.bl _,H,I,rfl,?_];rw[show n.toArray.any (rL x)=n.any (rL x) by simp,zy r fs];show q
 ·obtain⟨n,r,l,d⟩:=I.tuple o;refine SeqAt.in_tupleAt (rL x) l (λw j=>zO i g r fs w<|by simpa using j) #[.bl _,H,I,rfl,?_];rw[show n.toArray.any (rL x)=n.any (rL x) by simp,zy r fs];show q
def ZQ:nW X (compareOp .NotIn) (zW X.K true):=by
 intro c s z H x y v u Q I i e h;obtain@⟨p,Y,o,g,fs,q⟩:=h;cases e;rcases o with o|o
 ·obtain⟨n,r,l,d⟩:=I.list o;refine SeqAt.notIn_listAt (rL x) l.isList (λw j=>zO i g r fs w<|by simpa using j) #[.bl _,H,I,rfl,?_];rw[show n.toArray.any (rL x)=n.any (rL x) by simp,zy r fs];show q
 ·obtain⟨n,r,l,d⟩:=I.tuple o;refine SeqAt.notIn_tupleAt (rL x) l (λw j=>zO i g r fs w<|by simpa using j) #[.bl _,H,I,rfl,?_];rw[show n.toArray.any (rL x)=n.any (rL x) by simp,zy r fs];show q
def Zq0:Xe X (.builtin "len") (λxs H Q=>∃p y,xs=[.ref p]/\(SqL X.K H p y\/SqT X.K H p y)/\Q (.int y.length) H):=by
 intro g s z H xs e Q I r h;obtain⟨p,y,rfl,x,q⟩:=h;obtain⟨u,rfl,l⟩:=W5 r;cases l;have d:=yQ;rcases x with x|x
 ·obtain⟨j,w,o,i⟩:=I.list x;have n:=w.length;show Calls.call_len_list o.isList (by simp only[oz]<;>lia) #[.int y.length,H,I.tok _,#[s.toks+1,by rw[oz,n]],q]
 ·obtain⟨j,w,o,i⟩:=I.tuple x;have n:=w.length;show len_tuple o (by simp only[oz]<;>lia) #[.int y.length,H,I.tok _,#[s.toks+1,by rw[oz,n]],q]
def SS:Xe X (.builtin "len") (λxs H Q=>∃y,xs=[.str y]/\y.length<=sizeLine/\Q (.int y.length) H):=by
 intro x s z H xs w Q I r h;obtain⟨y,rfl,u,q⟩:=h;obtain⟨u,rfl,t,rfl⟩:=W5 r;have p:=yQ;show len_str (by lia) #[.int y.length,H,I.tok _,#[_,rfl],q]
def Xe.or{r y:lQ V->Hp->VK->Prop}(h:Xe X f r)(h':Xe X f y):Xe X f (λxs H Q=>r xs H Q\/y xs H Q):=by
 intro x s z H xs w Q I u q;rcases q with q|q
 ·show h x s z H xs w Q I u q
 ·show h' x s z H xs w Q I u q
def Ts:Xe X (.type "list") (λxs H Q=>∃p w,xs=[.ref p]/\(SqL X.K H p w\/SqT X.K H p w)/\∀l,H l=none->Q (.ref l) (mJ H l<|.lst w)):=by
 intro M s z H xs G Q I r h;obtain⟨p,w,rfl,g,q⟩:=h;obtain⟨u,rfl,L⟩:=W5 r;cases L;have fin:∀(x:lQ lT),Z7 w x->w.length<=sizeLine->∀(y:lY)(j:Nat),(∀b u,s.heap.get? b=some u->y.get? b=some u)->
   y.get? #v[s]=some {cls:=.type "list",dict:=none,data:=.seq x.toArray j,slots:=#[]}->EP X M z Q (.ref #v[s]) {s with heap:=y}:=λx i d y j c e =>
  #[.ref #v[s],_,I.laid (t':=s.toks) c (nk _) (show Z8 X.prog X.w _ y _ (.lst w)from#[d,x,j,i,e]),rfl,q _<|I.hok.fresh<|nk _]
 rcases g with g|g
 ·obtain⟨x,i,Y,d⟩:=I.list g;have J:=i.length;obtain⟨o,U,N,n,hd⟩:=Y.isList;show call_list_seq p (.inl rfl) U N hd (λy j c e=>fin x i d y j c e) (by simp only[oz]<;>lia)
 ·obtain⟨x,i,Y,d⟩:=I.tuple g;have J:=i.length;obtain⟨o,U,N,n,hd⟩:=Y;show call_list_seq p (.inr rfl) U N hd (λy j c e=>fin x i d y j c e) (by simp only[oz]<;>lia)
def Fl(K:lW)(T:String)(x:V)(H:Hp):Prop:=match x with
 | .str _=>T ="str"
 | .int _=>T ="int"
 | .ref p=>(T ="list"/\∃z,SqL K H p z)\/(T ="tuple"/\∃o,K.lookup p=some o/\o.cls=.type "tuple"/\o.dict=none)\/
   (T ="dict"/\((∃z,H p=some (.dK z))\/∃z,H p=some (.dT z)))\/(T ="set"/\∃S n,H p=some (.set S n))
 | _=>False
def PL(I:mI X d z H s)(r:Yd x v)(q:Fl X.K T x H) :
  s.TypeIs v T/\∀a,v=.ref a->∃h,s.heap.get? a=some h/\h.dict=none:=by
 cases x with
 | str y =>
  obtain⟨t,rfl⟩:=r;cases(show T ="str" from q);show#[wO s y t,λ_ e=>nomatch e]
 | int i =>
  obtain⟨t,rfl⟩:=r;cases(show T ="int" from q);show#[typeIs_int s i t,λ_ e=>nomatch e]
 | ref p =>
  cases r;rcases q with⟨rfl,l,i⟩|⟨rfl,o,w,g,hd⟩|⟨rfl,w⟩|⟨rfl,S,n,w⟩
  ·obtain⟨c,_,l,_⟩:=I.list i;refine#[l.isList.typeIs,λa e=>?_];cases e;obtain⟨o,n,e,c,hd,_⟩:=l;show#[o,e,hd]
  ·refine#[#[o,I.kIn p o w,g],λa e=>?_];cases e;show#[o,I.kIn _ o w,hd]
  ·have y:∃o,s.heap.get? p=some o/\o.ExactDict:=by
    rcases w with⟨l,w⟩|⟨l,w⟩
    ·obtain⟨_,_,_,_,o,_,_,e,u,_⟩:=I.hok p _ w;show#[o,e,u]
    ·obtain⟨_,_,_,_,o,_,_,e,u,_⟩:=I.hok p _ w;show#[o,e,u]
   obtain⟨o,e,u⟩:=y;refine#[#[o,e,u.1],λa j=>?_];cases j;show#[o,e,u.2.1]
  ·obtain⟨o,_,_,_,e,u,_⟩:=I.hok p _ w;refine#[#[o,e,u.1],λa j=>?_];cases j;show#[o,e,u.2.1]
 | _=>show False.elim q
def QS(K:lW)(T:String)(r:V->lQ V->Hp->VK->Prop)(to:TE)(t:TA):TE:=λz H Q=>to z H λx y=>Fl K T x y/\t z y λw u=>r x w u Q
variable {o e:ma} {es:lQ ma} {to:TE} {t:TA} {name:lR} {u5 j8:Pos} {T id:String} {r:V->lQ V->Hp->VK->Prop}
def yh(j:PlainAttrs T)(slot:Slot T name id)(u:typeOf (.builtin id)=pure (.type "method_descriptor"))(i:AL X id r)(g:PE X o to)(d:PA X (e ::es) t)
  (c:attributeBase o name X.env (eval o X.env)=eval o X.env:=by rfl)
  (w:((backTo j8<|starEach (e ::es) X.env).all (λx=>!x.1) && (backToKw j8<|keywordEach [] X.env).all (λx=>x.1.isSome)
   && decide ((e ::es).length+([]:lQ Keyword).length+(if([]:lQ Keyword).isEmpty then 0 else 1)<30))=true:=by rfl)
  (Y:(u5.endLine ==j8.line)=true:=by rfl) (U:starEach (e ::es) X.env=(false,eval e X.env) ::starEach es X.env:=by rfl) (y:(backTo j8<|starEach es X.env).any (·.1)=false:=by rfl) :
  PE X (.Call (.Attribute o name u5) (e ::es) [] j8) (QS X.K T r to t):=by
 intro q s z H Q I h;refine wpAny_Call_method_late c w Y rfl<|mZ (g q s z H _ I h) λv N M=>?_;obtain⟨x,L,p,n,J,G⟩:=M;obtain⟨E,D⟩:=PL p n J;refine#[T,id,j,slot,u,E,D,?_];have l:=d j8 q N z L _ p G;rw[U]at l ⊢;refine xx (by change(false || (backTo j8<|starEach es X.env).any (·.1))=false;rw[y]<;>rfl)<|zr ?_;show mZ l λC B ⟨A,H2,I2,r2,q2⟩=>i q B z H2 x A v C Q I2 n r2 q2
/- xs.append(e),list.index on a module's tuple .. are AL facts of 06m -/
end
def BO(X:Cx)(id:String)(r:V->lQ V->Hp->VK->Prop):Prop :=
 ∀(y:lQ (lS×Obj)) (s:lU) (z:St) (H:Hp) (x:V) (w:lQ V) (v:lT) (u:lQ lT) (Q:VK),mI X y z H s->Yd x v->Z7 w u->r x w H Q->
  ∅ (call (.builtin id)<|v ::u) (EP X y z Q) X.xe s
def Z7.one{x:V}{us:lQ lT}(h:Z7 [x] us):∃u,us=[u]/\Yd x u:=by
 cases h with
 | cons r t=>cases t;show#[_,rfl,r]
theorem Z7.eraseIdx:∀{xs:lQ V}{us:lQ lT}(i:Nat),Z7 xs us->Z7 (xs.eraseIdx i) (us.eraseIdx i)
 | _,_,_,.nil=>.nil
 | _,_,0,.cons _ t=>t
 | _,_,i+1,.cons r t=>.cons r<|Z7.eraseIdx i t
theorem JP{z:Type}:∀(l:lQ z)(i:Nat),(l.eraseIdx i).length<=l.length
 | [],_=>nk _
 | _ ::_,0=>rV _
 | _ ::r,i+1=>xT<|JP r i
variable {X:Cx}
def mI.lset{y its':lQ lT}{n:Nat}{f:Array lT->Array lT}{t':Nat}(I:mI X r z H s)(p:H l=some (.lst xs))
  (e:s.heap.get? l=some {cls:=.type "list",data:=.seq y.toArray n}) (o:f y.toArray=its'.toArray) (j:Z7 w its') (i:w.length<=sizeLine) :
  mI X r z (mJ H l<|.lst w) {s with heap:=s.heap.update l<|Obj.mapSeq f,toks:=t'}:=by
 have q:=PySem.IsL.update e f;rw[o]at q;refine I.write (x:=l) (e:=l) (by rw[p];show trivial) (.inl rfl) (λd u h g=>(tT s.heap (Obj.mapSeq f)<|oM h).trans g) #[_,q] ?_;show#[i,its',_,j,q]
def mI.lnew(I:mI X w z H s)(u:Z7 y x)(r:y.length<=sizeLine) :
  mI X w z (mJ H #v[s] (.lst y)) {s with heap:=s.heap.push {cls:=.type "list",data:=.seq x.toArray},toks:=t'} :=
 I.laid (λ_ _ q=>nQ _ q) (nk _) #[r,x,0,u,oQ _ rfl]
def mI.fresh(I:mI X y z H s):H #v[s]=none:=I.hok.fresh<|nk _
def mI.lstM(I:mI X u z H s)(w:H l=some (.lst xs)):xs.length<=sizeLine/\∃(x:lQ lT)(n:Nat),Z7 xs x/\xs.length=x.length/\s.heap.get? l=some {cls:=.type "list",data:=.seq x.toArray n}:=by
 obtain⟨y,x,n,r,e⟩:=I.hok l _ w;show#[y,x,n,r,r.length,e]
def TU(h:n<=sizeLine):Builtin.List.listTooLong n=false:=by
 unfold Builtin.List.listTooLong;show om (by lia)
inductive Qn(H:Hp)(Q:VK):V->List V->Prop
 | mk {l xs y}:H l=some (.lst xs)->xs.length<sizeLine->Q .non (mJ H l<|.lst<|xs++[y])->Qn H Q (.ref l) [y]
def Qb:V->lQ V->Hp->VK->Prop:=λx z H Q=>Qn H Q x z
def Jm:BO X "list.append" Qb:=by
 intro g s z H x d v c Q I o j h;obtain@⟨l,a,y,w,Y,q⟩:=h;cases o;obtain⟨u,rfl,i⟩:=j.one;obtain⟨y,p,n,r,a,e⟩:=I.lstM w;refine xV Qc #[_,e,rfl] F.entry_list_append (F.args_list_append_2 _ _) (PySem.list_append l p.toArray n u<|by rw[oz];lia) #[e,?_];refine#[.non,_,I.lset (its':=p++[u]) w e (by simp) (r.append<|.cons i .nil) ?_,rfl,q];rw[nX,DM];lia
def WH:V->lQ V->Hp->VK->Prop:=λx w H Q=>∃l b z y,x=.ref l/\w=[.ref b]/\H l=some (.lst z)/\H b=some (.lst y)/\z.length+y.length<=sizeLine/\Q .non (mJ H l<|.lst<|z++y)
def UI:BO X "list.extend" WH:=by
 intro M s z H x L v J Q I g d h;obtain⟨l,b,y,u,rfl,rfl,i,c,G,q⟩:=h;cases g;obtain⟨u,rfl,a⟩:=d.one;cases a;obtain⟨y,p,n,r,u,e⟩:=I.lstM i;obtain⟨u,o,Y,U,y,N⟩:=I.lstM c;have j:p.toArray.size+o.toArray.size<=sizeLine:=by rw[oz,oz];lia
 have w:¬(!p.toArray.isEmpty && Builtin.List.listTooLong (p.toArray.size+o.toArray.size))=true:=by
  rw[TU j,Bool.and_false];show oU
 refine xV Jt #[_,e,rfl] F.entry_list_extend (F.args_list_extend_2 _ _)
  (AutoSeq1.list_extend_list_list_0 l p.toArray n b o.toArray Y w (by rw[oz];lia)<|by lia) #[e,N,?_]
 refine#[.non,_,I.lset (its':=p++o) i e (by simp) (r.append U) ?_,rfl,q];rw[nX];lia
def Yfd:V->lQ V->Hp->VK->Prop:=λx w H Q=>∃l z i k y,x=.ref l/\w=[.int i]/\H l=some (.lst z)/\-(2 ^ 63)<=i/\i<2 ^ 63/\seqIndex? i z.length=some k/\z[k]? =some y/\Q y (mJ H l<|.lst<|z.eraseIdx k)
def IY:BO X "list.pop" Yfd:=by
 intro E s z H x D v C Q I g d h;obtain⟨l,c,i,k,y,rfl,rfl,j,a,Y,U,N,q⟩:=h;cases g;obtain⟨u,rfl,M⟩:=d.one;obtain⟨t,rfl⟩:=M;obtain⟨w,o,n,r,L,e⟩:=I.lstM j;obtain⟨p,J,G⟩:=r.get N;refine xV AU #[_,e,rfl] F.entry_list_pop (F.args_list_pop_2 _ _)
  (MeetsSeq.list_pop_at l o.toArray n i t k p (fitsIndex_both a Y) (by rw[oz,<-L];show U) (by rw[<-wq];show J)<|by rw[oz];lia) #[e,?_]
 refine#[y,_,I.lset (its':=o.eraseIdx k) j e ?_ (r.eraseIdx k) ?_,G,q]
 ·change o.toArray.eraseIdxIfInBounds k=(o.eraseIdx k).toArray;rw[Jl]
 ·have:=JP c k;lia
def Tt:R2:=λx y H Q=>∃l b z w,x=.ref l/\y=.ref b/\H l=some (.lst z)/\H b=some (.lst w)/\z.length+w.length<=sizeLine/\∀p,H p=none->Q (.ref p) (mJ H p<|.lst<|z++w)
def SA:nW X (binaryOp .Add) Tt:=by
 intro U s z H x y v u Q I j i h;obtain⟨l,b,w,n,rfl,rfl,g,d,N,q⟩:=h;cases j;cases i;obtain⟨w,p,n,r,l,e⟩:=I.lstM g;obtain⟨n,o,l,c,w,a⟩:=I.lstM d;refine PySem.P.add_list e a ?_ (by rw[oz,oz];lia);have Y:p.toArray++o.toArray=(p++o).toArray:=by simp
 rw[Y];show#[.ref _,_,I.lnew (t':=s.toks) (r.append c) (by rw[nX];lia),rfl,q _ I.fresh]
section
variable {κ:Type} [DecidableEq κ]
def Y8(kvs:lQ (κ×V))(k:κ):lV V:=(kvs.find? λz=>decide<|z.1=k).map (·.2)
def Ws(kvs:lQ (κ×V))(k:κ)(v:V):lQ (κ×V) :=
 if(kvs.any λz=>decide<|z.1=k)=true then kvs.map (λz=>if z.1=k then(z.1,v)else z)else kvs++[(k,v)]
def vt(kvs:lQ (κ×V))(k:κ):lQ (κ×V):=kvs.filter λz=>decide<|z.1≠k
def yJ{p:κ×V}{r:lQ (κ×V)}{k:κ}(e:p.1=k):Y8 (p ::r) k=some p.2:=by simp[Y8,yj,e]
def wG{p:κ×V}{r:lQ (κ×V)}{k:κ}(e:¬p.1=k):Y8 (p ::r) k=Y8 r k:=by simp[Y8,yj,e]
theorem Df(k:κ):∀kvs:lQ (κ×V),(kvs.any λkv=>decide<|kv.1=k)=(Y8 kvs k).isSome
 | []=>rfl
 | p ::r=>by
  rw[xE]
  by_cases e:p.1=k
  ·simp only[yJ e,nS e,Bool.true_or,Option.isSome_some]
  ·rw[wG e,om e,Gz];show Df k r
def CK(kvs:lQ (κ×V))(k:κ)(v:V):(Ws kvs k v).length<=kvs.length+1:=by
 unfold Ws;split
 ·rw[mK];lia
 ·rw[nX,pE,Fi];lia
def On{kvs:lQ (κ×V)}{k:κ}(v:V)(h:Y8 kvs k=none):Ws kvs k v=kvs++[(k,v)]:=by
 unfold Ws;rw[Df,h];show mT (by lk)
def pR.isSome_eq(r:pR o u):o.isSome=u.isSome:=by
 cases o with
 | none=>cases u with
  | none=>rfl
  | some _=>show(show False from r).elim
 | some _=>cases u with
  | none=>show(show False from r).elim
  | some _=>rfl
def pR.getD(r:pR o u)(rd:Yd d d'):Yd (o.getD d) (u.getD d'):=by
 cases o with
 | none=>cases u with
  | none=>show rd
  | some _=>show(show False from r).elim
 | some _=>cases u with
  | none=>show(show False from r).elim
  | some _=>show r
def KV.val{kvs:lQ (κ×V)}{vs:lQ (κ×lT)}(r:KV kvs vs)(k:κ):pR (Y8 kvs k) (valueAt vs k):=by
 unfold KV at r
 induction r with
 | nil=>show ri
 | @cons p q o y h t u =>
  obtain⟨w,s⟩:=h
  by_cases e:p.1=k
  ·have x:q.1=k:=w.symm.trans e;have b:valueAt (q ::y) k=some q.2:=by simp[valueAt,yj,x]
   rw[yJ e,b];show s
  ·have x:¬q.1=k:=λz=>e<|w.trans z
   have b:valueAt (q ::y) k=valueAt y k:=by simp[valueAt,yj,x]
   rw[wG e,b];show u
def KV.any{kvs:lQ (κ×V)}{vs:lQ (κ×lT)}(r:KV kvs vs)(k:κ):(kvs.any λkv=>decide<|kv.1=k)=vs.any λkv=>decide (kv.1=k):=by
 unfold KV at r
 induction r with
 | nil=>rfl
 | cons h t z=>rw[xE,xE,z,h.1]
def KV.repl{kvs:lQ (κ×V)}{vs:lQ (κ×lT)}(r:KV kvs vs)(k:κ)(w:Yd y u) :
  KV (kvs.map λkv=>if kv.1=k then(kv.1,y)else kv) (vs.map λkv=>if kv.1=k then(kv.1,u)else kv):=by
 unfold KV at r ⊢
 induction r with
 | nil=>show .nil
 | @cons p q n l h t s =>
  rw[nV,nV];refine .cons ?_ s;obtain⟨x,o⟩:=h
  by_cases e:p.1=k
  ·rw[mU e,mU<|x.symm.trans e];show#[x,w]
  ·rw[mT e,mT λz=>e<|x.trans z];show#[x,o]
def KV.put{kvs:lQ (κ×V)}{vs:lQ (κ×lT)}(r:KV kvs vs)(k:κ)(z:Yd y u):KV (Ws kvs k y) (stored vs k u):=by
 unfold Ws stored;rw[r.any k]
 by_cases e:(vs.any λx=>decide<|x.1=k)=true
 ·rw[mU e,mU e];show r.repl k z
 ·rw[mT e,mT e];show DN r #[rfl,z]
def KV.drop{kvs:lQ (κ×V)}{vs:lQ (κ×lT)}(r:KV kvs vs)(k:κ):KV (vt kvs k) (without vs k):=by
 unfold KV at r ⊢;unfold vt without
 induction r with
 | nil=>show .nil
 | @cons p q s o h t x =>
  obtain⟨y,w⟩:=h;rw[se,se]
  by_cases e:p.1=k
  ·have a:¬decide (p.1≠k)=true:=by simp[e]
   have b:¬decide (q.1≠k)=true:=by simp[y.symm.trans e]
   rw[mT a,mT b];show x
  ·have u:¬q.1=k:=λz=>e<|y.trans z
   have a:decide (p.1≠k)=true:=by simp[e]
   have b:decide (q.1≠k)=true:=by simp[u]
   rw[mU a,mU b];show .cons #[y,w] x
def KV.length{kvs:lQ (κ×V)}{vs:lQ (κ×lT)}(r:KV kvs vs):kvs.length=vs.length:=nH r
def Oq(kvs:lQ (κ×V))(k:κ):(vt kvs k).length<=kvs.length:=vL _ _
end
def uq(r:Yd (kV k) u):(Z1 P w).is k u=true:=by
 cases k with
 | inl i=>obtain⟨t,e⟩:=(show ∃t,u=Value.int i t from r);subst e;show Zru P w i t
 | inr x=>obtain⟨t,e⟩:=(show ∃t,u=Value.str x t from r);subst e;show Uq P w x t
theorem Fd :∀{z:lQ ng}{us:lQ lT},Z7 (z.map kV) us->ItemsAre (Z1 P w) z us
 | [],_,r=>by rw[uP]at r;cases r;show .nil
 | k ::z,_,r=>by
  rw[nV]at r;cases r with
  | cons h t=>show .cons (uq h)<|Fd t
abbrev KT(H:Hp):lQ (lQ ng×V)->lQ (lQ ng×lS×lT)->Prop:=Paired λp q=>p.1=q.1/\H q.2.1=some (.tup<|p.1.map kV)/\Yd p.2 q.2.2
def KT.val(r:KT H kvs xs)(k:lQ ng):pR (Y8 kvs k) ((atKey xs k).map (·.2)):=by
 induction r with
 | nil=>show ri
 | @cons p q o y h t u =>
  obtain⟨w,_,s⟩:=h
  by_cases e:p.1=k
  ·have x:q.1=k:=w.symm.trans e;have b:atKey (q ::y) k=some q.2:=by simp[atKey,yj,x]
   rw[yJ e,b];show s
  ·have x:¬q.1=k:=λz=>e<|w.trans z
   have b:atKey (q ::y) k=atKey y k:=by simp[atKey,yj,x]
   rw[wG e,b];show u
def KT.repl(r:KT H kvs xs)(k:lQ ng)(s:Yd y u) :
  KT H (kvs.map λkv=>if kv.1=k then(kv.1,y)else kv) (xs.map<|putAt k u):=by
 induction r with
 | nil=>show .nil
 | @cons p q l j h t o =>
  rw[nV,nV];refine .cons ?_ o;obtain⟨x,w,n⟩:=h;unfold putAt
  by_cases e:p.1=k
  ·rw[mU e,mU<|x.symm.trans e];show#[x,w,s]
  ·rw[mT e,mT λz=>e<|x.trans z];show#[x,w,n]
def KT.put(r:KT H kvs xs)(k:lQ ng)(x:H b=some (.tup<|k.map kV))(z:Yd y u) :
  KT H (Ws kvs k y) (storedH xs k b u):=by
 have e:(kvs.any λw=>decide<|w.1=k)=(atKey xs k).isSome:=by
  rw[Df,(r.val k).isSome_eq,Hr]
 unfold Ws storedH;rw[e]
 by_cases q:(atKey xs k).isSome=true
 ·rw[mU q,mU q];show r.repl k z
 ·rw[mT q,mT q];show DN r #[rfl,x,z]
def KT.keeps(r:KT H kvs xs)(x:∀b y,H b=some (.tup y)->H' b=some (.tup y)):KT H' kvs xs :=
 Paired.mapP r λ_ _ z=>#[z.1,x _ _ z.2.1,z.2.2]
section
def NO(ok:oq P w H h)(e:Rd H a u):Z8 P w H h a u:=e.ok ok
def qK(ok:oq P w H h)(e:Rd H a (.dK kvs)):kvs.length<=sizeLine/\(a ==sysModules)=false/\∃vs,KV kvs vs/\h.DictOf (Z1 P w) a vs :=
 show Z8 P w H h a (.dK kvs)from NO ok e
def zj(ok:oq P w H h)(e:H a=some (.dK kvs)):kvs.length<=sizeLine/\(a ==sysModules)=false/\∃vs,KV kvs vs/\h.DictOf (Z1 P w) a vs:=qK ok<|.inl e
def yR(ok:oq P w H h)(e:H a=some (.tup<|z.map kV)):(tupleKind<|Z1 P w).is h z a:=by
 obtain⟨_,y,r,o,x,u,n,s⟩:=(show Z8 P w H h a (.tup<|z.map kV)from ok a _ e)
 show#[o,y.toArray,n,x,u,s,by simpa using Fd r]
def xk(ok:oq P w H h)(e:Rd H a (.dT kvs)):kvs.length<=sizeLine/\(a ==sysModules)=false/\
  ∃xs,KT H kvs xs/\h.DictOfH (tupleKind<|Z1 P w) a xs:=by
 obtain⟨z,y,xs,r,o,n,j,i,g,d,c,Y⟩:=(show Z8 P w H h a (.dT kvs)from NO ok e)
 refine#[z,y,xs,r,o,n,j,i,g,d,c,λx u=>?_,Y];have all:∀{l:lQ (lQ ng×V)}{m:lQ (lQ ng×lS×lT)},KT H l m->∀x∈m,(tupleKind<|Z1 P w).is h x.1 x.2.1:=by
  intro l m q
  induction q with
  | nil=>intro x u;show nomatch u
  | @cons p q Q N s t U =>
   intro x u;rcases nU.mp u with e|u
   ·subst e;show yR ok (by rw[<-s.1];show s.2.1)
   ·show U x u
 show all r x u
def Kw(ok:oq P w H h)(e:H a=some (.dT kvs)):kvs.length<=sizeLine/\(a ==sysModules)=false/\
  ∃xs,KT H kvs xs/\h.DictOfH (tupleKind<|Z1 P w) a xs:=xk ok<|.inl e
end
def Xk(H:Hp)(a:lS)(y:V)(r:lV V):Prop :=
 (∃z k,Rd H a (.dK z)/\y=kV k/\r=Y8 z k)\/∃z k b,Rd H a (.dT z)/\y=.ref b/\H b=some (.tup<|k.map kV)/\r=Y8 z k
def Zcp(H:Hp)(a:lS)(y v:V)(H':Hp):Prop :=
 (∃z k,H a=some (.dK z)/\y=kV k/\z.length<sizeLine/\H'=mJ H a (.dK<|Ws z k v))\/
 ∃z k b,H a=some (.dT z)/\y=.ref b/\H b=some (.tup<|k.map kV)/\z.length<sizeLine/\H'=mJ H a (.dT<|Ws z k v)
def Xk.k{H:Hp}{a:lS}{kvs:lQ (ng×V)}{k:ng}(e:H a=some (.dK kvs)):Xk H a (kV k) (Y8 kvs k):=.inl #[kvs,k,.inl e,rfl,rfl]
def Xk.t{H:Hp}{a b:lS}{kvs:lQ (lQ ng×V)}{k:lQ ng}(e:H a=some (.dT kvs))(z:H b=some (.tup<|k.map kV)):Xk H a (.ref b) (Y8 kvs k):=.inr #[kvs,k,b,.inl e,rfl,z,rfl]
def Zcp.k{H:Hp}{a:lS}{kvs:lQ (ng×V)}{k:ng}{v:V}(e:H a=some (.dK kvs))(z:kvs.length<sizeLine):Zcp H a (kV k) v (mJ H a<|.dK<|Ws kvs k v):=.inl #[kvs,k,e,rfl,z,rfl]
def Zcp.t{H:Hp}{a b:lS}{kvs:lQ (lQ ng×V)}{k:lQ ng}{v:V}(e:H a=some (.dT kvs))(z:H b=some (.tup<|k.map kV))(y:kvs.length<sizeLine) :
  Zcp H a (.ref b) v (mJ H a<|.dT<|Ws kvs k v):=.inr #[kvs,k,b,e,rfl,z,y,rfl]
section
variable {E:lT->lU->Prop}
def mI.big(I:mI X y z H s):sysModules<#v[s]:=by
 have h:mainGlobals<#v[s]:=(I.mod.glob.keeps I.bk).lt;show tW (by lk) h
def Zw7{Q:lT->lU->Prop}(U:A.units+1<cLine)(I:mI X N z H s)(g:Xk H a y (some v))(Y:Yd y u)(h:∀w s',mI X N z H s'->Yd v w->Q w s') :
  wpAny (model X.prog X.w) A (getItem (.ref a) u) Q E s:=by
 rcases g with⟨r,k,e,q,l⟩|⟨r,k,b,e,q,M,l⟩
 ·subst q;obtain⟨x,hd,p,n,j⟩:=qK I.hok e;obtain⟨w,i,d⟩:=pR.some_of (v:=v) (o:=valueAt p k) (by rw[l];show n.val k);show wpAny_getItem_of (uq Y) j.mapOf i<|h w _ (I.tok _) d
 ·subst q;cases(show u=Value.ref b from Y);obtain⟨x,hd,L,n,j⟩:=xk I.hok e;obtain⟨w,i,d⟩:=pR.some_of (v:=v) (o:=(atKey L k).map (·.2)) (by rw[l];show n.val k);obtain⟨p,J,c⟩:=nR.mp i;refine wpAny_getItem_heap (yt U) (yR I.hok M) j J ?_;rw[c];show h w _ (I.tok _) d
def Yjr{Q:lT->lU->Prop}(i:A.units+1<cLine)(I:mI X d z H s)(g:Xk H a y o)(j:Yd y u)(h:∀s',mI X d z H s'->Q (.bool o.isSome) s') :
  wpAny (model X.prog X.w) A (compareOp .In u<|.ref a) Q E s:=by
 rcases g with⟨w,k,e,r,l⟩|⟨w,k,b,e,r,c,l⟩
 ·subst r;obtain⟨x,hd,q,p,n⟩:=qK I.hok e;refine wpAny_in_of (uq j) hd n.mapOf ?_;rw[<-(p.val k).isSome_eq,<-l];show h _<|I.tok _
 ·subst r;cases(show u=Value.ref b from j);obtain⟨x,hd,Y,p,n⟩:=xk I.hok e;refine wpAny_in_heap (yt i) (yR I.hok c) hd n ?_;have q:=(p.val k).isSome_eq;rw[Hr]at q;rw[<-q,<-l];show h _<|I.tok _
def ZW{Q:lT->lU->Prop}(i:A.units+1<cLine)(I:mI X d z H s)(g:Xk H a y o)(j:Yd y u)(h:∀s',mI X d z H s'->Q (.bool (!o.isSome)) s') :
  wpAny (model X.prog X.w) A (compareOp .NotIn u<|.ref a) Q E s:=by
 rcases g with⟨w,k,e,r,l⟩|⟨w,k,b,e,r,c,l⟩
 ·subst r;obtain⟨x,hd,q,p,n⟩:=qK I.hok e;refine wpAny_notIn_of (uq j) hd n.mapOf ?_;rw[<-(p.val k).isSome_eq,<-l];show h _<|I.tok _
 ·subst r;cases(show u=Value.ref b from j);obtain⟨x,hd,Y,p,n⟩:=xk I.hok e;refine wpAny_notIn_heap (yt i) (yR I.hok c) hd n ?_;have q:=(p.val k).isSome_eq;rw[Hr]at q;rw[<-q,<-l];show h _<|I.tok _
def Da(I:mI X u z H s)(r:Bg (H a))(p:Heap.SameBut a s.heap h')(he:∃q,h'.get? a=some q)(new:Z8 X.prog X.w (mJ H a w) h' a w) :
  mI X u z (mJ H a w) {s with heap:=h',toks:=t'} :=
 I.write (x:=a) (e:=a) r (.inl rfl) (λb q o y=>(p.2 b o).trans y) he new
def yP(z:kvs.length<=sizeLine)(hd:(a ==sysModules)=false)(y:KV kvs vs)(dd:h'.DictOf (Z1 P w) a vs) :
  Z8 P w H' h' a (.dK kvs):=#[z,hd,vs,y,dd]
def Zx6{Q:Unit->lU->Prop}(C:A.units+1<cLine)(I:mI X B z H s)(g:Zcp H a y v H')(M:Yd y u)(L:Yd v r)(h:∀s',mI X B z H' s'->Q () s') :
  wpAny (model X.prog X.w) A (setItem (.ref a) u r) Q E s:=by
 rcases g with⟨w,k,e,j,l,i⟩|⟨w,k,b,e,j,J,l,i⟩
 ·subst j i;obtain⟨x,hd,c,p,d⟩:=zj I.hok e;have Y:c.length<=sizeLine:=by rw[<-p.length];show x
  have U:(Ws w k v).length<=sizeLine:=by have:=CK w k v;lia
  refine wpAny_setItem_pairs (hsz:=Y) (uq M) d λG o N=>h _ ?_
  have he:∃q,G.get? a=some q:=let⟨q,_,_,n,_⟩:=o;#[q,n];show Da I (by rw[e];show ri) N he<|yP U hd (p.put k L) o
 ·subst j i;cases(show u=Value.ref b from M);obtain⟨x,hd,xs,p,d⟩:=Kw I.hok e;have Y:xs.length<=sizeLine:=by rw[<-nH p];show x
  have U:(Ws w k v).length<=sizeLine:=by have:=CK w k v;lia
  refine wpAny_setItem_heap (hsz:=Y) (yt C) (yR I.hok J) d λG o N=>h _ ?_
  obtain⟨q,es,ep,n,h2,h3,h4,_,h5⟩:=o;refine Da I (by rw[e];show ri) N #[q,n] #[U,hd,_,(p.put k J L).keeps λc ys D=>?_,q,es,ep,n,h2,h3,h4,h5];rw[Zd (MO D e (λx=>nomatch x))];show D
def Yg4{Q:Unit->lU->Prop}(I:mI X p z H s)(e:H a=some (.dK kvs))(o:Yd (kV k) u)(l:(Y8 kvs k).isSome=true)(h:∀s',mI X p z (mJ H a<|.dK<|vt kvs k) s'->Q () s') :
  wpAny (model X.prog X.w) A (delItem (.ref a) u) Q E s:=by
 obtain⟨y,hd,n,x,w⟩:=zj I.hok e;refine wpAny_delItem_slot w.typeIs (by lk) NE
  (vO NE w.typeIs PySem.F.entry_dict_delitem (PySem.F.args_dict_delitem_2 _ _) (meets_dict_delitem_pairs (Z1 X.prog X.w) a<|uq o) #[n,w,by rw[<-x.length];show y,by rw[<-(x.val k).isSome_eq];show l,λj r i=>h _ ?_])
 have he:∃q,j.get? a=some q:=let⟨q,_,_,g,_⟩:=r;#[q,g];show Da I (by rw[e];show ri) i he<|yP (ow (Oq kvs k) y) hd (x.drop k) r
def To{Q:lT->lU->Prop}(I:mI X c z H s)(e:H a=some (.dK kvs))(r:Yd (kV k) u)(l:Y8 kvs k=some v)(n:more=[]\/∃x,more=[x])
  (h:∀w s',mI X c z (mJ H a<|.dK<|vt kvs k) s'->Yd v w->Q w s'):wpAny (model X.prog X.w) A (call (.builtin "dict.pop")<|.ref a ::u ::more) Q E s:=by
 obtain⟨y,hd,j,p,g⟩:=zj I.hok e;obtain⟨w,Y,U⟩:=pR.some_of (v:=v) (o:=valueAt j k) (by rw[<-l];show p.val k);have N:(keyPart u).isSome=true:=by
  cases k with
  | inl i=>obtain⟨t,q⟩:=(show ∃t,u=Value.int i t from r);subst q;rfl
  | inr x=>obtain⟨t,q⟩:=(show ∃t,u=Value.str x t from r);subst q;rfl
 have M:argsOk "dict.pop" #[.ref a ::u ::more,[]]:=by
  rcases n with q|⟨x,q⟩
  ·subst q;show PySem.F.args_dict_pop_2 _ _
  ·subst q;show PySem.F.args_dict_pop_3 _ _ _
 refine vO KR g.typeIs PySem.F.entry_dict_pop M (meets_dict_pop_there (Z1 X.prog X.w) a (uq r) more n N)
  #[j,w,g,by rw[<-p.length];show y,Y,λL d J=>h w _ ?_ U]
 have he:∃q,L.get? a=some q:=let⟨q,_,_,G,_⟩:=d;#[q,G];show Da I (by rw[e];show ri) J he<|yP (ow (Oq kvs k) y) hd (p.drop k) d
def Yh9{Q:lT->lU->Prop}(I:mI X w z H s)(e:Rd H a (.dK kvs))(h:∀t s',mI X w z H s'->Q (.int kvs.length t) s'):wpAny (model X.prog X.w) A (call (.builtin "len") [.ref a]) Q E s:=by
 obtain⟨y,hd,r,x,u⟩:=qK I.hok e;refine call_len_dict hd u (by rw[<-x.length];rw[tJ]at y;lia) ?_;rw[<-x.length];show h _ _<|I.tok _
end
def Qd(i:ma):Prop:=∀z y,subscripted i false z y=operate [z,y] (getItem z y)
def Ycv{prog:md}{w:lZ}{A:me}{E:lT->lU->Prop}{s:lU}{env:Env}{value slice:ma}{pos:Pos}{T id:String}{Q:lT->lU->Prop}
  (l:typeLookup (.type T) "__getitem__"=pure (some<|.builtin id)) (j:Qd slice)
  (h:wpAny (model prog w) A (eval value env) (λo q=>wpAny (model prog w) A (eval slice env) (λi y=>y.TypeIs o T/\wpAny (model prog w) A (getItem o i) Q E y) E q) E s) :
  wpAny (model prog w) A (eval (.Subscript value slice pos) env) Q E s:=by
 refine Subscript_<|pX h (λo q z=>pX z (λi y u=>?_) λ_ _ x=>x) λ_ _ x=>x;obtain⟨p,u⟩:=u;unfold subscriptTail;refine mS ?_;rw[getitemInPython_of_ne p.not_modules];refine mS<|wpAny_specialOf p l ?_;have fin:wpAny (model prog w) A (subscripted slice false o i) (λr n=>wpAny (model prog w) A (letTemporaryGo value o r >>=λ_=>pure r) Q E n) E y:=by
  rw[j o i];show wpAny_operating<|pX u (λr n z=>mS<|wpAny_letTemporaryGo<|nG z) λ_ _ x=>x
 first
  | show nG (mS fin)
  | show mS (nG<|mS fin)
  | show mS fin
def Zrz(I:mI X u z H s)(g:Xk H a y o):s.TypeIs (.ref a) "dict":=by
 rcases g with⟨x,k,e,_,_⟩|⟨x,k,b,e,_,_,_⟩
 ·obtain⟨_,_,r,_,w⟩:=qK I.hok e;show w.typeIs
 ·obtain⟨_,_,r,_,w⟩:=xk I.hok e;show w.typeIs
inductive rM(H:Hp)(y:V)(Q:VK):V->Prop
 | mk {a v}:Xk H a y (some v)->Q v H->rM H y Q (.ref a)
def VI(w u:TE):TE:=λz H Q=>w z H λx s=>u z s λy r=>rM r y Q x
inductive xv(H:Hp)(y v:V)(k:Hp->Prop):V->Prop
 | mk {a H4}:Zcp H a y v H4->k H4->xv H y v k (.ref a)
def Um(w u s:TE):TS:=λD z H=>s z H λv r=>w z r λx q=>u z q λy p=>xv p y v (D.nx z) x
def Y3(q:X.A.units+1<cLine)(p:PE X o n)(l:PE X i j)(e:Qd i):PE X (.Subscript o i pos) (VI n j):=by
 intro w s z H Q I h;refine Ycv PySem.F.slot_dict_getitem.lookup e<|mZ (p w s z H _ I h) λu y ⟨x,d,c,Y,U⟩=>mZ (l w y z d _ c U) λG E N=>?_;obtain⟨y,M,r,L,@⟨a,v,g,J⟩⟩:=N;obtain rfl:u=Value.ref a:=Y;show#[Zrz r g,Zw7 q r g L λd c y x=>#[v,M,y,x,J]]
def X6(q:X.A.units+1<cLine)(p:PE X o n)(l:PE X i j)(e:PE X value d)(c:swapsWith value (some<|.Subscript o i Y) pos.line X.env=pure false) :
  PS X (.Assign [.Subscript o i Y] value pos) (Um n j d):=by
 intro w s z H D I h;refine wpAny_Assign_Subscript (mZ (e w s z H _ I h) λr y ⟨v,U,Q,N,M⟩=>mZ (p w y z U _ Q M) λu L ⟨x,J,G,E,C⟩=>mZ (l w L z J _ G C) λiv s3 B=>?_) c;obtain⟨y,x,A,ry,@⟨a,H4,g,q3⟩⟩:=B;obtain rfl:u=Value.ref a:=E;show Zx6 q A g ry N λs4 I4=>#[z,H4,I4,q3]
def Zyw(h:lY)(z:sysModules<h.objs.size):Z8 P w H (h.push {cls:=.type "dict",data:=.dict #[]}) h.objs.size (.dK []) :=
 #[sH _,qt.mpr<|oM<|oi z,[],.nil,Heap.DictOf.new h]
def Vg(h:lY)(z:sysModules<h.objs.size):Z8 P w H (h.push {cls:=.type "dict",data:=.dict #[]}) h.objs.size (.dT []) :=
 #[sH _,qt.mpr<|oM<|oi z,[],.nil,_,#[],0,oQ _ rfl,#[rfl,rfl,rfl],rfl,rfl,tw]
def Yfn:TE:=λ_ H Q=>∀p,H p=none->Q (.ref p) (mJ H p<|.dK [])
def Ye4:TE:=λ_ H Q=>∀p,H p=none->Q (.ref p) (mJ H p<|.dT [])
def Ybt:PE X (.Dict [] [] pos) Yfn:=λy s z H Q I h =>
 wpAny_Dict_empty #[.ref #v[s],_,I.laid (a:=#v[s]) (o:=.dK []) (t':=s.toks) (λ_ _ q=>nQ _ q) (nk _)<|Zyw s.heap I.big,rfl,h _<|I.hok.fresh<|nk _]
def Yac:PE X (.Dict [] [] pos) Ye4:=λy s z H Q I h =>
 wpAny_Dict_empty #[.ref #v[s],_,I.laid (a:=#v[s]) (o:=.dT []) (t':=s.toks) (λ_ _ q=>nQ _ q) (nk _)<|Vg s.heap I.big,rfl,h _<|I.hok.fresh<|nk _]
def yW(kvs more:lQ (ng×V)):lQ (ng×V):=more.foldl (λy z=>Ws y z.1 z.2) kvs
def KV.merge:∀{more:lQ (ng×V)}{z:lQ (ng×lT)}{kvs:lQ (ng×V)}{vs:lQ (ng×lT)},KV more z->KV kvs vs->KV (yW kvs more) (merged vs z):=by
 intro more z kvs vs r;unfold KV at r
 induction r generalizing kvs vs with
 | nil=>intro q;show q
 | @cons p q w u h t y =>
  intro x;have e:KV (Ws kvs p.1 p.2) (stored vs q.1 q.2):=by
   have:=x.put p.1 h.2;rw[<-h.1];show this
  show y e
theorem Ri:∀(more kvs:lQ (ng×V)),(yW kvs more).length<=kvs.length+more.length
 | [],kvs=>by change kvs.length<=kvs.length+0;lia
 | p ::r,kvs=>by
  have z:=Ri r<|Ws kvs p.1 p.2;have y:=CK kvs p.1 p.2;change(yW (Ws kvs p.1 p.2) r).length<=_;rw[pE];lia
structure M1(X:Cx)(o:Expr)(m:Str)(u5:Pos)(e:Expr)(j8:Pos):Prop where
 mD:attributeBase o m X.env (eval o X.env)=eval o X.env
 few:((backTo j8<|starEach [e] X.env).all (λx=>!x.1) && (backToKw j8<|keywordEach [] X.env).all (λx=>x.1.isSome)
  && decide (([e]:List Expr).length+([]:List Keyword).length+(if([]:List Keyword).isEmpty then 0 else 1)<30))=true
 line:(u5.endLine ==j8.line)=true
 trees:backTo j8 (starEach [e] X.env)=[(false,eval e X.env)]
structure M2(X:Cx)(o:Expr)(m:Str)(u5:Pos)(e f:Expr)(j8:Pos):Prop where
 mD:attributeBase o m X.env (eval o X.env)=eval o X.env
 few:((backTo j8<|starEach [e,f] X.env).all (λx=>!x.1) && (backToKw j8<|keywordEach [] X.env).all (λx=>x.1.isSome)
  && decide (([e,f]:List Expr).length+([]:List Keyword).length+(if([]:List Keyword).isEmpty then 0 else 1)<30))=true
 line:(u5.endLine ==j8.line)=true
 trees:backTo j8 (starEach [e,f] X.env)=[(false,eval e X.env),(false,eval f X.env)]
def DQ(H:Hp)(a:lS):Prop:=(∃z,Rd H a<|.dK z)\/∃z,Rd H a<|.dT z
def GI(I:mI X p z H s)(d:DQ H a) :
  s.TypeIs (.ref a) "dict"/\(∀b,Value.ref a=.ref b->∃y,s.heap.get? b=some y/\y.dict=none)/\(a ==sysModules)=false:=by
 rcases d with⟨w,e⟩|⟨w,e⟩
 ·obtain⟨_,hd,o,_,x⟩:=qK I.hok e;refine#[x.typeIs,λb q=>?_,hd];cases q;obtain⟨y,_,_,u,r,_⟩:=x;show#[y,u,r.2.1]
 ·obtain⟨_,hd,o,_,x⟩:=xk I.hok e;refine#[x.typeIs,λb q=>?_,hd];cases q;obtain⟨y,_,_,u,r,_⟩:=x;show#[y,u,r.2.1]
section
variable {E:lT->lU->Prop}
def Yey{Q:lT->lU->Prop}(c:A.units+1<cLine)(I:mI X Y z H s)(g:Xk H a y o)(j:Yd y u)(rd:Yd d r)(h:∀i s',mI X Y z H s'->Yd (o.getD d) i->Q i s') :
  wpAny (model X.prog X.w) A (call (.builtin "dict.get") [.ref a,u,r]) Q E s:=by
 rcases g with⟨q,k,e,p,l⟩|⟨q,k,b,e,p,U,l⟩
 ·subst p;obtain⟨x,hd,N,n,w⟩:=qK I.hok e;refine vO Ei w.typeIs Mp (Od _ _ _) (meets_dict_get_default (Z1 X.prog X.w) a (uq j) hd r) #[_,w.mapOf,h _ _ (I.tok _) ?_];rw[l];show(n.val k).getD rd
 ·subst p;cases(show u=Value.ref b from j);obtain⟨x,hd,N,n,w⟩:=xk I.hok e;refine vO Ei w.typeIs Mp (Od _ _ _) (meetsH_dict_get_default (tupleKind<|Z1 X.prog X.w) a b hd r) #[yt c,k,N,yR I.hok U,w,h _ _ (I.tok _) ?_];rw[l];show(n.val k).getD rd
end
def XH(r q p:TE):TE:=λz H Q=>r z H λx u=>∃a,x=.ref a/\DQ u a/\q z u λy n=>p z n λw s=>∃o,Xk s a y o/\Q (o.getD w) s
def VJ(r q:TE):TE:=λz H Q=>r z H λx u=>∃a,x=.ref a/\DQ u a/\q z u λy s=>∃w k v,s a=some (.dK w)/\y=kV k/\Y8 w k=some v/\Q v (mJ s a<|.dK<|vt w k)
def yn(q:X.A.units+1<cLine)(p:PE X o n)(he:PE X e l)(j:PE X f i)(m:M2 X o "get" c e f Y):PE X (.Call (.Attribute o "get" c) [e,f] [] Y) (XH n l i):=by
 intro w s z H Q I h;refine FO m.mD m.few m.line AE Ei PySem.F.type_dict_get<|mZ (p w s z H _ I h) λu U N=>?_;obtain⟨x,M,r,L,a,J,d,G⟩:=N;subst J;obtain rfl:u=Value.ref a:=L;obtain⟨E,D,_⟩:=GI r d;refine#[E,D,?_];rw[m.trees];refine xx rfl (zr (yK (mZ (he w U z M _ r G) λiv x ⟨y,C,B,A,q2⟩ =>
  yK (mZ (j w x z C _ B q2) λfv s3 ⟨y,H3,I3,rz,ov,g,q3⟩=>AF ?_))))
 show Yey q I3 g A rz λw' s4 I4 B8=>#[_,H3,I4,B8,q3]
def WW(p:PE X o n)(he:PE X e j)(m:M1 X o "pop" i e g):PE X (.Call (.Attribute o "pop" i) [e] [] g) (VJ n j):=by
 intro r s z H Q I h;refine FO m.mD m.few m.line AE KR PySem.F.type_dict_pop<|mZ (p r s z H _ I h) λu c w=>?_;obtain⟨x,Y,q,U,a,N,d,M⟩:=w;subst N;obtain rfl:u=Value.ref a:=U;obtain⟨L,J,_⟩:=GI q d;refine#[L,J,?_];rw[m.trees];refine xx rfl<|zr<|yK<|mZ (he r c z Y _ q M) λy x w=>AF ?_;obtain⟨y,H2,G,E,x,k,v,D,C,l,B⟩:=w;subst C;show To G D E l (.inl rfl) λw' s3 A B8=>#[v,_,A,B8,B]
section
variable {E:lT->lU->Prop}
def Ua{Q:lT->lU->Prop}(I:mI X u z H s)(e:Rd H a (.dK kvs))(h:∀p s',H p=none->mI X u z (mJ H p<|.dK kvs) s'->Q (.ref p) s'):wpAny (model X.prog X.w) A (call (.type "dict") [.ref a]) Q E s:=by
 obtain⟨y,hd,q,x,r⟩:=qK I.hok e;refine kt_call_dict hd r (by rw[<-x.length];show y) λj n l=>?_
 refine h _ _ (I.hok.fresh<|nk _)<|I.laid (a:=#v[s]) (o:=.dK kvs) (t':=s.toks) (λb q w=>?_) (nk _)<|yP y (qt.mpr<|oM<|oi I.big) x n;show(l.2 b<|oi<|nO w).trans (nQ _ w)
end
end L2
namespace Att
open PySem PySem.W PySem.Calls PyProof.Rows
def ZX :∀(ns:lQ Int)(vs:lQ lT),WellAll P h vs (ns.map WData.int)->IntsAre vs ns:=by
 intro ns
 induction ns with
 | nil =>
  intro vs w;rw[uP]at w;cases w;show .nil
 | cons n ns z =>
  intro vs w;rw[nV]at w;cases w with
  | cons a b =>
   cases a;show .cons _ _<|z _ b
def TD{l:OpenLaw}{n:Nat}(p:l.most=some n){P:Params}{h:lY}{args:lQ WData}{vals:lQ lT}
  (z:l.row.toRowW.claim.pre args=true) (w:WellAll P h vals args) :
  ∃a vs ns,vals=[Value.ref a]/\args=[WData.list (ns.map WData.int)]/\h.get? a=some {cls:=.type "list",data:=.seq vs.toArray}/\IntsAre vs ns/\ns.length<=n:=by
 have u:WShape.hasAll [] args [.list .int]=true:=(pre_splitW z).1;have s:l.pre.holds [] {args:=args}=true:=(pre_splitW z).2;obtain⟨d,r,rfl,o,j⟩:=hasAllW_cons u;obtain rfl:=hasAllW_nil j;obtain⟨r,rfl,i⟩:=hasW_list o;obtain⟨ns,rfl⟩:=items_int i;have g:ns.length<=n:=by
  unfold OpenLaw.pre at s;have y:(WTm.not<|.lt (.lit<|.int (n:Int))<|.len<|.arg 0).holds [] {args:=[.list (ns.map .int)]}=true:=by
   have y:=(holds_andW s).1;rw[p]at y;show y
  have x:=condW_of y<|w_not<|w_lt w_lit<|w_len_list<|w_arg rfl;rw[mK]at x;refine Nat.le_of_not_lt λq=>?_
  have e:(n:Int)<((ns.length:Nat):Int):=by lia
  first
   | (rw[nS e]at x;show absurd x<|by lk)
   | (simp at x;lia)
 cases w with
 | cons r d =>
  cases d;cases r with
  | list c Y=>show#[_,_,ns,rfl,rfl,c,ZX ns _ Y,g]
def Td(l:OpenLaw)(args:lQ WData):l.row.toRowW.claim.post args (.bool true) args=true :=
 postW_of (r:=l.row.toRowW) (X:=(true ==true))
  (show WShape.has [] (.bool true) .bool=true by first|rfl|decide|simp[WShape.has,WShape.arms,WShape.armsAll])
  (show(WTm.eq .res<|.lit<|.bool true).value [] {args:=args,res:=some<|.bool true,after:=args}=some (.bool<|true ==true)from w_eq_bool (w_res rfl) w_lit) rfl
def attach_call{l:OpenLaw}{n:Nat}{q:md}{Q:lQ lR}{N:(lR->lV lT)->lY->Prop}{M:lZ->lY->Prop}{d:DefRec}
  (I:l.most=some n) (j:d.params.defaults=[])
  (call:∀(w:lZ)(i z:lU)(s h:lR->lV lT)(y:lS)(o:Obj)(g p e:lT)(a:lS)(vs:lQ lT)(ns:lQ Int),
   Ground q Q [] N w i s h z.heap->M w z.heap->
   z.heap.get? y=some o->o.data=.func (docDef d.name d.params d.body d.scope g p e)->z.heap.CodeRec p d.name->s d.name=some (.ref y)->
   z.heap.get? a=some {cls:=.type "list",data:=.seq vs.toArray}->IntsAre vs ns->ns.length<=n->z.gens=#[]->
   codeAny (model l.prog w) callerA (.call (.ref y) #[[.ref a],[]]) (λr s'=>r=.ok (.ret<|.bool true)/\OldK z.heap s'.heap/\s'.os=z.os/\AllBare s'.gens) z) :
  WalkO q Q N M l.row.toRowW d [] (λf vs=>PySem.call f vs):=by
 intro w i z s h G Y y o g p e H kV E hd D L c C args vals as x J B U A;obtain rfl:H=.none:=Dflts.none L j;obtain rfl:kV=.none:=Dflts.noKw L;obtain⟨a,vs,ns,rfl,rfl,u,V8,j7⟩:=TD I x U;refine enter_call<|ve (call w i z s h y o g p e a vs ns G Y E (fd_plain hd) D c u V8 j7 C) λr s' hq=>?_;obtain⟨rfl,h2,h3,h4⟩:=hq;show#[.inl #[.bool true,.bool true,[],rfl,λ_=>rfl,.bool true,Td l _,λ_=>#[List.Pairwise.nil,λ_ hm=>(nomatch hm)]],h2,h3,h4]
end Att
namespace L2
open PySem PySem.Spec PyProof.Rows
def LV{vs:lQ lT}{ns:lQ Int}(h:IntsAre vs ns):Z7 (ns.map V.int) vs:=by
 induction h with
 | nil=>show .nil
 | cons n t _ h=>show .cons #[t,rfl] h
end L2
/- THE LAST THEOREM (shape;LID,My.* are yours):
   My.Adr:a structure of the addresses that your layer names (classes,functions);My.Txt K t:a structure (Prop) of the equations over K;
   My.txt_mk:{K} {implicit addresses ..} (e1:nsIn K mainGlobals "law"=some (some<|.ref f)) (e2:K.lookup f=some #[oc,od,.func<|fnOf "law" "law" params body scope dV kV A6 pm an d6 ct,sl]) (e3:codeIn K d6 "law"=true) .. :∃t,My.Txt K t
(the tactic k_is has no namespace:write k_is) -/
namespace L2
open PySem PySem.Spec PyProof.Rows
def Z5(s:lX)(j:Nat):lX:=match s with
 | .ClassDef _ _ _ body _ _ _ _ _ _ _=>body.getD j (.Pass #[0,0,0,0])
 | _=>.Pass #[0,0,0,0]
def W3(s:lX):Arguments:=match s with
 | .FunctionDef _ a _ _ _ _ _ _ _ _=>a
 | _=>{posonlyargs:=[],args:=[],vararg:=none,kwonlyargs:=[],kw_defaults:=[],kwarg:=none,defaults:=[]}
def Y7(s:lX):lQ lX:=match s with
 | .FunctionDef _ _ b _ _ _ _ _ _ _=>b
 | _=>[]
def Zj(s:lX):Scope:=match s with
 | .FunctionDef _ _ _ _ _ _ z _ _ _=>z
 | _=>{kind:=.function,names:=[],isGenerator:=false,isCoroutine:=false}
abbrev oN:uJ:=λ_ _ _ _ _ _=>False
abbrev E0:XK:=λ_ _ _=>False
def Z0:sM oN X E0:=λ_ _ _ _ _ _ _ h=>h.elim
structure qT(K:Frag)(x qual:Str)(st:Stmt)(f:Addr)(fd:FuncData):Prop where
 ex:∃(oc:Value)(od:Option Addr)(kV A6 pm:Value)(an:Option Addr)(d6 ct:Value)(O0:Array (Option Value)),
  fd=fnOf x qual (W3 st) (Y7 st) (Zj st) .none kV A6 pm an d6 ct/\K.lookup f=some #[oc,od,.func fd,O0]/\codeIn K d6 qual=true
 kp:keepIn K (.ref f)=true
section
variable {P:md} {w:lZ} {K:lW} {mg:lR->lV lT} {mD:lY}
def qT.ok{x qual:lR}{st:lX}{f:lS}{fd:mf}{N ps:lQ lR}{k:Nat}{y:Sp}(F:qT K x qual st f fd)(S:Zw N ps (Zj st))(len:∀vs H Q E,y vs H Q E->vs.length=ps.length)
  (r:∀(z:lT)(A:me)(u:lQ Env)(s:lU)(H:Hp)(vs:lQ V)(Q:VK)(E:XK),Y4 k (A.deeper<|envOfC qual (Zj st) #v[s] f z)->y vs H Q E->
   ∃t,qM (oS oN P w K mg mD N qual (Zj st) f z A u s H E).nox (Y7 st) t/\t {nx:=λ_ H'=>Q .non H',rt:=Q} (start N vs) H):Xs P w K mg mD oN (k+1) f fd ps y:=by
 obtain⟨l,j,kV,i,g,e,z,d,c,rfl,lk,p⟩:=F.ex;refine Dw lk p S len λA u s H vs Q E o n=>?_
 obtain⟨t,h,q⟩:=r z A u s H vs Q E o n;show#[t,h.nox,q]
def qT.binds{x qual:lR}{st:lX}{f:lS}{fd:mf}{ps:lQ lR}(F:qT K x qual st f fd)
  (h:∀(kV z y:lT)(u:lV lS)(s r:lT)(us:lQ lT),us.length=ps.length->bindArgs (fnOf x qual (W3 st) (Y7 st) (Zj st) .none kV z y u s r) #[us,[]]=pure (ps.zip us)):qx K fd ps []:=by
 obtain⟨q,p,kV,z,y,u,s,r,o,rfl,lk,n⟩:=F.ex;show .all<|h kV z y u s r
def Iu{x qual:lR}{st:lX}{f:lS}{q:lT}{od y:lV lS}{p:Array (lV lT)}{kV u s z r:lT}(l:K.lookup f=some #[q,od,.func<|fnOf x qual (W3 st) (Y7 st) (Zj st) .none kV u s y z r,p])
  (c:codeIn K z qual=true) (k:keepIn K (.ref f)=true):qT K x qual st f (fnOf x qual (W3 st) (Y7 st) (Zj st) .none kV u s y z r):=#[#[q,od,kV,u,s,y,z,r,p,rfl,l,c],k]
end
def Ys(z:Y4 k A):A.units+1<cLine:=Eh (Nat.add_le_add_left (by lk:1<=64) _) z.units
def Zo(h:n<=1000):n<sizeLine:=Eh h (by lk)
variable {X:Cx}
def pv(i:Nat)(z:X.N[i]? =some x:=by rfl)(y:Cq X.env.scope x:=by first|show xY rfl|show yZ (xY rfl)|show yZ<|yZ rfl)(hd:(x ==("__debug__":lR))=false:=by lk)
  (w:(x ==("__classdict__":lR))=false:=by lk):PE X (.Name x pos) (rB i):=ZE z y hd w
def Ui:Xe X (.builtin "len") (λxs H Q=>∃a kvs,xs=[V.ref a]/\H a=some (.dK kvs)/\Q (.int kvs.length) H):=by
 intro p s z H xs o Q I r h;obtain⟨a,kvs,rfl,y,q⟩:=h;obtain⟨u,rfl,x⟩:=W5 r;cases x;show Yh9 I (.inl y) λt n w=>#[.int kvs.length,H,w,#[t,rfl],q]
def wg{A B:Prop}(h:B):if false=true then A else B:=by
 rw[mT oU];show h
def Rn{A B:Prop}(h:A):if true=true then A else B:=by
 rw[mU rfl];show h
def Yh{c A B:Prop}[Decidable c](z:c->A)(y:¬c->B):if c then A else B:=by
 by_cases h:c
 ·rw[mU h];show z h
 ·rw[mT h];show y h
def mC(H H':Hp):Prop:=∀b o,H b=some o->H' b=some o
def mC.refl(H:Hp):mC H H:=λ_ _ h=>h
def mC.trans(a:mC H z)(b:mC z y):mC H y:=λc o h=>b c o<|a c o h
def mC.free(e:mC H H')(h:H' l=Option.none):H l=Option.none:=by
 cases q:H l with
 | none=>rfl
 | some o =>
  rw[e l o q]at h;cases h
def mC.seq{K:lW}{H H':Hp}{a:lS}{xs:lQ V}(e:mC H H')(h:SqL K H a xs):SqL K H' a xs:=by
 rcases h with(h|⟨o,h⟩)|h
 ·show .inl<|.inl<|e _ _ h
 ·show .inl<|.inr #[o,e _ _ h]
 ·show .inr h
end L2
section
namespace L2
open PySem PySem.Spec PyProof.Rows
section
variable {R:Result->lU->Prop}
def Vu(I:Nat->lU->Prop)
  (Q:∀n s,I n s->wpAny (model prog w) A (pyNext it) (λr j=>match r with
   | none=>R (.ok .next) j
   | some v=>wpAny (model prog w) A (letOwnedTupleGo i it v) (λ_ z=>wpAny (model prog w) A (assign i env v) (λ_ e =>
     wpAny (model prog w) A (forIn d true λc r=>if r=true then do let ok <-isTrue c env (eval c env);pure (ForInStep.yield ok)else pure (ForInStep.yield r)) (λok g =>
      if ok=true then wpAny (model prog w) A (eval a env) (λx u =>
       wpAny (model prog w) A (call (.builtin "list.append") [Y,x]) (λ_ q=>∃m,m<n/\I m q) (λ_ _=>False) u) (λ_ _=>False) g
      else ∃m,m<n/\I m g) (λ_ _=>False) e) (λ_ _=>False) z) (λ_ _=>False) j) (λ_ _=>False) s)
  (n:Nat) (h:I n s) :
  codeAny (model prog w) A (.compLoop (.ListComp a [#[i,N,d,0]] scope pos) 0 it Y env) R s:=by
 refine codeAny_loop rfl I (λn s M=>?_) n h;change wpAny _ A ((compTurn (.ListComp a [#[i,N,d,0]] scope pos) 0 it Y env).onRaise (λx=>do noteFrame x env;theTreesLotGoes x)) _ _ s;refine wpAny_noted ?_;rw[compTurn_list];refine mS<|zX<|mS<|pX (Q n s M) (λr j p=>?_) λ_ _ y=>y.elim;cases r with
 | none=>show nG p
 | some v =>
  refine mS<|pX p (λ_ z o=>?_) λ_ _ y=>y.elim;refine mS<|pX o (λ_ e l=>mS<|pX l (λok g U=>?_) λ_ _ y=>y.elim) λ_ _ y=>y.elim;cases ok with
  | false=>show nG #[rfl,U]
  | true =>
   show mS<|mS<|pX U (λx u l=>mS<|pX l (λ_ q L=>nG<|nG #[rfl,L]) λ_ _ y=>y.elim) λ_ _ y=>y.elim
end
def Xf(X:Cx)(scope:Scope)(z:lQ (lR×lS))(y:lQ lR)(s:lU)(H:Hp)(C:lS)(ex:lQ lS):Cx where
 prog:=X.prog
 w:=X.w
 K:=X.K
 mg:=X.mg
 mD:=X.mD
 A:=X.A
 N:=y
 mh:=s
 mj:=H
 env:=compEnvC scope z C X.env
 mB:=X.stack
 stack:=X.stack
 ex:=ex
 fn:=λ_=>false
 calm:=X.calm
 pn:=[]
 xe:=λ_ _=>False
structure X8(X:Cx)(scope:Scope)(cl:List (Str×Addr))(N':List Str)(fr:St->St):Prop where
 kind:scope.kind=.function
 cell:∀y∈scope.names,y.2≠.cell
 names:∀y∈scope.names,y.2=.local->scope.names.lookup y.1=some .local
 clos:closureFor scope X.env=pure cl
 sub:∀x c,cl.lookup x=some c->X.env.cells.lookup x=some c
 has:∀x,((relabel scope X.env).names.lookup x=some .cell\/(relabel scope X.env).names.lookup x=some .free)->∃c,cl.lookup x=some c
 len:∀σ:St,σ.length=X.N.length->(fr σ).length=N'.length
 fr:∀(σ:St)(i:Nat)(x:Str)(v:V),N'[i]? =some x->(fr σ)[i]? =some (some v)->Cq (relabel scope X.env) x->
  ((relabel scope X.env).names.lookup x=some .cell\/(relabel scope X.env).names.lookup x=some .free)/\
  (X.env.kindOf x=some .cell\/X.env.kindOf x=some .free)/\∃j:Nat,X.N[j]? =some x/\σ[j]? =some (some v)
def We(a b:St):Prop:=∀(i:Nat)(v:V),a[i]? =some (some v)->b[i]? =some (some v)
def We.set(h:a[i]? =some none):We a (a.set i<|some v):=λj u e=>by
 by_cases z:i=j
 ·subst z;rw[h]at e;cases e
 ·rw[Ib z];show e
def We.trans(h:We a b)(k:We b c):We a c:=λi v e=>k i v<|h i v e
def PF(X:Cx)(x:lQ ma)(t:TT):Prop :=
 ∀(y:lQ (lS×Obj)) (s:lU) (z:St) (H:Hp) (Q:Bool->Hp->Prop),mI X y z H s->t z H Q->
  ∅ (forIn x true λc r=>if r=true then do let ok <-isTrue c X.env (eval c X.env);pure (ForInStep.yield ok)else pure (ForInStep.yield r)) (TP X y z Q) X.xe s
def zB:TT:=λ_ H Q=>Q true H
def Wb:PF X [] zB:=λ_ _ _ H _ I h=>wpAny_tests_nil #[H,I,h]
def tO(h:PT X c t):PF X [c] t:=λy s z H Q I x=>wpAny_tests_one<|h y s z H Q I x
def qV(J:It)(fr:St->St)(g:TG)(n:TT)(l:TE)(Q:VK)(z:St)(j:Hp)(D:lS):Prop :=
 ∃W:Nat->Nat->lQ V->Hp->Prop,(∃m,W 0 m [] (mJ j D<|.lst []))/\∀i m u H,W i m u H->
  (J.stop i H/\Q (.ref D) H)\/(J.go i H/\∃N:lQ V->Hp->Prop,(∀s r,N s r->∃q,q<m/\W (i+1) q s r)/\
   ∀x r,J.yld i H x r->g x (fr z) r λw h=>We (fr z) w/\n w h λb p =>
    if b=true then l w p λy o=>o D=some (.lst u)/\u.length<sizeLine/\N (u++[y]) (mJ o D<|.lst<|u++[y])else N u p)
def AA(x:TI)(fr:St->St)(g:TG)(w:TT)(u:TE):TE:=λz H Q=>x z H λJ y=>∀D,y D=none->qV J fr g w u Q z y D
section
variable {X:Cx} {fr:St->St}
def SE(I:mI X l z H s)(S:X8 X scope j i fr)(p:#v[s]<=C)(r:∀b∈n,tz X l H b)(g:∀b∈n,∃o,s.heap.get? b=some o):(Xf X scope j i s H C n).Ok where
 mod:=I.ok.mod
 kind:=S.kind
 glob:=I.ok.glob
 blt:=I.ok.blt
 above:=p
 inj:=λx y c d a=>I.ok.inj x y c (S.sub x c d) (S.sub y c a)
 has:=λx h=>S.has x h
 cab:=λx c h=>absurd (show false=true from h) oU
 hd:=I.ok.hd
 frames:=I.ok.frames
 stk:=.inl rfl
 exf:=λb u=>by
  obtain⟨o,e⟩:=g b u;refine#[oi<|pK (nO e) p,λx c h=>(r b u).2.2.2.2.1 x c (S.sub x c h)]
 bs:=I.bs
 bsz:=ow I.ok.bsz I.sz
 noex:=λb o e u=>by
  rcases(r b u).2.2.2.1 with w|w
  ·show I.ok.noex b o e w
  ·show absurd (pK (nO e)<|ow I.ok.bsz w) (qL _)
 exfs:=λb u w=>by
  rcases nU.mp (I.stkSub b w)with q|q
  ·show(r b u).2.1 q
  ·show(r b u).2.2.1 q
 funs:=I.stack
 frf:=I.stkFree
def Vc{h:lR->lV lT}(I:mI X L z H s)(S:X8 X scope J G fr)(a:#v[s]<C)(g:D=#v[s])(E:∀b∈U,tz X L H b)(B:∀b∈U,∃o,s.heap.get? b=some o)
  (n:∀b o,s.heap.get? b=some o->w.get? b=some o) (A:w.get? D=some {cls:=.type "list",data:=.seq ([]:lQ lT).toArray 0}) (hn:w.Ns C h) (hCz:w.objs.size<=C+1) :
  mI (Xf X scope J G s H C U) [] (fr z) (mJ H D<|.lst []) {s with heap:=w,toks:=tk}:=by
 have fD:H D=none:=I.hok.fresh<|vJ g.symm;have fC:H C=none:=I.hok.fresh<|pA a;have Y:D≠C:=by rw[g];show oi a
 refine#[SE I S (pA a) E B,rfl,I.bare,Un.laid n (vJ g.symm) fD,#[h,hn,λi x v e1 e2 e3=>?_],λx c e=>?_,?_,λx c e=>?_,λp u=>absurd (show p∈([]:lQ (lS×Obj))from u) (by simp),?_,S.len z I.len]
 ·obtain⟨Q,N,j,j1,j2⟩:=S.fr z i x v e1 e2 e3;obtain⟨c,M⟩:=S.has x Q;have Q3:=S.sub x c M;obtain⟨m,_,p⟩:=I.loc;obtain⟨u,r,l⟩:=p j x v j1 j2 (by rcases N with k|k;show .inr<|.inl k;show .inr<|.inr k);refine#[u,r,.inr #[Q,c,M,?_]];rcases l with⟨k,_⟩|⟨_,c2,P3,o,y,d⟩
  ·rcases N with q|q<;>(rw[k]at q;cases q)
  ·rw[Q3]at P3;cases P3;show#[o,n _ _ y,d]
 ·obtain⟨v,o,y,d⟩:=I.cell x c<|S.sub x c e;show#[v,o,n _ _ y,d]
 ·change mJ H D (.lst []) C=none;rw[Zd Y.symm];show fC
 ·change mJ H D (.lst []) c=none;rw[Zd (λy=>?_)]
  ·show I.freeC x c<|S.sub x c e
  ·obtain⟨v,o,q,d⟩:=I.cell x c<|S.sub x c e;have:=nO q;rw[y,g]at this;show qL _ this
 ·show I.hok.laid n (vJ g.symm) #[sH _,[],0,.nil,A]
def Oo(I:mI X i z H s)(g:#v[s]<C)(d:∀b∈r,tz X i H b)(J:mI (Xf X scope E D s H C r) [] (fr z) H' s2)(p:Heap.SameBut C s2.heap h') :
  mI X i z H' {s2 with heap:=h'}:=by
 have h:H' C=none:=J.free;have u:Un (oF X.stack) r H H' s.heap s2.heap:=J.mD;have l:∀b o,s.heap.get? b=some o->b≠C:=λb o e=>oi<|tW (nO e) g
 have a:Un (oF X.stack) r H H' s.heap h':=by
  refine#[λb o e n x w=>?_,λb o e n x w=>?_,u.free,λb o e w=>?_,u.tups,u.frzs,u.tbls]
  ·rw[p.2 b (l b o e)];show u.keep b o e n x w
  ·obtain⟨Y,q⟩:=u.slot b o e n x w;show#[Y,by rw[p.2 b (l b o e)];show q]
  ·obtain⟨Y,q⟩:=u.there b o e w;show#[Y,by rw[p.2 b (l b o e)];show q]
 have j:oq X.prog X.w H' h':=λb o e=>by
  refine(J.hok b o e).stay (λc v U q=>?_) (λ_ q=>q) λ_ _ q=>q
  have Q:c≠C:=by
   rintro rfl;rcases U with y|y
   ·rw[<-y,h]at e;cases e
   ·rw[h]at y;cases y
  rw[p.2 c Q];show q
 refine I.call' (s':={s2 with heap:=h'}) (ch:=r) J.os a j J.bare λb x=>?_
 obtain⟨_,N,Y,M,L,G⟩:=d b x;show#[M,N,L,G]
end
def Ov{fr:St->St}{use:lV (lT->Sem Unit)}{QQ:lT->lU->Prop}
  (hc:X.calm=true) (S:X8 X scope M L fr) (hi:PI X tg u6 wi) (hg:∀s H C ex,PG (Xf X scope M L s H C ex) tg g) (hf:∀s H C ex,PF (Xf X scope M L s H C ex) K3 tf)
  (he:∀s H C ex,PE (Xf X scope M L s H C ex) N1 te) (hs:∀x,foldedSetIterable u6 X.env x=pure x:=by intro _;rfl) (I:mI X c7 z H s) (h:AA wi fr g tf te z H Q)
  (fin:∀{s2 U l C H3 s4},mI X c7 z U s2->#v[s2]<C->(∀b∈l,tz X c7 U b)->mI (Xf X scope M L s2 U C l) [] (fr z) H3 s4->Q (.ref #v[s2]) H3->compPost (model X.prog X.w) X.A X.xe use QQ (.ref #v[s2]) C (.ok .next) s4) :
  ∅ (comprehension (.ListComp N1 [#[tg,u6,K3,0]] scope pos) scope X.env C7 (newList []) false (eval u6 X.env) use) QQ X.xe s:=by
 refine wpAny_comprehension_free (use:=use) rfl hs S.clos S.kind S.names<|mZ (hi c7 s z H _ I h) λv d u=>mZ u λr s2 h2=>?_;obtain⟨it,l,tn,J,U,e,I2,T,d9,f2,q⟩:=h2;subst e;refine wx<|wpAny_newFunctionEnv S.cell (by intro y u;simp at u) (λj a V5=>?_) S.kind;dsimp only at a V5 ⊢;generalize hP:s2.heap.push {cls:=.type "list",dict:=none,data:=.seq ([]:lQ lT).toArray}=P at a V5 ⊢;have hPz:P.objs.size=#v[s2]+1:=by rw[<-hP,vD]
 have D:#v[s2]<P.objs.size:=by rw[hPz];show zK _
 have T9:∀b∈l,∃o,s2.heap.get? b=some o:=λb Y=>let⟨o,e,_⟩:=T.obj _ _ d9 b Y;#[o,e]
 have G:∀b,b<#v[s2]->b≠P.objs.size:=λb Y=>oi<|tW Y D
 have old:∀b o,s2.heap.get? b=some o->j.get? b=some o:=λb o e=>V5.extBut b o (G b<|nO e)<|nQ _<|hP ▸ nQ _ e
 have F5:j.get? #v[s2]=some {cls:=.type "list",data:=.seq ([]:lQ lT).toArray 0}:=V5.extBut _ _ (oi D)<|nQ _<|hP ▸ oQ _ rfl;have fD:U #v[s2]=none:=I2.hok.fresh<|nk _;obtain⟨W,⟨m0,w0⟩,Q8⟩:=q #v[s2] fD;have hz:j.objs.size<=P.objs.size+1:=by
  have e:=V5.1;rw[vD]at e;show vJ e
 have st1:tn 0 j:=T.keep _ _ _ d9 λb Y o e=>old b o e
 have Q9:∀{D5:lQ (lS×Obj)}{E:Hp},(∀p∈D5,p.1∉l)->(∀b∈l,E b=none)->∀b∈l,tz (Xf X scope M L s2 U P.objs.size l) D5 E b:=λ{D5 E} hp hn b Y=>by
  obtain⟨o,e⟩:=T9 b Y;obtain⟨_,f1,f2',u,f4,r⟩:=f2 b Y;refine#[hn b Y,G b<|nO e,λw=>?_,.inl Y,λx c h=>f4 x c<|S.sub x c h,λp U7 w=>?_]
  ·rcases nU.mp (I2.stkSub b w)with q|q
   ·show f1 q
   ·show f2' q
  ·have u:p∈D5:=by simpa[Xf]using U7
   show hp p u (by rw[w];show Y)
 have B:∀s3:lU,s3={s2 with heap:=j,toks:=s2.toks+([]:lQ (lR×lT)).length}->
   codeAny (model X.prog X.w) X.A (.compLoop (.ListComp N1 [#[tg,u6,K3,0]] scope pos) 0 (.ref it) (.ref #v[s2])<|compEnvC scope M P.objs.size X.env) (compPost (model X.prog X.w) X.A X.xe use QQ (.ref #v[s2]) P.objs.size) s3:=by
  rintro s3 rfl;have I3:mI (Xf X scope M L s2 U P.objs.size l) [] (fr z) (mJ U #v[s2] (.lst [])) {s2 with heap:=j,toks:=s2.toks+([]:lQ (lR×lT)).length}:=Vc I2 S D rfl f2 T9 old F5 a hz;refine Vu (λn u=>∃i ys E,mI (Xf X scope M L s2 U P.objs.size l) [] (fr z) E u/\tn i u.heap/\(∀b∈l,E b=none)/\W i n ys E) ?_ m0 #[0,[],_,I3,st1,λb Y=>?_,w0]
  ·rintro n s3 ⟨i,ys,H3,I3,x0,fr3,w3⟩;rcases Q8 i n ys H3 w3 with⟨stop,qn⟩|⟨go,N,hN,step⟩
   ·refine mZ (T.done (Xf X scope M L s2 U P.objs.size l) rfl rfl rfl hc i [] s3 (fr z) H3 _ I3 (Q9 (by simp) fr3) x0 stop) λr s4 ⟨hr,u⟩=>?_
    subst hr;show fin I2 D f2 u qn
   ·refine mZ (T.item (Xf X scope M L s2 U P.objs.size l) rfl rfl rfl hc i [] s3 (fr z) H3 _ I3 (Q9 (by simp) fr3) x0 go) λr s4 ⟨u,hr,h4⟩=>?_
    subst hr;refine mZ h4 λ_ s5 h9=>?_
    obtain⟨x,H5,I5,r5,y5,B9,fr5⟩:=h9;have I5':=I5.pinned (Q9 (by simp) fr5)<|T.obj _ _ B9;refine mZ (hg s2 U P.objs.size l _ s5 (fr z) H5 x u _ I5' r5<|step x H5 y5) λ_ s6 ⟨J,H6,I6,kp,q6⟩=>?_
    refine mZ (hf s2 U P.objs.size l _ s6 J H6 _ I6 q6) λok s7 ⟨H7,I7,q7⟩=>?_
    have N9:∀{A:St}{H8:Hp}{s8:lU}{c:lQ V},We (fr z) A->mI (Xf X scope M L s2 U P.objs.size l) ([]++zu l s5.heap) A H8 s8->N c H8->
      ∃m,m<n/\∃i ys E,mI (Xf X scope M L s2 U P.objs.size l) [] (fr z) E s8/\tn i s8.heap/\(∀b∈l,E b=none)/\W i m ys E:=λ{A H8 s8 c} kp8 I8 n8=>by
     obtain⟨m',hm,w8⟩:=hN c H8 n8;refine#[m',hm,i+1,c,H8,(I8.unpinned).weak (by rw[I8.len];show S.len z I2.len) kp8,T.keep _ _ _ B9 λb Y o e=>(I8.pin (b,o)<|qv _<|qv _<|DE Y e).1,λb Y=>?_,w8];obtain⟨o,e,d⟩:=T.obj _ _ B9 b Y;show(I8.pin (b,o)<|qv _<|qv _<|DE Y e).2.1
    cases ok with
    | false=>show N9 kp I7 q7
    | true =>
     refine mZ (he s2 U P.objs.size l _ s7 J H7 _ I7 q7) λuy s8 h9=>?_
     obtain⟨y,H8,I8,r8,d,hz8,q8⟩:=h9;show mZ (Jm _ s8 J H8 (.ref #v[s2]) [y] (.ref #v[s2]) [uy] (λ_ H9=>N (ys++[y]) H9) I8 rfl (.cons r8 .nil) #[d,hz8,q8]) λ_ s9 ⟨v9,H9,I9,_,q9⟩=>N9 kp I9 q9
  ·change mJ U #v[s2] (.lst []) b=none;obtain⟨o,e⟩:=T9 b Y;rw[Zd (oi<|nO e)];show(f2 b Y).1
 show codeAny_compStart_list (B _ rfl)<|T.self X.A 0 _ _ _ st1<|B _ rfl
def XZ{fr:St->St}
  (l:X.calm=true) (S:X8 X scope w u fr) (j:PI X p o i) (e:∀s H C y,PG (Xf X scope w u s H C y) p g) (d:∀s H C y,PF (Xf X scope w u s H C y) c a)
  (he:∀s H C y,PE (Xf X scope w u s H C y) Y U) (N:∀x,foldedSetIterable o X.env x=pure x:=by intro _;rfl):PE X (.ListComp Y [#[p,o,c,0]] scope pos) (AA i fr g a U):=by
 intro D s z H Q I h;rw[eval_ListComp];show Ov l S j e d he N I h λM r L n J=>let⟨G,q,_⟩:=n.loc;#[G,q,λB E=>#[.ref _,_,Oo M r L n E,rfl,J]]
section
variable {K:lW} {a:lS} {fr:St->St} {g:TG} {tf:TT} {te:TE} {Q:VK} {σ:St} {H1:Hp} {D:lS}
def W4(fr:St->St)(g:TG)(tf:TT)(te:TE)(σ:St)(D:lS)(x:V)(w:lQ V)(H:Hp)(N:lQ V->Hp->Prop):Prop :=
 g x (fr σ) H λz r=>We (fr σ) z/\tf z r λb u=>if b=true then te z u λy s=>s D=some (.lst w)/\w.length<sizeLine/\N (w++[y]) (mJ s D<|.lst<|w++[y])else N w u
def Y9(Pv:Nat->lQ V->Hp->Prop)(r:Pv 0 [] (mJ H1 D<|.lst []))(w:∀i z H,i<=xs.length->Pv i z H->SqL K H a xs)
  (q:∀i x z H,xs[i]? =some x->Pv i z H->W4 fr g tf te σ D x z H (Pv<|i+1)) (hd:∀z H,Pv xs.length z H->Q (.ref D) H):qV (ub K a) fr g tf te Q σ H1 D:=Wh Pv r (λs H p=>#[xs,w _ s H (nk _) p,nk _]) (λi s H u p=>#[#[xs,xs[i],w i s H (pA u) p,oy u],λx o ⟨e,y⟩=>e ▸ q i x s _ (y xs<|w i s H (pA u) p) p]) hd
def Ge(Pv:Nat->lQ V->Hp->Prop)(r:Pv 0 [] (mJ H1 D<|.lst []))(w:∀i z H,i<=xs.length->Pv i z H->SqT K H a xs)
  (q:∀i x z H,xs[i]? =some x->Pv i z H->W4 fr g tf te σ D x z H (Pv<|i+1)) (hd:∀z H,Pv xs.length z H->Q (.ref D) H):qV (DF K a) fr g tf te Q σ H1 D:=Wh Pv r (λs H p=>#[xs,w _ s H (nk _) p,nk _]) (λi s H u p=>#[#[xs,xs[i],w i s H (pA u) p,oy u],λx o ⟨e,y⟩=>e ▸ q i x s _ (y xs<|w i s H (pA u) p) p]) hd
def QH{lo:Int}{n:Nat}(Pv:Nat->lQ V->Hp->Prop)(u:Pv 0 [] (mJ H1 D<|.lst []))
  (r:∀i z H,i<n->Pv i z H->W4 fr g tf te σ D (.int<|lo+i) z H (Pv<|i+1)) (hd:∀z H,Pv n z H->Q (.ref D) H):qV (ym lo n) fr g tf te Q σ H1 D:=Wh Pv u (λ_ _ _=>nk _) (λi s H w p=>#[w,λx q ⟨e,y⟩=>by subst e y;show r i s _ w p]) hd
def Gh(x:lR):It:=#[λi _=>i<x.cps.size,λi H v z=>z=H/\∃c,x.cps[i]? =some c/\v=.str #[(List.toArray [c])],λi _=>x.cps.size<=i]
def VS(Pv:Nat->lQ V->Hp->Prop)(y:Pv 0 [] (mJ H1 D<|.lst []))
  (w:∀i c z H,x.cps[i]? =some c->Pv i z H->W4 fr g tf te σ D (.str #[(List.toArray [c])]) z H (Pv<|i+1)) (hd:∀z H,Pv x.cps.size z H->Q (.ref D) H):qV (Gh x) fr g tf te Q σ H1 D:=Wh Pv y (λ_ _ _=>nk _) (λi s H u p=>#[u,λv o ⟨e,c,r,q⟩=>by subst e q;show w i c s _ r p]) hd
end
def ZB{P:md}{w:lZ}{K:lW}{D:ma}(it:lS)(x:lR)(t:Tok):vS P w K D (Gh x) [it] it (λi h=>h.IsStrIter it "str_ascii_iterator" x t i) where
 mem:=by simp
 obj:=λi h st b u=>by
  have e:b=it:=by simpa using u
  subst e;obtain⟨o,e,c,d⟩:=st;show#[o,e,λv y=>by rw[d]at y;cases y]
 keep:=λi h q st k=>by
  obtain⟨o,e,r⟩:=st;show#[o,k it (by simp) o e,r]
 item:=by
  intro X n l j M i L s z H E I p st g;subst n l j;obtain⟨a,Y,C,U,Q,N⟩:=p it (by simp);have J:i<x.cps.size:=g;refine wpAny_pyNext_ascii_item st (c:=x.cps[i]) (by simp[J]) λq G B=>?_
  have A:mI X L z H {s with heap:=q,toks:=s.toks+1}:=I.turned (λb o u e=>(B.2 b u).trans e) a Y U Q N;obtain⟨o,e,c,d⟩:=id G;show#[_,rfl,AJ (s:={s with heap:=q,toks:=s.toks+1}) e c d (by lk) #[.str #[(List.toArray [x.cps[i]])],H,A,#[_,rfl],#[rfl,_,by simp[J],rfl],G,λb u=>(p b u).1]]
 done:=by
  intro X n l j M i L s z H E I p st g;subst n l j;obtain⟨a,Y,C,U,Q,N⟩:=p it (by simp);have G9:x.cps.size<=i:=g;show wpAny_pyNext_ascii_end (I.ok.hd M) st (by simp[G9]) λq eb=>#[rfl,I.turned (t':=s.toks) (λb o u e=>eb b o u e) a Y U Q N]
 self:=λ_ _ _ _ _ st h=>wpAny_pyIter_striter_ascii st h
def Su(y:TE):TI:=λz H R=>y z H λv w=>∃x,v=.str x/\x.cps.all (· < 128)=true/\R (Gh x) w
def ZO{X:Cx}{p l:ma}{r:TE}(n:PE X l r):PI X p l (Su r):=by
 intro j s z H R I h;refine mZ (n j s z H _ I h) λv w ⟨y,i,u,g,d⟩=>?_
 obtain⟨x,e,c,q⟩:=d;subst e;obtain⟨t,rfl⟩:=g;refine wpAny_pyIter_ascii c ?_;refine#[#v[w],[#v[w]],_,_,i,rfl,u.kept (t':=w.toks) λb o e=>nQ _ e,ZB _ x t,#[_,oQ _ rfl,rfl,rfl],λb a=>?_,q];have e:b=#v[w]:=by simpa using a
 subst e;show u.fpOk (nk _)<|u.hok.fresh<|nk _
theorem Z7.at_bool:∀{bs:lQ Bool}{us:lQ lT}{i:Nat}{u:lT},Z7 (bs.map V.bl) us->us[i]? =some u->∃b,bs[i]? =some b/\u=.bool b
 | [],_,_,_,.nil,e=>by simp at e
 | b ::bs,_,0,u,.cons r _,e=>by
  simp at e;subst e;show#[b,rfl,r]
 | b ::bs,_,i+1,u,.cons _ t,e=>by
  obtain⟨c,z,y⟩:=Z7.at_bool (i:=i) t (by simpa using e);show#[c,by simpa using z,y]
def Vd(bs:lQ Bool):(List.range bs.length).all (λi=>bs.getD i false)=bs.all id:=by
 have e:(List.range bs.length).map (λi=>bs.getD i false)=bs:=by
  apply List.ext_getElem
  ·simp
  ·intro i z y;simp at z;simp[z]
 calc (List.range bs.length).all (λi=>bs.getD i false)=((List.range bs.length).map (λi=>bs.getD i false)).all id:=by rw[List.all_map];rfl
  _=bs.all id:=by rw[e]
def VD(l:X.calm=true):Xe X (.builtin "all") (λxs H Q=>∃(p:lS)(bs:lQ Bool),xs=[.ref p]/\SqL X.K H p (bs.map V.bl)/\Q (.bl<|bs.all id) H):=by
 intro N s z H xs M Q I r h;obtain⟨p,bs,rfl,j,q⟩:=h;obtain⟨u,rfl,g⟩:=W5 r;cases g;obtain⟨x,n,w,y⟩:=I.list j;have d:p<#v[s]:=by obtain⟨_,_,e,_⟩:=w;show nO e
 refine call_all_walk<|xU w.isList ?_;refine#[#v[s],_,_,x.toArray.size,_,_,λi=>bs.getD i false,rfl,Du (A:=X.A.in1) (show X.A.in1.handled=none from I.ok.hd l) #v[s] p (oi d) x.toArray,#[#[_,oQ _ rfl,rfl,rfl],w.isList.push _],?_,λy c k=>?_]
 ·intro i v u o L a Y;obtain⟨b,U,rfl⟩:=Z7.at_bool (i:=i) n (by simpa using a);refine tX ?_;have e:bs.getD i false=b:=by rw[qo,U];rfl
  have y:o (bs.getD i false) u:=Y;rw[e]at y;show y
 ·have u:=n.length;rw[mK]at u;refine#[.bl<|bs.all id,H,?_,?_,q]
  ·refine I.kept (t':=c) λb o e=>k b o ?_<|nQ _ e
   have:=nO e;intro y;have a:b=#v[s]:=by simpa using y
   rw[a]at this;show qL _ this
  ·change Value.bool ((List.range x.toArray.size).all λi=>bs.getD i false)=Value.bool (bs.all id);rw[oz,<-u,Vd]
def Zse:Xe X (.builtin "isinstance") (λxs H Q=>∃x c b t,xs=[x,c]/\Xp X.K H x t/\((∃n,c=.ty n/\kitOne X.K t (.type n)=some b)\/∃a,c=.ref a/\kitOne X.K t (.ref a)=some b)/\Q (.bl b) H):=by
 intro l s z H xs j Q I r h;obtain⟨x,c,b,t,rfl,w,k,q⟩:=h;obtain⟨u,i,rfl,p,o⟩:=wp r;rcases k with⟨n,rfl,k⟩|⟨a,rfl,k⟩
 ·cases o;show OS I p w k λy=>#[.bl b,H,I.tok y,rfl,q]
 ·cases o;show OS I p w k λy=>#[.bl b,H,I.tok y,rfl,q]
def LC:V->lV Int->lV Int->Hp->VK->Prop:=λx lo y H Q=>∃z,x=.str z/\z.length<=sizeLine/\Q (.str<|Txt.slice z lo y) H
def WU:rT X LC:=by
 intro U s z H x v N M lo L J Q I c a Y e h;obtain⟨y,rfl,r,q⟩:=h;obtain⟨t,rfl⟩:=c;refine#["str",_,F.slot_str_getitem.lookup,wO _ _ _,?_];obtain⟨o,p,n,hd⟩:=a;cases Y with
 | none =>
  cases e with
  | none=>show Cz (l:=none) (u:=none) (st:=none) #[o,p,n,hd] rfl (Do #[ow (Bv y none none) r,λw k=>#[.str<|Txt.slice y none none,H,I.tok k,#[w,rfl],q]])
  | int j g=>show Cz (l:=none) (u:=some (j,g)) (st:=none) #[o,p,n,hd] rfl (Do #[ow (Bv y none<|some j) r,λw k=>#[.str<|Txt.slice y none<|some j,H,I.tok k,#[w,rfl],q]])
 | int i d =>
  cases e with
  | none=>show Cz (l:=some (i,d)) (u:=none) (st:=none) #[o,p,n,hd] rfl (Do #[ow (Bv y (some i) none) r,λw k=>#[.str<|Txt.slice y (some i) none,H,I.tok k,#[w,rfl],q]])
  | int j g=>show Cz (l:=some (i,d)) (u:=some (j,g)) (st:=none) #[o,p,n,hd] rfl<|Do #[ow (Bv y (some i)<|some j) r,λw k=>#[.str<|Txt.slice y (some i)<|some j,H,I.tok k,#[w,rfl],q]]
def PH(M:St->Hp->St->Hp->Prop)(t:TS):TS:=λD z H=>t {D with nx:=M z H} z H/\∀y x,M z H y x->D.nx y x
def RL{X:Cx}{st:lX}{t:TS}(M:St->Hp->St->Hp->Prop)(h:PS X st t):PS X st (PH M t):=by
 intro r s z H D I x;refine mZ (h r s z H {D with nx:=M z H} I x.1) λf p q=>?_
 cases f with
 | next=>obtain⟨y,w,u,m⟩:=q;show#[y,w,u,x.2 y w m]
 | brk=>show q
 | cont=>show q
 | ret u=>show q
def Aw:ma->Bool
 | .Starred .. =>false
 | _=>true
def zR(h:Aw e=true):starEach (e ::z) env=(false,eval e env) ::starEach z env:=by
 cases e<;>first
  | rfl
  | show absurd h oU
def Zb(z:PE X e y)(x:PA X w t)(h:Aw e=true:=by rfl):PA X (e ::w) (tY y t):=Vy z x<|zR h
structure WSs(X:Cx)(b:List Stmt)(D:pT)(σ:St)(H:Hp):Prop where
 run:∀(c7:List (Addr×Obj)) (s:Shared),mI X c7 σ H s->∅ (execs b X.env) (SP X c7 D) X.xe s
structure WS(X:Cx)(st:Stmt)(D:pT)(σ:St)(H:Hp):Prop where
 run:∀(c7:List (Addr×Obj)) (s:Shared),mI X c7 σ H s->∅ (exec st X.env) (SP X c7 D) X.xe s
structure WE(X:Cx)(e:Expr)(σ:St)(H:Hp)(Q:VK):Prop where
 run:∀(c7:List (Addr×Obj)) (s:Shared),mI X c7 σ H s->∅ (eval e X.env) (EP X c7 σ Q) X.xe s
section
variable {X:Cx} {b Zs:lQ lX} {st:lX} {e:ma} {D:pT} {σ:St} {H:Hp} {t:TS} {te:TE} {Q:VK}
def Zn:qM X b (WSs X b):=λz s _ _ _ I h=>h.run z s I
def WY:PS X st (WS X st):=λz s _ _ _ I h=>h.run z s I
def Ah:PE X e (WE X e):=λz s _ _ _ I h=>h.run z s I
def WSs.of(h:qM X b t)(q:t D σ H):WSs X b D σ H:=#[λz s I=>h z s σ H D I q]
def WS.of(h:PS X st t)(q:t D σ H):WS X st D σ H:=#[λz s I=>h z s σ H D I q]
def WE.of(h:PE X e te)(q:te σ H Q):WE X e σ H Q:=#[λz s I=>h z s σ H Q I q]
def WSs.step(h:PS X st t)(q:t {D with nx:=WSs X Zs D} σ H):WSs X (st ::Zs) D σ H:=WSs.of (UE h Zn) q
def WSs.last(h:PS X st t)(q:t D σ H):WSs X [st] D σ H:=WSs.of (Yc8 h) q
def WSs.nil(q:D.nx σ H):WSs X [] D σ H:=WSs.of Zk q
def WSs.cut(M:St->Hp->Prop)(h:WS X st {D with nx:=M} σ H)(k:∀z H',M z H'->WSs X Zs D z H'):WSs X (st ::Zs) D σ H:=by
 refine WSs.step (t:=PH (λ_ _=>M)<|WS X st) (RL (λ_ _=>M) WY) #[h,λz H' m=>k z H' m]
end
def uU{z:Type}(P:z->Prop):lQ z->Prop
 | []=>True
 | a ::l=>P a/\uU P l
theorem uU.mem{z:Type}{P:z->Prop}:∀{l:lQ z}{a:z},uU P l->a∈l->P a
 | _ ::_,a,h,m=>by
  rcases nU.mp m with rfl|m
  ·show h.1
  ·show uU.mem h.2 m
theorem JY{env:Env}:∀{names:lQ (lR×NameKind)}{x:lR},names.lookup x=some .free->
  (names.map λ(n,k)=>if(k ==NameKind.free && env.scope.kind ==.function && env.kindOf n ==some .cell)then(n,NameKind.cell)else(n,k)).lookup x=some .cell\/
  (names.map λ(n,k)=>if(k ==NameKind.free && env.scope.kind ==.function && env.kindOf n ==some .cell)then(n,NameKind.cell)else(n,k)).lookup x=some .free
 | [],_,h=>by simp at h
 | (n,k) ::r,x,h=>by
  have w:=@JY env r x
  by_cases z:x ==n
  ·have u:k=.free:=by
    rw[pI,z]at h;show oK h
   subst u
   by_cases y:(NameKind.free ==NameKind.free && env.scope.kind ==.function && env.kindOf n ==some .cell)=true
   ·left
    rw[nV];change List.lookup x ((if _ then(n,NameKind.cell)else(n,NameKind.free)) ::_)=_;rw[mU y,pI,z]
   ·right
    rw[nV];change List.lookup x ((if _ then(n,NameKind.cell)else(n,NameKind.free)) ::_)=_;rw[mT y,pI,z]
  ·have z:(x ==n)=false:=by simpa using z
   rw[pI,z]at h;have q:=w h;rw[nV];have e:∀(b:Bool)(l:lQ (lR×NameKind)),List.lookup x ((if b=true then(n,NameKind.cell)else(n,k)) ::l)=l.lookup x:=λb l=>by
    cases b<;>simp[pI,z]
   rcases q with q|q
   ·show .inl<|(e _ _).trans q
   ·show .inr<|(e _ _).trans q
def Qu{env:Env}:∀{names:lQ (lR×NameKind)}{x:lR},
    ((names.map λ(n,k)=>if(k ==NameKind.free && env.scope.kind ==.function && env.kindOf n ==some .cell)then(n,NameKind.cell)else(n,k)).lookup x=some .cell\/
     (names.map λ(n,k)=>if(k ==NameKind.free && env.scope.kind ==.function && env.kindOf n ==some .cell)then(n,NameKind.cell)else(n,k)).lookup x=some .free)->
    names.lookup x=some .cell\/names.lookup x=some .free
  | [],_,h=>by simp at h
  | (n,k) ::r,x,h=>by
    have w:=@Qu env r x;rw[nV]at h
    by_cases y:x ==n
    · rw[pI,y];have e:∀(c:Prop) [Decidable c] (l:lQ (lR×NameKind)),List.lookup x ((if c then(n,NameKind.cell)else(n,k)) ::l)=some (if c then .cell else k):=λc _ l=>by
        split<;>rw[pI,y]
      rcases h with h|h
      · have h:=(e _ _).symm.trans h;have h:=oK h;split at h
        · rename_i c
          right
          have:k=.free:=by
            rw[qu,qu]at c;simpa using c.1.1
          rw[this]
        · left;rw[h]
      · have h:=(e _ _).symm.trans h;have h:=oK h;split at h
        · cases h
        · right;rw[h]
    · have y:(x ==n)=false:=by simpa using y
      have e:∀(c:Prop) [Decidable c] (l:lQ (lR×NameKind)),List.lookup x ((if c then(n,NameKind.cell)else(n,k)) ::l)=l.lookup x:=λc _ l=>by
        split<;>rw[pI,y]
      rw[pI,y];show w<|h.imp (λz=>(e _ _).symm.trans z) λz=>(e _ _).symm.trans z
def X8.std{X:Cx}{scope:Scope}{l:lQ (lR×lS)}{d:lQ lR}(n:Nat)(r:lQ Nat)(kind:scope.kind=.function)(cell:∀y∈scope.names,y.2≠.cell)
  (names:∀y∈scope.names,y.2=.local->scope.names.lookup y.1=some .local) (clos:closureFor scope X.env=pure l) (L:uU (λp=>X.env.cells.lookup p.1=some p.2) l)
  (Q:(scope.names.all λy=>y.2 !=.free || ((l.lookup y.1).isSome && (X.env.kindOf y.1 ==some .cell || X.env.kindOf y.1 ==some .free)))=true)
  (J:d.length=n+r.length) (I:uU (λp:Nat×Nat=>∃x,d[n+p.1]? =some x/\X.N[p.2]? =some x/\scope.names.lookup x=some .free) ((List.range r.length).zip r)) :
  X8 X scope l d (λz=>List.replicate n none++r.map λj=>(z[j]?).join) where
 kind:=kind
 cell:=cell
 names:=names
 clos:=clos
 sub:=λx c h=>uU.mem (P:=λp=>X.env.cells.lookup p.1=some p.2) (a:=(x,c)) L (rS h)
 has:=λx h=>by
  rcases Qu (env:=X.env) h with h|h
  ·show absurd rfl<|cell _<|rS h
  ·have q:=wj.mp Q _<|rS h;simp only[CU,Gz,qu]at q;show Gj.mp q.1
 len:=λz _=>by simp[J]
 fr:=λz i x v H u _=>by
  have G:n<=i:=by
   rcases xw i n with g|Y
   ·rw[AT (by simpa using g),FJ,mU g]at u;cases u
   ·show Y
  rw[yM (by simpa using G),Oy,nJ]at u;cases s:r[i-n]? with
  | none=>rw[s]at u;cases u
  | some j =>
   rw[s]at u;have u:(z[j]?).join=some v:=oK u;have g:i-n<r.length:=by
    rcases xw (i-n) r.length with w|w
    ·show w
    ·rw[wb w]at s;cases s
   have E:(i-n,j)∈(List.range r.length).zip r:=by
    rw[zi];refine#[i-n,?_];rw[List.getElem?_zip_eq_some];show#[by simp[g],s]
   obtain⟨o,U,D,N⟩:=uU.mem I E;have e:n+(i-n)=i:=by lia
   simp only[e]at U;rw[H]at U;cases U;have q:=wj.mp Q _<|rS N;simp only[CU,Gz,qu,CQ,rK]at q;refine#[JY N,q.2,j,D,?_];cases M:z[j]? with
   | none=>rw[M]at u;cases u
   | some o=>rw[M]at u;show oE some u
inductive Tr where
 | non|int (i:Int)|str (x:Str)|tup (ts:List Tr)|lst (ts:List Tr)
noncomputable instance:DecidableEq Tr:=λ_ _=>Classical.propDecidable _
mutual
inductive Im(K:Frag)(H:Hp):Nat->Tr->V->Prop where
 | non {n:Nat}:Im K H n .non .non
 | int {n:Nat} (i:Int):Im K H n (.int i) (.int i)
 | str {n:Nat} (x:Str):Im K H n (.str x) (.str x)
 | tupI {n:Nat} {a:Addr} {xs:List V} {ts:List Tr}:SqT K H a xs->uA K H n ts xs->Im K H (n+1) (.tup ts) (.ref a)
 | lstI {n:Nat} {a:Addr} {xs:List V} {ts:List Tr}:SqL K H a xs->uA K H n ts xs->Im K H (n+1) (.lst ts) (.ref a)
inductive uA(K:Frag)(H:Hp):Nat->List Tr->List V->Prop where
 | nil {n:Nat}:uA K H n [] []
 | cons {n:Nat} {t:Tr} {v:V} {ts:List Tr} {vs:List V}:Im K H n t v->uA K H n ts vs->uA K H n (t ::ts) (v ::vs)
end
theorem uA.toP{K:lW}{H:Hp}{n:Nat}:∀{ts:lQ Tr}{xs:lQ V},uA K H n ts xs->Paired (Im K H n) ts xs
 | [],_,h=>by cases h;show .nil
 | _ ::_,_,h=>by
  cases h with
  | cons r t=>show .cons r t.toP
def uA.ofP{K:lW}{H:Hp}{n:Nat}{ts:lQ Tr}{xs:lQ V}(h:Paired (Im K H n) ts xs):uA K H n ts xs:=by
 induction h with
 | nil=>show .nil
 | cons r _ t=>show .cons r t
def Im.tup{K:lW}{H:Hp}{n:Nat}{a:lS}{xs:lQ V}{ts:lQ Tr}(z:SqT K H a xs)(ps:Paired (Im K H n) ts xs):Im K H (n+1) (.tup ts) (.ref a):=.tupI z<|.ofP ps
def Im.lst{K:lW}{H:Hp}{n:Nat}{a:lS}{xs:lQ V}{ts:lQ Tr}(z:SqL K H a xs)(ps:Paired (Im K H n) ts xs):Im K H (n+1) (.lst ts) (.ref a):=.lstI z<|.ofP ps
theorem Paired.get{z y:Type}{R:z->y->Prop}:∀{l₁:lQ z}{l₂:lQ y}{i:Nat}{a:z},Paired R l₁ l₂->l₁[i]? =some a->∃b,l₂[i]? =some b/\R a b
 | _,_,_,_,.nil,e=>by simp at e
 | _,_,0,_,.cons r _,e=>by simp at e;subst e;show#[_,rfl,r]
 | _,_,i+1,a,.cons _ t,e=>by
  obtain⟨u,x,w⟩:=Paired.get (i:=i) (a:=a) t (by simpa using e);show#[u,by simpa using x,w]
theorem Paired.get'{y z:Type}{R:y->z->Prop}:∀{l₁:lQ y}{l₂:lQ z}{i:Nat}{b:z},Paired R l₁ l₂->l₂[i]? =some b->∃a,l₁[i]? =some a/\R a b
 | _,_,_,_,.nil,e=>by simp at e
 | _,_,0,_,.cons r _,e=>by simp at e;subst e;show#[_,rfl,r]
 | _,_,i+1,a,.cons _ t,e=>by
  obtain⟨u,x,w⟩:=Paired.get' (i:=i) (b:=a) t (by simpa using e);show#[u,by simpa using x,w]
def Paired.append{z y:Type}{R:z->y->Prop}{x:lQ z}{w:lQ y}{u:lQ z}{q:lQ y}(h:Paired R x w)(s:Paired R u q):Paired R (x++u) (w++q):=by
 induction h with
 | nil=>show s
 | cons r t p=>show .cons r p
theorem Paired.strs{K:lW}{H:Hp}{n:Nat}:∀xs:lQ lR,Paired (Im K H n) (xs.map Tr.str) (xs.map V.str)
 | []=>.nil
 | x ::xs=>.cons (.str x)<|Paired.strs (K:=K) (H:=H) (n:=n) xs
def mC.at(e:mC H H')(h:H b=some o):H' b=some o:=e b o h
def mC.new(h:H p=none):mC H (mJ H p o):=λb u e=>by rw[Zd (Ze e h)];show e
def Paired.uniq{z y:Type}{R:z->y->Prop}(f:∀a w b,R a b->R w b->a=w){l x:lQ z}{m:lQ y}(h:Paired R l m)(h':Paired R x m):l=x:=by
 induction h generalizing x with
 | nil=>cases h';rfl
 | cons r t u=>cases h' with
  | cons s q=>rw[f _ _ _ r s,u q]
variable {X:Cx}
def mI.lt_excl(I:mI X u z H s)(h:SqL X.K H a xs)(h':SqT X.K H a r):False:=by
 obtain⟨q,_,x,_⟩:=I.list h;obtain⟨y,_,w,_⟩:=I.tuple h';show SeqAt.ne_of_list_tuple x.isList (show s.heap.IsTuple a y.toArray from w) rfl
def Im.inj(I:mI X g z H s):∀{n:Nat}{t u:Tr}{v:V},Im X.K H n t v->Im X.K H n u v->t=u:=by
 intro n
 induction n with
 | zero=>intro t u v h r;cases h<;>cases r<;>rfl
 | succ n j =>
  intro t u v h r;cases h with
  | non=>cases r;rfl
  | int i=>cases r;rfl
  | str x=>cases r;rfl
  | tupI p o =>
   cases r with
   | tupI q w =>
    have e:=I.tuple_inj p q;subst e;rw[Paired.uniq (R:=Im X.K H n) (λ_ _ _ y l=>j y l) o.toP w.toP]
   | lstI q w=>show(I.lt_excl q p).elim
  | lstI p o =>
   cases r with
   | tupI q w=>show(I.lt_excl p q).elim
   | lstI q w =>
    have e:=I.list_inj p q;subst e;rw[Paired.uniq (R:=Im X.K H n) (λ_ _ _ y l=>j y l) o.toP w.toP]
def Yg(h:SeqAt.EqAt A s u v b)(e:b=z):SeqAt.EqAt A s u v z:=e ▸ h
def Mu(ts us:lQ Tr):(((List.range<|min ts.length us.length).all λj=>decide<|ts[j]? =us[j]?) && ts.length ==us.length)=decide (ts=us):=by
 rw[rh];simp only[qu,wj,yB,wo,rK]
 constructor
 ·rintro⟨h,e⟩;refine List.ext_getElem? λi=>?_
  by_cases z:i<ts.length
  ·show h i (by lia)
  ·rw[wb (by lia),wb<|by lia]
 ·rintro rfl;show#[λ_ _=>rfl,rfl]
def Zrr{ts us:lQ Tr}(h:ts.length=us.length):((List.range ts.length).all λj=>decide<|ts[j]? =us[j]?)=decide (ts=us):=by
 have q:=Mu ts us;rw[h,Nat.min_self,we,Bool.and_true]at q;rw[h];show q
def X0(A:me):A.in1.units=A.units+1:=rfl
def CW
  (d:∀{t u:Tr}{x y:V}{l h:lT},Im X.K H n t x->Im X.K H n u y->Yd x l->Yd y h->SeqAt.EqAt A s l h (decide<|t=u))
  (ps:Paired (Im X.K H n) ts xs) (c:Paired (Im X.K H n) us q) (g:Z7 xs z) (e:Z7 q its') :
  ∀j (p:j<z.toArray.size) (o:j<its'.toArray.size),SeqAt.EqAt A s z.toArray[j] its'.toArray[j] (decide<|ts[j]? =us[j]?):=by
 intro j p o;have a:=g.length;have Y:=e.length;have w:j<xs.length:=by simpa[a]using p
 have r:j<q.length:=by simpa[Y]using o
 obtain⟨t,U,Q⟩:=Paired.get' ps (i:=j) (b:=xs[j]) (by simp[w]);obtain⟨u,N,M⟩:=Paired.get' c (i:=j) (b:=q[j]) (by simp[r]);obtain⟨L,J,I⟩:=g.get (i:=j) (x:=xs[j]) (by simp[w]);obtain⟨G,E,D⟩:=e.get (i:=j) (x:=q[j]) (by simp[r]);have C:z.toArray[j]=L:=by
  have:z[j]? =some z.toArray[j]:=by simp[show j<z.length by simpa using p]
  rw[J]at this;show(oK this).symm
 have B:its'.toArray[j]=G:=by
  have:its'[j]? =some its'.toArray[j]:=by simp[show j<its'.length by simpa using o]
  rw[E]at this;show(oK this).symm
 rw[C,B,U,N];refine Yg (d Q M I D) ?_;rw[rh];simp
def Im.tuple_rc(I:mI X G z H s)
  (l:∀{t u:Tr}{x y:V}{i h:lT},Im X.K H n t x->Im X.K H n u y->Yd x i->Yd y h->SeqAt.EqAt A.in1 s i h (decide<|t=u)) (g:A.units<cLine)
  (Y:SqT X.K H a xs) (ps:Paired (Im X.K H n) ts xs) (U:SqT X.K H b Q) (q:Paired (Im X.K H n) us Q) :
  SeqAt.RcAt A s (.ref a) (.ref b) (decide<|Tr.tup ts=Tr.tup us)/\SeqAt.RcNeAt A s (.ref a) (.ref b) (!decide (Tr.tup ts=Tr.tup us)):=by
 obtain⟨r,p,d,_⟩:=I.tuple Y;obtain⟨w,o,c,_⟩:=I.tuple U;have N:=p.length;have M:=o.length;have L:=nH ps;have J:=nH q;have e:((List.range<|min r.toArray.size w.toArray.size).all (λj=>decide<|ts[j]? =us[j]?) && r.toArray.size ==w.toArray.size)=decide (Tr.tup ts=Tr.tup us):=by
  rw[oz,oz,<-N,<-M,<-L,<-J,Mu,rh];simp
 constructor
 ·rw[<-e];show SeqAt.RcAt.tuples (show s.heap.IsTuple a r.toArray from d) (show s.heap.IsTuple b w.toArray from c) g<|CW l ps q p o
 ·rw[<-e];show SeqAt.RcNeAt.tuples (show s.heap.IsTuple a r.toArray from d) (show s.heap.IsTuple b w.toArray from c) g<|CW l ps q p o
def Im.list_rc(I:mI X E z H s){n:Nat}{A:me}{a b:lS}{ts us:lQ Tr}{xs c:lQ V}
  (Y:∀{t u:Tr}{x y:V}{U Q:lT},Im X.K H n t x->Im X.K H n u y->Yd x U->Yd y Q->SeqAt.EqAt A.in1 s U Q (decide<|t=u)) (p:A.units<cLine)
  (M:SqL X.K H a xs) (ps:Paired (Im X.K H n) ts xs) (L:SqL X.K H b c) (i:Paired (Im X.K H n) us c) :
  SeqAt.RcAt A s (.ref a) (.ref b) (decide<|Tr.lst ts=Tr.lst us)/\SeqAt.RcNeAt A s (.ref a) (.ref b) (!decide (Tr.lst ts=Tr.lst us)):=by
 obtain⟨h,g,o,_⟩:=I.list M;obtain⟨r,d,l,_⟩:=I.list L;have J:=g.length;have D:=d.length;have G:=nH ps;have C:=nH i
 by_cases N:ts.length=us.length
 ·have e:((List.range h.toArray.size).all λj=>decide<|ts[j]? =us[j]?)=decide (Tr.lst ts=Tr.lst us):=by
   rw[oz,<-J,<-G,Zrr N,rh];simp
  have q:h.toArray.size=r.toArray.size:=by rw[oz,oz];lia
  constructor
  ·rw[<-e];show SeqAt.RcAt.lists o.isList l.isList q p<|CW Y ps i g d
  ·rw[<-e];show SeqAt.RcNeAt.lists o.isList l.isList q p<|CW Y ps i g d
 ·have e:decide (Tr.lst ts=Tr.lst us)=false:=om λw=>N (by injection w with w;rw[w])
  have q:(h.toArray.size !=r.toArray.size)=true:=by rw[oz,oz];simp;lia
  rw[e];show#[SeqAt.RcAt.lists_lengths o.isList l.isList q p,SeqAt.RcNeAt.lists_lengths o.isList l.isList q p]
def Im.eqAt(I:mI X c7 z H s):∀(n:Nat)(A:me){t u:Tr}{x y:V}{U Q:lT},Im X.K H n t x->Im X.K H n u y->Yd x U->Yd y Q->A.units+n<cLine->SeqAt.EqAt A s U Q (decide<|t=u):=by
 intro n
 induction n with
 | zero =>
  intro A t u x y U Q h N c o C;cases h<;>cases N<;>show Yg (zY c o rfl rfl) (by rw[rh];(delta rY;simp))
 | succ n B =>
  intro A t u x y U Q h N c o C;have e:A.units<cLine:=by lia
  have D:A.in1.units+n<cLine:=by rw[X0];lia
  have L:∀{t u:Tr}{x y:V}{U Q:lT},Im X.K H n t x->Im X.K H n u y->Yd x U->Yd y Q->SeqAt.EqAt A.in1 s U Q (decide<|t=u):=λw z' r r'=>B A.in1 w z' r r' D
  cases h with
  | @tupI _ a xs ts M J =>
   cases c;obtain⟨G,rv,Y,_⟩:=I.tuple M;cases N with
   | non=>cases o;show Yg (SeqAt.EqAt.tuple_none (show s.heap.IsTuple _ G.toArray from Y) e) (om λw=>nomatch w).symm
   | int i=>obtain⟨g,rfl⟩:=o;show Yg (SeqAt.EqAt.tuple_int i g (show s.heap.IsTuple _ G.toArray from Y) e) (om λw=>nomatch w).symm
   | str i=>obtain⟨g,rfl⟩:=o;show Yg (SeqAt.EqAt.tuple_str i g (show s.heap.IsTuple _ G.toArray from Y) e) (om λw=>nomatch w).symm
   | @tupI _ b ys us l p =>
    cases o
    by_cases E:a=b
    ·subst E;rw[Im.inj I (Im.tupI M J) (Im.tupI l p),nS rfl];show zS _
    ·show SeqAt.EqAt.of_refs E (Im.tuple_rc I L e M J.toP l p.toP).1
   | lstI l p =>
    cases o;obtain⟨q,J5,d,_⟩:=I.list l;show Yg (SeqAt.EqAt.tuple_list (show s.heap.IsTuple _ G.toArray from Y) d.isList e) (om λw=>nomatch w).symm
  | @lstI _ a xs ts M J =>
   cases c;obtain⟨G,rv,Y,_⟩:=I.list M;cases N with
   | non=>cases o;show Yg (SeqAt.EqAt.list_none Y.isList e) (om λw=>nomatch w).symm
   | int i=>obtain⟨g,rfl⟩:=o;show Yg (SeqAt.EqAt.list_int i g Y.isList e) (om λw=>nomatch w).symm
   | str i=>obtain⟨g,rfl⟩:=o;show Yg (SeqAt.EqAt.list_str i g Y.isList e) (om λw=>nomatch w).symm
   | tupI l p =>
    cases o;obtain⟨q,J5,d,_⟩:=I.tuple l;show Yg (SeqAt.EqAt.list_tuple Y.isList (show s.heap.IsTuple _ q.toArray from d) e) (om λw=>nomatch w).symm
   | @lstI _ b ys us l p =>
    cases o
    by_cases E:a=b
    ·subst E;rw[Im.inj I (Im.lstI M J) (Im.lstI l p),nS rfl];show zS _
    ·show SeqAt.EqAt.of_refs E (Im.list_rc I L e M J.toP l p.toP).1
  | non =>
   cases c;cases N with
   | non=>cases o;show Yg (zS _) (nS rfl).symm
   | int i=>obtain⟨g,rfl⟩:=o;show Yg (SeqAt.EqAt.none_int i g) (om λw=>nomatch w).symm
   | str i=>obtain⟨g,rfl⟩:=o;show Yg (SeqAt.EqAt.none_str i g) (om λw=>nomatch w).symm
   | tupI l p=>cases o;obtain⟨q,_,d,_⟩:=I.tuple l;show Yg (SeqAt.EqAt.none_tuple (show s.heap.IsTuple _ q.toArray from d) e) (om λw=>nomatch w).symm
   | lstI l p=>cases o;obtain⟨q,_,d,_⟩:=I.list l;show Yg (SeqAt.EqAt.none_list d.isList e) (om λw=>nomatch w).symm
  | int j =>
   cases N with
   | tupI l p=>obtain⟨g,rfl⟩:=c;cases o;obtain⟨q,_,d,_⟩:=I.tuple l;show Yg (SeqAt.EqAt.int_tuple j g (show s.heap.IsTuple _ q.toArray from d) e) (om λw=>nomatch w).symm
   | lstI l p=>obtain⟨g,rfl⟩:=c;cases o;obtain⟨q,_,d,_⟩:=I.list l;show Yg (SeqAt.EqAt.int_list j g d.isList e) (om λw=>nomatch w).symm
   | _=>show Yg (zY c o rfl rfl) (by rw[rh];(delta rY;simp))
  | str j =>
   cases N with
   | tupI l p=>obtain⟨g,rfl⟩:=c;cases o;obtain⟨q,_,d,_⟩:=I.tuple l;show Yg (SeqAt.EqAt.str_tuple j g (show s.heap.IsTuple _ q.toArray from d) e) (om λw=>nomatch w).symm
   | lstI l p=>obtain⟨g,rfl⟩:=c;cases o;obtain⟨q,_,d,_⟩:=I.list l;show Yg (SeqAt.EqAt.str_list j g d.isList e) (om λw=>nomatch w).symm
   | _=>show Yg (zY c o rfl rfl) (by rw[rh];(delta rY;simp))
def CN(K:lW)(s:Bool):R2:=λx y H Q=>∃n t u,n<=60/\((∃z w,t=Tr.tup z/\u=Tr.tup w)\/∃z w,t=Tr.lst z/\u=Tr.lst w)/\Im K H n t x/\Im K H n u y/\Q (.bl<|if s then !decide (t=u)else decide (t=u)) H
def Yfb{X:Cx}(M:X.A.units+64<cLine):nW X (compareOp .Eq) (CN X.K false):=by
 intro L s z H x y v u Q I e d h;obtain⟨n,t,J,G,Y,c,a,q⟩:=h;rcases Y with⟨U,N,rfl,rfl⟩|⟨U,N,rfl,rfl⟩
 ·cases c with
  | tupI o l =>
   cases a with
   | tupI j p =>
    cases e;cases d;show(Im.tuple_rc (A:=X.A) I (λw i r g=>Im.eqAt I _ _ w i r g<|by rw[X0];lia) (by lia) o l.toP j p.toP).1 _ _ _ _ #[.bl _,H,I,rfl,q]
 ·cases c with
  | lstI o l =>
   cases a with
   | lstI j p =>
    cases e;cases d;show(Im.list_rc (A:=X.A) I (λw i r g=>Im.eqAt I _ _ w i r g<|by rw[X0];lia) (by lia) o l.toP j p.toP).1 _ _ _ _ #[.bl _,H,I,rfl,q]
def Yga{X:Cx}(M:X.A.units+64<cLine):nW X (compareOp .NotEq) (CN X.K true):=by
 intro L s z H x y v u Q I e d h;obtain⟨n,t,J,G,Y,c,a,q⟩:=h;rcases Y with⟨U,N,rfl,rfl⟩|⟨U,N,rfl,rfl⟩
 ·cases c with
  | tupI o l =>
   cases a with
   | tupI j p =>
    cases e;cases d;show(Im.tuple_rc (A:=X.A) I (λw i r g=>Im.eqAt I _ _ w i r g<|by rw[X0];lia) (by lia) o l.toP j p.toP).2 _ _ _ _ #[.bl _,H,I,rfl,q]
 ·cases c with
  | lstI o l =>
   cases a with
   | lstI j p =>
    cases e;cases d;show(Im.list_rc (A:=X.A) I (λw i r g=>Im.eqAt I _ _ w i r g<|by rw[X0];lia) (by lia) o l.toP j p.toP).2 _ _ _ _ #[.bl _,H,I,rfl,q]
def Pl(t:TA):TE:=λz H Q=>t z H λx w=>x.length<=sizeLine/\∀p y,mC w y->w p=none->y p=some (.tup x)->Q (.ref p) y
def Yhw(t:TA):TE:=λz H Q=>t z H λx w=>x.length<=sizeLine/\∀p y,mC w y->w p=none->y p=some (.lst x)->Q (.ref p) y
def Zi{n}(h:PA X l t):PE X (.Tuple l n pos) (Pl t):=by
 intro j s z H Q I i;refine wpAny_Tuple_spliced<|mZ (h pos j s z H _ I i) λg x ⟨d,w,p,r,y,q⟩=>#[by rw[<-r.length];show y,?_];have o:w #v[x]=none:=p.hok.fresh<|nk _;refine#[.ref #v[x],mJ w #v[x] (.tup d),p.laid (t':=x.toks) (λb u e=>nQ _ e) (nk _) ?_,rfl,q _ _ (mC.new o) o Zc];show#[y,g,r,#[_,oQ _ rfl,rfl,_,rfl]]
def Zm(h:PA X n t):PE X (.List n pos) (Yhw t):=by
 intro l s z H Q I j;refine wpAny_List_spliced<|mZ (h pos l s z H _ I j) λi x ⟨g,w,p,r,y,q⟩=>#[by rw[<-r.length];show y,?_];have o:w #v[x]=none:=p.hok.fresh<|nk _;refine#[.ref #v[x],mJ w #v[x] (.lst g),p.laid (t':=x.toks) (λb u e=>nQ _ e) (nk _) ?_,rfl,q _ _ (mC.new o) o Zc];show#[y,i,0,r,oQ _ rfl]
def nW.imp{f:lT->lT->Sem lT}(h:nW X f r)(g:∀x y H Q,w x y H Q->r x y H Q):nW X f w:=λp s z H x y v u Q I o n q=>h p s z H x y v u Q I o n<|g _ _ _ _ q
def rT.imp{r y:V->lV Int->lV Int->Hp->VK->Prop}(h:rT X r)(g:∀x l u H Q,y x l u H Q->r x l u H Q):rT X y:=λw s z H x v p o lo n j Q I i e d c q=>h w s z H x v p o lo n j Q I i e d c<|g _ _ _ _ _ q
def Xe.imp{r y:lQ V->Hp->VK->Prop}(h:Xe X f r)(g:∀xs H Q,y xs H Q->r xs H Q):Xe X f y:=λx s z H xs w Q I u q=>h x s z H xs w Q I u<|g _ _ _ q
def pD(H:Hp)(o:HO)(Q:VK):Prop:=∀p z,mC H z->H p=none->z p=some o->Q (.ref p) z
def pD.at(h:pD H o Q)(p:lS)(z:H p=none):Q (.ref p) (mJ H p o):=h p _ (mC.new z) z Zc
inductive Ks(H:Hp)(Q:VK):V->V->Prop
 | mk {l b xs zs}:H l=some (.lst xs)->H b=some (.lst zs)->xs.length+zs.length<=sizeLine->pD H (.lst<|xs++zs) Q->Ks H Q (.ref l) (.ref b)
def Pf:R2:=λx y H Q=>Ks H Q x y
def RV:nW X (binaryOp .Add) Pf:=SA.imp λx y H Q h=>by
 obtain@⟨l,b,z,w,u,s,r,q⟩:=h;show#[l,b,z,w,rfl,rfl,u,s,r,λp o=>q.at p o]
inductive QV(K:Frag)(lo hi:Option Int)(H:Hp)(Q:VK):V->Prop
 | mk {a xs}:SqT K H a xs->¬(HT.sIx xs.length 0 lo=0/\HT.sIx xs.length xs.length hi=xs.length)->pD H (.tup<|qi xs lo hi) Q->QV K lo hi H Q (.ref a)
def IM(K:lW):V->lV Int->lV Int->Hp->VK->Prop:=λx lo z H Q=>QV K lo z H Q x
def TX:rT X (IM X.K):=ZS.imp λx l u H Q h=>by
 obtain@⟨a,z,y,w,s⟩:=h;show#[a,z,rfl,y,w,λp r=>s.at p r]
inductive Rk(K:Frag)(lo hi:Option Int)(H:Hp)(Q:VK):V->Prop
 | mk {a xs}:SqL K H a xs->pD H (.lst<|qi xs lo hi) Q->Rk K lo hi H Q (.ref a)
def Qk(K:lW):V->lV Int->lV Int->Hp->VK->Prop:=λx lo z H Q=>Rk K lo z H Q x
def RU:rT X (Qk X.K):=WP.imp λx l u H Q h=>by
 obtain@⟨a,z,y,w⟩:=h;show#[a,z,rfl,y,λp s=>w.at p s]
def wy(o:lQ V->Hp->VK->Prop)(M:Mk X.K C f)
  (F:Xs X.prog X.w X.K X.mg X.mD l k f fd ps j) (i:Y4 (k+1) X.A) (g:Gl X x) (d:X.mg x=some (.ref C)) (c:qx X.K fd ps ds) (hd:Z7 a ds) (Y:sM l X E)
  (u:∀vs H Q,o vs H Q->∀x y,H x=none->H y=none->y≠x->j (.ref x ::(vs++a)) (mJ (mJ H y<|.own x) x<|.ins C y []) (λv U=>v=.non/\Q (.ref x) U) E)
  (N:PA X (e ::w) t) (L:(x ==("__debug__":lR))=false:=by lk) (he:starEach (e ::w) X.env=(false,eval e X.env) ::starEach w X.env:=by rfl) (J:(backTo pos<|starEach w X.env).any (·.1)=false:=by rfl) :
  PE X (.Call (.Name x p) (e ::w) [] pos) (yx o t):=by
 intro G s z H Q I h;refine vB<|xj I g d ?_ L;refine AI (h₀:=X.mD) I.ok.mod.kin M.kp (mZ (N pos G s z H _ I h) λB A ⟨vs,D,n,r,q⟩=>#[n.kIn,?_]) he J;show Ybo M F i c hd Y n r<|u vs D Q q
def Ygq(w:X.A.units+1<cLine):nW X (compareOp .In) (λy x H Q=>∃a o,x=.ref a/\Xk H a y o/\Q (.bl o.isSome) H):=by
 intro j s z H y x v u Q I r p h;obtain⟨a,n,rfl,g,q⟩:=h;cases p;show Yjr w I g r λi l=>#[.bl n.isSome,H,l,rfl,q]
def UN(w:X.A.units+1<cLine):nW X (compareOp .NotIn) (λy x H Q=>∃a o,x=.ref a/\Xk H a y o/\Q (.bl (!o.isSome)) H):=by
 intro j s z H y x v u Q I r p h;obtain⟨a,n,rfl,g,q⟩:=h;cases p;show ZW w I g r λi l=>#[.bl (!n.isSome),H,l,rfl,q]
def Wm:nW X (binaryOp .Add) (λx y H Q=>vf (λi j=>.int<|i+j) x y H Q\/(∃i j,x=.str i/\y=.str j/\i.length+j.length<=sizeLine/\Q (.str<|i++j) H)\/Pf x y H Q):=Ta.or<|ZJ.or RV
def sz(h:n<=1000):n<=sizeLine:=pA<|Zo h
structure xH(K:Frag)(x qual:Str)(st:Stmt)(dV:Value)(f:Addr)(fd:FuncData):Prop where
 ex:∃(oc:Value)(od:Option Addr)(kV A6 pm:Value)(an:Option Addr)(d6 ct:Value)(O0:Array (Option Value)),
  fd=fnOf x qual (W3 st) (Y7 st) (Zj st) dV kV A6 pm an d6 ct/\K.lookup f=some #[oc,od,.func fd,O0]/\codeIn K d6 qual=true
 kp:keepIn K (.ref f)=true
section
variable {P:md} {w:lZ} {K:lW} {mg:lR->lV lT} {mD:lY}
def xH.ok{x qual:lR}{st:lX}{r:lT}{f:lS}{fd:mf}{N ps:lQ lR}{k:Nat}{y:Sp}(F:xH K x qual st r f fd)(S:Zw N ps (Zj st))(len:∀vs H Q E,y vs H Q E->vs.length=ps.length)
  (q:∀(z:lT)(A:me)(u:lQ Env)(s:lU)(H:Hp)(vs:lQ V)(Q:VK)(E:XK),Y4 k (A.deeper<|envOfC qual (Zj st) #v[s] f z)->y vs H Q E->
   WSs (oS oN P w K mg mD N qual (Zj st) f z A u s H E).nox (Y7 st) {nx:=λ_ H'=>Q .non H',rt:=Q} (start N vs) H):Xs P w K mg mD oN (k+1) f fd ps y:=by
 obtain⟨l,j,kV,i,h,g,z,e,d,rfl,lk,p⟩:=F.ex;refine Dw lk p S len λA u s H vs Q E o n=>?_
 show#[_,qM.nox Zn,q z A u s H vs Q E o n]
def qT.okW{x qual:lR}{st:lX}{f:lS}{fd:mf}{N ps:lQ lR}{k:Nat}{z:Sp}(F:qT K x qual st f fd)(S:Zw N ps (Zj st))
  (y:∀(d6:lT)(A:me)(mB:lQ Env)(s:lU)(H:Hp)(vs:lQ V)(Q:VK)(E:XK),Y4 k (A.deeper<|envOfC qual (Zj st) #v[s] f d6)->z vs H Q E->
   let X:=(oS oN P w K mg mD N qual (Zj st) f d6 A mB s H E).nox;let D:pT:={nx:=λ_ H'=>Q .non H',rt:=Q};WSs X (Y7 st) D (start N vs) H) (len:∀vs H Q E,z vs H Q E->vs.length=ps.length:=by bv_omega):Xs P w K mg mD oN (k+1) f fd ps z :=
 F.ok S len λd6 A mB s H vs Q E hr h=>#[_,Zn,y d6 A mB s H vs Q E hr h]
def qT.okA{x qual:lR}{st:lX}{f:lS}{fd:mf}{ps:lQ lR}{k:Nat}{z:Sp}(F:qT K x qual st f fd)
  (y:∀(d6:lT)(A:me)(mB:lQ Env)(s:lU)(H:Hp)(vs:lQ V)(Q:VK)(E:XK),Y4 k (A.deeper<|envOfC qual (Zj st) #v[s] f d6)->z vs H Q E->
   let X:=(oS oN P w K mg mD ps qual (Zj st) f d6 A mB s H E).nox;let D:pT:={nx:=λ_ H'=>Q .non H',rt:=Q};WSs X (Y7 st) D (start ps vs) H) (len:∀vs H Q E,z vs H Q E->vs.length=ps.length:=by bv_omega) (S:Zw ps ps (Zj st):=by show{}):Xs P w K mg mD oN (k+1) f fd ps z:=F.okW S y len
def Pe{x qual:lR}{st:lX}{f:lS}{p y:lT}{od u:lV lS}{o:Array (lV lT)}{kV s r z q:lT}(l:K.lookup f=some #[p,od,.func<|fnOf x qual (W3 st) (Y7 st) (Zj st) y kV s r u z q,o])
  (c:codeIn K z qual=true) (k:keepIn K (.ref f)=true):xH K x qual st y f (fnOf x qual (W3 st) (Y7 st) (Zj st) y kV s r u z q):=#[#[p,od,kV,s,r,u,z,q,o,rfl,l,c],k]
end
structure Dn(K:Frag)(x qual:Str)(st:Stmt)(ps:List Str) where
 f:Addr
 fd:FuncData
 F:qT K x qual st f fd
 b:qx K fd ps []
def GP{z:Type}{l:lQ z}{a:z}(h:l[i]? =some a):l.drop i=a ::l.drop (i+1):=by
 have x:i<l.length:=by
  rcases xw i l.length with y|y
  ·show y
  ·rw[wb y]at h;cases h
 rw[yl x];rw[oy x]at h;rw[oK h]
theorem Wq:∀l:lQ lR,(l.map V.str).all sX=true
 | []=>rfl
 | _ ::l=>by rw[nV,Em,Wq l];rfl
theorem wB(x:lR):∀l:lQ lR,ur (.str x) (l.map V.str)=decide (x∈l)
 | []=>by simp[ur]
 | y ::l=>by
  have z:=wB x l;unfold ur at z ⊢;rw[nV,xE,z,rh]
  delta rY
  simp only[CQ,rK,wo,nU]
  constructor
  ·rintro(h|h)
   ·show .inl h.symm
   ·show .inr h
  ·rintro(h|h)
   ·show .inl h.symm
   ·show .inr h
end L2
end
section
namespace NM
open PySem L2
def qG:lQ Nat:=[97,98,99,100,101,102,103,104,105,106,107,108,109,110,111,112,113,114,115,116,117,118,119,120,121,122]
def Cu:("abcdefghijklmnopqrstuvwxyz":lR).cps.toList=qG:=by left
def BF:("abcdefghijklmnopqrstuvwxyz":lR).length=26:=by left
end NM
end
section
namespace L2
open PySem PySem.Spec PyProof.Rows
def Tf:HO->Bool
 | .dK _=>true
 | .dT _=>true
 | _=>false
variable {X:Cx}
def oq.retold(x:oq P w H h)(hd:H d=some v)(r:∀y,v≠.own y)(p:∀xs,v≠.tup xs)(n:∀o y,v≠.frz o (.own y))(l:∀ps,v≠.tbl ps)(new:Z8 P w (mJ H d u) h d u):oq P w (mJ H d u) h:=λb q e=>by
 by_cases s:b=d
 ·subst s;rw[Zc]at e;cases e;show new
 ·rw[Zd s]at e;refine(x b q e).stay (λ_ _ _ z=>z) (λc z=>?_) (λc xs z=>?_) (λc j z=>?_) (λc ps z=>?_)
  ·rw[Zd (λy=>by subst y;rw[hd]at z;show r _<|oK z)];show z
  ·rw[Zd (λy=>by subst y;rw[hd]at z;show p _<|oK z)];show z
  ·rw[Zd (λy=>by subst y;rw[hd]at z;show n _ _<|oK z)];show z
  ·rw[Zd (λy=>by subst y;rw[hd]at z;show l _<|oK z)];show z
def Kk(hd:H d=some v)(s:∀y,v≠.own y)(r:∀xs,v≠.tup xs)(q:∀o y,v≠.frz o (.own y))(p:∀ps,v≠.tbl ps)(x:Z8 P w H h d u):Z8 P w (mJ H d n) h d u :=
 x.stay (λ_ _ _ z=>z) (λc z=>by rw[Zd (λy=>by subst y;rw[hd]at z;show s _<|oK z)];show z) (λc xs z=>by rw[Zd (λy=>by subst y;rw[hd]at z;show r _<|oK z)];show z) (λc l z=>by rw[Zd (λy=>by subst y;rw[hd]at z;show q _ _<|oK z)];show z) (λc ps z=>by rw[Zd (λy=>by subst y;rw[hd]at z;show p _<|oK z)];show z)
def mI.retell(I:mI X h z H s)(hd:H d=some v)(g:∀y,v≠.own y)(l:∀xs,v≠.tup xs)(a:∀o y,v≠.frz o (.own y))(j:∀ps,v≠.tbl ps)(Y:∀o u,X.mj d≠some (.frz o u))(new:Z8 X.prog X.w (mJ H d i) s.heap d i) :
  mI X h z (mJ H d i) s:=by
 have r:∀b,H b=none->b≠d:=λb n x=>by subst x;rw[n]at hd;cases hd
 refine#[I.ok,I.os,I.bare,?_,I.loc,I.cell,?_,λw c e=>?_,λp U=>?_,I.hok.retold hd g l a j new,I.len]
 ·have b:=I.mD;refine#[b.keep,b.slot,λc q e n Q=>?_,b.there,λc xs e=>?_,λc N q e=>?_,λc ps e=>?_]
  ·have x:=b.free c q e n Q;rw[Zd (r c x)];show x
  ·have x:=b.tups c xs e;rw[Zd (λy=>by subst y;rw[hd]at x;show l _<|oK x)];show x
  ·have x:=b.frzs c N q e;rw[Zd (λy=>by subst y;show Y _ _ e)];show x
  ·obtain⟨m,x⟩:=b.tbls c ps e;show#[m,by rw[Zd (λy=>by subst y;rw[hd]at x;show j _<|oK x)];show x]
 ·rw[Zd (r _ I.free)];show I.free
 ·rw[Zd (r _<|I.freeC w c e)];show I.freeC w c e
 ·obtain⟨Q,q,N⟩:=I.pin p U;show#[Q,by rw[Zd (r _ q)];show q,N]
def mI.notFrz(I:mI X x z H s)(hd:H d=some v)(n:∀o u,v≠.frz o u):∀o u,X.mj d≠some (.frz o u):=λo u y=>by
 have:=I.mD.frzs d o u y;rw[hd]at this;show n _ _<|oK this
def mI.freeze(I:mI X n z H s)(hd:H d=some u)(w:Tf u=true)(l:s.heap.get? d=some o):mI X n z (mJ H d<|.frz o u) s:=by
 have r:∀y,u≠.own y:=λy x=>by subst x;cases w
 have q:∀j,u≠.tup j:=λy x=>by subst x;cases w
 have p:∀o y,u≠.frz o (.own y):=λo y x=>by subst x;cases w
 refine I.retell hd r q p (λy x=>by subst x;cases w) (I.notFrz hd λ_ _ x=>by subst x;cases w) #[l,Kk hd r q p (λy x=>by subst x;cases w)<|I.hok d u hd]
def mI.thaw(I:mI X p z H s)(hd:H d=some (.frz o u))(n:∀o u,X.mj d≠some (.frz o u))(l:∀y,u≠.own y:=by show λ_ x=>nomatch x):mI X p z (mJ H d u) s:=by
 obtain⟨_,q⟩:=I.hok d _ hd;have w:∀r y,HO.frz o u≠.frz r (.own y):=λr y x=>l y (HO.frz.inj x).2
 show I.retell hd (λ_ x=>nomatch x) (λ_ x=>nomatch x) w (λ_ x=>nomatch x) n<|Kk hd (λ_ x=>nomatch x) (λ_ x=>nomatch x) w (λ_ x=>nomatch x) q
def mC.thaw(hd:H d=some u)(h:mC (mJ H d<|.frz o u) H'):mC H (mJ H' d u):=λb q e=>by
 by_cases z:b=d
 ·subst z;rw[hd]at e;cases e;show Zc
 ·rw[Zd z];show h b q (by rw[Zd z];show e)
def mC.rd(e:mC H H')(h:Rd H a u):Rd H' a u:=by
 rcases h with h|⟨o,h⟩
 ·show .inl<|e _ _ h
 ·show .inr #[o,e _ _ h]
def Bo(d:lS)(o:Obj)(kvs:lQ (ng×V)):It :=
 #[λi H=>H d=some (.frz o<|.dK kvs)/\i<kvs.length,λi H x y=>y=H/\∃z,kvs[i]? =some z/\x=kV z.1,λi H=>H d=some (.frz o<|.dK kvs)/\kvs.length<=i]
def Ep(h:(Z1 P w).is k u=true):Yd (kV k) u:=by
 rcases Xj (show wv k u=true from h)with⟨i,t,rfl,rfl⟩|⟨x,t,rfl,rfl⟩
 ·show#[t,rfl]
 ·show#[t,rfl]
def KV.get{kvs:lQ (ng×V)}{vs:lQ (ng×lT)}{i:Nat}{kv:ng×V}(r:KV kvs vs)(h:kvs[i]? =some kv):∃u,vs[i]? =some (kv.1,u)/\Yd kv.2 u:=by
 obtain⟨q,z,y,x⟩:=Paired.get r h;show#[q.2,by rw[z,y],x]
def Zxs{P:md}{w:lZ}{K:lW}{tg:ma}{d:lS}{o:Obj}{kvs:lQ (ng×V)}{vs:lQ (ng×lT)}{ep:Nat}(it:lS)(G:KV kvs vs)
  (D:∀h:lY,h.get? d=some o->h.DictAt (Z1 P w) d vs ep):vS P w K tg (Bo d o kvs) [it] it (λi h=>h.IsKeyIter it d i vs.length ep) where
 mem:=by simp
 obj:=λi h st b x=>by
  have e:b=it:=by simpa using x
  subst e;obtain⟨q,e,c,l⟩:=st;show#[q,e,λv y=>by rw[l]at y;cases y]
 keep:=λi h p st k=>st.at λq e=>k it (by simp) q e
 item:=by
  intro X j g a C i B s z H E I n st Y;subst j g a;obtain⟨U,A⟩:=Y;obtain⟨Q,N,f2,M,L,J⟩:=n it (by simp);have r:s.heap.get? d=some o:=(I.hok d _ U).1;obtain⟨u,hu,_⟩:=G.get (i:=i) (kv:=kvs[i]) (by simp[A]);refine wpAny_pyNext_dict_item (knd:=Z1 X.prog X.w) st (D _ r) hu λkey p N8 B2 sb=>?_
  have I1:mI X B z H {s with heap:=p}:=I.turned (t':=s.toks) (λb o x e=>(sb.2 b x).trans e) Q N M L J;obtain⟨q,e,c,l⟩:=id B2;show#[key,rfl,AJ (s:={s with heap:=p}) e c l (by lk) #[kV kvs[i].1,H,I1,Ep N8,#[rfl,kvs[i],by simp[A],rfl],B2,λb x=>(n b x).1]]
 done:=by
  intro X j g a C i B s z H E I n st Y;subst j g a;obtain⟨U,y⟩:=Y;obtain⟨Q,N,f2,M,L,J⟩:=n it (by simp);have r:s.heap.get? d=some o:=(I.hok d _ U).1;have hl:=KV.length G;show wpAny_pyNext_dict_end (knd:=Z1 X.prog X.w) (I.ok.hd C) st (D _ r) (wb<|by lia) λp eb=>#[rfl,I.turned (t':=s.toks) (λb o x e=>eb b o x e) Q N M L J]
 self:=λ_ _ _ _ _ st h=>wpAny_pyIter_keyiter st h
def NF(X:Cx)(d:lS)(u:HO):Prop:=(∀o u,X.mj d≠some (.frz o u))/\∀y,u≠.own y
def xA(X:Cx)(Q:Hp->Prop)(H:Hp):Prop:=∃d o u,H d=some (.frz o u)/\NF X d u/\Q (mJ H d u)
def xA.run{Q:Hp->Prop}(I:mI X x z H s)(h:xA X Q H):∃H',mI X x z H' s/\Q H':=by
 obtain⟨d,o,u,hd,y,q⟩:=h;show#[_,I.thaw hd y.1 y.2,q]
inductive Gw(X:Cx)(I:Addr->Obj->List (ng×V)->It)(R:It->Hp->Prop)(H:Hp):V->Prop
 | mk {d kvs}:H d=some (.dK kvs)->(∀o,NF X d (.dK kvs)->R (I d o kvs) (mJ H d<|.frz o<|.dK kvs))->Gw X I R H (.ref d)
def YD(X:Cx)(y:TE):TI:=λz H R=>y z H λx w=>Gw X Bo R w x
def FU{P:md}{w:lZ}{h:lY}{d:lS}{o:Obj}{vs:lQ (ng×lT)}(x:h.DictOf (Z1 P w) d vs)(z:h.get? d=some o):∃ep,∀h':lY,h'.get? d=some o->h'.DictAt (Z1 P w) d vs ep:=by
 obtain⟨u,y,ep,e,r⟩:=x;rw[z]at e;cases e;show#[ep,λh' u=>#[o,y,u,r]]
def MF{X:Cx}{g l:ma}{p:TE}(c:PE X l p):PI X g l (YD X p):=by
 intro n s z H R I h;refine mZ (c n s z H _ I h) λv s1 ⟨y,a,x,Y,U⟩=>?_
 obtain@⟨d,w,hd,q⟩:=U;cases Y;obtain⟨y,Q,N,M,j⟩:=zj x.hok hd;obtain⟨o,_,_,u,_⟩:=id j;obtain⟨L,i⟩:=FU j u;have r:=x.freeze hd rfl u;refine wpAny_pyIter_dict (knd:=Z1 X.prog X.w) Q (i _ u) ?_;have J:mI X n z (mJ a d<|.frz o<|.dK w) {s1 with heap:=s1.heap.push {cls:=.type "dict_keyiterator",data:=.fields (List.toArray [.ref d,.int 0 0,.int N.length 0,.int L 0])}}:=r.kept (t':=s1.toks) λb o e=>nQ _ e
 refine#[#v[s1],[#v[s1]],_,_,_,rfl,J,Zxs _ M i,#[_,oQ _ rfl,rfl,rfl],λb G=>?_,q o #[x.notFrz hd (λ_ _ y=>nomatch y),λ_ y=>nomatch y]];have e:b=#v[s1]:=by simpa using G
 subst e;show r.fpOk (nk _)<|r.hok.fresh<|nk _
def ZY(X:Cx)(t:TS):TS:=λD z H=>t {nx:=λy=>xA X<|D.nx y,rt:=λv=>xA X<|D.rt v,bk:=λy=>xA X<|D.bk y,ct:=λy=>xA X (D.ct y)} z H
def zx{X:Cx}{st:lX}{t:TS}(h:PS X st t):PS X st (ZY X t):=by
 intro j s z H D I i;refine mZ (h j s z H _ I i) λf g y=>?_
 cases f with
 | next=>obtain⟨x,l,w,q⟩:=y;obtain⟨p,o,n⟩:=q.run w;show#[x,p,o,n]
 | brk=>obtain⟨x,l,w,q⟩:=y;obtain⟨p,o,n⟩:=q.run w;show#[x,p,o,n]
 | cont=>obtain⟨x,l,w,q⟩:=y;obtain⟨p,o,n⟩:=q.run w;show#[x,p,o,n]
 | ret u=>obtain⟨v,x,l,w,r,q⟩:=y;obtain⟨p,o,n⟩:=q.run w;show#[v,x,p,o,r,n]
def XQ(X:Cx)(t:TE):TE:=λz H Q=>t z H λv=>xA X<|Q v
def Dk(h:PE X e t):PE X e (XQ X t):=by
 intro y s z H Q I x;refine mZ (h y s z H _ I x) λu l ⟨v,j,w,r,q⟩=>?_
 obtain⟨p,o,n⟩:=q.run w;show#[v,p,o,r,n]
def Ya1{d:lS}{o:Obj}{kvs:lQ (ng×V)}{g:TG}{w:TS}{D:pT}{z:St}{H:Hp}(Pv:Nat->St->Hp->Prop)(q:Pv 0 z H)(u:∀i z H,i<=kvs.length->Pv i z H->H d=some (.frz o<|.dK kvs))
  (n:∀i kv z H,kvs[i]? =some kv->Pv i z H->g (kV kv.1) z H λy l=>w {D with nx:=Pv<|i+1,ct:=Pv<|i+1,bk:=D.nx} y l) (hd:∀z H,Pv kvs.length z H->D.nx z H) :
  yL (Bo d o kvs) g w D z H:=Wh Pv q (λs H p=>#[u _ s H (nk _) p,nk _]) (λi s H r p=>#[#[u i s H (pA r) p,r],λx c ⟨e,kv,j,h⟩=>by subst e h;show n i kv s _ j p]) hd
def mI.turnedNew{ch:lQ lS}{o:HO}{h':lY}{t':Nat}(I:mI X h z H s)(l:∀b∈ch,tz X h H b)(k:∀b u,b∉ch->s.heap.get? b=some u->h'.get? b=some u)
  (new:Z8 X.prog X.w (mJ H #v[s] o) h' #v[s] o):mI X h z (mJ H #v[s] o) {s with heap:=h',toks:=t'}:=by
 have w:H #v[s]=none:=I.fresh;have j:∀b u,s.heap.get? b=some u->b≠#v[s]:=λb u e=>oi<|nO e
 have vp:∀b u,H b=some u->b∉ch:=λb u e y=>by rw[(l b y).1]at e;cases e
 refine I.step (g':=s.gens) (d':=s.drawn) (ch:=ch) (λb p=>?_) (λb o _ _ x e _=>k b o x e) (λb o _ _ x e _=>#[o.slots,k b o x e]) (λb o _ e n=>by rw[Zd (j b o e)];show n)
  (λb o x e=>#[o,k b o x e]) (λb g e=>by rw[Zd (Ze e w)];show e) (λb i u e=>by rw[Zd (Ze e w)];show e) (λb r e=>#[#[],by rw[Zd (Ze e w),e];simp]) (λm d=>?_) (λb u e=>?_) I.bare
 ·obtain⟨a,r,Y,q,n,c⟩:=l b p;show#[q,r,n,c]
 ·obtain⟨i,q,n,c,r⟩:=d;show#[i,q,n,k _ i (λy=>(l _ y).2.1 rfl) c,r]
 ·by_cases p:b=#v[s]
  ·subst p;rw[Zc]at e;cases e;show new
  ·rw[Zd p]at e;refine(I.hok b u e).stay (λc v x q=>k c v ?_ q) (λc q=>by rw[Zd (Ze q w)];show q) λc g q=>by rw[Zd (Ze q w)];show q
   rcases x with y|y
   ·rw[y];show vp b u e
   ·show vp c _ y
def Cv(K:lW)(l:lS):It :=
 #[λi H=>∃z x,SqL K H l z/\z[i]? =some x,λi H x w=>∃p y,x=.ref p/\H p=none/\w=mJ H p (.tup [.int (i:Nat),y])/\∀z,SqL K H l z->z[i]? =some y,λi H=>∃z,SqL K H l z/\z.length<=i]
def Zw9{P:md}{w:lZ}{K:lW}{S0:lQ ma}{x1:Nat}{pos:Pos}{l:lS}(e it:lS)(B:e≠it) :
  vS P w K (.Tuple S0 x1 pos) (Cv K l) [e,it] e (λi h=>(∃r,IsEnum h e it (i:Nat) r)/\h.IsListIter it l i) where
 mem:=by simp
 obj:=λi h st b n=>by
  obtain⟨⟨r,he⟩,j⟩:=st;rcases nU.mp n with rfl|n
  ·show#[_,he,λv y=>nomatch y]
  ·have q:b=it:=by simpa using n
   subst q;obtain⟨o,e,c,d⟩:=j;show#[o,e,λv y=>by rw[d]at y;cases y]
 keep:=λi h A st k=>by
  obtain⟨⟨r,he⟩,j⟩:=st;show#[#[r,k e (by simp) _ he],j.at λo q=>k it (by simp) o q]
 item:=by
  intro X U Q N hc i c7 s z H E I a st M;subst U Q N;obtain⟨⟨r,he⟩,j⟩:=st;obtain⟨xs,x,Y,L⟩:=M;obtain⟨c8,J,p,hz⟩:=I.list Y;obtain⟨u,hu,ru⟩:=J.get L;refine wpAny_pyNext_enum_item he j p.isList (x:=u) (by simpa using hu) B λA ho V6 ht hsz kk=>?_
  refine#[_,rfl,wpAny_letOwnedTupleGo_enum ho λG D C=>?_];have P6:e<#v[s]:=nO he;have C3:it<#v[s]:=let⟨o,q,_⟩:=j;nO q;have k2:∀b v,b∉[e,it]->s.heap.get? b=some v->G.get? b=some v:=λb v n q=>by
   have b1:b≠e:=λy=>n (by simp[y])
   have b2:b≠it:=λy=>n (by simp[y])
   show(C.2 b b1).trans (kk b v b1 b2 q)
  have g:G.get? #v[s]=some {cls:=.type "tuple",data:=.seq (List.toArray [.int i s.toks,u])}:=(C.2 _<|xJ P6).trans ht;have new:Z8 X.prog X.w (mJ H #v[s] (.tup [.int (i:Nat),x])) G #v[s] (.tup [.int (i:Nat),x]) :=
   #[sz (by simp),[.int i s.toks,u],.cons #[_,rfl]<|.cons ru .nil,#[_,g,rfl,_,rfl]]
  refine#[.ref #v[s],_,I.turnedNew (t':=s.toks+1) a k2 new,rfl,#[_,x,rfl,I.fresh,rfl,λc d=>by rw[I.list_inj d Y];show L],#[#[_,D],?_],λb n=>?_]
  ·show V6.at λo q=>(C.2 it B.symm).trans q
  ·rw[Zd ?_]
   ·show(a b n).1
   ·rcases nU.mp n with rfl|n
    ·show oi P6
    ·have q:b=it:=by simpa using n
     subst q;show oi C3
 done:=by
  intro X U Q N hc i c7 s z H E I a st M;subst U Q N;obtain⟨⟨r,he⟩,j⟩:=st;obtain⟨xs,Y,L⟩:=M;obtain⟨c8,J,p,hz⟩:=I.list Y;obtain⟨f0,f1,d,f3,f4,f5⟩:=a it (by simp);have hl:=J.length;show wpAny_pyNext_enum_end (I.ok.hd hc) he j p.isList (by simp;lia) λA eb=>#[rfl,I.turned (t':=s.toks) (λb o n e=>eb b o n e) f0 f1 f3 f4 f5]
 self:=λ_ _ _ _ _ st h=>by
  obtain⟨⟨r,he⟩,_⟩:=st;show wpAny_pyIter_enum he h
inductive NT(K:Frag)(R:It->Hp->Prop)(H:Hp):List V->Prop
 | mk {l xs}:SqL K H l xs->R (Cv K l) H->NT K R H [.ref l]
def ZL(K:lW)(y:TA):TI:=λz H R=>y z H λx w=>NT K R w x
def xz{X:Cx}{j:lQ ma}{i:Nat}{x:Pos}{a:ma}{r:TA}{p pos:Pos}(g:Gl X "enumerate")(d:X.mg "enumerate"=none)(c:PA X [a] r)(Y:starEach [a] X.env=[(false,eval a X.env)]:=by rfl) :
  PI X (.Tuple j i x) (.Call (.Name "enumerate" p) [a] [] pos) (ZL X.K r):=by
 intro o s z H R I h;refine Call_<|xy I g d boot_enumerate<|Ar (mZ (c pos o s z H _ I h) λu s1 ⟨l,n,y,U,Q⟩=>?_) Y rfl;obtain@⟨l,u,N,q⟩:=Q;obtain⟨u,rfl,M⟩:=W5 U;cases M;obtain⟨u,l,L,e⟩:=y.list N;refine call_enumerate_list L.isList λJ he G E D=>wpAny_pyIter_enum he ?_
 have C:mI X o z n {s1 with heap:=J}:=y.kept (t':=s1.toks) D;refine#[#v[s1]+1,[#v[s1]+1,#v[s1]],_,_,n,rfl,C,Zw9 _ _<|Nat.succ_ne_self _,#[#[_,he],G],λb w=>?_,q];rcases nU.mp w with rfl|w
 ·show y.fpOk (rV _)<|y.hok.fresh<|rV _
 ·have e:b=#v[s1]:=by simpa using w
  subst e;show y.fpOk (nk _)<|y.hok.fresh<|nk _
def yi{K:lW}{l:lS}{xs:lQ V}{g:TG}{o:TS}{D:pT}{z:St}{H:Hp}(Pv:Nat->St->Hp->Prop)(j:Pv 0 z H)(w:∀i z H,i<=xs.length->Pv i z H->SqL K H l xs)
  (h:∀i x z H,xs[i]? =some x->Pv i z H->∀p u,mC H u->H p=none->u p=some (.tup [.int (i:Nat),x])->g (.ref p) z u λr d=>o {D with nx:=Pv<|i+1,ct:=Pv<|i+1,bk:=D.nx} r d) (hd:∀z H,Pv xs.length z H->D.nx z H) :
  yL (Cv K l) g o D z H:=Wh Pv j (λs H p=>#[xs,w _ s H (nk _) p,nk _]) (λi s H q p=>#[#[xs,xs[i],w i s H (pA q) p,oy q],λx U ⟨a,y,e,n,c,Y⟩=>by subst e c;show h i y s H (Y xs<|w i s H (pA q) p) p a _ (mC.new n) n Zc]) hd
def UU{K:lW}{l:lS}{xs:lQ V}{fr:St->St}{g:TG}{o:TT}{n:TE}{Q:VK}{z:St}{j:Hp}{D:lS}(Pv:Nat->lQ V->Hp->Prop)(d:Pv 0 [] (mJ j D<|.lst []))(u:∀i w H,i<=xs.length->Pv i w H->SqL K H l xs)
  (c:∀i x w H,xs[i]? =some x->Pv i w H->∀p r,mC H r->H p=none->r p=some (.tup [.int (i:Nat),x])->W4 fr g o n z D (.ref p) w r (Pv<|i+1)) (hd:∀w H,Pv xs.length w H->Q (.ref D) H):qV (Cv K l) fr g o n Q z j D:=Wh Pv d (λs H p=>#[xs,u _ s H (nk _) p,nk _]) (λi s H q p=>#[#[xs,xs[i],u i s H (pA q) p,oy q],λx N ⟨a,y,e,h,Y,U⟩=>by subst e Y;show c i y s H (U xs<|u i s H (pA q) p) p a _ (mC.new h) h Zc]) hd
def DS(d:lS)(o:Obj)(kvs:lQ (ng×V)):It :=
 #[λi H=>H d=some (.frz o<|.dK kvs)/\i<kvs.length,λi H x y=>∃p z,x=.ref p/\H p=none/\kvs[i]? =some z/\y=mJ H p (.tup [kV z.1,z.2]),λi H=>H d=some (.frz o<|.dK kvs)/\kvs.length<=i]
def Zue{P:md}{w:lZ}{K:lW}{S0:lQ ma}{x1:Nat}{pos:Pos}{d:lS}{o:Obj}{kvs:lQ (ng×V)}{vs:lQ (ng×lT)}{ep:Nat}(it:lS)(M:KV kvs vs)
  (L:∀h:lY,h.get? d=some o->h.DictAt (Z1 P w) d vs ep):vS P w K (.Tuple S0 x1 pos) (DS d o kvs) [it] it (λi h=>∃ok r,IsItemIter h it d i vs.length ep ok r) where
 mem:=by simp
 obj:=λi h st b x=>by
  have e:b=it:=by simpa using x
  subst e;obtain⟨ok,r,e⟩:=st;show#[_,e,λv y=>nomatch y]
 keep:=λi h J st k=>by
  obtain⟨ok,r,e⟩:=st;show#[ok,r,k it (by simp) _ e]
 item:=by
  intro X g c a G i c7 s z H E I j st Y;subst g c a;obtain⟨ok,r,n⟩:=st;obtain⟨U,D⟩:=Y;have p:s.heap.get? d=some o:=(I.hok d _ U).1;obtain⟨u,hu,ru⟩:=M.get (i:=i) (kv:=kvs[i]) (by simp[D]);refine wpAny_pyNext_items_item (knd:=Z1 X.prog X.w) n (L _ p) hu λkey J N8 ho ht hsz kk=>?_
  refine#[_,rfl,wpAny_letOwnedTupleGo_items ho λQ N C=>?_];have B:it<#v[s]:=nO n;have k2:∀b v,b∉[it]->s.heap.get? b=some v->Q.get? b=some v:=λb v x q=>by
   have A:b≠it:=λy=>x (by simp[y])
   show(C.2 b A).trans (kk b v A q)
  have l:Q.get? #v[s]=some {cls:=.type "tuple",data:=.seq (List.toArray [key,u])}:=(C.2 _<|xJ B).trans ht;have new:Z8 X.prog X.w (mJ H #v[s] (.tup [kV kvs[i].1,kvs[i].2])) Q #v[s] (.tup [kV kvs[i].1,kvs[i].2]) :=
   #[sz (by simp),[key,u],.cons (Ep N8)<|.cons ru .nil,#[_,l,rfl,_,rfl]]
  refine#[.ref #v[s],_,I.turnedNew (t':=s.toks) j k2 new,rfl,#[_,kvs[i],rfl,I.fresh,by simp[D],rfl],#[_,_,N],λb x=>?_];have e:b=it:=by simpa using x
  subst e;rw[Zd (oi B)];show(j _ x).1
 done:=by
  intro X g c a G i c7 s z H E I j st Y;subst g c a;obtain⟨ok,r,n⟩:=st;obtain⟨U,G9⟩:=Y;obtain⟨f0,f1,f2,f3,f4,f5⟩:=j it (by simp);have p:s.heap.get? d=some o:=(I.hok d _ U).1;have hl:=KV.length M;show wpAny_pyNext_items_end (knd:=Z1 X.prog X.w) (I.ok.hd G) n (L _ p) (wb<|by lia) λJ eb=>#[rfl,I.turned (t':=s.toks) (λb o x e=>eb b o x e) f0 f1 f3 f4 f5]
 self:=λ_ _ _ _ _ st h=>by
  obtain⟨ok,r,n⟩:=st;show PySem.W.kcp_self n h
def Vr(X:Cx)(y:TE):TI:=λz H R=>y z H λx w=>Gw X DS R w x
def wV{X:Cx}{Y:lQ ma}{U:Nat}{x j i:Pos}{o:ma}{to:TE}(Q:PE X o to)(N:attributeBase o "items" X.env (eval o X.env)=eval o X.env:=by rfl)(M:(j.endLine ==i.line)=true:=by rfl) :
  PI X (.Tuple Y U x) (.Call (.Attribute o "items" j) [] [] i) (Vr X to):=by
 intro g s z H R I h;refine Hx N M<|mZ (Q g s z H _ I h) λv s1 ⟨y,L,r,J,G⟩=>?_;obtain@⟨d,p,hd,q⟩:=G;cases J;obtain⟨y,E,D,C,w⟩:=zj r.hok hd;obtain⟨n,_,_,u,B,_⟩:=id w;obtain⟨y,c⟩:=FU w u;refine#["dict","dict.items",AE,QO,PySem.F.type_dict_items,w.typeIs,λa e=>?_,xx rfl<|Fc ?_]
 ·cases e;show#[n,u,B.2.1]
 refine vO QO w.typeIs PySem.F.entry_dict_items (PySem.F.args_dict_items_1 _) (meets_dict_items (Z1 X.prog X.w) d E) #[#[D,w],?_];have A:=r.freeze hd rfl u;have l:mI X g z (mJ L d<|.frz n<|.dK p) {s1 with heap:=s1.heap.push {cls:=.type "dict_items",data:=.fields (List.toArray [.ref d])}}:=A.kept (t':=s1.toks) λb o e=>nQ _ e
 refine wpAny_pyIter_items (knd:=Z1 X.prog X.w) (d:=d) #[_,oQ _ rfl,rfl,rfl] (c _<|nQ _ u) ?_;refine#[_,[_],_,_,_,rfl,l.kept (t':=s1.toks) λb o e=>nQ _ e,Zue _ C c,#[_,_,oQ _ rfl],λb hb=>?_,q n #[r.notFrz hd (λ_ _ y=>nomatch y),λ_ y=>nomatch y]];have e:=oP.mp hb;subst e;show l.fpOk (nk _)<|l.hok.fresh<|nk _
def Dr{d:lS}{o:Obj}{kvs:lQ (ng×V)}{g:TG}{u:TS}{D:pT}{z:St}{H:Hp}(Pv:Nat->St->Hp->Prop)(l:Pv 0 z H)(r:∀i z H,i<=kvs.length->Pv i z H->H d=some (.frz o<|.dK kvs))
  (j:∀i kv z H,kvs[i]? =some kv->Pv i z H->∀p y,mC H y->H p=none->y p=some (.tup [kV kv.1,kv.2])->g (.ref p) z y λw h=>u {D with nx:=Pv<|i+1,ct:=Pv<|i+1,bk:=D.nx} w h) (hd:∀z H,Pv kvs.length z H->D.nx z H) :
  yL (DS d o kvs) g u D z H:=Wh Pv l (λs H p=>#[r _ s H (nk _) p,nk _]) (λi s H q p=>#[#[r i s H (pA q) p,q],λx U ⟨a,kv,e,n,c,Y⟩=>by subst e Y;show j i kv s H c p a _ (mC.new n) n Zc]) hd
def vc(K:lW)(H:Hp)(x y:V):Prop:=(sX x=true/\sX y=true/\rY x y=true)\/∃n t,n<=60/\Im K H n t x/\Im K H n t y
def vc.eqAt(I:mI X j z H s)(h:vc X.K H x y)(w:Yd x u)(r:Yd y v)(i:A.units+60<cLine):SeqAt.EqAt A s u v true:=by
 rcases h with⟨q,p,e⟩|⟨n,t,g,o,l⟩
 ·show Yg (zY w r q p) e
 ·show Yg (Im.eqAt I n A o l w r<|by lia)<|nS rfl
def Px(K:lW):R2:=λx y H Q=>∃a b z w,x=.ref a/\y=.ref b/\Rd H a (.dK z)/\Rd H b (.dK w)/\z.length=w.length/\(∀u∈z,∃v,Y8 w u.1=some v/\vc K H u.2 v)/\Q (.bl true) H
def Ygc(hu:X.A.units+64<cLine):nW X (compareOp .Eq) (Px X.K):=by
 intro c7 s z H x y v u Q I M j h;obtain⟨a,b,ka,L,rfl,rfl,J,G,E,D,q⟩:=h;cases M;cases j;obtain⟨_,C,B,e,da⟩:=qK I.hok J;obtain⟨_,sb,d,c,db⟩:=qK I.hok G;have la:=KV.length e;have lb:=KV.length c;have E8:∀{w:lQ (ng×V)}{o:lQ (ng×lT)},KV w o->(∀n∈w,∃v,Y8 L n.1=some v/\vc X.K H n.2 v)->PySem.W.KeqHits X.A.in1 s d o true:=by
  intro w o r
  induction r with
  | nil=>intro _;show .nil
  | cons r t ih =>
   rename_i p q l m;intro Y;obtain⟨e1,r2⟩:=r;obtain⟨v,i,g⟩:=Y p ph;have U:=KV.val c p.1;rw[i]at U;obtain⟨y,N,j⟩:=pR.some_of U;rw[e1]at N;have:=Fe (k:=q.1) (v:=q.2) N (g.eqAt (A:=X.A.in1) I r2 j<|by rw[X0];lia)<|ih λn C8=>Y n<|pG _ C8;simpa using this
 refine PySem.W.keq_eq (knd:=Z1 X.prog X.w) C sb da db (by lia) (λ_=>E8 e D) #[.bl true,H,I,?_,q];rw[show(B.length ==d.length)=true by rw[<-la,<-lb,E];simp]
 rfl
def AQ(K:lW):R2:=λx y H Q=>Mh x y H Q\/CN K false x y H Q\/Px K x y H Q
inductive Ig(K:Frag)(H:Hp)(Q:VK):List V->Prop
 | mk {p ys}:(SqL K H p ys\/SqT K H p ys)->Q (.int ys.length) H->Ig K H Q [.ref p]
def JZ(K:lW):lQ V->Hp->VK->Prop:=λx H Q=>Ig K H Q x\/(∃z,x=[.str z]/\z.length<=sizeLine/\Q (.int z.length) H)\/∃a y,x=[V.ref a]/\H a=some (.dK y)/\Q (.int y.length) H
def qN(K:lW):V->lV Int->lV Int->Hp->VK->Prop:=λx lo z H Q=>IM K x lo z H Q\/Qk K x lo z H Q\/LC x lo z H Q
def CZ(z:Y4 k X.A):nW X (compareOp .Eq) (AQ X.K):=OG.or<|(Yfb z.units).or (Ygc z.units)
def WD:Xe X (.builtin "len") (JZ X.K):=(Zq0.imp λz H Q (h:Ig X.K H Q z)=>by
 obtain@⟨p,y,x,w⟩:=h;show#[p,y,rfl,x,w]).or (SS.or Ui)
def qZ:rT X (qN X.K):=TX.or<|RU.or WU
inductive OM(K:Frag)(H:Hp)(Q:VK):List V->Prop
 | mk {p ys}:(SqL K H p ys\/SqT K H p ys)->pD H (.lst ys) Q->OM K H Q [.ref p]
def AZ(K:lW):lQ V->Hp->VK->Prop:=λz H Q=>OM K H Q z
def DB:Xe X (.type "list") (AZ X.K):=Ts.imp λu H Q h=>by
 obtain@⟨p,z,y,x⟩:=h;show#[p,z,rfl,y,λl w=>x.at l w]
inductive ID(H:Hp)(Q:VK):List V->Prop
 | mk {p kvs}:Rd H p (.dK kvs)->pD H (.dK kvs) Q->ID H Q [.ref p]
def EX:lQ V->Hp->VK->Prop:=λz H Q=>ID H Q z
def PR:Xe X (.type "dict") EX:=by
 intro n s z H l j Q I r h;obtain@⟨p,y,hd,q⟩:=h;obtain⟨u,rfl,x⟩:=W5 r;cases x;show Ua I hd λa i w o=>#[.ref a,_,o,rfl,q.at a w]
def Yb9:TE:=λ_ H Q=>pD H (.dK []) Q
def Xz:PE X (.Dict [] [] pos) Yb9:=λy s z H Q I h=>Ybt y s z H Q I λp x=>h.at p x
def Uk:TE:=λ_ H Q=>pD H (.dT []) Q
def Nb:PE X (.Dict [] [] pos) Uk:=λy s z H Q I h=>Yac y s z H Q I λp x=>h.at p x
def LU(K:lW):lQ V->Hp->VK->Prop:=λz H Q=>∃(p:lS)(bs:lQ Bool),z=[.ref p]/\SqL K H p (bs.map V.bl)/\Q (.bl<|bs.all id) H
def Sz(z:X.calm=true):Xe X (.builtin "all") (LU X.K):=VD z
inductive JC(K:Frag)(H:Hp)(Q:VK):List V->Prop
 | mk {x c b t}:Xp K H x t->((∃n,c=.ty n/\kitOne K t (.type n)=some b)\/∃a,c=.ref a/\kitOne K t (.ref a)=some b)->Q (.bl b) H->JC K H Q [x,c]
def yk(K:lW):lQ V->Hp->VK->Prop:=λz H Q=>JC K H Q z
def Cm:Xe X (.builtin "isinstance") (yk X.K):=Zse.imp λu H Q h=>by
 obtain@⟨x,c,b,t,z,y,w⟩:=h;show#[x,c,b,t,rfl,z,y,w]
def UZ{fr:St->St}
  (hN:X.N.Nodup) (V6:X.N[i]? =some y) (hy:vo X.env.scope y) (hc:X.calm=true) (S:X8 X scope Q N fr) (hi:PI X c r wi) (hg:∀s H C q,PG (Xf X scope Q N s H C q) c g) (hf:∀s H C q,PF (Xf X scope Q N s H C q) M tf)
  (he:∀s H C q,PE (Xf X scope Q N s H C q) L te) (hs:∀x,foldedSetIterable r X.env x=pure x:=by intro _;rfl)
  (J:swapsWith (.ListComp L [#[c,r,M,0]] scope pos) (some<|.Name y a) n.line X.env=pure true:=by rfl) (M9:X.fn y=true\/X.env.scope.names.lookup y=some .local:=by and_intros) :
  PS X (.Assign [.Name y a] (.ListComp L [#[c,r,M,0]] scope pos) n) (AM (AA wi fr g tf te)<|qI i):=by
 intro G s z H D I h;rw[exec_Assign_Name_used _ _ _ _ J];refine mS<|zX<|mS ?_;change wpAny _ X.A (do let _ <-comprehension (.ListComp L [⟨c,r,M,0⟩] scope pos) scope X.env _ (newList []) false (eval r X.env) (some (assign (.Name y a) X.env))) _ _ s;refine mS<|pX (Ov (use:=some<|assign (.Name y a) X.env) (QQ:=λ_ o=>∃w H',mI X G w H' o/\D.nx w H') hc S hi hg hf he hs I h λ{E w fp C Y U} I2 l f2 B qn=>?_) (λ_ o w=>nG<|nG w) λ_ _ e=>e;obtain⟨m4,A,_⟩:=B.loc;obtain⟨oC,esC,epC,hoC,j⟩:=id A;have J0:mI X G z Y U:=Oo I2 l f2 B (h':=U.heap) #[rfl,λ_ _=>rfl];have big:#v[E]<=C:=pA l;have fC:Y C=none:=B.free;have u:=I2.fpOk big fC;have J1:mI X (G++[(C,oC)]) z Y U:=J0.pins_of λp d=>by
  rcases oj.mp d with d|d
  ·show J0.pin p<|qv _ d
  ·have e:p=(C,oC):=by simpa using d
   subst e;show#[hoC,fC,u.2.1,u.2.2.1,λv w=>by rw[j.1]at w;cases w]
 refine mZ (Gf hN V6 hy M9 (X:=X) (pos:=a) _ U z Y (.ref #v[E]) (.ref #v[E]) _ J1 rfl qn) λ_ s5 ⟨σ5,H5,I5,q5⟩=>?_
 obtain⟨p1,p2,p3,w,o⟩:=I5.pin (C,oC) (qv _<|qv _<|by simp);show#[m4,#[oC,esC,epC,p1,j],λh' w=>#[σ5,H5,(I5.unpinned).turned (t':=s5.toks) (it:=C) (λb o hb e=>(w.2 b hb).trans e) p2 p3 u.2.2.2.1 u.2.2.2.2.1 u.2.2.2.2.2,q5]]
def wW{X:Cx}{K:lW}{z:lQ ma}{k:Nat}{pos:Pos}{t:xu}{n:Nat}(y:X.K=K)(x:X.calm=true)(h:yw X z t)
  (w:(assignEach z X.env).length=n:=by rfl) (u:(assignEach z X.env).findIdx? (·.1)=none:=by rfl):PG X (.Tuple z k pos) (Ez K n t):=y ▸ rE x h w u
def UM:lQ V->Hp->VK->Prop:=λy H Q=>∃p z,y=[.ref p]/\Rd H p (.dK z)/\pD H (.lst<|z.map λx=>kV x.1) Q
def JG{kvs:lQ (ng×V)}{z:lQ (ng×lT)}(g:KV kvs z):∀{vs:lQ lT},vs.length=z.length->(∀(j:Nat)(v:lT),vs[j]? =some v->∃(k:ng)(x:lT),z[j]? =some (k,x)/\(Z1 P w).is k v=true)->Z7 (kvs.map λkv=>kV kv.1) vs:=by
 induction g with
 | nil =>
  intro vs h _;obtain rfl:=uD.mp h;show .nil
 | cons r t s =>
  intro vs h y;cases vs with
  | nil=>cases h
  | cons v vs =>
   obtain⟨k,x,e,q⟩:=y 0 v rfl;simp only[List.getElem?_cons_zero,Option.some.injEq]at e;subst e;rw[nV];refine .cons ?_ (s (by simpa using h) λj u p=>by simpa using y (j+1) u (by simpa using p));rw[r.1];show Ep q
def Ygu(i:X.calm=true):Xe X (.type "list") UM:=by
 intro D s z H C B Q I r h;obtain⟨p,x,rfl,hd,q⟩:=h;obtain⟨u,rfl,g⟩:=W5 r;cases g;obtain⟨d,lo,c,y,a⟩:=qK I.hok hd;obtain⟨Y,U⟩:=a.dictAt;have A:=KV.length y;refine PySem.W.kdl_call (PySem.W.kdl_dict (knd:=Z1 X.prog X.w) (kvs:=c) (ep:=Y) lo) (I.ok.hd i) U (by lia) λN M n L J G l=>?_
 have E:Z7 (x.map λy=>kV y.1) n.toList:=JG (P:=X.prog) (w:=X.w) y (by rw[tV];show l.1) λj v e=>l.2 j v (by rw[<-wq];show e)
 show#[.ref #v[s],_,I.laid (o:=.lst<|x.map λy=>kV y.1) (t':=M) J (nk _) (show Z8 X.prog X.w _ N _ (.lst _)from#[by rw[mK];show d,n.toList,L,E,by rw[G]]),rfl,q.at _<|I.hok.fresh<|nk _]
def NC(K:lW):R2:=λx y H Q=>∃a b z w,x=.ref a/\y=.ref b/\Rd H a (.dK z)/\Rd H b (.dK w)/\z.length=w.length/\(∀u∈z,∃v,Y8 w u.1=some v/\vc K H u.2 v)/\Q (.bl false) H
def Yf6(hu:X.A.units+64<cLine):nW X (compareOp .NotEq) (NC X.K):=by
 intro c7 s z H x y v u Q I M j h;obtain⟨a,b,ka,L,rfl,rfl,J,G,E,D,q⟩:=h;cases M;cases j;obtain⟨_,C,B,e,da⟩:=qK I.hok J;obtain⟨_,sb,d,c,db⟩:=qK I.hok G;have la:=KV.length e;have lb:=KV.length c;have E8:∀{w:lQ (ng×V)}{o:lQ (ng×lT)},KV w o->(∀n∈w,∃v,Y8 L n.1=some v/\vc X.K H n.2 v)->PySem.W.KeqHits X.A.in1 s d o true:=by
  intro w o r
  induction r with
  | nil=>intro _;show .nil
  | cons r t ih =>
   rename_i p q l m;intro Y;obtain⟨e1,r2⟩:=r;obtain⟨v,i,g⟩:=Y p ph;have U:=KV.val c p.1;rw[i]at U;obtain⟨y,N,j⟩:=pR.some_of U;rw[e1]at N;have:=Fe (k:=q.1) (v:=q.2) N (g.eqAt (A:=X.A.in1) I r2 j<|by rw[X0];lia)<|ih λn C8=>Y n<|pG _ C8;simpa using this
 refine PySem.W.keq_ne (knd:=Z1 X.prog X.w) C sb da db (by lia) (λ_=>E8 e D) #[.bl false,H,I,?_,q];rw[show(B.length ==d.length)=true by rw[<-la,<-lb,E];simp]
 rfl
def DR(K:lW)(u:Bool):R2:=λx y H Q=>∃(p:lS)(n:Nat)(t:Tr)(z:lQ Tr)(w:lQ lS),y=.ref p/\SqL K H p (w.map V.ref)/\n<=60/\Im K H n t x/\Paired (Im K H n) z (w.map V.ref)/\Q (.bl<|if u then !decide (t∈z)else decide (t∈z)) H
def ui(K:lW)(H:Hp)(n:Nat)(t:Tr)(u:lT):Bool:=match u with
 | .ref a=>@decide (Im K H n t<|.ref a) (Classical.propDecidable _)
 | _=>false
theorem FR(I:mI X x z H s) :∀{ts:lQ Tr}{as:lQ lS}{us:lQ lT},Paired (Im X.K H n) ts (as.map V.ref)->Z7 (as.map V.ref) us->us.any (ui X.K H n t)=decide (t∈ts)
 | [],[],_,_,v=>by rw[uP]at v;cases v;simp
 | [],a ::as,_,p,_=>by rw[nV]at p;cases p
 | t' ::ts,[],_,p,_=>by rw[uP]at p;cases p
 | t' ::ts,a ::as,us,p,v=>by
  rw[nV]at p v;cases p with
  | cons i p =>
   cases v with
   | cons r v =>
    cases r;rw[xE,FR I p v,rh,CQ];simp only[ui,wo,nU]
    constructor
    ·rintro(y|y)
     ·show .inl<|Im.inj I y i
     ·show .inr y
    ·rintro(y|y)
     ·show .inl<|y ▸ i
     ·show .inr y
theorem Fp(I:mI X h z H s)(w:A.units+n<cLine)(q:Im X.K H n t x)(o:Yd x l) :
  ∀{ts:lQ Tr}{as:lQ lS}{us:lQ lT},Paired (Im X.K H n) ts (as.map V.ref)->Z7 (as.map V.ref) us->∀u∈us,SeqAt.EqAt A s u l (ui X.K H n t u)
 | [],[],_,_,v=>by rw[uP]at v;cases v;simp
 | [],a ::as,_,p,_=>by rw[nV]at p;cases p
 | t' ::ts,[],_,p,_=>by rw[uP]at p;cases p
 | t' ::ts,a ::as,us,p,v=>by
  rw[nV]at p v;cases p with
  | cons i p =>
   cases v with
   | cons r v =>
    cases r;intro u j;rcases nU.mp j with e|e
    ·subst e;refine Yg (Im.eqAt I n A i q rfl o w) ?_;simp only[ui,CD];show#[λy=>y ▸ i,λy=>(Im.inj I y i).symm]
    ·show Fp I w q o p v u e
def Ygi(c:X.A.units+64<cLine):nW X (compareOp .In) (DR X.K false):=by
 intro a s z H x y v u Q I j i h;obtain⟨p,n,t,w,Y,rfl,g,U,e,o,q⟩:=h;cases i;obtain⟨l,r,d,w⟩:=I.list g;refine SeqAt.in_listAt (ui X.K H n t) d.isList (λw p=>Fp I (by rw[X0];lia) e j o r w<|by simpa using p) #[.bl _,H,I,rfl,?_];rw[show l.toArray.any (ui X.K H n t)=l.any (ui X.K H n t) by simp,FR I o r];show q
def Vb(c:X.A.units+64<cLine):nW X (compareOp .NotIn) (DR X.K true):=by
 intro a s z H x y v u Q I j i h;obtain⟨p,n,t,w,Y,rfl,g,U,e,o,q⟩:=h;cases i;obtain⟨l,r,d,w⟩:=I.list g;refine SeqAt.notIn_listAt (ui X.K H n t) d.isList (λw p=>Fp I (by rw[X0];lia) e j o r w<|by simpa using p) #[.bl _,H,I,rfl,?_];rw[show l.toArray.any (ui X.K H n t)=l.any (ui X.K H n t) by simp,FR I o r];show q
def uo(K:lW):R2:=λx y H Q=>NZ x y H Q\/CN K true x y H Q\/NC K x y H Q
def wK(z:Y4 k X.A):nW X (compareOp .NotEq) (uo X.K):=VV.or<|(Yga z.units).or (Yf6 z.units)
def Cr(K:lW):R2:=λx y H Q=>zW K false x y H Q\/(∃a o,y=.ref a/\Xk H a x o/\Q (.bl o.isSome) H)\/(∃i j,x=.str i/\y=.str j/\Q (.bl (!(Builtin.Str.occurrences j i 0 j.length 1).isEmpty)) H)\/DR K false x y H Q
def GX(z:Y4 k X.A):nW X (compareOp .In) (Cr X.K):=Rf.or<|(Ygq<|Ys z).or (WK.or<|Ygi z.units)
def Iq(K:lW):R2:=λx y H Q=>zW K true x y H Q\/(∃a o,y=.ref a/\Xk H a x o/\Q (.bl (!o.isSome)) H)\/DR K true x y H Q
def Ow(z:Y4 k X.A):nW X (compareOp .NotIn) (Iq X.K):=ZQ.or<|(UN<|Ys z).or (Vb z.units)
end L2
end
section
namespace L2
open PySem
def TrX(h mD:lY)(e:lS)(cls u:lT)(s:lV lS)(r:lT):Prop :=
 ∃z y T x w,h.get? e=some z/\z.cls=cls/\z.dict=s/\z.data=.fields y/\(y[0]? =some u/\y[2]? =some .none)/\y[1]? =some (.ref T)/\mD.get? T=none/\T≠e/\h.get? T=some x/\x.data=.fields w/\w[3]? =some r
def qf(mD:lY)(l:lQ Env)(e:lS)(cls z:lT)(y:lV lS)(x:lT)(h:lY):Prop:=mD.StaysIn h/\mD.get? e=none/\h.FunFrames mD l/\TrX h mD e cls z y x
def TH(f:Array lT->Array lT)(o:Obj):(Obj.mapFields f o).dict=o.dict:=by
 obtain⟨c,d,z,y⟩:=o;cases z<;>rfl
def qf.there(x:qf mD l e cls r y q h):∃z,h.get? e=some z/\z.cls=cls/\z.dict=y/\∃vs,z.data=.fields vs:=by
 obtain⟨_,_,_,w,vs,_,_,_,he,u,s,hd,_⟩:=x;show#[w,he,u,s,vs,hd]
def qf.ctx(x:qf mD l e cls u s r h):∃z vs,h.get? e=some z/\z.data=.fields vs/\vs[2]? =some .none:=by
 obtain⟨_,_,_,y,vs,_,_,_,he,q,p,hd,w,_⟩:=x;show#[y,vs,he,hd,w.2]
section
variable {M:Model} {A:me} {E:lT->lU->Prop} {s:lU} {mD:lY} {env:Env} {mB l:lQ Env} {L e:lS} {oe:Obj} {vs:Array lT} {head a0 cls fl:lT} {dx:lV lS} {Q:Unit->lU->Prop}
def OF(G:A.frames=some (env ::mB))(r:s.heap.FunFrames mD (env ::mB))(D:env.frame=some L)(he:s.heap.get? e=some oe)(n:mD.StaysIn s.heap)(j:mD.get? e=none)(hd:oe.data=.fields vs)(hsz:1<vs.size)
  (i:vs[0]? =some a0/\vs[2]? =some .none) (h:∀h',qf mD (env ::mB) e oe.cls a0 oe.dict (rawInt L) h'->s.heap.UpToSlots h'->Q () {s with heap:=h'}) :
  wpAny M A (do let a <-frameOf env;let pl <-entryPlaceOf L hadNext;let b <-EntryCells.newEntry head a .none (rawInt L) .none pl;setField (.ref e) 1 b) Q E s:=by
 have off:e∉(env ::mB).filterMap (·.frame):=λz=>by
  obtain⟨_,o,q,w⟩:=r.mem z;rw[he]at q;cases q;show w vs hd
 refine mS<|wpAny_frameOf_fun G r D λg p=>mS<|wpAny_entryPlaceOf λpl d=>?_;unfold EntryCells.newEntry newFields;refine mS<|wx ?_<|d.sizeOk5 _ _ _ _ _;have c:g.get? e=some oe:=by rw[p.2.1 e off];show he
 have Y:mD.StaysIn g:=λb o q=>by
  rw[p.2.1 b λz=>by rw[(r.mem z).1]at q;cases q];show n b o q
 generalize U:({cls:=.type "traceback",dict:=none,data:=.fields ([head,.ref L,.none,rawInt L,.none]++(if pl.isEmpty then List.replicate 6 Value.none else pl)).toArray}:Obj)=x;have N:(g.push x).get? e=some oe:=nQ _ c;have J:g.objs.size≠e:=xJ<|nO c;have C:(g.push x).get? g.objs.size=some x:=oQ g (by rw[<-U];rfl);refine FP N hd hsz<|h _ ?_ ?_
 ·have I:=BS hd (·.setIfInBounds 1 (Value.ref g.objs.size));have B:=Cs (Obj.mapFields (·.setIfInBounds 1 (Value.ref g.objs.size))) N<|Db I;have t3:((g.push x).update e (Obj.mapFields (·.setIfInBounds 1 (Value.ref g.objs.size)))).get? g.objs.size=some x:=by rw[tT _ _ J.symm];show C
  have u:∀b o,b≠e->g.get? b=some o->((g.push x).update e (Obj.mapFields (·.setIfInBounds 1 (Value.ref g.objs.size)))).get? b=some o:=λb o nb q=>by
   rw[tT _ _ nb.symm];show nQ _ q
  refine#[λb o q=>u b o (λz=>by rw[z,j]at q;cases q)<|Y b o q,j,r.of_keeps λb o q w=>?_,?_]
  ·obtain⟨H,z⟩:=p.2.2 b o q;refine#[_,u b _ (λy=>?_) z,rfl];rw[y,he]at q;cases q;show w vs hd
  ·refine#[_,_,g.objs.size,x,_,B,Obj.cls_mapFields _ _,TH _ _,I,?_,by simp[hsz],Y.fresh,J,t3,by rw[<-U],?_]
   ·show#[by rw[LD (by lk)];show i.1,by rw[LD (by lk)];show i.2]
   ·rcases d with rfl|⟨_,_,_,_,_,_,_,rfl⟩<;>simp
 ·intro b o q w;obtain⟨H,z⟩:=p.2.2 b o q;refine#[H,?_];change((g.push x).update e (Obj.mapFields (·.setIfInBounds 1 (Value.ref g.objs.size)))).get? b=_;rw[tT _ _ λy=>by rw[<-y,he]at q;cases q;show w vs hd];show nQ _ z
def Uv(w:A.frames=some (env ::mB))(u:s.heap.FunFrames mD (env ::mB))(y:env.frame=some L)(he:s.heap.get? e=some oe)(z:mD.StaysIn s.heap)(r:mD.get? e=none)(hd:oe.data=.fields vs)
  (x:vs[1]? =some .none) (q:vs[0]? =some a0/\vs[2]? =some .none) (h:∀h',qf mD (env ::mB) e oe.cls a0 oe.dict (rawInt L) h'->s.heap.UpToSlots h'->Q () {s with heap:=h'}):wpAny M A (noteFrame (.ref e) env) Q E s:=by
 unfold noteFrame;simp only[y];refine mS<|xP he hd x ?_;rw[mT (by lk)];show OF w u y he z r hd (Dy.mp x).1 q h
def Ot(d:A.frames=some (env ::mB))(n:env.frame=some L)(x:qf mD (env ::mB) e cls a0 dx .none s.heap)
  (h:∀h',qf mD (env ::mB) e cls a0 dx (rawInt L) h'->s.heap.UpToSlots h'->Q () {s with heap:=h'}):wpAny M A (noteFrame (.ref e) env) Q E s:=by
 obtain⟨u,c,a,oe,vs,T,B,Y,he,U,N,hd,J,j,I,H,r,p,i⟩:=x;subst U N;unfold noteFrame;simp only[n];refine mS<|xP he hd j ?_;rw[mU (by simp)];refine mS<|xP r p i ?_;rw[mT (by simp[rawInt])];refine mS<|FP r p (Dy.mp i).1 ?_;have y:∀b,b≠T->(s.heap.update T<|Obj.mapFields (·.setIfInBounds 3 Value.none)).get? b=s.heap.get? b:=λb G=>tT _ _ G.symm
 have g:∀b o,s.heap.get? b=some o->(∀vs,o.data≠.fields vs)->b≠T:=λb o q w z=>by
  rw[z,r]at q;cases q;show w Y p
 refine OF d (a.of_keeps λb o q w=>#[o,by rw[y b (g b o q w)];show q,rfl]) n (by rw[y e H.symm];show he) (λb o q=>?_) c hd (Dy.mp j).1 J λh' D C=>h h' D λb o q w=>C b o (by
  change(s.heap.update T _).get? b=_;rw[y b (g b o q w)];show q) w
 change(s.heap.update T _).get? b=_;rw[y b λz=>by rw[z,I]at q;cases q];show u b o q
def DU(x:qf mD l e cls a0 dx fl s.heap)(h:∀h',qf mD l e cls a0 dx .none h'->s.heap.UpToSlots h'->Q () {s with heap:=h'}):wpAny M A (setFlight (.ref e) none) Q E s:=by
 obtain⟨p,a,Y,oe,vs,T,G,j,he,U,N,hd,J,i,g,d,n,r,I⟩:=x;have w:3<j.size:=(Dy.mp I).1;have y:∀b,b≠T->(s.heap.update T<|Obj.mapFields (·.setIfInBounds 3 ((none:lV lS).elim Value.none λf=>rawInt f))).get? b=s.heap.get? b:=λb H=>tT _ _ H.symm
 have c:∀b o,s.heap.get? b=some o->(∀vs,o.data≠.fields vs)->b≠T:=λb o q u z=>by
  rw[z,n]at q;cases q;show u j r
 unfold setFlight;refine mS<|xP he hd i ?_;rw[mU (by simp)];refine FP n r w<|h _ #[λb o q=>?_,a,Y.of_keeps λb o q u=>#[o,?_,rfl],oe,vs,T,_,_,?_,U,N,hd,J,i,g,d,Cs _ n<|Db<|BS r _,BS r _,by simp[w]] λb o q u=>#[o.slots,?_]
 ·rw[y b λz=>by rw[z,g]at q;cases q];show p b o q
 ·rw[y b (c b o q u)];show q
 ·rw[y e d.symm];show he
 ·change(s.heap.update T _).get? b=_;rw[y b (c b o q u)];show q
def qf.out(x:qf mD (env ::mB) e cls a0 dx fl s.heap):qf mD mB e cls a0 dx fl s.heap:=by
 obtain⟨a,b,⟨_,_,c⟩,d⟩:=x;show#[a,b,c,d]
def KJ(y:A.frames=some (env ::mB))(w:env.frame=some L)(x:qf mD (env ::mB) e cls a0 dx .none s.heap)(h:∀h',qf mD mB e cls a0 dx .none h'->s.heap.UpToSlots h'->Q () {s with heap:=h'}) :
  wpAny M A (leaving env<|.ref e) Q E s:=by
 unfold leaving;refine mS<|Ot y w x λu r q=>DU (s:={s with heap:=u}) r λz p o=>h z ?_<|q.trans o;show qf.out (s:={s with heap:=z}) p
def Ou(w:A.frames=some (env ::mB))(u:s.heap.FunFrames mD (env ::mB))(r:env.frame=some L)(he:s.heap.get? e=some oe)(z:mD.StaysIn s.heap)(q:mD.get? e=none)(hd:oe.data=.fields vs)
  (y:vs[1]? =some .none) (p:vs[0]? =some a0/\vs[2]? =some .none) (h:∀h',qf mD mB e oe.cls a0 oe.dict .none h'->s.heap.UpToSlots h'->Q () {s with heap:=h'}):wpAny M A (leaving env<|.ref e) Q E s:=by
 unfold leaving;refine mS<|Uv w u r he z q hd y p λy o n=>DU (s:={s with heap:=y}) o λx j i=>h x ?_<|n.trans i;show qf.out (s:={s with heap:=x}) j
end
end L2
end
section
namespace L2
open PySem PySem.Spec PyProof.Rows
def Bw(K:lW)(z:lR->lV lT)(x:lR)(C:lS)(bm:lQ lT)(newId:String):Prop:=∀h:lY,K.In h->OwnCls x C bm newId z h
def uh{K:lW}{s:lR->lV lT}{x:lR}{C:lS}{z:lQ lT}{newId:String}(m:s x=some (.ref C))(q:PySem.W.excIn K C z newId=true):Bw K s x C z newId:=by
 intro h X;refine#[m,?_];unfold PySem.W.excIn at q;split at q
 case h_2=>cases q
 case h_1 d w c a =>
  split at q
  case h_2=>cases q
  case h_1 Y U r p o l n j i Q =>
   rw[qu,qu,qu,qu,qu]at q;obtain⟨⟨⟨⟨⟨N,M⟩,L⟩,J⟩,u⟩,I⟩:=q;have H:Y=C:=rK.mp N;have G:n=newId:=rK.mp M;have g:nsIn K w.ns "__init__"=some none:=rK.mp I;have e:w.hasDel=false:=by simpa using L
   subst H G;have E:c=(List.toArray [r,p,o,l,some<|.builtin n,j]):=Array.toList_inj.mp Q;obtain⟨nm,bs,mro,D,B,y,A,sub,ab,col,pV⟩:=w;dsimp only at i e u g;subst i e E;show#[U,D,nm,B,bs,y,A,sub,ab,col,d,r,p,o,l,j,_,X _ _ a,.of_isNs<|PySem.W.isNs_of_in X u,PySem.W.nsMap_none_of_in X u g,PySem.W.tail_of_in X J]
def US(z:lQ Env)(cls:lT)(y:lV lS)(H':Hp)(g:lY)(x:lS)(h:lY):Prop :=
 ∃w B,qf B z x cls w y .none h/\∀b o,h.get? b=some o->((∃u,g.get? b=some u)\/H' b≠none)->b∉oF z->B.get? b=some o
def ol(P:md)(w:lZ):uJ:=λx H s E e z=>∃u cls r y,e=.ref u/\z.os=s.os/\AllBare z.gens/\Un (oF x) [] H y s.heap z.heap/\oq P w y z.heap/\US x cls r y s.heap u z.heap/\E cls r y
def Z8.there(x:Z8 P w H h a o):∃r,h.get? a=some r:=by
 cases o with
 | lst q=>obtain⟨_,_,_,_,e⟩:=x;show#[_,e]
 | tup q=>obtain⟨_,_,_,_,e,_⟩:=x;show#[_,e]
 | dK s=>obtain⟨_,_,_,_,o,_,_,e,_⟩:=x;show#[_,e]
 | dT s=>obtain⟨_,_,_,_,o,_,_,e,_⟩:=x;show#[_,e]
 | set S n=>obtain⟨o,_,_,_,e,_⟩:=x;show#[_,e]
 | ins C z fs=>obtain⟨_,_,_,e,_⟩:=x;show#[_,e]
 | own y=>obtain⟨_,e⟩:=x;show#[_,e]
 | xd fs=>obtain⟨_,⟨_,_,_,e,_⟩,_⟩:=x;show#[_,e]
 | rng lo z=>obtain⟨_,_,_,e⟩:=x;show#[_,e]
 | frz r u=>obtain⟨e,_⟩:=x;show#[_,e]
 | tbl z =>
  obtain⟨_,e,_⟩:=x;show#[_,e]
 | met f y=>show#[_,show h.get? a=some _ from x]
 | ext z=>obtain⟨_,⟨_,e⟩,_⟩:=x;show#[_,e]
variable {X:Cx}
def Pi(n:oF X.stack=X.mh.heap.objs.size ::oF X.mB)(H:X.env.locals=X.mh.heap.objs.size)(G:X.ex=[])(I:mI X c7 z H' s1)
  (c:qf B X.mB Q cls D N .none h') (up:s1.heap.UpToSlots h') (M:∀b o,s1.heap.get? b=some o->((∃o',X.mh.heap.get? b=some o')\/H' b≠none)->b∉oF X.stack->B.get? b=some o)
  (C:E cls N H'):ol X.prog X.w X.mB X.mj X.mh E (.ref Q) {s1 with heap:=h'}:=by
 have stay:∀b o,s1.heap.get? b=some o->((∃o',X.mh.heap.get? b=some o')\/H' b≠none)->b∉oF X.stack->h'.get? b=some o:=λb o x w q=>c.1 b o<|M b o x w q
 have r:∀b,((∃o',X.mh.heap.get? b=some o')\/H' b≠none)->b∉oF X.mB->b∉oF X.stack:=λb x w q=>by
  rw[n]at q;rcases nU.mp q with e|e
  ·rcases x with⟨o',x⟩|x
   ·rw[e]at x;show absurd (nO x)<|qL _
   ·rw[e,<-H]at x;show x I.free
  ·show w e
 have vp:∀b,H' b≠none->b∉oF X.mB:=λb x w=>x (I.stkFree b (by rw[n];show pG _ w))
 have g:∀b,b∈oF X.mB->∃o,s1.heap.get? b=some o/\∀A,o.data≠.fields A:=λb i=>(I.stack.mem (by change b∈oF X.stack;rw[n];show pG _ i)).2
 have s:Un (oF X.mB) [] X.mj H' X.mh.heap s1.heap:=by have:=I.mD;rw[G]at this;show this
 refine#[Q,cls,N,H',rfl,I.os,I.bare,#[λb o x w q l=>?_,λb o x w q l=>?_,s.free,λb o x l=>?_,s.tups,s.frzs,s.tbls],λa o L=>?_,#[D,B,c,λb o x w q=>?_],C]
 ·show stay b o (s.keep b o x w q l) (.inl #[_,x])<|r b (.inl #[_,x]) q
 ·obtain⟨y,j⟩:=s.slot b o x w q l;obtain⟨p,d,h⟩:=g b q;rw[j]at d;cases d;obtain⟨J,Y⟩:=up b _ j h;show#[J,Y]
 ·obtain⟨p,j⟩:=s.there b o x l
  by_cases i:b∈oF X.mB
  ·obtain⟨y,d,h⟩:=g b i;obtain⟨J,Y⟩:=up b _ d h;show#[_,Y]
  ·show#[p,stay b p j (.inl #[_,x])<|r b (.inl #[_,x]) i]
 ·refine(I.hok a o L).stay (λb u i x=>?_) (λ_ y=>y) (λ_ _ y=>y);have U:H' b≠none:=by
   rcases i with e|e
   ·rw[e,L];show zI _
   ·rw[e];show zI _
  show stay b u x (.inr U)<|r b (.inr U)<|vp b U
 ·obtain⟨p,l⟩:∃p,s1.heap.get? b=some p:=by
   rcases w with⟨o',w⟩|w
   ·show s.there b o' w (by simp)
   ·cases y:H' b with
    | none=>show absurd y w
    | some u=>show(I.hok b u y).there
  have j:=M b p l w<|r b w q;have h:h'.get? b=some o:=x;rw[c.1 b p j]at h;cases h;show j
section
variable {P:md} {w:lZ} {K:lW} {mg:lR->lV lT} {mD:lY} {N:lQ lR} {qual:lR} {scope:Scope} {f:lS} {cd:lT} {A:me} {mB:lQ Env} {mh:lU} {mj:Hp} {E:XK}
def Gp(I:mI (oS y P w K mg mD N qual scope f cd A mB mh mj E) p z H' s1)
  (x:qf B mB u cls n s .none h') (up:s1.heap.UpToSlots h') (r:∀b o,s1.heap.get? b=some o->((∃o',mh.heap.get? b=some o')\/H' b≠none)->b∉oF (envOfC qual scope #v[mh] f cd ::mB)->B.get? b=some o)
  (q:E cls s H'):ol P w mB mj mh E (.ref u) {s1 with heap:=h'}:=Pi (X:=oS y P w K mg mD N qual scope f cd A mB mh mj E) rfl rfl rfl I x up r q
def wS:sM (ol P w) (oS (ol P w) P w K mg mD N qual scope f cd A mB mh mj E) E:=by
 intro Y z H s e p I h;obtain⟨n,cls,o,g,rfl,os,x,un,u,⟨d,B,l,j⟩,i⟩:=h;have q:=I.call' os un u x (λb y=>absurd y<|by simp);change wpAny _ _ (leaving _<|.ref n) _ _ p;refine KJ q.ok.frames rfl l λU r up=>?_
 show Gp q r up (λb o g d c=>j b o g (d.imp_left λ⟨a,y⟩=>I.mD.there b a y<|by change b∉([]:lQ lS);simp) c) i
def ZC(C:lS)(E:XK)(t:TA):TS:=λ_ z H=>t z H λy x=>y.length<=sizeLine/\E (.ref C) none x
def Ww{x:lR}{C:lS}{bm:lQ lT}{Y newId U:String}{Q p pos:Pos}{r:ma}{Zs:lQ ma}{t:TA}(M:Bw K mg x C bm newId)(FB:ExcBaseFacts Y newId U bm)
  (L:Gl (oS (ol P w) P w K mg mD N qual scope f cd A mB mh mj E) x) (J:PA (oS (ol P w) P w K mg mD N qual scope f cd A mB mh mj E) (r ::Zs) t)
  (he:starEach (r ::Zs) (envOfC qual scope #v[mh] f cd)=(false,eval r<|envOfC qual scope #v[mh] f cd) ::starEach Zs (envOfC qual scope #v[mh] f cd):=by rfl)
  (G:(backTo p<|starEach Zs<|envOfC qual scope #v[mh] f cd).any (·.1)=false:=by rfl) (hd:(x ==("__debug__":lR))=false:=by lk) :
  PS (oS (ol P w) P w K mg mD N qual scope f cd A mB mh mj E) (.Raise (some<|.Call (.Name x Q) (r ::Zs) [] p) none pos) (ZC C E t):=by
 intro B s z H D I h;have O:OwnCls x C bm newId mg mD:=M mD I.ok.mod.kin;obtain⟨tl,N',nm,q,bs,n,sn,sub,ab,col,dd,k0,k1,k2,k3,k5,mN,hC,hN,i,T⟩:=O.obj;refine wpAny_Raise_call_subT (C:=C) (nm:=nm) (q:=q) (N:=N') (bs:=bs) (bm:=tl) (hdct:=n) (sn:=sn) (sub:=sub) (ab:=ab) (col:=col) (dd:=dd) (k0:=k0) (k1:=k1) (k2:=k2) (k3:=k3) (k5:=k5)
  FB (mN:=mN) (T.hasType FB.hasBase) (I.ok.hd rfl) (by change(backTo p<|starEach (r ::Zs)<|envOfC qual scope #v[mh] f cd).any (·.1)=false;rw[he];change(false || (backTo p<|starEach Zs<|envOfC qual scope #v[mh] f cd).any (·.1))=false;rw[G];rfl) i (xj I L O.bound #[rfl,?_] hd)
 have a:=J p B s z H _ I h;have g:starEach (r ::Zs) (oS (ol P w) P w K mg mD N qual scope f cd A mB mh mj E).env=(false,eval r<|envOfC qual scope #v[mh] f cd) ::starEach Zs (envOfC qual scope #v[mh] f cd):=he;rw[g]at a ⊢;refine zr<|mZ a λy d h9=>?_;obtain⟨y,H2,j,r2,hl,hE⟩:=h9;have u:∀b o,mD.get? b=some o->d.heap.get? b=some o:=λb o e=>(j.bs b o e).1
 refine#[rfl,by rw[<-r2.length];show hl,u _ _ hC,hN.keeps u,T.keeps u,λy e l=>?_];change wpAny _ _ (leaving _<|.ref e) _ _ _;obtain⟨t,c,_,_⟩:=l.there;have V0:∀env∈(envOfC qual scope #v[mh] f cd ::mB),∀b,env.frame=some b->b∈oF (envOfC qual scope #v[mh] f cd ::mB):=λenv he b hb=>BG.mpr #[env,he,hb]
 refine Ou (mD:=PySem.W.hideAll d.heap<|oF<|envOfC qual scope #v[mh] f cd ::mB) j.ok.frames ((Qy j.stack V0).of_keeps λb o q _=>#[o,l.keeps b o q,rfl]) rfl c (λb o q=>l.keeps b o<|Cf _ q) ?_ rfl rfl #[rfl,rfl] λh'' fl up=>?_
 ·cases q:(PySem.W.hideAll d.heap<|oF<|envOfC qual scope #v[mh] f cd ::mB).get? e with
  | none=>rfl
  | some o=>show absurd (Cf _ q) (by rw[l.new];show λy=>nomatch y)
 ·have R:=Gp j fl ((Heap.UpToSlots.of_keeps l.keeps).trans up) (λb o y _ h3=>Fy _ y h3) hE;show R
end
def Tb{P:md}{w:lZ}{fs:lQ lS}{H H':Hp}{g h h' B:lY}(un:Un fs [] H H' g h)(l:oq P w H' h)(fr:∀b∈fs,H' b=none/\∃o,h.get? b=some o/\∀vs,o.data≠.fields vs)(st:B.StaysIn h')(up:h.UpToSlots h')
  (Q:∀b o,h.get? b=some o->((∃o',g.get? b=some o')\/H' b≠none)->b∉fs->B.get? b=some o):Un fs [] H H' g h'/\oq P w H' h':=by
 have stay:∀b o,h.get? b=some o->((∃o',g.get? b=some o')\/H' b≠none)->b∉fs->h'.get? b=some o:=λb o y s x=>st b o<|Q b o y s x
 refine#[#[λb o y s x r=>stay b o (un.keep b o y s x r) (.inl #[_,y]) x,λb o y s x r=>?_,un.free,λb o y r=>?_,un.tups,un.frzs,un.tbls],λa o c=>?_]
 ·obtain⟨z,q⟩:=un.slot b o y s x r;obtain⟨_,j,p,i⟩:=fr b x;rw[q]at p;cases p;obtain⟨Y,d⟩:=up b _ q i;show#[Y,d]
 ·obtain⟨j,q⟩:=un.there b o y r
  by_cases n:b∈fs
  ·obtain⟨_,z,p,i⟩:=fr b n;obtain⟨Y,d⟩:=up b _ p i;show#[_,d]
  ·show#[j,stay b j q (.inl #[_,y]) n]
 ·refine(l a o c).stay (λb u n y=>?_) (λ_ z=>z) (λ_ _ z=>z);have U:H' b≠none:=by
   rcases n with e|e
   ·rw[e,c];show zI _
   ·rw[e];show zI _
  show stay b u y (.inr U) λz=>U (fr b z).1
abbrev Cx.tried(X:Cx)(pn:lQ (lS×Obj))(E:lT->lU->Prop):Cx:={X with pn:=pn,xe:=E}
abbrev Cx.caught(X:Cx)(ea:lS):Cx:={X with A:=X.A.mark<|some<|.ref ea,calm:=false,xe:=λ_ _=>False}
section
variable {E:lT->lU->Prop}
def mI.tryIn(I:mI X y z H s)(E:lT->lU->Prop):mI (X.tried (X.pn++y) E) [] z H s :=
 #[#[I.ok.mod,I.ok.kind,I.ok.glob,I.ok.blt,I.ok.above,I.ok.inj,I.ok.has,I.ok.cab,I.ok.hd,I.ok.frames,I.ok.stk,I.ok.exf,I.ok.bs,I.ok.bsz,I.ok.noex,I.ok.exfs,I.ok.funs,I.ok.frf],I.os,I.bare,I.mD,I.loc,I.cell,I.free,I.freeC,λp x=>I.pin p (by simpa using x),I.hok,I.len]
def mI.tryOut(I:mI (X.tried (X.pn++y) E) w z H s):mI X y z H s :=
 #[#[I.ok.mod,I.ok.kind,I.ok.glob,I.ok.blt,I.ok.above,I.ok.inj,I.ok.has,I.ok.cab,I.ok.hd,I.ok.frames,I.ok.stk,I.ok.exf,I.ok.bs,I.ok.bsz,I.ok.noex,I.ok.exfs,I.ok.funs,I.ok.frf],I.os,I.bare,I.mD,I.loc,I.cell,I.free,I.freeC,λp x=>I.pin p<|xc _ x,I.hok,I.len]
def mI.catch(I:mI X x z H s)(w:lS):mI (X.caught w) x z H s :=
 #[#[I.ok.mod,I.ok.kind,I.ok.glob,I.ok.blt,I.ok.above,I.ok.inj,I.ok.has,I.ok.cab,λy=>absurd y oU,I.ok.frames,I.ok.stk,I.ok.exf,I.ok.bs,I.ok.bsz,I.ok.noex,I.ok.exfs,I.ok.funs,I.ok.frf],I.os,I.bare,I.mD,I.loc,I.cell,I.free,I.freeC,I.pin,I.hok,I.len]
def mI.uncatch(y:X.A.handled=none)(I:mI (X.caught w) x z H s):mI X x z H s :=
 #[#[I.ok.mod,I.ok.kind,I.ok.glob,I.ok.blt,I.ok.above,I.ok.inj,I.ok.has,I.ok.cab,λ_=>y,I.ok.frames,I.ok.stk,I.ok.exf,I.ok.bs,I.ok.bsz,I.ok.noex,I.ok.exfs,I.ok.funs,I.ok.frf],I.os,I.bare,I.mD,I.loc,I.cell,I.free,I.freeC,I.pin,I.hok,I.len]
end
section
variable {P:md} {w:lZ} {K:lW} {mg:lR->lV lT} {mD:lY}
def qT.okX{x qual:lR}{st:lX}{f:lS}{fd:mf}{N ps:lQ lR}{k:Nat}{y:Sp}(F:qT K x qual st f fd)(S:Zw N ps (Zj st))
  (r:∀(z:lT)(A:me)(u:lQ Env)(s:lU)(H:Hp)(vs:lQ V)(Q:VK)(E:XK),Y4 k (A.deeper<|envOfC qual (Zj st) #v[s] f z)->y vs H Q E->
   let X:=(oS (ol P w) P w K mg mD N qual (Zj st) f z A u s H E);let D:pT:={nx:=λ_ H'=>Q .non H',rt:=Q};WSs X (Y7 st) D (start N vs) H) (len:∀vs H Q E,y vs H Q E->vs.length=ps.length:=by bv_omega):Xs P w K mg mD (ol P w) (k+1) f fd ps y:=by
 obtain⟨n,l,kV,j,i,g,z,e,d,rfl,lk,q⟩:=F.ex;show Dw lk q S len λA u s H vs Q E p o=>#[_,Zn,r z A u s H vs Q E p o]
end
theorem zH:∀{ss:lQ lR}{us:lQ lT},Z7 (ss.map V.str) us->StrsAre us ss
 | [],_,r=>by rw[uP]at r;cases r;show .nil
 | x ::ss,_,r=>by
  rw[nV]at r;cases r with
  | cons r t =>
   obtain⟨z,rfl⟩:=r;show .cons _ _<|zH t
theorem Hd:∀{ss:lQ lR}{us:lQ lT},StrsAre us ss->Z7 (ss.map V.str) us
 | [],_,r=>by cases r;show .nil
 | x ::ss,_,r=>by
  cases r with
  | cons _ _ t=>show .cons #[_,rfl]<|Hd t
def CM(K:lW):lQ V->Hp->VK->Prop:=λx H Q=>∃(p:lS)(z:lQ lR),x=[.ref p]/\SqL K H p (z.map V.str)/\z.length<64/\∀y:lQ lR,y.Perm z->sortedS y=true->pD H (.lst<|y.map V.str) Q
def Es:Xe X (.builtin "sorted") (CM X.K):=by
 intro U s z H N M Q I r h;obtain⟨p,l,rfl,j,u,q⟩:=h;obtain⟨u,rfl,i⟩:=W5 r;cases i;obtain⟨y,x,g,u⟩:=I.list j;have L:y.length=l.length:=by have:=x.length;rw[mK]at this;show this.symm
 refine sorted_strs g.isList (zH x) (by lia) λout w d n c=>?_
 obtain⟨e,he⟩:=sortedAll_at s.heap y out;have J:=n.length_eq;have Y:H (#v[s]+1)=none:=I.hok.fresh<|rV _;show#[.ref<|#v[s]+1,_,I.laid (a:=#v[s]+1) (o:=.lst<|w.map V.str) (t':=s.toks) (λb o h=>sortedAll_old h) (rV _) (show Z8 X.prog X.w _ _ _ (.lst _)from#[by rw[mK];show sz (by lia),out.toList,e,Hd d,by rw[he]]),rfl,(q w n c).at _ Y]
def mI.laidAt(I:mI X r z H s)(k:∀b u,s.heap.get? b=some u->h'.get? b=some u)(w:s.heap.get? a=none)(new:Z8 X.prog X.w (mJ H a o) h' a o) :
  H a=none/\mI X r z (mJ H a o) {s with heap:=h',toks:=t'}:=by
 have x:H a=none:=by
  cases e:H a with
  | none=>rfl
  | some u =>
   obtain⟨q,y⟩:=(I.hok a u e).there;rw[w]at y;cases y
 have p:∀b u,s.heap.get? b=some u->b≠a:=λb u e y=>by rw[y,w]at e;cases e
 refine#[x,I.call' (s':={s with heap:=h',toks:=t'}) rfl #[λb u e _ _ _=>k b u e,λb u e _ _ _=>#[u.slots,k b u e],λb u e n _=>by rw[Zd (p b u e)];show n,λb u e _=>#[u,k b u e],λb l e=>?_,λb q u e=>?_,λb j e=>#[#[],?_]] (λb u e=>?_) I.bare λb y=>absurd y Be]
 ·rw[Zd (Ze e x)];show e
 ·rw[Zd (Ze e x)];show e
 ·rw[Zd (Ze e x)];simpa using e
 ·by_cases y:b=a
  ·rw[y,Zc]at e;cases e;rw[y];show new
  ·rw[Zd y]at e;show(I.hok b u e).stay (λc v _ h=>k c v h) (λc h=>by rw[Zd (Ze h x)];show h) (λc q h=>by rw[Zd (Ze h x)];show h)
def Bq:lQ V->Hp->VK->Prop:=λw H Q=>∃(p:lS)(z:lQ (ng×V)) (y:lQ lR),w=[.ref p]/\Rd H p (.dK z)/\z.map (λu=>kV u.1)=y.map V.str/\y.length<64/\∀x:lQ lR,x.Perm y->sortedS x=true->pD H (.lst<|x.map V.str) Q
def Gv(E:X.calm=true):Xe X (.builtin "sorted") Bq:=by
 intro c7 s z H xs us Q I r h;obtain⟨p,c,D,rfl,hd,C,u,q⟩:=h;obtain⟨u,rfl,B⟩:=W5 r;cases B;obtain⟨u,lo,va,d,da⟩:=qK I.hok hd;obtain⟨ep,D3⟩:=da.dictAt;have hlv:=KV.length d;refine Gx kind_sorted plain_sorted entry_sorted (args_sorted1 _) ?_;unfold Builtin.«sorted»;refine mS (m:=checkCount "sorted" 1 1 _)<|nG ?_;refine mS<|PySem.W.kdu_collect (A:=X.A.in1) (PySem.W.kdl_dict (knd:=Z1 X.prog X.w) (kvs:=va) (ep:=ep) lo) (I.ok.hd E) D3 (by lia) λx tk i g M=>?_;have Y:Z7 (c.map λd=>kV d.1) i.toList:=JG (P:=X.prog) (w:=X.w) d (by rw[tV];show M.1) λj v e=>M.2 j v (by rw[<-wq];show e)
 rw[C]at Y;have U:=zH Y;have j7:i.toList.length=D.length:=by have:=Y.length;rw[mK]at this;show this.symm
 refine mS (wpAny_newList ?_ (by rw[j7];show sz<|by lia));have n:(x.push<|seqObj "list" i.toList.toArray 0).get? x.objs.size=some (seqObj "list" i.toList.toArray 0):=oQ _ rfl;refine mS<|qW<|DL slot_list_sort #[_,n,rfl] entry_list_sort (list_sort_treeK strKind_oneLt n U.keysOf (λu p Zs e=>keyKind_strs (by rw[<-e];show U)) (by lia) λN a1 a2=>#[_,rfl,?_])<|args_list_sort _;obtain⟨L,b1,G,b3⟩:=sorted_out_str U a1 a2;obtain⟨e,he⟩:=sortedHeap_at (out:=(arrOf N).map (·.2)) n;have hp:=G.length_eq;have l:s.heap.get? x.objs.size=none:=by
  cases y:s.heap.get? x.objs.size with
  | none=>rfl
  | some o=>show absurd (nO<|g _ _ y)<|qL _
 obtain⟨hn,J⟩:=I.laidAt (h':=sortedHeap (x.push<|seqObj "list" i.toList.toArray 0) x.objs.size i.toList<|(arrOf N).map (·.2)) (t':=tk) (a:=x.objs.size) (o:=.lst<|L.map V.str) (λb o p=>by
  have u:=g b o p;rw[sortedHeap_old (oi<|nO u) (pK (nO u) (by rw[vD];show rV _))];show nQ _ u) l (show Z8 X.prog X.w _ _ _ (.lst _)from#[by rw[mK];show sz (by lia),((arrOf N).map (·.2)).toList,e,Hd b1,by rw[he]])
 show nG #[_,rfl,.ref x.objs.size,_,J,rfl,(q L G b3).at _ hn]
def YV(u:TE):TE:=λz H Q=>u z H λx w=>∃d y,x=.ref d/\Rd w d (.dK y)/\pD w (.lst<|y.map λs=>s.2) Q
def VP{kvs:lQ (ng×V)}{z:lQ (ng×lT)}(h:KV kvs z):Z7 (kvs.map λkv=>kv.2) (z.map λkv=>kv.2):=by
 induction h with
 | nil=>show .nil
 | cons r t y=>show .cons r.2 y
def XS(M:X.calm=true)(p:Gl X "list")(n:X.mg "list"=none)(L:PE X o to)(J:attributeBase o "values" X.env (eval o X.env)=eval o X.env:=by rfl)(G:(E.endLine ==D.line)=true:=by rfl) :
  PE X (.Call (.Name "list" p') [.Call (.Attribute o "values" E) [] [] D] [] C7) (YV to):=by
 intro Y s z H Q I h;refine vB<|xy I p n Ak ?_;refine Ar ?_ rfl rfl;refine yK ?_;refine Hx J G<|mZ (L Y s z H _ I h) λv s1 ⟨y,C,U,B,A⟩=>?_;obtain⟨d,l,rfl,hd,q⟩:=A;cases B;obtain⟨hz,hs,i,w,x⟩:=qK U.hok hd;obtain⟨ob,_,_,g,U9,_⟩:=id x;obtain⟨ep,hD⟩:=FU x g;refine#["dict","dict.values",AE,Pg,PySem.F.type_dict_values,x.typeIs,λa e=>?_,xx rfl<|Fc ?_]
 ·cases e;show#[ob,g,U9.2.1]
 refine vO Pg x.typeIs PySem.F.entry_dict_values (PySem.F.args_dict_values_1 _) (meets_dict_values (Z1 X.prog X.w) d hs) #[#[i,x],?_];refine AF ?_;have c:mI X Y z C {s1 with heap:=s1.heap.push {cls:=.type "dict_values",data:=.fields (List.toArray [.ref d])}}:=U.kept (t':=s1.toks) λb o e=>nQ _ e
 have hl:=KV.length w;refine PySem.W.kdl_call (PySem.W.kdl_values (knd:=Z1 X.prog X.w) (r:=#v[s1]) (d:=d) (kvs:=i) (ep:=ep)) (c.ok.hd M) #[#[_,oQ _ rfl,rfl,rfl],hD _<|nQ _ g] (by lia) λh' tk u c' hk A0 N=>?_
 have e1:u.toList=i.map (·.2):=PySem.W.kdl_vals_eq u.toList (by rw[tV];show N.1) λj v e=>N.2 j v (by rw[<-wq];show e)
 have hv:Z7 (l.map λw=>w.2) u.toList:=by rw[e1];show VP w
 show#[.ref _,_,c.laid (o:=.lst _) (t':=tk) hk (nk _) (show Z8 X.prog X.w _ h' _ (.lst _)from#[by rw[mK];show hz,u.toList,c',hv,by rw[A0]]),rfl,q.at _<|c.hok.fresh<|nk _]
end L2
end
section
namespace L2
open PySem PySem.Spec PyProof.Rows Builtin Builtin.ObjectAttr
abbrev vV:lQ lT:=[.type "ValueError",.type "Exception",.type "BaseException",.type "object"]
def uQ(C t:lS)(z:lV lS):Obj:={cls:=.ref C,dict:=z,data:=.fields (List.toArray [.ref t,.none,.none,.none,.bool false,.none])}
def pO(e C t:lS)(z:lV lS):HO:=.ext λh=>h.get? e=some (uQ C t z)
def qC(e C:lS)(y:lV lS):HO:=.ext λh=>∃o z,h.get? e=some o/\o.cls=.ref C/\o.dict=y/\o.data=.fields z/\z[2]? =some .none
section
def pO.ok(x:h.get? e=some (uQ C t z)):Z8 P w H h e (pO e C t z):=#[x,#[_,x],λ_ _ p k=>k _ p]
def qC.ok{o:Obj}{vs:Array lT}(x:h.get? e=some o)(a:o.cls=.ref C)(b:o.dict=z)(c:o.data=.fields vs)(d:vs[2]? =some .none):Z8 P w H h e (qC e C z):=#[#[o,vs,x,a,b,c,d],#[_,x],λ_ _ ⟨o,vs,x,r⟩ k=>#[o,vs,k _ x,r]]
def pO.at(k:oq P w H h)(q:H e=some (pO e C t z)):h.get? e=some (uQ C t z):=(k e _ q).1
def qC.at(k:oq P w H h)(q:H e=some (qC e C z)):∃o vs,h.get? e=some o/\o.cls=.ref C/\o.dict=z/\o.data=.fields vs:=let⟨o,vs,a,b,c,d,_⟩:=(k e _ q).1;#[o,vs,a,b,c,d]
end
variable {X:Cx}
def mI.track{a:lS}{o:HO}(I:mI X l z H s)(r:H a=none)(i:X.mh.heap.get? a=none)(h:a≠X.env.locals)(g:∀x c,X.env.cells.lookup x=some c->c≠a)(e:∀p∈X.pn++l,p.1≠a)
  (new:Z8 X.prog X.w (mJ H a o) s.heap a o):mI X l z (mJ H a o) s:=by
 refine#[I.ok,I.os,I.bare,#[I.mD.keep,I.mD.slot,λb u y n d=>?_,I.mD.there,λb j y=>?_,λb Y u y=>?_,λb U y=>?_],I.loc,I.cell,?_,λx c y=>?_,λp y=>?_,λb u y=>?_,I.len]
 ·rw[Zd λw=>by rw[w,i]at y;cases y];show I.mD.free b u y n d
 ·have q:=I.mD.tups b j y;rw[Zd (Ze q r)];show q
 ·have q:=I.mD.frzs b Y u y;rw[Zd (Ze q r)];show q
 ·obtain⟨more,q⟩:=I.mD.tbls b U y;show#[more,by rw[Zd (Ze q r)];show q]
 ·rw[Zd h.symm];show I.free
 ·rw[Zd (g x c y)];show I.freeC x c y
 ·obtain⟨Q,N,M⟩:=I.pin p y;show#[Q,by rw[Zd (e p y)];show N,M]
 ·by_cases w:b=a
  ·subst w;rw[Zc]at y;cases y;show new
  ·rw[Zd w]at y;show(I.hok b u y).stay (λ_ _ _ q=>q) (λc q=>by rw[Zd (Ze q r)];show q) λc j q=>by rw[Zd (Ze q r)];show q
def yY(H:Hp)(a:lS):Hp:=λb=>if b=a then none else H b
def Dc{a b:lS}(h:b≠a):yY H a b=H b:=mT h
def Fa{a:lS}:yY H a a=none:=mU rfl
def mI.drop{a:lS}{z:lY->Prop}(I:mI X j y H s)(i:H a=some (.ext z)):mI X j y (yY H a) s:=by
 have off:∀{b:lS}{u:HO},H b=some u->u≠.ext z->yY H a b=some u:=λ{b u} q n=>by
  rw[Dc λx=>by rw[x,i]at q;show n (oK q).symm];show q
 have non:∀{b:lS},H b=none->yY H a b=none:=λ{b} q=>by
  by_cases x:b=a
  ·rw[x];show Fa
  ·rw[Dc x];show q
 refine#[I.ok,I.os,I.bare,#[I.mD.keep,I.mD.slot,λb u w n o=>non<|I.mD.free b u w n o,I.mD.there,λb l w=>off (I.mD.tups b l w) (λx=>nomatch x),λb h u w=>off (I.mD.frzs b h u w) (λx=>nomatch x),λb g w=>?_],I.loc,I.cell,non I.free,λr c w=>non<|I.freeC r c w,λp w=>?_,λb u w=>?_,I.len]
 ·obtain⟨more,q⟩:=I.mD.tbls b g w;show#[more,off q λx=>nomatch x]
 ·obtain⟨r,o,h⟩:=I.pin p w;show#[r,non o,h]
 ·have x:b≠a:=λx=>by rw[x,Fa]at w;cases w
  rw[Dc x]at w;show(I.hok b u w).stay (λ_ _ _ q=>q) (λc q=>off q λx=>nomatch x) (λc l q=>off q λx=>nomatch x) (λc o q=>off q λx=>nomatch x) (λc o q=>off q λx=>nomatch x)
def mI.forget{h':lY}{g:lR->lV lT}{t':Nat}(I:mI X e z H s)(d:h'.Ns X.env.locals g)(l:Heap.SameBut X.env.locals s.heap h'):mI X e (List.replicate X.N.length none) H {s with heap:=h',toks:=t'}:=by
 have r:∀b o,X.mh.heap.get? b=some o->b≠X.env.locals:=λb o q=>oi<|pK (nO q) I.ok.above
 refine#[I.ok,I.os,I.bare,#[λb o y n h j=>?_,λb o y n h j=>?_,I.mD.free,λb o y j=>?_,I.mD.tups,I.mD.frzs,I.mD.tbls],#[g,d,λi x v _ y _=>?_],λx c y=>?_,I.free,I.freeC,λp y=>?_,λb u y=>?_,by simp]
 ·rw[l.2 b (r b o y)];show I.mD.keep b o y n h j
 ·obtain⟨w,q⟩:=I.mD.slot b o y n h j;show#[w,by rw[l.2 b (r b o y)];show q]
 ·obtain⟨w,q⟩:=I.mD.there b o y j;show#[w,by rw[l.2 b (r b o y)];show q]
 ·rw[FJ]at y;split at y<;>cases y
 ·obtain⟨v,q⟩:=I.cell x c y;show#[v,q.sameBut l<|I.cne x c y]
 ·obtain⟨i,a,w,Y⟩:=I.pin p y;show#[by rw[l.2 p.1 w];show i,a,w,Y]
 ·refine(I.hok b u y).stay (λc v w q=>?_) (λ_ q=>q) λ_ _ q=>q
  rw[l.2 c ?_]
  ·show q
  rintro rfl;have fr:H X.env.locals=none:=I.free;rcases w with rfl|w
  ·rw[fr]at y;cases y
  ·rw[fr]at w;cases w
def wn(K:lW)(C Y:lS):Prop:=∃nm q N bs z sub y col x w u s r p,K.lookup C=some (excClassObj nm q C N bs (.ref Y ::vV) true z sub y col x w u s r p "ValueError.__new__")
def wn.cls{K:lW}{C Y:lS}(c:wn K C Y):∃z,PySem.W.clsIn K C=some z/\z.mro=.ref C ::.ref Y ::vV/\z.hasDict=true:=by
 obtain⟨nm,q,N,bs,y,sub,x,col,w,u,s,r,p,o,h⟩:=c;refine#[{name:=nm,bases:=bs,mro:=.ref C ::.ref Y ::vV,ns:=N,qualname:=q,hasDict:=true,slotNames:=y,subclasses:=sub,abstract:=x,collection:=col,hasDel:=false},?_,rfl,rfl];unfold PySem.W.clsIn;rw[h]
def wn.hd{K:lW}{C Y:lS}(c:wn K C Y):PySem.W.hasDictIn K C=true:=by
 obtain⟨z,h,_,hd⟩:=c.cls;unfold PySem.W.hasDictIn;rw[h];show hd
section
variable {E:lT->lU->Prop}
def Ycw{y:V}{u:lT}{Q:Unit->lU->Prop}(I:mI X c7 z H s)(q:H e=some (pO e C t none))(c:wn X.K C Y)(sa:findIn X.K (.ref C) "__setattr__"=some (some<|.builtin "object.__setattr__"))(na:findIn X.K (.ref C) f=some none)(ry:Yd y u)
  (h:∀i s',H i=none->i≠e->mI X c7 z (mJ (mJ H e<|pO e C t<|some i) i<|.xd [(f,y)]) s'->Q () s'):wpAny (model X.prog X.w) A (setAttr (.ref e) f u) Q E s:=by
 obtain⟨cd,a,r,n⟩:=c.cls;have he:=pO.at I.hok q;have J:PySem.W.InstAt s.heap e (uQ C t none) C none:=#[he,rfl,rfl,trivial]
 have SF:=PySem.F.store_object;have U:PySem.W.Looks (model X.prog X.w) s.heap (typeOf<|.ref e) (.ref C):=J.type;have lm:PySem.W.Looks (model X.prog X.w) s.heap (mroOf<|.ref C) cd.mro:=(GZ I.kIn a).andThen .now;have sub:PySem.W.Looks (model X.prog X.w) s.heap (isInstance (.ref e)<|.type "object") true:=U.andThen (KM I.kIn<|by unfold PySem.W.mroIn;rw[a,Option.bind_some,r];rfl);refine PySem.W.set_plain I.kIn J sa ?_;refine BB SF.slot.plain SF.entry<|@OA (model X.prog X.w) _ _ {s with toks:=s.toks+1} "object.__setattr__" "object" "__setattr__" (.ref e) [.str f s.toks,u] [] _ SF.kind SF.split sub (SF.args (.ref e) (.str f s.toks) u) ?_;rw[PySem.W.osa_eq,refuse_eq];refine mS<|mS<|U.here (s:={s with toks:=s.toks+1})<|mS<|lm.here (s:={s with toks:=s.toks+1}) ?_;rw[r,refuseLoop_ref,refuseLoop_ref,PySem.F.store_ValueError.passes];refine nG<|mS<|U.here (s:={s with toks:=s.toks+1})<|mS<|(Ap I.kIn na).here (s:={s with toks:=s.toks+1}) (mS<|nG ?_);have d:e≠#v[s]:=oi<|nO he;have D:(s.heap.push PySem.W.emptyDict).get? e=some (uQ C t none):=nQ _ he;have h2:((s.heap.push PySem.W.emptyDict).update e λo=>{o with dict:=some #v[s]}).get? e=some (uQ C t<|some #v[s]):=Cs _ D rfl;have d2:((s.heap.push PySem.W.emptyDict).update e λo=>{o with dict:=some #v[s]}).get? #v[s]=some PySem.W.emptyDict:=by
  rw[tT _ _ d];show oQ s.heap rfl
 have n2:((s.heap.push PySem.W.emptyDict).update e λo=>{o with dict:=some #v[s]}).Ns #v[s] (λ_=>none):=#[_,#[],_,d2,rfl,λx g=>absurd g (by simp),λ_=>rfl]
 change wpAny _ _ (storeInOwnDict (.ref e) (.ref C) (.str f s.toks) f u _) _ _ _;unfold storeInOwnDict;refine mS<|nG ?_;rw[mT (by simp)];refine mS ?_;change wpAny _ _ (instanceDict e true) _ _ _;unfold instanceDict;refine mS<|Iw he ?_;dsimp only[uQ];refine mS<|(GZ I.kIn a).here (s:={s with toks:=s.toks+1}) ?_;rw[n,mT (by simp),mT<|by simp[typeHasDict]];refine mS<|wpAny_alloc'<|mS<|wpAny_update' D ?_;refine nG ?_;change wpAny _ _ (storeInDict #v[s] (.str f s.toks) f u) _ _ _;unfold storeInDict newKeyGuard;refine mS<|nG<|mS<|wpAny_nsSet1 (Heap.Ns1.of_empty n2) λN l j=>?_;obtain⟨oD,g,epD,M,L,G⟩:=l.count<|PySem.Within.cons f u PySem.Within.nil;refine mS<|wpAny_lookBehind M (by rw[L];show pastItsLine_dict<|ow G<|by rw[pE,Fi,tJ];lia) ?_;refine nG ?_;have B:N.get? e=some (uQ C t<|some #v[s]):=by rw[j.2 e d];show h2
 have k3:∀b o,b≠e->s.heap.get? b=some o->N.get? b=some o:=λb o nb x=>by
  rw[j.2 b (oi<|nO x)];change((s.heap.push PySem.W.emptyDict).update e λo=>{o with dict:=some #v[s]}).get? b=_;rw[tT _ _ nb.symm];show nQ _ x
 have A3:H #v[s]=none:=I.fresh;refine h #v[s] _ A3 d.symm ?_;have I3:=I.write (x:=e) (e:=e) (o:=pO e C t<|some #v[s]) (h':=N) (t':=s.toks+1+1) (by rw[q];show ri) (.inl rfl) k3 #[_,B]<|pO.ok B;refine I3.track ?_ ?_ ?_ (λw c' x=>?_) (λp x=>?_) ?_
 ·rw[Zd d.symm];show A3
 ·show Bm I.sz
 ·show xJ I.lt
 ·obtain⟨v,o,g,_⟩:=I.cell w c' x;show oi<|nO g
 ·show oi<|nO (I.pin p x).1
 ·refine#[_,l,λg=>?_]
  by_cases x:g=f
  ·subst x;simp only[List.lookup,we,ud];show ry
  ·have zb:(g ==f)=false:=qt.mpr x;simp only[List.lookup,zb,mT x];show ri
def Yhq(K:lW)(s r:TE)(f:lR):TS:=λD z H=>r z H λy q=>s z q λx u=>∃e C Y t,x=.ref e/\u e=some (pO e C t none)/\wn K C Y/\findIn K (.ref C) "__setattr__"=some (some<|.builtin "object.__setattr__")/\findIn K (.ref C) f=some none/\
 ∀w,u w=none->w≠e->D.nx z (mJ (mJ u e<|pO e C t<|some w) w<|.xd [(f,y)])
def Gc{o value:ma}{pos w:Pos}{r p:TE}(l:PE X o r)(j:PE X value p)(i:swapsWith value (some<|.Attribute o f w) pos.line X.env=pure false):PS X (.Assign [.Attribute o f w] value pos) (Yhq X.K r p f):=by
 intro n s z H D I h;refine Ry (mZ (j n s z H _ I h) λu x ⟨y,g,d,a,q⟩=>mZ (l n x z g _ d q) λU Y Q=>?_) i;obtain⟨x,y,N,M,e,C,Y,t,L,he,c,J,G,B⟩:=Q;subst L;obtain rfl:U=Value.ref e:=M;show Ycw N he c J G a λA s3 hn w9 I3=>#[z,_,I3,B A hn w9]
structure XA(K:Frag)(C:Addr):Prop where
 ga:findIn K (.ref C) "__getattribute__"=some (some<|.builtin "BaseException.__getattribute__")
 gt:findIn K (.ref C) "__getattr__"=some none
 be:PySem.W.mroIn K C (.type "BaseException")=some true
end
section
variable {prog:md} {w:lZ} {A:me} {E:lT->lU->Prop} {s:lU} {K:lW} {x C:lS} {ox:Obj} {od:lV Obj} {name:lR} {tk:Tok}
def Zx7:builtinKind "BaseException.__getattribute__"=some .slot:=by left
def WZ:splitId "BaseException.__getattribute__"=some ("BaseException","__getattribute__"):=by left
def Jy{v:lT}{R:Result->lU->Prop}(X:K.In s.heap)(I:PySem.W.InstAt s.heap x ox C od)(u:XA K C){fd:Found}(r:PySem.W.findObj K C od name=some fd)
  (h:match fd with|.value v=>R (.ok<|.ret v) s|.bind g a=>wpAny (model prog w) A.in1 (call g [a,.ref x,.ref C]) (λv s'=>R (.ok<|.ret v) s') (λe s'=>R (.error e) s') s|.missing=>False) :
  codeAny (model prog w) A (.call (.builtin "BaseException.__getattribute__") #[[.ref x,.str name tk],[]]) R s:=by
 have y:=I.type (M:=model prog w);have sub:PySem.W.Looks (model prog w) s.heap (isInstance (.ref x)<|.type "BaseException") true:=y.andThen<|KM X u.be;have fn:=PySem.W.looks_find (M:=model prog w) X I r;refine BB IS.ga.plain PySem.F.entry_bexc_ga<|@OA (model prog w) _ _ s "BaseException.__getattribute__" "BaseException" "__getattribute__" (.ref x) [.str name tk] [] _ Zx7 WZ sub (PySem.F.args_bexc_ga _ _) ?_;refine mS<|nG<|mS<|nG<|mS<|y.here<|mS<|fn.here ?_;cases fd with
 | value v=>show nG h
 | bind g a =>
  change wpAny _ _ (holding [a] (call g [a,.ref x,.ref C])>>=ret) _ _ _;show mS (qW<|pX h (λv s' z=>nG z) λ_ _ z=>z)
 | missing=>show h.elim
def No{fill expr:Bool}{Q:lT->lU->Prop}(X:K.In s.heap)(I:PySem.W.InstAt s.heap x ox C od)(y:XA K C)
  (h:codeAny (model prog w) A (.call (.builtin "BaseException.__getattribute__") #[[.ref x,.str name tk],[]]) (λr s'=>match r with|.ok (.ret v)=>wpAny (model prog w) A (handedOut v) Q E s'|_=>False) s) :
  wpAny (model prog w) A (getAttrBy (.ref x) (.str name tk) fill expr) Q E s:=by
 have u:=I.type (M:=model prog w);have q:=Ap (M:=model prog w) X y.ga;have lt:=Ap (M:=model prog w) X y.gt;unfold getAttrBy;refine qW<|mS<|u.here<|mS<|q.here ?_;change wpAny _ _ (getAttrByItsOwn (.ref x) (.str name tk) (.ref C) (.builtin "BaseException.__getattribute__") fill expr) _ _ _;unfold getAttrByItsOwn;refine mS<|lt.here<|mS<|wpAny_attempt<|qW ?_;have he:(expr && onTheHeap (Value.builtin "BaseException.__getattribute__"))=false:=by cases expr<;>rfl
 unfold callGetattribute;rw[he];simp only[uc,rD];unfold boundAndCalled;rw[IS.ga.bind];refine mS<|nG<|ux<|ve h λr s' z=>?_;rcases r with e|(v|_|_|_)<;>first|show z|show z.elim
def Tl{v:lT}{expr:Bool}{Q:lT->lU->Prop}(X:K.In s.heap)(I:PySem.W.InstAt s.heap x ox C od)(z:XA K C)(y:PySem.W.findObj K C od name=some (.value v))(u:PySem.W.handedIn v=true)(h:Q v {s with toks:=s.toks+1}) :
  wpAny (model prog w) A (getAttr (.ref x) name expr) Q E s:=by
 unfold getAttr;refine mS<|wpAny_mkText<|No (s:={s with toks:=s.toks+1}) X I z<|Jy (s:={s with toks:=s.toks+1}) (fd:=.value v) (v:=v) X I z y ?_;change wpAny _ _ (handedOut v) _ _ _;rw[PySem.W.handedOut_of u];show nG h
def IL(l:XA K C)(y:(PySem.W.clsIn K C).isSome=true)(j:findIn K (.ref C) "__class__"=some (some<|.builtin "object.__class__"))(i:PySem.W.specialIn K (.builtin "object.__class__") "__get__"=some (some<|.builtin "getset_descriptor.__get__"))
  (u:PySem.W.takesIn K (.builtin "object.__class__")=some true) (g:PySem.W.mroIn K C (.type "object")=some true):PySem.W.KitX K (.ref x) (.ref C) (λh=>PySem.W.InstAt h x ox C od) where
 ty:=λ_ _ _ I=>I.type
 it:=λ_ _ X _=>by
  unfold PySem.W.clsIn at y;split at y
  ·rename_i d c r a p;intro M L J H k q;unfold isType loadHead;show mS<|Iw (k _ _<|X _ _ p)<|nG q
  ·cases y
 ne:=λh Y G D n B X o=>by
  refine Ce.mpr λq=>?_
  have e:C=Y:=Value.ref.inj<|rK.mp q;subst e;unfold PySem.W.clsIn at y;split at y
  ·rename_i d c r a p;have z:=(X _ _ p).symm.trans o;cases z
  ·cases y
 ca:=λ{prog w A E Q s} X I k=>by
  have U:PySem.W.findObj K C od "__class__"=some (.bind (.builtin "getset_descriptor.__get__")<|.builtin "object.__class__"):=by
   obtain⟨cd,N⟩:=Gj.mp y;unfold PySem.W.findObj;rw[N,Option.bind_some,j];simp[i,u]
  unfold getAttr? getAttrBy?;refine mS<|wpAny_mkText<|mS<|wpAny_attempt<|No (s:={s with toks:=s.toks+1}) X I l<|Jy (s:={s with toks:=s.toks+1}) (v:=.none) X I l U ?_;show ux<|PySem.W.class_get (s:={s with toks:=s.toks+1}) (ox:=ox) (od:=od) X I g<|nG<|nG k
end
def Yiz(K:lW)(u:TE)(f:lR):TE:=λz H Q=>u z H λx y=>∃e C Y w fs v,x=.ref e/\y e=some (qC e C<|some w)/\y w=some (.xd fs)/\wn K C Y/\XA K C/\findIn K (.ref C) f=some none/\fs.lookup f=some v/\Q v y
def Ydk{y:ma}{pos:Pos}{g:TE}(he:PE X y g)(M:attributeBase y f X.env (eval y X.env)=eval y X.env):PE X (.Attribute y f pos) (Yiz X.K g f):=by
 intro L s z H Q I h;refine Nx M<|mZ (he L s z H _ I h) λu d G=>?_;obtain⟨x,a,w,E,e,C,Y,U,fs,v,D,B,hd,c,A,na,l,q⟩:=G;subst D;obtain rfl:u=Value.ref e:=E;obtain⟨o,x,ho,oc,od,p⟩:=qC.at w.hok B;obtain⟨mA,n,r⟩:=(show Z8 X.prog X.w a d.heap U (.xd fs)from w.hok U _ hd)
 obtain⟨j,i,hl⟩:=FK n;obtain⟨x,hu,N⟩:=pR.some_of (v:=v) (o:=mA f) (by rw[<-l];show r f);have J:PySem.W.InstAt d.heap e o C (some j):=#[ho,oc,by unfold PySem.W.notCls;rw[p],by rw[od];show i]
 show Tl w.kIn J A (Nc c.hd na rfl<|by rw[hl,hu]) (PJ N) #[v,a,w.tok _,N,q]
end L2
end
section
namespace L2
open PySem PySem.Spec PyProof.Rows
section
variable {prog:md} {w:lZ} {A:me} {E:lT->lU->Prop} {h:lY} {g:Array GenState} {d:Drawn} {tk:Nat} {os:OsState} {nm qn:lR} {C N:lS} {bs bm bmB:lQ lT} {hdct:Bool} {sn:lQ lR} {sub:lQ lT} {ab:Bool} {col:lV Bool} {dd:lV lS} {k0 k1 k2 k3 k5:lV lT} {B newId M6:String}
 {Zs:lQ lT} {fI:lS} {oI:Obj}
def Zvk{Q:Fin->lU->Prop}(FB:ExcBaseFacts B newId M6 bmB)(T:OwnTail h bmB bm)(s:h.get? C=some (excClassObj nm qn C N bs bm hdct sn sub ab col dd k0 k1 k2 k3 k5 newId))(a:PySem.W.Looks (model prog w) h (typeLookup (.ref C) "__init__") (some<|.ref fI))
  (n:h.get? fI=some oI) (l:oI.cls=.type "function") (u:Zs.length<=sizeLine)
  (Y:∀h' e,Heap.MadeExcOf h h' e (.ref C) Zs->wpAny (model prog w) A (call (.ref fI)<|.ref e ::Zs) (λr s'=>r=.none/\Q (.done<|.ret<|.ref e) s') E #[h',g,d,tk,os]) :
  wpAny (model prog w) A (Builtin.«type.__call__» #[.ref C ::Zs,[]]) Q E #[h,g,d,tk,os]:=by
 repeat (first|with_reducible refine wpAny_madeBy_exc s ?_ |with_reducible refine zT s ?_ |wp_step)
 refine codeAny_call_builtin_code (zP _ FB.quiet)<|wpAny_check_new_subT FB T s<|codeAny_exc_new_subT FB T s ?_ u;change wpAny _ _ _ _ _ _;generalize i:({cls:=.type "tuple",data:=.seq Zs.toArray}:Obj)=p;generalize j:({cls:=.ref C,data:=.fields (List.toArray [.ref h.objs.size,.none,.none,.none,.bool false,.none])}:Obj)=q;have y:∀b o,h.get? b=some o->((h.push p).push q).get? b=some o:=λb o z=>nQ _<|nQ _ z
 have c:((h.push p).push q).get? (h.objs.size+1)=some q:=Heap.get?_push_at (by rw[vD]) (by rw[<-j];rfl);have U:((h.push p).push q).get? h.objs.size=some p:=nQ _ (oQ h<|by rw[<-i];rfl);have M:=y _ _ s;have L:q.cls=.ref C:=by rw[<-j]
 have same:(Value.ref C ::bm).contains (.ref C)=true:=by simp
 unfold isInstance
 repeat (first|(with_reducible refine zT c ?_;rw[L])|(with_reducible refine wpAny_isSubtype_exc M ?_;rw[same])|wp_step)
 change wpAny _ _ (typeLookup (.ref C) _) _ _ _;refine a A _ E _ y<|qW<|mS ?_;unfold bindSpecial;refine mS<|Ba (T :="function") #[_,y _ _ n,l] ?_;rw[mU (by lk)];refine nG<|mS<|pX (Y _ (h.objs.size+1) #[y,Bm<|rV _,h.objs.size,by rw[c,j],Bm<|nk _,by rw[U,i]]) (λr s' J=>?_) λ_ _ x=>x;obtain⟨rfl,I⟩:=J
 wp_walk
 show I
def Zyr{Q:lT->lU->Prop}(FB:ExcBaseFacts B newId M6 bmB)(T:OwnTail h bmB bm)(y:h.get? C=some (excClassObj nm qn C N bs bm hdct sn sub ab col dd k0 k1 k2 k3 k5 newId))(s:PySem.W.Looks (model prog w) h (typeLookup (.ref C) "__init__") (some<|.ref fI))
  (x:h.get? fI=some oI) (u:oI.cls=.type "function") (z:Zs.length<=sizeLine)
  (q:∀h' e,Heap.MadeExcOf h h' e (.ref C) Zs->wpAny (model prog w) (A.under<|.builtin "type.__call__" #[.ref C ::Zs,[]]) (call (.ref fI)<|.ref e ::Zs) (λr s'=>r=.none/\Q (.ref e) s') E #[h',g,d,tk,os]) :
  wpAny (model prog w) A (call (.ref C) Zs) Q E #[h,g,d,tk,os]:=by
 have o:=tc_lookup;have n:=tc_bind<|.ref C;have l:(#[h,g,d,tk,os]:lU).TypeIs (.ref C) "type":=#[_,y,rfl]
 refine ux<|codeAny_of_tree ?_;change wpAny _ _ (callAny (.ref C) _) _ _ _
 repeat (any_goals (first|assumption|with_reducible refine zT y ?_ |wp_step))
 refine#[rfl,codeAny_call_builtin_at (zP _<|by left) entry_typeCall<|wpAny_check_type_call_sub y<|Zvk FB T y s x u z λh' e p=>q h' e p]
end
section
variable {E:lT->lU->Prop}
def ZH{y:ma}{pos:Pos}{Q:Flow->lU->Prop}(q:bm.contains (.type "BaseException")=true)(p:A.handled=none)
  (h:wpAny M A (eval y env) (λv z=>∃e t u,v=.ref e/\z.heap.get? C=some (excClassObj nm qn C N bs bm hdct sn sub ab col dd k0 k1 k2 k3 k5 newId)/\z.heap.get? e=some (uQ C t u)/\E (.ref e) z) E s) :
  wpAny M A (exec (.Raise (some y) none pos) env) Q E s:=by
 have w:(Value.ref C ::bm).contains (.type "BaseException")=true:=by rw[List.contains_cons,q];show Bool.or_true _
 change wpAny M A (do standAt pos;raiseStmt env (some (do let v <-eval y env;standAt pos;pure v)) none) Q E s;refine mS<|zX ?_;unfold raiseStmt;dsimp only;refine mS<|mS<|pX h (λv z ⟨e,t,u,o,r,he,n⟩=>mS<|zX<|nG ?_) λ_ _ x=>x;subst o;unfold uQ at he;obtain⟨x,g,d,l,os⟩:=z
 repeat (first|with_reducible refine zT he ?_ |with_reducible refine zT r ?_ |(with_reducible refine wpAny_isSubtype_exc r ?_;rw[w])|wp_step)
 show wpAny_raiseNew_none p n
end
inductive wH(C:lS)(f:lR):Sp
 | mk (e t v):vs=[.ref e,v]->H e=some (pO e C t none)->(∀dx,H dx=none->dx≠e->Q .non (mJ (mJ H e<|pO e C t<|some dx) dx<|.xd [(f,v)]))->wH C f vs H Q E
structure XI(K:Frag)(C Y fI:Addr)(f:Str):Prop where
 cls:wn K C Y
 kp:keepIn K (.ref C)=true
 init:findIn K (.ref C) "__init__"=some (some<|.ref fI)
 fn:PySem.W.typeIn K (.ref fI)=some (.type "function")
 sa:findIn K (.ref C) "__setattr__"=some (some<|.builtin "object.__setattr__")
 xa:XA K C
 na:findIn K (.ref C) f=some none
def WX(C:lS)(f:lR)(E:XK)(t:TA):TS:=λ_ z H=>t z H λw x=>∃v,w=[v]/\∀y,x y=none->E (.ref C) (some y) (mJ x y<|.xd [(f,v)])
section
variable {P:md} {w:lZ} {K:lW} {mg:lR->lV lT} {mD:lY} {N:lQ lR} {qual:lR} {scope:Scope} {f:lS} {cd:lT} {A:me} {mB:lQ Env} {mh:lU} {mj:Hp} {E:XK}
def yS{x y:lR}{C Y L:lS}{fd:mf}{ps:lQ lR}{k:Nat}{fn:lR}{np j8 pos:Pos}{G:ma}{Zs:lQ ma}{t:TA}(B:XI K C Y L fn)(OY:Bw K mg y Y vV "ValueError.__new__")(Fn:Xs P w K mg mD oN k L fd ps (wH C fn))(hb:qx K fd ps [])
  (hr:Y4 (k+1) (oS (ol P w) P w K mg mD N qual scope f cd A mB mh mj E).A) (hg:Gl (oS (ol P w) P w K mg mD N qual scope f cd A mB mh mj E) x) (i:mg x=some (.ref C)) (ha:PA (oS (ol P w) P w K mg mD N qual scope f cd A mB mh mj E) (G ::Zs) t)
  (R3:(x ==("__debug__":lR))=false:=by lk) (he:starEach (G ::Zs) (oS (ol P w) P w K mg mD N qual scope f cd A mB mh mj E).env=(false,eval G (oS (ol P w) P w K mg mD N qual scope f cd A mB mh mj E).env) ::starEach Zs (oS (ol P w) P w K mg mD N qual scope f cd A mB mh mj E).env:=by rfl)
  (u0:(backTo j8<|starEach Zs (oS (ol P w) P w K mg mD N qual scope f cd A mB mh mj E).env).any (·.1)=false:=by rfl) :
  PS (oS (ol P w) P w K mg mD N qual scope f cd A mB mh mj E) (.Raise (some<|.Call (.Name x np) (G ::Zs) [] j8) none pos) (WX C fn E t):=by
 intro c7 s z H D I h;obtain⟨nm,qn,N',bs,sn,sub,ab,col,dd,k0,k1,k2,k3,k5,hK⟩:=B.cls;refine ZH (C:=C) (nm:=nm) (qn:=qn) (N:=N') (bs:=bs) (bm:=.ref Y ::vV) (hdct:=true) (sn:=sn) (sub:=sub) (ab:=ab) (col:=col) (dd:=dd) (k0:=k0) (k1:=k1) (k2:=k2) (k3:=k3) (k5:=k5) (newId :="ValueError.__new__") (by simp) (I.ok.hd rfl) ?_;refine vB<|xj I hg i ?_ R3;refine AI (h₀:=mD) I.ok.mod.kin B.kp (mZ (ha j8 c7 s z H _ I h) λp c ⟨d,g,j,r2,v,ev,hE⟩=>#[j.kIn,?_]) he u0;subst ev;obtain⟨u,rfl,ru⟩:=W5 r2;have hC:=j.kIn _ _ hK;obtain⟨tl,NY,vE,qY,Q,M,snY,p,abY,d,ddY,j0,j1,j2,j3,j5,mN,hY,hN,hni,_⟩:=(OY c.heap j.kIn).obj;have T:OwnTail c.heap vV (.ref Y ::vV):=.own hY hN hni .base;have LI:PySem.W.Looks (model P w) c.heap (typeLookup (.ref C) "__init__") (some<|.ref L):=Ap j.kIn B.init;have tf:c.TypeIs (.ref L) "function":=by
  obtain⟨o,ho,hc⟩:=nR.mp B.fn;show#[o,j.kIn _ _ ho,hc]
 obtain⟨oI,hoI,hcI⟩:=tf;obtain⟨p,Q,M,tk2,d⟩:=c;refine Zyr tF T hC LI hoI hcI (by rw[tJ];change 1<=16777216;decide) λh' e i=>?_
 obtain⟨l,heX,_,_⟩:=i.there;obtain⟨w9,J⟩:=j.laidAt (h':=h') (t':=tk2) (a:=e) (o:=pO e C l none) i.keeps i.new<|pO.ok heX;have hl:ps.length=2:=by
  have:=Fn.len [.ref e,v] (mJ g e<|pO e C l none) (λr _=>True) E0 #[e,l,v,rfl,Zc,λ_ _ _=>trivial];show this.symm
 refine ux (ve (Fn.run _ (oS (ol P w) P w K mg mD N qual scope f cd A mB mh mj E).stack _ _ #[[.ref e,u],[]] [.ref e,u] [.ref e,v] (λr H3=>r=.non/\∃n,g n=none/\n≠e/\H3=mJ (mJ (mJ g e<|pO e C l none) e<|pO e C l<|some n) n (.xd [(fn,v)])) E0
  (hr.make C [u] []) (J.env0.make C [u] []) (hb _ [.ref e,u] J.kIn (by rw[pH,hl];rfl)) (.cons rfl<|.cons ru .nil) #[e,l,v,rfl,Zc,λn hn hd=>#[rfl,n,by rw[Zd hd]at hn;show hn,hd,rfl]]) λr s' U=>?_)
 cases r with
 | error q=>show False.elim U
 | ok fl =>
  cases fl with
  | next=>show False.elim U
  | brk=>show False.elim U
  | cont=>show False.elim U
  | ret u' =>
   obtain⟨p,H3,os,Q,un,hok,rv,rfl,n,hn,hd,rfl⟩:=U;cases rv;have I3:=J.call' os un hok Q (λb q=>absurd q<|by simp);have q3:(mJ (mJ (mJ g e<|pO e C l none) e<|pO e C l<|some n) n<|.xd [(fn,v)]) e=some (pO e C l<|some n):=by rw[Zd hd.symm,Zc]
   have M:=pO.at I3.hok q3;have I4:=I3.drop q3;have hH:yY (mJ (mJ (mJ g e<|pO e C l none) e<|pO e C l<|some n) n<|.xd [(fn,v)]) e=mJ g n (.xd [(fn,v)]):=by
    funext b
    by_cases y:b=e
    ·rw[y,Fa,Zd hd.symm,w9]
    ·rw[Dc y]
     by_cases q:b=n
     ·rw[q,Zc,Zc]
     ·rw[Zd q,Zd y,Zd y,Zd q]
   rw[hH]at I4;refine#[rfl,e,l,some n,rfl,?_,M,?_]
   ·show I3.kIn _ _ hK
   change wpAny _ _ (leaving _<|.ref e) _ _ s';have V0:∀env∈(envOfC qual scope #v[mh] f cd ::mB),∀b,env.frame=some b->b∈e ::oF (envOfC qual scope #v[mh] f cd ::mB):=λenv he b hb=>pG _<|BG.mpr #[env,he,hb]
   refine Ou (mD:=PySem.W.hideAll s'.heap<|e ::oF (envOfC qual scope #v[mh] f cd ::mB)) I4.ok.frames (Qy I4.stack V0) rfl M (λb o p=>Cf _ p) (Nw _ ph) rfl rfl #[rfl,rfl] λh'' fl up=>?_
   refine Gp I4 fl up (λb o p d h3=>Fy _ p λq=>?_)<|hE n hn;rcases nU.mp q with y|y
   ·subst y;rcases d with⟨p,d⟩|d
    ·obtain⟨o2,h4⟩:=j.mD.there b p d (by change b∉([]:lQ lS);simp);have:=i.new;rw[h4]at this;cases this
    ·rw[Zd hd.symm]at d;show d w9
   ·show h3 y
end
section
variable {K:lW} {M:Model} {A:me} {E:lT->lU->Prop} {s:lU} {e C B:lS} {o:Obj} {r:Bool}
def Zq4{Q:Bool->lU->Prop}(X:K.In s.heap)(he:s.heap.get? e=some o)(y:o.cls=.ref C)(kB:PySem.W.kitCls K (.ref B) (.type "BaseException")=some true)(x:PySem.W.kitCls K (.ref C) (.ref B)=some r)(z:Q r s) :
  wpAny M A (excMatches (.ref e)<|.ref B) Q E s:=by
 obtain⟨tB,w,u⟩:=PySem.W.kit_cls (M:=M) X x;obtain⟨_,_,q⟩:=PySem.W.kit_cls (M:=M) X kB;have p:PySem.W.Looks M s.heap (typeOf<|.ref e) (.ref C):=y ▸ (PySem.W.Looks.ld he).andThen .now;have f:=tc_notTuple;unfold excMatches isExcClass
 repeat (first|with_reducible refine p.here ?_ |with_reducible refine tB.here ?_ |with_reducible refine w.here ?_ |with_reducible refine u.here ?_ |with_reducible refine q.here ?_ |wp_step)
 cases r with
 | true=>repeat (first|show z|wp_step)
 | false=>repeat (first|show z|wp_step)
end
def pT.blur(D:pT)(n:Nat):pT:={nx:=λ_ H=>D.nx (List.replicate n none) H,rt:=D.rt,bk:=λ_ H=>D.bk (List.replicate n none) H,ct:=λ_ H=>D.ct (List.replicate n none) H}
variable {X:Cx}
def WS.tryAs{x n:lR}{B:lS}{i:Nat}{np M5 pos:Pos}{body suite:lQ lX}{a:lX}{D:pT}{Ex:XK}{R:lS->lV lS->Hp->Prop}(hm:X.mg x=some (.ref B))(kB:PySem.W.kitCls X.K (.ref B) (.type "BaseException")=some true)(hg:Gl X x)(hN:X.N.Nodup)(hi:X.N[i]? =some n)(hlo:X.env.kindOf n=some .local)(hsc:X.env.scope.names.lookup n=some .local)
  (y9:X.stack=X.env ::X.mB) (hfm:X.env.frame=some X.env.locals) (hcm:X.calm=true) (U9:X.ex=[]) (hE:∀cls M H',Ex cls M H'->∃C,cls=.ref C/\PySem.W.kitCls X.K (.ref C) (.ref B)=some true/\R C M H')
  (hb:∀pn xe,sM (ol X.prog X.w) (X.tried pn xe) Ex->WSs (X.tried pn xe) body D z H) (hh:∀(j C:lS)(M:lV lS)(l:St)(H':Hp),l.length=X.N.length->R C M H'->H' j=none->WSs (X.caught j) (a ::suite) (D.blur X.N.length) (l.set i<|some<|.ref j) (mJ H' j<|qC j C M)) (hd:(x ==("__debug__":lR))=false:=by lk) :
  WS X (.Try body [.ExceptHandler (some<|.Name x np) (some n) (a ::suite) M5] [] [] pos) D z H:=by
 refine#[λL s I=>?_];refine wpAny_Try_except ?_;have pass:sM (ol X.prog X.w) (X.tried (X.pn++L) λe mi=>∅ (noteFrame e X.env) (λ_ w=>∅ (setFlight e none) (λ_ mo=>∅ (handleBy e X.env [.ExceptHandler (some<|.Name x np) (some n) (a ::suite) M5]) (SP X L D) X.xe mo) X.xe w) X.xe mi) Ex:=by
  intro D5 l H1 s1 e s2 I1 hc;obtain⟨j,cls,M,A,rfl,os,G,un,hok,⟨a0,B0,fl,pB⟩,hEx⟩:=hc;obtain⟨C,rfl,kC,hR⟩:=hE _ _ _ hEx;have IX:mI X L l H1 s1:=I1.tryOut;have I2:mI X L l A s2:=IX.call' os un hok G (λb y=>absurd y<|by simp);have fr:∀b∈oF X.stack,A b=none/\∃o,s2.heap.get? b=some o/\∀vs,o.data≠.fields vs:=λb hb=>#[I2.stkFree b hb,(I2.stack.mem hb).2]
  have step:∀h',B0.StaysIn h'->s2.heap.UpToSlots h'->mI X L l A {s2 with heap:=h'}:=λh' st up =>
   let⟨u,k⟩:=Tb un hok fr st up pB
   IX.call' (s':={s2 with heap:=h'}) os u k G (λb y=>absurd y<|by simp)
  have new:∀b o,s1.heap.get? b=some o->b≠j:=λb o q y=>by
   subst y;obtain⟨ob,E4,_,_,vs,K2⟩:=fl.there
   by_cases hf:b∈oF X.stack
   ·obtain⟨_,c,w,p⟩:=fr b hf;rw[E4]at w;cases w;show p vs K2
   ·have:=pB b ob E4 (.inl #[o,q]) hf;rw[fl.2.1]at this;cases this
  have non:A j=none:=by
   cases q:A j with
   | none=>rfl
   | some u =>
    obtain⟨ob,E4,_⟩:=fl.there;have:=pB j ob E4 (.inr (by rw[q];show zI _)) (λy=>by have:=(fr j y).1;rw[q]at this;cases this);rw[fl.2.1]at this;cases this
  have fl:qf B0 (X.env ::X.mB) j (.ref C) a0 M .none s2.heap:=by rw[<-y9];show fl
  have A3:X.A.frames=some (X.env ::X.mB):=by rw[<-y9];show I2.ok.frames
  change ∅ (noteFrame (.ref j) X.env) _ _ s2;refine Ot A3 hfm fl λh₄ Y sm₄=>DU (s:={s2 with heap:=h₄}) Y λmw g sm₅=>?_
  have E:s2.heap.UpToSlots mw:=sm₄.trans sm₅;have I5:=(step mw g.1 E).catch j;refine wpAny_handleBy_cons (codeAny_handlers_test<|xj I5 hg hm ?_ hd) (by intro q;cases q);obtain⟨ob,E4,hobc,_⟩:=g.there;refine Zq4 I5.kIn E4 hobc kB kC<|codeAny_handlers_suite_as ?_;refine DU (s:={s2 with heap:=mw}) g λU d sm₆=>?_
  have I6:=step U d.1<|E.trans sm₆;obtain⟨w,ho6,oc6,od6,vs6,ov6⟩:=d.there;have oc2:vs6[2]? =some .none:=by
   obtain⟨ob,vs,q1,q2,q3⟩:=d.ctx;rw[ho6]at q1;cases q1;rw[ov6]at q2;cases q2;show q3
  have I7:mI X L l (mJ A j<|qC j C M) {s2 with heap:=U}:=I6.track non
   (by
    cases q:X.mh.heap.get? j with
    | none=>rfl
    | some o =>
     obtain⟨w,q'⟩:=IX.mD.there j o q (by rw[U9];simp);show absurd rfl<|new j w q')
   (λy=>by
    obtain⟨m,⟨o,_,_,q,_⟩,_⟩:=IX.loc;show new _ o q y.symm)
   (λw c q=>by
    obtain⟨v,o,q',_⟩:=IX.cell w c q;show new c o q')
   (λp q=>new p.1 p.2 (IX.pin p q).1) (qC.ok ho6 oc6 od6 ov6 oc2)
  refine Gu (X:=X.caught j) (s:={s2 with heap:=U}) (I7.catch j) hN hi (.inl hsc) (v:=.ref j) rfl (λw I8=>?_)<|.inr hsc;refine pX ((hh j C M l A IX.len hR non).run L _ I8) (λf mo q=>?_) λ_ _ y=>False.elim y
  have hX:=I.ok.hd hcm;have Bd:∀{h:St}{N:Hp}{s3:lU}{Q:Unit->lU->Prop},mI (X.caught j) L h N s3->(∀s4,mI X L (List.replicate X.N.length none) N s4->Q () s4)->∅ (do bindName X.env n .none;unbindBehindTheSuite X.env n M5) Q X.xe s3:=by
   intro h N s3 Q J k;obtain⟨m,hn,_⟩:=J.loc;refine wpAny_nameGoes hlo hn (by rw[J.ok.kind];rfl) λh' m' hn' M7=>k _ ?_
   show(J.uncatch hX).forget hn' M7
  cases f with
  | next=>obtain⟨h,N,J,q⟩:=q;show Bd J λs4 J4=>#[_,N,J4,q]
  | brk=>obtain⟨h,N,J,q⟩:=q;show Bd J λs4 J4=>#[_,N,J4,q]
  | cont=>obtain⟨h,N,J,q⟩:=q;show Bd J λs4 J4=>#[_,N,J4,q]
  | ret u=>obtain⟨v,h,N,J,r,q⟩:=q;show Bd J λs4 J4=>#[v,_,N,J4,r,q]
 refine pX ((hb _ _ pass).run [] s (I.tryIn _)) (λf mi q=>?_) λe mi y=>y
 cases f with
 | next =>
  obtain⟨l,H',J,q⟩:=q;show AD #[l,H',J.tryOut,q]
 | brk=>obtain⟨l,H',J,q⟩:=q;show#[l,H',J.tryOut,q]
 | cont=>obtain⟨l,H',J,q⟩:=q;show#[l,H',J.tryOut,q]
 | ret u=>obtain⟨v,l,H',J,r,q⟩:=q;show#[v,l,H',J.tryOut,r,q]
structure XG(K:Frag)(C:Addr):Prop where
 xa:XA K C
 hc:(PySem.W.clsIn K C).isSome=true
 cl:findIn K (.ref C) "__class__"=some (some<|.builtin "object.__class__")
 cg:PySem.W.specialIn K (.builtin "object.__class__") "__get__"=some (some<|.builtin "getset_descriptor.__get__")
 ct:PySem.W.takesIn K (.builtin "object.__class__")=some true
 ob:PySem.W.mroIn K C (.type "object")=some true
def Yhe(K:lW):lQ V->Hp->VK->Prop:=λx H Q=>∃e C z fs c b,x=[.ref e,c]/\H e=some (qC e C<|some z)/\H z=some (.xd fs)/\XG K C/\((∃n,c=.ty n/\kitOne K (.ref C) (.type n)=some b)\/(∃a,c=.ref a/\kitOne K (.ref C) (.ref a)=some b)\/
 ∃(a:lS)(y:lQ lS),c=.ref a/\H a=some (.tup<|y.map V.ref)/\PySem.W.kitAny K (.ref C) (y.map Value.ref)=some b)/\Q (.bl b) H
theorem wL:∀{z:lQ lS}{y:lQ lT},Z7 (z.map V.ref) y->y=z.map Value.ref
 | [],_,.nil=>rfl
 | c ::z,_,.cons r t=>by
  rw[wL t];cases r
  rfl
def Zxv{X:Cx}:Xe X (.builtin "isinstance") (Yhe X.K):=by
 intro c7 s z H xs us Q I r h;obtain⟨e,C,d,fs,c,b,rfl,he,Y,g,k,q⟩:=h;obtain⟨u,x,rfl,U,l⟩:=wp r;obtain rfl:u=Value.ref e:=U;obtain⟨o,x,N,M,L,j⟩:=qC.at I.hok he;obtain⟨x,n,_⟩:=(show Z8 X.prog X.w H s.heap d (.xd fs)from I.hok d _ Y)
 obtain⟨w,i,_⟩:=FK n;have J:PySem.W.InstAt s.heap e o C (some w):=#[N,M,by unfold PySem.W.notCls;rw[j],by rw[L];show i]
 have Z:PySem.W.KitX X.K (.ref e) (.ref C) (λh=>PySem.W.InstAt h e o C<|some w):=IL g.xa g.hc g.cl g.cg g.ct g.ob;rcases k with⟨x,rfl,k⟩|⟨a,rfl,k⟩|⟨a,G,rfl,E,k⟩
 ·cases l;show rA Z I.kIn J k (λy=>nomatch y) λp=>#[.bl b,H,I.tok p,rfl,q]
 ·cases l;show rA Z I.kIn J k (λy=>nomatch y) λp=>#[.bl b,H,I.tok p,rfl,q]
 ·cases l;obtain⟨_,c8,D,B,A,c,n2,x⟩:=(show Z8 X.prog X.w H s.heap a (.tup<|G.map V.ref)from I.hok a _ E)
  rw[wL D]at x;obtain⟨c1,c2,c3,c4⟩:=B;dsimp only at c x;subst c x;show PySem.W.kia_tup Z I.kIn J A k (λy=>nomatch y) λp=>#[.bl b,H,I.tok p,rfl,q]
def ZR:typeLookup (.type "list") "keys"=pure none:=by rw[typeLookup_type,builtinLookup_eq_fast];kernel_rfl
def Zj8:typeLookup (.type "list") "__getattr__"=pure none:=by rw[typeLookup_type,builtinLookup_eq_fast];kernel_rfl
def HP:isSubtype (.type "AttributeError") (.type "AttributeError")=pure true:=by rw[isSubtype_type];kernel_rfl
section
variable {prog:md} {w:lZ} {A:me} {E:lT->lU->Prop} {h:lY} {g:Array GenState} {d:Drawn} {t:Nat} {os:OsState} {a:lS} {vs:Array lT} {n:Nat}
def Ydc{z:Type}{Q:z->lU->Prop}(j:A.handled=none)(U:msg.length<=sizeLine)
  (i:∀h' e c,(∀b u,h.get? b=some u->h'.get? b=some u)->(∃p,h'.get? e=some p/\p.cls=.type "AttributeError")->E (.ref e) #[h',g,d,c,os]) :
  wpAny (model prog w) A (raiseAttrError (.ref a) "keys" msg:Sem z) Q E #[h,g,d,t,os]:=by
 have N:=HP;have r:¬msg.length >sizeLine:=by lia
 unfold raiseAttrError newExc
 repeat (any_goals (first|assumption|rw[mT r]|wp_step))
 generalize x:({cls:=Value.type "AttributeError",data:=Data.fields ((List.toArray [Value.ref h.objs.size,Value.none,Value.none,Value.none,Value.bool false,if((Manifest.find? "AttributeError").elim false λt=>t.mro.contains "StopIteration"|| t.mro.contains "SystemExit")=true then[Value.str msg t].headD Value.none else Value.none])++ownMembersOf (Value.type "AttributeError") [Value.str msg t])}:Obj)=s;have q:s.cls=.type "AttributeError":=by rw[<-x]
 have y:∃o,s.data=.fields o:=#[_,by rw[<-x]]
 obtain⟨o,y⟩:=y;have Y:((h.push {cls:=Value.type "tuple",data:=Data.seq (List.toArray [Value.str msg t])}).push s).get? (h.push {cls:=Value.type "tuple",data:=Data.seq (List.toArray [Value.str msg t])}).objs.size=some s:=oQ _<|Db y;refine wpAny_raiseNew_none j<|i _ _ _ (λb u l=>?_) #[_,Cs _ Y<|Db<|BS y _,by rw[Obj.cls_mapFields];show q];rw[tT _ _ (by rw[vD];show xJ<|FA<|nO l)];show nQ _<|nQ _ l
def Zuj{Q:Fin->lU->Prop}(y:A.handled=none)(x:h.get? a=some {cls:=.type "list",data:=.seq vs n})
  (s:∀h' e r,(∀b u,h.get? b=some u->h'.get? b=some u)->(∃z,h'.get? e=some z/\z.cls=.type "AttributeError")->E (.ref e) #[h',g,d,r,os]) :
  wpAny (model prog w) A (Builtin.«object.__getattribute__» #[[.ref a,.str "keys" q],[]]) Q E #[h,g,d,t,os]:=by
 have p:(#[h,g,d,t,os]:lU).TypeIs (.ref a) "list":=#[_,x,rfl]
 have o:=ZR;have l:=HP
 repeat (any_goals (first|assumption|wp_step))
 show Ydc y (by left) s
def LM{Q:lV lT->lU->Prop}(x:A.handled=none)(y:h.get? a=some {cls:=.type "list",data:=.seq vs n})
  (s:∀h' z,(∀b u,h.get? b=some u->h'.get? b=some u)->Q none #[h',g,d,z,os]):wpAny (model prog w) A (getAttr? (.ref a) "keys") Q E #[h,g,d,t,os]:=by
 have o:(#[h,g,d,t,os]:lU).TypeIs (.ref a) "list":=#[_,y,rfl]
 have l:=DI.lookup;have j:=DI.bind<|.ref a;have i:=HP;have c:=Zj8;unfold getAttr? getAttrBy?
 repeat (any_goals (first|assumption|wp_step))
 refine BB DI.plain F.entry_list_ga<|DI.check _ _ _ _ _ _ _ _ (show(#[h,g,d,t+1,os]:lU).TypeIs (.ref a) "list" from#[_,y,rfl]) (F.args_list_getattribute_2 _ _)<|Zuj x y λh' e z r ⟨Y,he,q⟩=>?_;have p:(#[h',g,d,z,os]:lU).TypeIs (.ref e) "AttributeError":=#[_,he,q]
 have U:=s h' z r;unfold getattributeRaised
 repeat (any_goals (first|assumption|wp_step))
 all_goals trace_state
end
def Mb:entryFor table "dict.update.loop"=some Builtin.«dict.update.loop» :=entryFor_of_tree (by kernel_rfl)
section
variable {prog:md} {w:lZ} {A:me} {R:Result->lU->Prop} {l d it:lS} {tps:lQ lS} {h₀:lY} {Pd:Nat->lY->Prop}
def GU(prog:md)(w:lZ)(A:me)(d:lS)(h:lY)(Pd:Nat->lY->Prop)(tps:lQ lS):Prop:=∀i p,tps[i]? =some p->∃key v o n,h.get? p=some o/\o.cls=.type "tuple"/\o.data=.seq (List.toArray [key,v]) n/\∀args (s:lU) (Q:Unit->lU->Prop) E,Pd i s.heap->(∀z y,Pd (i+1) z->Heap.SameBut d s.heap z->Q () {s with heap:=z,toks:=y})->wpAny (model prog w) (A.under<|.builtin "dict.update.loop" args) (dictSet d key v) Q E s
def MY(hh:A.handled=none)(g:d≠it)(hl:h₀.IsList l (tps.map Value.ref).toArray)(Q:l≠d)(N:l≠it)(hp:GU prog w A d h₀ Pd tps)(H:∀p∈tps,p≠d/\p≠it)
  (mv:∀i h h',Pd i h->(∀o,h.get? d=some o->h'.get? d=some o)->(∀b o,b≠d->b≠it->h₀.get? b=some o->h'.get? b=some o)->Pd i h') :
  ∀(n i:Nat)(s:lU)(j:Int)(G:Tok),i+n=tps.length->s.heap.IsListIter it l i->Pd i s.heap->(∀b o,b≠d->b≠it->h₀.get? b=some o->s.heap.get? b=some o)->
   (∀h' E,Pd tps.length h'->(∀b o,b≠d->b≠it->h₀.get? b=some o->h'.get? b=some o)->R (.ok<|.ret .none) {s with heap:=h',toks:=E})->
   codeAny (model prog w) A (.builtin "dict.update.loop" #[[.ref d,.ref it,.int j G,.none],[]]) R s:=by
 intro n
 induction n with
 | zero =>
  intro i s j G hi e D y C;have c:s.heap.IsList l (tps.map Value.ref).toArray:=by
   obtain⟨o,a,r⟩:=hl;show#[o,y _ _ Q N a,r]
  refine CC Mb ?_;unfold Builtin.«dict.update.loop»;dsimp only;refine mS<|wpAny_pyNext_list_end hh e c (by rw[Oc,nJ,wb<|by lia];rfl) λh' z=>?_;dsimp only;have u:∀b o,b≠d->b≠it->h₀.get? b=some o->h'.get? b=some o:=λb o Y I q=>z b o I<|y b o Y I q
  obtain rfl:i=tps.length:=hi;show mS (nG<|nG<|C h' s.toks (mv _ _ _ D (λo a=>z d o g a) u) u)
 | succ n ih =>
  intro i s j G hi e D y C;have c:s.heap.IsList l (tps.map Value.ref).toArray:=by
   obtain⟨o,a,r⟩:=hl;show#[o,y _ _ Q N a,r]
  have u:i<tps.length:=by lia
  obtain⟨key,v,ot,nt,O9,B,U0,M⟩:=hp i tps[i] (oy u);obtain⟨nd,ni⟩:=H tps[i] (List.getElem_mem u);refine CC Mb ?_;unfold Builtin.«dict.update.loop»;dsimp only;refine mS<|wpAny_pyNext_list_item e c (x:=.ref tps[i]) (by rw[Oc,nJ,oy u];rfl) λY it1 U=>?_;have q:Y.get? tps[i]=some ot:=by rw[U.2 _ ni];show y _ _ nd ni O9
  have hT:({s with heap:=Y}:lU).TypeIs (.ref tps[i]) "tuple":=#[_,q,B]
  have L:∀b o,b≠d->b≠it->h₀.get? b=some o->Y.get? b=some o:=λb o z1 z2 z3=>by rw[U.2 _ z2];show y b o z1 z2 z3
  refine mS<|qW<|mS<|wpAny_tryCatch ?_;unfold Builtin.Dict.pairItems;refine mS<|Ba hT ?_;rw[mU (by lk)];refine mS<|wpAny_seqItems (s:={s with heap:=Y}) q U0<|nG ?_;refine qW<|M _ {s with heap:=Y} _ _ (mv _ _ _ D (λo a=>by rw[U.2 _ g];show a) L) λI tk2 z8 J=>nG #[zP _ (by left),?_];refine ih (i+1) {s with heap:=I,toks:=tk2} (j+1) _ (by lia) ?_ z8 (λb o n1 n2 z=>?_) λh' E=>C h' E
  ·show it1.at λo z=>by rw[J.2 _ g.symm];show z
  ·rw[J.2 _ n1];show L b o n1 n2 z
def ND{Q:lT->lU->Prop}{E:lT->lU->Prop}(H:A.handled=none)(N:s.heap.get? l=some {cls:=.type "list",data:=.seq (tps.map Value.ref).toArray n})(G:GU prog w A.in1 #v[s] s.heap Pd tps)(new:Pd 0 (s.heap.push {cls:=.type "dict",data:=.dict #[]}))
  (D:∀i h h',Pd i h->(∀o,h.get? #v[s]=some o->h'.get? #v[s]=some o)->(∀b o,s.heap.get? b=some o->h'.get? b=some o)->Pd i h')
  (h:∀h' L dd,dd=#v[s]->Pd tps.length h'->s.heap.get? dd=none->(∀b o,s.heap.get? b=some o->h'.get? b=some o)->Q (.ref dd) {s with heap:=h',toks:=L}) :
  wpAny (model prog w) A (call (.type "dict") [.ref l]) Q E s:=by
 refine callType_codes (Q₁:=λobj C=>obj=.ref #v[s]/\C={s with heap:=s.heap.push {cls:=.type "dict",data:=.dict #[]}}) F.kt_called_dict (F.kt_typeCall_dict_1 _) F.entry_dict_init (kt_code_dict_new _ #[rfl,rfl]) ?_;rintro obj C ⟨rfl,rfl⟩;have u:(s.heap.push {cls:=.type "dict",data:=.dict #[]}).get? l=some {cls:=.type "list",data:=.seq (tps.map Value.ref).toArray n}:=nQ _ N;have B:({s with heap:=s.heap.push {cls:=.type "dict",data:=.dict #[]}}:lU).TypeIs (.ref #v[s]) "dict":=#[_,oQ _ rfl,rfl]
 refine#[B,F.args_dict_init_2 _ _,?_];unfold Builtin.«dict.__init__»;refine mS ?_;unfold Builtin.Dict.selfAndRest;refine mS<|wpAny_notOrdered_dict B ?_;change wpAny _ _ (pure (#v[s],[Value.ref l])) _ _ _;refine nG ?_;change wpAny _ _ (Builtin.Dict.updateFrom "dict.__init__" #v[s] (.ref l) [] .none) _ _ _;unfold Builtin.Dict.updateFrom;refine mS<|Ba (T :="list") #[_,u,rfl] ?_;rw[mU (by lk)];obtain⟨q,g0,d0,x,j⟩:=s;dsimp only at *;refine mS<|LM H u λy g M=>?_;simp only[LJ,ud];have J:y.IsList l (tps.map Value.ref).toArray:=#[_,M _ _ u,rfl,n,rfl]
 refine mS<|vh<|mS<|xU (s:=#[y,g0,d0,g,j]) J<|nG #[zP _ (by left),?_];have Y:∀b o,q.get? b=some o->(y.push {cls:=.type "list_iterator",data:=.fields (List.toArray [.ref l,.int 0 0])}).get? b=some o:=λb o z=>nQ _<|M _ _<|nQ _ z
 have U:q.objs.size<y.objs.size:=nO<|M _ _<|oQ q rfl;have r:∀{c o},q.get? c=some o->c≠q.objs.size/\c≠y.objs.size:=λz=>by
  have:=nO z;show#[oi this,oi<|tW this U]
 refine MY (A:=A.in1) (Pd:=Pd) (h₀:=y.push {cls:=.type "list_iterator",data:=.fields (List.toArray [.ref l,.int 0 0])}) (l:=l) (tps:=tps) H (oi U) #[_,Y _ _ N,rfl,n,rfl] (r N).1 (r N).2 (λi p e=>?_) (λp z=>?_) (λi h h' a b c=>D i h h' a b λx o z=>c x o (r z).1 (r z).2 (Y x o z)) tps.length 0 #[y.push {cls:=.type "list_iterator",data:=.fields (List.toArray [.ref l,.int 0 0])},g0,d0,g,j] 0 0 (BP _) #[_,oQ y rfl,rfl,rfl] (D _ _ _ new (λo z=>nQ _<|M _ _ z) Y) (λ_ _ _ _ z=>z) λh' L hD kp=>#[rfl,h h' L _ rfl hD (Bm<|nk _) λb o z=>kp b o (r z).1 (r z).2 (Y b o z)]
 ·obtain⟨key,v,o,m,I,x⟩:=G i p e;show#[key,v,o,m,Y _ _ I,x]
 ·obtain⟨i,e⟩:=zi.mp z;obtain⟨_,_,_,_,I,_⟩:=G i p e;show r I
end
section
variable {prog:md} {w:lZ} {KT:Type} [DecidableEq KT] {knd:KeyKind prog w KT} {A:me} {R:Result->lU->Prop} {l d it:lS} {tps:lQ lS} {A5 D0:lQ (KT×lT)} {h₀:lY}
def wQ(knd:KeyKind prog w KT)(h:lY)(tps:lQ lS)(A5:lQ (KT×lT)):Prop:=Paired (λp (q:KT×lT)=>∃key o n,knd.is q.1 key=true/\h.get? p=some o/\o.cls=.type "tuple"/\o.data=.seq (List.toArray [key,q.2]) n) tps A5
def Qg{h h':lY}{z:lQ (KT×lT)}(y:h.DictOf knd d z)(hd:∀o,h.get? d=some o->h'.get? d=some o):h'.DictOf knd d z:=by
 obtain⟨o,x,u,s,r⟩:=y;show#[o,x,u,hd o s,r]
def wQ.puts(r:wQ knd h₀ tps A5)(hsz:D0.length+A5.length<=sizeLine):GU prog w A d h₀ (λi h=>h.DictOf knd d<|merged D0<|A5.take i) tps:=λi p e=>by
 obtain⟨q,z,key,o,n,j,g,y,c⟩:=Paired.get r e;refine#[key,q.2,o,n,g,y,c,λargs s Q E a Y=>wpAny_dictSet_pairs j a (λu U x=>Y u _ ?_ x) ?_]
 ·change u.DictOf knd d (merged D0<|A5.take<|i+1);rw[merged_take_succ D0 A5 i q z];show U
 ·have:=merged_length_le (K:=KT) D0<|A5.take i;rw[oh]at this;lia
def Sw{Q:lT->lU->Prop}{E:lT->lU->Prop}(u:A.handled=none)(r:s.heap.get? l=some {cls:=.type "list",data:=.seq (tps.map Value.ref).toArray n})(y:wQ knd s.heap tps A5)(hsz:A5.length<=sizeLine)
  (h:∀h' z dd,h'.DictOf knd dd (merged [] A5)->dd=#v[s]->s.heap.get? dd=none->(∀b o,s.heap.get? b=some o->h'.get? b=some o)->Q (.ref dd) {s with heap:=h',toks:=z}) :
  wpAny (model prog w) A (call (.type "dict") [.ref l]) Q E s:=by
 refine ND u r (y.puts (D0:=[])<|by simpa using hsz) (Heap.DictOf.new s.heap) (λi h h' a b _=>Qg a b) λh' z dd e x=>?_
 subst e;rw[show A5.take tps.length=A5 from sK (by rw[nH y];show nk _)]at x;show h h' z _ x rfl
end
def DO:lQ V->Hp->VK->Prop:=λx H Q=>∃(l:lS)(y:lQ lS)(z:lQ (ng×V)),x=[.ref l]/\H l=some (.lst<|y.map V.ref)/\Paired (λt (q:ng×V)=>H t=some (.tup [kV q.1,q.2])) y z/\(z.map fst).Nodup/\pD H (.dK z) Q
def Ir(C:X.calm=true):Xe X (.type "dict") DO:=by
 intro c7 s z H xs us Q I r h;obtain⟨l,w,x,rfl,B,i,A,q⟩:=h;obtain⟨u,rfl,ru⟩:=W5 r;cases ru;obtain⟨hz,c8,n,g,L⟩:=(show Z8 X.prog X.w H s.heap l (.lst<|w.map V.ref)from I.hok l _ B)
 rw[wL g]at L;have key:∀{w:lQ lS}{x:lQ (ng×V)},Paired (λt (q:ng×V)=>H t=some (.tup [kV q.1,q.2])) w x->∃j:lQ (ng×lT),KV x j/\wQ (Z1 X.prog X.w) s.heap w j:=by
  intro w x i
  induction i with
  | nil=>show#[[],.nil,.nil]
  | cons r t e =>
   rename_i p q _ _;obtain⟨j,h1,h2⟩:=e;obtain⟨_,c8,g,o,ho,y7,m,hd⟩:=(show Z8 X.prog X.w H s.heap p (.tup [kV q.1,q.2])from I.hok p _ r)
   obtain⟨k,v,rfl,rk,d⟩:=wp g;show#[(q.1,v) ::j,.cons #[rfl,d] h1,.cons #[k,o,m,uq rk,ho,y7,hd] h2]
 obtain⟨j,c,a⟩:=key i;have G:x.length<=sizeLine:=by
  have:=nH i;rw[mK]at hz;lia
 have O2:(j.map fst).Nodup:=by
  have:∀{x:lQ (ng×V)}{j:lQ (ng×lT)},KV x j->j.map fst=x.map fst:=by
   intro x j y
   induction y with
   | nil=>rfl
   | cons r t e=>rw[nV,nV,e,r.1]
  rw[this c];show A
 refine Sw (I.ok.hd C) L a (by rw[<-KV.length c];show G) λh' A9 Y E U N k=>?_
 rw[merged_nil_of_nodup j O2]at E;have M:Y≠sysModules:=λy=>by
  have D:=I.big;rw[<-U,y]at D;show qL _ D
 obtain⟨hH,J⟩:=I.laidAt (t':=A9) (o:=.dK x) k N<|yP G (qt.mpr M) c E;show#[.ref Y,_,J,rfl,q.at Y hH]
def ZP:bootBuiltins "ValueError"=some (.type "ValueError"):=by left
def Ey{fr:St->St}(Pv:Nat->lQ V->Hp->Prop)(n:Pv 0 [] (mJ l D<|.lst []))(u:∀i y H,i<=kvs.length->Pv i y H->H d=some (.frz o<|.dK kvs))
  (j:∀i kv y H,kvs[i]? =some kv->Pv i y H->∀p w,mC H w->H p=none->w p=some (.tup [kV kv.1,kv.2])->W4 fr g h c z D (.ref p) y w (Pv<|i+1)) (hd:∀y H,Pv kvs.length y H->Q (.ref D) H):qV (DS d o kvs) fr g h c Q z l D:=Wh Pv n (λs H p=>#[u _ s H (nk _) p,nk _]) (λi s H r p=>#[#[u i s H (pA r) p,r],λx N ⟨a,kv,e,q,Y,U⟩=>by subst e U;show j i kv s H Y p a _ (mC.new q) q Zc]) hd
def Uw{K:lW}{t c:lT}{b:Bool}(h:kitOne K t c=some b)(n:(t ==c)=false):PySem.W.kitCls K t c=some b:=by
 unfold kitOne at h;rw[mT (by rw[n];show oU)]at h;show h
section
variable {prog:md} {w:lZ} {KT:Type} [DecidableEq KT] {knd:KeyKind prog w KT} {A:me} {l d:lS} {tps:lQ lS} {A5 D0:lQ (KT×lT)} {s:lU} {Q:lT->lU->Prop} {E:lT->lU->Prop} {n:Nat}
def Zh8(C:A.handled=none)(c:s.heap.DictOf knd d D0)(u:s.heap.get? l=some {cls:=.type "list",data:=.seq (tps.map Value.ref).toArray n})(Y:wQ knd s.heap tps A5)(hsz:D0.length+A5.length<=sizeLine)(U:l≠d)(N:∀p∈tps,p≠d)
  (h:∀h' M,h'.DictOf knd d (merged D0 A5)->(∀b o,b≠d->s.heap.get? b=some o->h'.get? b=some o)->Q .none {s with heap:=h',toks:=M}):wpAny (model prog w) A (call (.builtin "dict.update") [.ref d,.ref l]) Q E s:=by
 refine ux<|BB Fu.plain F.entry_dict_update<|Fu.check _ _ _ _ _ _ _ _ c.typeIs (F.args_dict_update_2 _ _) ?_;unfold Builtin.«dict.update»;refine mS ?_;unfold Builtin.Dict.selfAndRest;refine mS<|wpAny_notOrdered_dict c.typeIs ?_;change wpAny _ _ (pure (d,[Value.ref l])) _ _ _;refine nG ?_;change wpAny _ _ (Builtin.Dict.updateFrom "dict.update" d (.ref l) [] .none) _ _ _;unfold Builtin.Dict.updateFrom;refine mS<|Ba (T :="list") #[_,u,rfl] ?_;rw[mU (by lk)];obtain⟨B,g0,d0,a,r⟩:=s;dsimp only at *;refine mS<|LM C u λx j L=>?_;simp only[LJ,ud];have J:=L _ _ u;have I:x.IsList l (tps.map Value.ref).toArray:=#[_,J,rfl,n,rfl]
 refine mS<|vh<|mS<|xU (s:=#[x,g0,d0,j,r]) I<|nG #[zP _ (by left),?_];have e:∀b o,B.get? b=some o->(x.push {cls:=.type "list_iterator",data:=.fields (List.toArray [.ref l,.int 0 0])}).get? b=some o:=λb o z=>nQ _<|L _ _ z
 obtain⟨od,H,G,g,rd⟩:=c;have y:∀b o,B.get? b=some o->b≠x.objs.size:=λb o z=>oi<|nO<|L b o z
 refine MY (A:=A) (h₀:=x.push {cls:=.type "list_iterator",data:=.fields (List.toArray [.ref l,.int 0 0])}) (l:=l) (d:=d) (it:=x.objs.size) (tps:=tps) C (y _ _ g) #[_,e _ _ u,rfl,n,rfl] U (y _ _ u) (wQ.puts (Paired.mapP Y λp q ⟨key,o,m,a,D,z3⟩=>#[key,o,m,a,e _ _ D,z3]) hsz) (λp z=>?_) (λi h h' a b _=>Qg a b) tps.length 0 #[x.push {cls:=.type "list_iterator",data:=.fields (List.toArray [.ref l,.int 0 0])},g0,d0,j,r] 0 _ (BP _) #[_,oQ x rfl,rfl,rfl] #[od,H,G,e _ _ g,rd] (λb o _ _ z=>z) λh' M A0 kp=>h h' M ?_ λb o n1 z=>kp b o n1 (y _ _ z)<|e b o z
 ·obtain⟨i,a,rfl⟩:=AO z;obtain⟨q,_,key,o,m,_,D,_⟩:=Paired.get Y (i:=i) (a:=tps[i])<|oy a;show#[N _ z,y _ _ D]
 ·rw[show A5.take tps.length=A5 from sK (by rw[nH Y];show nk _)]at A0;show A0
end
def XO(p o:TE):TE:=λz H Q=>p z H λx r=>∃a,x=.ref a/\DQ r a/\o z r λy s=>∃(l:lS)(u:lQ lS)(w more:lQ (ng×V)),y=.ref l/\s a=some (.dK w)/\s l=some (.lst<|u.map V.ref)/\Paired (λt (q:ng×V)=>s t=some (.tup [kV q.1,q.2])) u more/\w.length+more.length<=sizeLine/\Q .non (mJ s a<|.dK<|yW w more)
section
variable {o e:ma} {u5 j8:Pos} {td ty:TE}
def Ybv(hc:X.calm=true)(M:PE X o td)(he:PE X e ty)(m:M1 X o "update" u5 e j8):PE X (.Call (.Attribute o "update" u5) [e] [] j8) (XO td ty):=by
 intro c7 s z H Q I h;refine FO m.mD m.few m.line AE Fu PySem.F.type_dict_update<|mZ (M c7 s z H _ I h) λu s1 L=>?_;obtain⟨x,H1,I1,rx,a,ex,d,q1⟩:=L;subst ex;obtain rfl:u=Value.ref a:=rx;obtain⟨t1,t2,_⟩:=GI I1 d;refine#[t1,t2,?_];rw[m.trees];refine xx rfl<|zr<|yK<|mZ (he c7 s1 z H1 _ I1 q1) λiv J L=>AF ?_;obtain⟨y,G,c,ry,l,j,g,more,ey,U,E,N,hz,q2⟩:=L;subst ey;obtain rfl:iv=Value.ref l:=ry;obtain⟨hzl,c8,n,D,hg⟩:=(show Z8 X.prog X.w G J.heap l (.lst<|j.map V.ref)from c.hok l _ E)
 rw[wL D]at hg;obtain⟨hza,C,vs,z7,dd⟩:=zj c.hok U;have key:∀{j:lQ lS}{g:lQ (ng×V)},Paired (λt (q:ng×V)=>G t=some (.tup [kV q.1,q.2])) j g->∃Y:lQ (ng×lT),KV g Y/\wQ (Z1 X.prog X.w) J.heap j Y:=by
  intro j g N
  induction N with
  | nil=>show#[[],.nil,.nil]
  | cons r t ih =>
   rename_i p q _ _;obtain⟨Y,h1,h2⟩:=ih;obtain⟨_,c8,D,o,M,y7,m,hd⟩:=(show Z8 X.prog X.w G J.heap p (.tup [kV q.1,q.2])from c.hok p _ r)
   obtain⟨k,v,rfl,rk,B⟩:=wp D;show#[(q.1,v) ::Y,.cons #[rfl,B] h1,.cons #[k,o,m,uq rk,M,y7,hd] h2]
 obtain⟨Y,C8,A⟩:=key N;refine Zh8 (c.ok.hd hc) dd hg A (by rw[<-z7.length,<-KV.length C8];show hz) (λw=>by rw[w,U]at E;cases E) (λp hpm w=>?_) λh' A9 A0 kp=>?_
 ·obtain⟨i,hi,e⟩:=AO hpm;obtain⟨q,_,hq⟩:=Paired.get N (i:=i) (a:=p) (by rw[oy hi,e]);rw[w,U]at hq;cases hq
 ·obtain⟨o',g8,ep',ho',r'⟩:=id A0;show#[.non,_,c.write (x:=a) (e:=a) (t':=A9) (by rw[U];show ri) (.inl rfl) (λb u n w=>kp b u n w) #[_,ho']<|yP (by have:=Ri more g;lia) C (C8.merge z7) A0,rfl,q2]
end
abbrev sI(pos:Pos)(q:lR):Array lT:=Wk [(pos.line,pos.col,q)]
abbrev Fz(o:Obj):HO:=.frz o<|.frz o<|.own 0
def Clo(H:Hp)(Pt u:lS)(q:lR)(s:Arguments)(r:ma)(p:Scope)(z:lQ (lR×lS)):Prop :=
 ∃(o n:lT)(c:lS)(y:Obj)(x:Array lT)(l:Nat)(w:lS),H u=some (Fz<|PySem.W.kla_obj "<lambda>" q s r p z o c n)/\H c=some (.frz y<|.own Pt)/\y.data=.fields x/\x[1]? =some (.str q l)/\H w=some (.tbl<|List.toArray [.none])/\GS y c w
def Clo.mono(e:mC H H')(h:Clo H Pt y q x w u z):Clo H' Pt y q x w u z:=by
 obtain⟨s,r,c,p,o,n,l,j,i,g,d,a,Y⟩:=h;show#[s,r,c,p,o,n,l,e _ _ j,e _ _ i,g,d,e _ _ a,Y]
def CellAt(H:Hp)(c:lS)(v:V):Prop:=∃o u,H c=some (Fz o)/\o.data=.cell (some u)/\Yd v u
def CellAt.mono(e:mC H H')(h:CellAt H c v):CellAt H' c v:=by
 obtain⟨o,u,z,y⟩:=h;show#[o,u,e _ _ z,y]
def XW(C:PySem.W.CodeHd h c y)(e:h.get? c=some w):y≠c/\GS w c y:=by
 obtain⟨o,u,s,r,q,p,n,l,j,z,i,d,a,Y,U,Q,N,M,x⟩:=C;rw[e]at z;cases z;show#[x.symm,λg z=>#[_,u,s,r,q,p,n,l,j,z,i,d,a,Y,U,Q,N,M,x]]
def VA{E:lT->lU->Prop}{w:lR->lV lT}{Q:lT->lU->Prop}(y7:closureFor i env=pure y)(U:env.globals=mainGlobals)(hg:s.heap.Ns mainGlobals w)(hc:env.code=.ref c)(C:PySem.W.CodeHd s.heap c Pt)
  (H:s.heap.get? Pt=some {cls:=.none,data:=.fields ps}) (ht:TriplesOk ps.toList) (hn:codeAmong pos ps.toList=none) (N:mainGlobals≠Pt) (hb:s.heap.BuiltinsAt w Pt)
  (h:∀z u l h' x,Heap.ExtBut Pt s.heap h'->#v[s]<=z->z<h'.objs.size->#v[s]<=u->h'.CodeRec (.ref z) d->PySem.W.CodeHd h' z u->h'.get? u=some {cls:=.none,data:=.fields #[]}->h'.get? Pt=some {cls:=.none,data:=.fields (ps++ (List.toArray [rawInt pos.line,rawInt pos.col,.ref z]))}->
   Q (.ref h'.objs.size) {s with heap:=h'.push<|PySem.W.kla_obj nm d L J i y ((w "__name__").getD .none) z l,toks:=x}):wpAny M A (makeFunction nm d L (.expr J) i env [] [] [] pos fst_) Q E s:=by
 obtain⟨bm,ob,G,D,_,b4,b5,B,b7,b8⟩:=hb;rw[makeFunction_eq];simp only[List.zip_nil_right,List.filterMap_nil,List.isEmpty_nil,ud,pure_bind];unfold makeTail;rw[y7,U];refine mS<|nG ?_;have go:∀g:lY,(∀b o,s.heap.get? b=some o->g.get? b=some o)->#v[s]<=g.objs.size->∀{R:lT->lU->Prop},(∀z h' x,Heap.ExtBut Pt s.heap h'->#v[s]<=z->h'.Ns mainGlobals w->h'.get? bm=some ob->(∀l,Q (.ref h'.objs.size) {s with heap:=h'.push<|PySem.W.kla_obj nm d L J i y ((w "__name__").getD .none) z l,toks:=x})->R (.ref z) {s with heap:=h',toks:=x})->wpAny M A (functionCode env pos fst_ nm d L i<|.expr J) R E {s with heap:=g}:=λg a sz R r=>by
  have CG:=C.keeps a;refine wpAny_functionCodeX hc (CG.code (a _ _ H) ht) (CG.tab<|a _ _ H) hn λz h' x x1 x2 x3 _ x4 x5 x6=>?_
  obtain⟨u,y1,y2,y3⟩:=x6;have Y:Heap.ExtBut Pt s.heap h':=λb o n e=>x1 b o n<|a b o e
  have nC:=PySem.W.CodeHd.of y2 y3;show r z h' x Y (ow sz x2) (hg.extBut Y N) (Y _ _ b4 b5) λl=>(h z u l h' x Y (ow sz x2) x3 (ow sz y1) x4 nC y3.2 x5.2)
 cases y with
 | nil =>
  simp only[List.isEmpty_nil,ud];refine mS<|nG<|mS<|go s.heap (λ_ _ e=>e) (nk _) λz h' x _ _ j I q=>?_;show mS (wpAny_builtinsFor j G D I B b7 b8<|mS<|wpAny_nsGet j<|mS<|nG<|wx (q _)<|by size_fits)
 | cons p r =>
  simp only[List.isEmpty_cons,uc,rD];refine mS<|wpAny_newTextTuple<|mS<|go _ (λb o e=>nQ _ e) (by rw[vD];lia) λz h' x _ _ j I q=>?_;show mS (wpAny_builtinsFor j G D I B b7 b8<|mS<|wpAny_nsGet j<|mS<|nG<|wx (q _)<|by size_fits)
def Sm{l:lQ (Nat×Nat×lR)}{a b:Nat}{q r:lR}(x:(l.map λp=>(p.1,p.2.1)).Nodup)(w:(a,b,q)∈l)(u:(a,b,r)∈l):q=r:=by
 induction l with
 | nil=>cases w
 | cons p l s =>
  rw[nV,pS]at x;rcases nU.mp w with z|z<;>rcases nU.mp u with y|y
  ·have:=z.trans y.symm;simpa using this
  ·show absurd (mX.mpr #[_,y,by rw[<-z]]) x.1
  ·show absurd (mX.mpr #[_,z,by rw[<-y]]) x.1
  ·show s x.2 z y
section
variable {Q:lT->lU->Prop}
def KL{Y:lQ (Nat×Nat×lR)}(I:mI X c7 z H s)(B:defaultsOf A X.env=([],[]))(K7:X.env.code=.ref c)(C:PySem.W.CodeHd X.mD c Pt)(hH:H Pt=some (.tbl<|Wk Y))(J8:(L.line,L.col,X.env.qual++"<lambda>")∈Y)(y7:closureFor ls X.env=pure j)
  (h:∀fl H' s',mI X c7 z H' s'->mC H H'->H fl=none->Clo H' Pt fl (X.env.qual++"<lambda>") A lb ls j->Q (.ref fl) s'):∅ (eval (.Lambda A lb ls L) X.env) Q X.xe s:=by
 refine PySem.W.kla_eval B ?_;obtain⟨r,hT,e|⟨x,fs,e1,nd,rfl,hfs⟩⟩:=(show Z8 X.prog X.w H s.heap Pt (.tbl<|Wk Y)from I.hok Pt _ hH)
 ·show absurd e.1 Sg
 have e1:=Tj e1;subst e1;have hg:s.heap.Ns mainGlobals X.mg:=I.mod.glob.keeps I.bk;have CH:PySem.W.CodeHd s.heap c Pt:=C.keeps I.bk;have nP:∀b,H b=none->b≠Pt:=λb n y=>by rw[y,hH]at n;cases n
 have hB:s.heap.BuiltinsAt X.mg Pt:=by
  obtain⟨bm,M,b1,b2,b3,b4,b5,b6⟩:=I.mod.bm;obtain⟨b3',hn⟩:=I.bs _ _ b3;refine#[bm,M,b1,b2,λy=>?_,nP bm hn,b3',b4,b5,b6];obtain⟨o,es,ep,e,d,_⟩:=hg;rw[<-y,b3']at e;cases e;rw[b6]at d;cases d
 have hgP:mainGlobals≠Pt:=by
  obtain⟨o,es,ep,e,d,_⟩:=I.mod.glob;show nP _ (I.bs _ _ e).2
 cases J:codeAmong L (rF fs).toList with
 | none =>
  refine VA (ps:=rF fs) y7 I.ok.glob hg K7 CH hT (Hu fs) J hgP hB λw l D p tk hx U i9 hpn hrec E6 O9 htb=>?_
  obtain⟨x,N,vs,tt,e,G,hd,hv⟩:=hrec;cases e;generalize E4:PySem.W.kla_obj "<lambda>" (X.env.qual++"<lambda>") A lb ls j ((X.mg "__name__").getD .none) w D=M;have A3:M.isFreed=false:=by rw[<-E4];rfl
  have E:H p.objs.size=none:=I.hok.fresh<|ow U<|pA i9;have hcn:H w=none:=I.hok.fresh U;have hpN:H l=none:=I.hok.fresh hpn;have ncf:w≠p.objs.size:=oi i9;have npf:l≠p.objs.size:=oi<|nO O9;obtain⟨npc,hco⟩:=XW E6 G;have old:∀b o,s.heap.get? b=some o->b≠l/\b≠w/\b≠p.objs.size:=λb o e=>by
   have:=nO e;show#[oi<|pK this hpn,oi<|pK this U,oi<|tW (pK this U) i9]
  have kp:∀b o,b≠Pt->s.heap.get? b=some o->(p.push M).get? b=some o:=λb o n e=>nQ _<|hx b o n e
  have g:∀b o,H b=some o->b≠l/\b≠w/\b≠p.objs.size:=λb o e=>#[Ze e hpN,Ze e hcn,Ze e E]
  have i:∀{b:lS},(b≠l/\b≠w/\b≠p.objs.size)->mJ (mJ (mJ H l<|.tbl<|List.toArray [.none]) w<|.frz N<|.own Pt) p.objs.size (Fz M) b=H b:=λn=>by rw[Zd n.2.2,Zd n.2.1,Zd n.1]
  have aC:mJ (mJ (mJ H l<|.tbl<|List.toArray [.none]) w<|.frz N<|.own Pt) p.objs.size (Fz M) w=some (.frz N<|.own Pt):=by rw[Zd ncf,Zc]
  have aP:mJ (mJ (mJ H l<|.tbl<|List.toArray [.none]) w<|.frz N<|.own Pt) p.objs.size (Fz M) l=some (.tbl<|List.toArray [.none]):=by rw[Zd npf,Zd npc,Zc]
  refine h p.objs.size (mJ (mJ (mJ H l<|.tbl<|List.toArray [.none]) w<|.frz N<|.own Pt) p.objs.size<|Fz M) _ (I.step (g':=s.gens) (d':=s.drawn) (ch:=[]) (λ_ y=>nomatch y) (λb o _ _ _ e n=>kp b o (nP b n) e) (λb o _ _ _ e n=>#[o.slots,kp b o (nP b n) e]) (λb o _ e n=>by rw[i (old b o e)];show n) (λb o _ e=>?_)
   (λb xs e=>by rw[i (g _ _ e)];show e) (λb o u e=>by rw[i (g _ _ e)];show e) (λb x e=>#[#[],by rw[i (g _ _ e),e];simp]) (λm hm=>?_) (λb u e=>?_) I.bare)
   (λb o e=>by rw[i (g _ _ e)];show e) E #[_,D,w,N,vs,tt,l,by rw[Zc,E4],aC,hd,hv,aP,hco]
  ·by_cases x:b=Pt
   ·show#[_,by rw[x];show nQ _ htb]
   ·show#[o,kp b o x e]
  ·obtain⟨o,es,ep,e,r⟩:=hm;show#[o,es,ep,kp _ o (nP _ I.free) e,r]
  ·by_cases h1:b=p.objs.size
   ·subst h1;rw[Zc]at e;cases e;have:=oQ p A3;show#[this,this,_,this]
   by_cases h2:b=w
   ·subst h2;rw[aC]at e;cases e;show#[nQ _ G,_,nQ _ G]
   by_cases h0:b=l
   ·subst h0;rw[aP]at e;cases e;show#[#[],nQ _ O9,.inl #[rfl,trivial]]
   rw[i #[h0,h2,h1]]at e
   by_cases h3:b=Pt
   ·subst h3;rw[hH]at e;cases e;refine#[_,nQ _ htb,.inr #[Y,fs++[(L.line,L.col,X.env.qual++"<lambda>",w)],rfl,nd,by rw[Zw8],λf hf=>?_]];rcases oj.mp hf with y|y
    ·obtain⟨z1,x,r,q,P1,f1,f2,f3,f4,f5⟩:=hfs f y;show#[z1,x,r,q,P1,by rw[i (g _ _ f1)];show f1,f2,f3,by rw[i (g _ _ f4)];show f4,f5]
    ·rw[oP.mp y];show#[J8,N,vs,tt,l,aC,hd,hv,aP,hco]
   ·refine(I.hok b u e).stay (λd v hd q=>kp d v ?_ q) (λd q=>by rw[i (g _ _ q)];show q) (λd xs q=>by rw[i (g _ _ q)];show q) (λd o q=>by rw[i (g _ _ q)];show q) (λd o q=>by rw[i (g _ _ q)];show q);rcases hd with y|y
    ·rw[y];show h3
    ·show λx=>by rw[x,hH]at y;cases y
 | some G =>
  obtain⟨f,hf,rfl,r,q⟩:=Nq J;obtain⟨z1,N,vs,tt,l,f1,f2,f3,f4,f5⟩:=hfs f hf;obtain⟨fl,i,g,w⟩:=f;have r:fl=L.line:=r;have q:i=L.col:=q;subst r q;have eq:g=X.env.qual++"<lambda>":=Sm nd z1 J8;subst eq;refine PySem.W.kla_makeFunctionHit (ps:=rF fs) (cv:=.ref w) y7 I.ok.glob hg K7 CH hT (Hu fs) J hB λD p tk U x=>?_
  ·have E:H p.objs.size=none:=I.hok.fresh x;have:=oQ p (o:=PySem.W.kla_obj "<lambda>" (X.env.qual++"<lambda>") A lb ls j ((X.mg "__name__").getD .none) w D) rfl;show h _ _ _ (I.laid (a:=p.objs.size) (o:=Fz<|PySem.W.kla_obj "<lambda>" (X.env.qual++"<lambda>") A lb ls j ((X.mg "__name__").getD .none) w D) (t':=tk) (λb u e=>nQ _<|U b u e) x #[this,this,_,this]) (mC.new E) E
    #[_,D,w,N,vs,tt,l,Zc,by rw[Zd (Ze f1 E)];show f1,f2,f3,by rw[Zd (Ze f4 E)];show f4,f5]
end
open Classical in
def qX(z:lQ (lR×lS))(H:Hp)(h:lY):Hp:=λb=>if ∃x,z.lookup x=some b then(h.get? b).map Fz else H b
section
variable {c7:lQ (lS×Obj)} {σ:St} {H:Hp} {s:lU} {Q:VK}
def Xh(I:mI X c7 σ H s)(e:H b=some o):qX X.env.cells H s.heap b=some o:=by
 unfold qX;rw[mT]
 ·show e
 ·rintro⟨x,z⟩;rw[I.freeC x b z]at e;cases e
def zg(n:∀x,X.env.cells.lookup x≠some b):qX X.env.cells H s.heap b=H b:=by
 unfold qX;rw[mT];rintro⟨x,z⟩;show n x z
def Iv(I:mI X c7 σ H s){i:Nat}{x:lR}{v:V}{c:lS}(q:X.N[i]? =some x)(p:σ[i]? =some (some v))(y:X.env.scope.names.lookup x=some .cell)(z:X.env.cells.lookup x=some c):H c=none/\CellAt (qX X.env.cells H s.heap) c v:=by
 obtain⟨m,h,n⟩:=I.loc;obtain⟨u,r,l⟩:=n i x v q p<|.inr<|.inl y;refine#[I.freeC x c z,?_];rcases l with⟨k,_⟩|⟨_,h,w,o,j,hd⟩
 ·have k:X.env.scope.names.lookup x=some .local:=k;rw[y]at k;cases k
 ·rw[z]at w;cases w;refine#[o,u,?_,hd,r];unfold qX;rw[mU #[x,z],j]
  rfl
def mI.shut(I:mI X c7 σ H s)(p:X.ex=[])(i:∀x,X.fn x=true)(h:Yd v u)(q:Q v (qX X.env.cells H s.heap)):CE X.mB X.prog X.w X.mj X.mh Q u s:=by
 have J:=I.mD;have g:∀b o,X.mh.heap.get? b=some o->∀x,X.env.cells.lookup x≠some b:=λb o e x z=>absurd (pK (nO e)<|I.ok.cab x b (i x) z)<|qL _
 refine#[v,qX X.env.cells H s.heap,I.os,I.bare,#[λb o y r w _=>J.keep b o y r w (by rw[p];simp),λb o y r w _=>J.slot b o y r w (by rw[p];simp),λb o y r _=>?_,λb o y _=>J.there b o y (by rw[p];simp),λb l e=>Xh I<|J.tups b l e,λb o x e=>Xh I<|J.frzs b o x e,λb d e=>?_],λb o e=>?_,h,q]
 ·rw[zg (g b o y)];show J.free b o y r (by rw[p];simp)
 ·obtain⟨m,z⟩:=J.tbls b d e;show#[m,Xh I z]
 ·by_cases j:∃x,X.env.cells.lookup x=some b
  ·obtain⟨x,z⟩:=j;obtain⟨w,c,n,hd⟩:=I.cell x b z;unfold qX at e;rw[mU #[x,z],n]at e;cases e;show#[n,n,_,n]
  ·have w:=e;rw[zg λx z=>j #[x,z]]at w;show(I.hok b o w).stay (λ_ _ _ q=>q) (λc q=>Xh I q) (λc l q=>Xh I q) (λc o q=>Xh I q) (λc o q=>Xh I q)
end
def Yj8(X:Cx)(Pt:lS)(Q:VK)(s:Arguments)(q:ma)(r:Scope)(p:Pos)(z:St)(H:Hp):Prop :=
 defaultsOf s X.env=([],[])/\H Pt=some (.tbl<|sI p<|X.env.qual++"<lambda>")/\∃y,closureFor r X.env=pure y/\
 ∀u w,mC H w->H u=none->Clo w Pt u (X.env.qual++"<lambda>") s q r y->(∀(i:Nat)(x:lR)(v:V)(c:lS),X.N[i]? =some x->z[i]? =some (some v)->X.env.scope.names.lookup x=some .cell->X.env.cells.lookup x=some c->H c=none/\CellAt w c v)->Q (.ref u) w
inductive uG(X:Cx)(Pt:Addr)(Q:VK):List Stmt->St->Hp->Prop
 | last {la lb ls lp rp σ H Zs}:Yj8 X Pt Q la lb ls lp σ H->uG X Pt Q (.Return (some<|.Lambda la lb ls lp) rp ::Zs) σ H
 | step {st Zs σ H} (M:St->Hp->Prop):WS X st {nx:=M,rt:=λ_ _=>False} σ H->(∀σ' H',M σ' H'->uG X Pt Q Zs σ' H')->uG X Pt Q (st ::Zs) σ H
def UJ{X:Cx}{Pt c:lS}{Q:VK}(g:X.env.code=.ref c)(C:PySem.W.CodeHd X.mD c Pt){b:lQ lX}{z:St}{H:Hp}(m:uG X Pt Q b z H):∀{s:lU},mI X [] z H s->
  ∅ (execs b X.env) (λf s'=>∃r w H',f=.ret (.ref r)/\mI X [] w H' s'/\Q (.ref r) (qX X.env.cells H' s'.heap)) X.xe s:=by
 induction m with
 | last h =>
  intro s I;obtain⟨y,d,x,a,k⟩:=h;refine CO<|wpAny_Return_some<|KL I y g C d (List.mem_singleton_self _) a λr H' s' u q Y U=>?_;refine#[r,_,H',rfl,u,k r _ (q.trans λb o e=>Xh u e) Y (U.mono λb o e=>Xh u e) λi x v c p n l j=>#[q.free (Iv u p n l j).1,(Iv u p n l j).2]]
 | step M h _ x =>
  intro s I;refine CO<|mZ (h.run [] s I) λf p q=>?_;cases f with
  | next =>
   obtain⟨w,H',u,q⟩:=q;show x w H' q u
  | ret v=>obtain⟨_,_,_,_,_,y⟩:=q;show y.elim
  | brk=>obtain⟨_,_,_,y⟩:=q;show y.elim
  | cont=>obtain⟨_,_,_,y⟩:=q;show y.elim
def vn(K:lW)(fd:mf)(Pt:lS):Prop:=∃c,fd.code=.ref c/\PySem.W.codeHdIn K c Pt=true
section
variable {P:md} {w:lZ} {K:lW} {mg:lR->lV lT} {mD:lY}
def qT.okM{x qual:lR}{st:lX}{f Pt:lS}{fd:mf}{N ps:lQ lR}{k:Nat}{i:Sp}(F:qT K x qual st f fd)(L:vn K fd Pt)(S:Zw N ps (Zj st))(len:∀vs H Q E,i vs H Q E->vs.length=ps.length)
  (G:∀(j:lT)(A:me)(p:lQ Env)(s:lU)(H:Hp)(vs:lQ V)(Q:VK)(E:XK),Y4 k (A.deeper<|envOfC qual (Zj st) #v[s] f j)->i vs H Q E->
   uG (oS oN P w K mg mD N qual (Zj st) f j A p s H E).nox Pt Q (Y7 st) (start N vs) H):Xs P w K mg mD oN (k+1) f fd ps i:=by
 obtain⟨oc,od,kV,A6,pm,an,j,ct,O0,rfl,lk,D⟩:=F.ex;obtain⟨c,h,C⟩:=L;have h:j=.ref c:=h;subst h;refine#[len,λA p s H args B vs Q E g l hb r Y=>?_];have hl:=len _ _ _ _ Y;have KX:K.In s.heap:=l.mod.kin.keeps λb o e=>(l.bs b o e).1
 have d:s.heap.NoLimit:=l.mod.nolimit.keeps λb o e=>(l.bs b o e).1
 have u:∀y∈ps.zip B,(Zj st).names.lookup y.1=some .local\/((Zj st).names.lookup y.1=some .cell/\((cellsFrom (#v[s]+1) (Zj st).names []).lookup y.1).isSome=true):=λ⟨n,v⟩ hy=>by
  rcases S.par n (uV hy).1 with q|q
  ·show .inl q
  ·show .inr #[q,HU _ _ _<|.inl q]
 refine codeAny_call_function g.depth (KX _ _ lk) rfl S.co S.gen rfl (Rv KX D)<|hb _ _ _ _ ?_;refine JO S.kind u λenv he U x=>?_
 subst he;refine#[d.keeps x.toInCall.keep,codeAny_func ?_];have z:mI (oS oN P w K mg mD N qual (Zj st) f (.ref c) A p s H E) [] (start N vs) H U:=ME S g.hd l hl r x;have I:mI (oS oN P w K mg mD N qual (Zj st) f (.ref c) A p s H E).nox [] (start N vs) H U:=#[#[z.ok.mod,z.ok.kind,z.ok.glob,z.ok.blt,z.ok.above,z.ok.inj,z.ok.has,z.ok.cab,z.ok.hd,z.ok.frames,z.ok.stk,z.ok.exf,z.ok.bs,z.ok.bsz,z.ok.noex,z.ok.exfs,z.ok.funs,z.ok.frf],z.os,z.bare,z.mD,z.loc,z.cell,z.free,z.freeC,z.pin,z.hok,z.len]
 refine pX (UJ (c:=c) rfl (FE l.mod.kin C) (G (.ref c) A p s H vs Q E (g.deeper _) Y) I) (λfl M a=>?_) λe M a=>a.elim
 obtain⟨v,σ',H',rfl,J,q⟩:=a;change CE p P w H s Q (.ref v) M;show J.shut (v:=.ref v) rfl (λ_=>rfl) rfl q
end
def Iy(P:md)(w:lZ)(K:lW)(x:lR->lV lT)(mD:lY)(k:Nat)(f:lS)(H:Hp)(vs:lQ V)(Q:VK):Prop :=
 ∀(A:me)(z:lQ Env)(s:lU)(y:lQ lT),Y4 k A->sZ P w K x mD A z s H->Z7 vs y->codeAny (model P w) A (.call (.ref f) #[y,[]]) (CR oN z P w H s Q E0) s
def wa(H:Hp)(f:lS):Prop:=∃z y x w u,H f=some (.frz #[z,y,.func x,w] u)
def wa.at(I:mI X q z H s)(h:wa H f):PySem.W.FnAt f s.heap:=by
 obtain⟨y,x,w,r,u,e⟩:=h;show#[y,x,w,r,(I.hok f _ e).1]
def Clo.fn(h:Clo H Pt y q w u s z):wa H y:=by
 obtain⟨r,p,c,o,n,l,_,x,_⟩:=h;show#[_,_,_,_,_,x]
def Ye5(P:md)(w:lZ)(K:lW)(s:lR->lV lT)(mD:lY)(k:Nat)(r:TE)(t:TA):TE:=λz H Q=>r z H λx y=>∃f,x=.ref f/\wa y f/\t z y λq u=>wa u f/\Iy P w K s mD k f u q Q
def NU(j:Y4 k X.A)(i:PE X (.Name x p) g)(d:PA X (e ::q) t)
  (he:starEach (e ::q) X.env=(false,eval e X.env) ::starEach q X.env:=by rfl) (c:(backTo pos<|starEach q X.env).any (·.1)=false:=by rfl):PE X (.Call (.Name x p) (e ::q) [] pos) (Ye5 X.prog X.w X.K X.mg X.mD k g t):=by
 intro n s z H Q I h;refine vB<|mZ (i n s z H _ I h) λu a Y=>?_;obtain⟨y,U,l,N,f,M,L,J⟩:=Y;subst M;obtain rfl:u=Value.ref f:=N;refine PySem.W.callWith_F (L.at l) (mZ (d pos n a z U _ l J) λG E ⟨C,B,o,r,y,D⟩=>#[y.at o,?_]) he c;refine ux<|ve (D X.A X.stack E G j o.env0 r) λr y w=>?_;cases r with
 | error e=>show False.elim w
 | ok y =>
  cases y with
  | ret u=>show o.after w
  | next=>show False.elim w
  | brk=>show False.elim w
  | cont=>show False.elim w
def DC(P:md)(w:lZ)(K:lW)(mg:lR->lV lT)(mD:lY)(N:lQ lR)(q:lR)(scope:Scope)(f:lS)(y:lT)(z:lQ (lR×lS))(A:me)(mB:lQ Env)(s:lU)(H:Hp):Cx where
 prog:=P
 w:=w
 K:=K
 mg:=mg
 mD:=mD
 A:=A.deeper (PySem.W.envX q scope #v[s] f y z)
 N:=N
 mh:=s
 mj:=H
 env:=PySem.W.envX q scope #v[s] f y z
 mB:=mB
 stack:=PySem.W.envX q scope #v[s] f y z ::mB
 ex:=[]
 calm:=true
 fn:=λ_=>false
 pn:=[]
 xe:=λ_ _=>False
def offL(H:Hp)(z:lQ (lR×lS)):Hp:=λb=>if b∈z.map snd then none else H b
def ug(h:b∉z.map snd):offL H z b=H b:=mT h
def zE(h:b∈z.map snd):offL H z b=none:=mU h
theorem Ls:∀{l:lQ (lR×lS)}{x y:lR}{a:lS},(l.map snd).Nodup->(x,a)∈l->(y,a)∈l->x=y
 | [],_,_,_,_,h,_=>by cases h
 | p ::r,x,y,a,u,o,s=>by
  have u:(p.2 ::r.map snd).Nodup:=u;obtain⟨q,n⟩:=pS.mp u;rcases nU.mp o with w|w
  ·rcases nU.mp s with z|z
   ·rw[<-w]at z;cases z;rfl
   ·show absurd (mX.mpr #[_,z,by rw[<-w]]) q
  ·rcases nU.mp s with z|z
   ·show absurd (mX.mpr #[_,w,by rw[<-z]]) q
   ·show Ls n w z
def BM:HO->Prop
 | .frz _ _=>False
 | _=>True
structure rG(H:Hp)(ls:Scope)(clos:List (Str×Addr))(fs:List Str)(fvs:List V):Prop where
 cells:Paired (λx v=>ls.names.lookup x=some .free/\∃c,clos.lookup x=some c/\CellAt H c v) fs fvs
 all:∀p∈clos,p.1∈fs
 one:(clos.map fst).Nodup
 apart:(clos.map snd).Nodup
theorem Cy{z:Type}:∀{l:lQ (lR×z)}{p:lR×z},(l.map fst).Nodup->p∈l->l.lookup p.1=some p.2
 | [],_,_,h=>by cases h
 | q ::r,p,x,h=>by
  have x:(q.1 ::r.map fst).Nodup:=x;obtain⟨w,u⟩:=pS.mp x;rw[pI];rcases nU.mp h with e|e
  ·rw[e,we]
  ·have:(p.1 ==q.1)=false:=by rw[qt];show λy=>w<|mX.mpr #[p,e,y]
   rw[this];show Cy u e
def rG.cell(L:rG H s z fs fvs)(y:p∈z):∃v,CellAt H p.2 v:=by
 obtain⟨i,w,e⟩:=AO<|L.all p y;obtain⟨v,_,_,c,x,u⟩:=Paired.get L.cells (i:=i) (a:=p.1) (by rw[oy w,e]);rw[Cy L.one y]at x;cases x;show#[v,u]
def rG.soft(L:rG H s y fs fvs)(h:H b=some o)(n:BM o):offL H y b=some o:=by
 rw[ug]
 ·show h
 ·intro z;obtain⟨p,w,e⟩:=mX.mp z;obtain⟨v,r,u,x,_⟩:=L.cell w;rw[e,h]at x;cases x;show n
def Tn :mC (offL H y) H:=λb o e=>by
 by_cases z:b∈y.map snd
 ·rw[zE z]at e;cases e
 ·rw[ug z]at e;show e
open Classical in
def rc(H H':Hp)(z:lQ (lR×lS)):Hp:=λb=>if b∈z.map snd then H b else H' b
section
variable {P:md} {w:lZ} {K:lW} {mg:lR->lV lT} {mD:lY}
def rG.isC(L:rG H q y fs fvs)(z:b∈y.map snd):∃o u,H b=some (Fz o)/\o.data=.cell (some u):=by
 obtain⟨p,x,e⟩:=mX.mp z;obtain⟨v,o,u,s,r,_⟩:=L.cell x;show#[o,u,e ▸ s,r]
def za(n:H b=none):offL H y b=none:=by
 by_cases z:b∈y.map snd
 ·show zE z
 ·rw[ug z];show n
def QF(L:rG H Q r fs fvs)(i:sZ P w K mg mD A c s H)(q:Un (oF c) [] (offL H r) H' s.heap h')(h:oq P w H' h'):Un (oF c) [] H (rc H H' r) s.heap h'/\oq P w (rc H H' r) h'/\mC H' (rc H H' r):=by
 have p:∀{b:lS},b∈r.map snd->H' b=none:=λ{b} z=>by
  obtain⟨o,u,l,_⟩:=L.isC z;show q.free b _ (i.hok b _ l).1 (zE z) (by simp)
 have bk:∀{b:lS}{o:HO},H' b=some o->rc H H' r b=some o:=λ{b o} e=>by
  unfold rc;rw[mT λz=>by rw[p z]at e;cases e];show e
 refine#[#[λb o j n y _=>q.keep b o j (za n) y (by simp),λb o j n y _=>q.slot b o j (za n) y (by simp),λb o j n _=>?_,λb o j _=>q.there b o j (by simp),λb a e=>bk<|q.tups b a<|L.soft e trivial,λb g x e=>?_,λb Y e=>?_],λb o e=>?_,λb o e=>bk e]
 ·unfold rc;rw[mT λz=>by obtain⟨o,U,l,_⟩:=L.isC z;rw[n]at l;cases l];show q.free b o j (za n) (by simp)
 ·by_cases z:b∈r.map snd
  ·unfold rc;rw[mU z];show e
  ·show bk (q.frzs b g x (by rw[ug z];show e))
 ·obtain⟨m,z⟩:=q.tbls b Y<|L.soft e trivial;show#[m,bk z]
 ·by_cases z:b∈r.map snd
  ·unfold rc at e;rw[mU z]at e;obtain⟨d,U,l,N⟩:=L.isC z;rw[e]at l;cases l;have u:=q.keep b d (i.hok b _ e).1 (zE z) (λy=>by rw[i.frf b y]at e;cases e) (by simp);show#[u,u,_,u]
  ·have u:=e;unfold rc at u;rw[mT z]at u;show(h b o u).stay (λ_ _ _ y=>y) (λd y=>bk y) (λd a y=>bk y) (λd g y=>bk y) (λd g y=>bk y)
def IN{gs:lQ lR}{gvs:lQ V}{us:lQ lT}{CX:uJ}{xe:lS->lT->lU->Prop}(C:Clo H Pt g q la lb n r)(L:rG H n r fs fvs)
  (hb:∀pm d6 B5:lT,bindArgs (PySem.W.kla_fn "<lambda>" q la lb n r pm d6 B5) #[us,[]]=pure (gs.zip us)) (hg:∀y∈gs.zip us,n.names.lookup y.1=some .local) (M:gvs.length=gs.length)
  (hgv:∀(i:Nat) y v,gs[i]? =some y->gvs[i]? =some v->∃u,Yd v u/\n.names.lookup y=some .local/\(gs.zip us).reverse.lookup y=some u)
  (A3:∀y∈n.names,y.2=.free->y.1∈fs) (G:∀y∈n.names,y.2≠.cell)
  (hk:n.kind=.function) (hco:n.isCoroutine=false) (S1:n.isGenerator=false) (hr:Y4 (k+1) A) (l:sZ P w K mg mD A N s H)
  (body:∀c:lS,Y4 k (A.deeper<|PySem.W.envX q n #v[s] g (.ref c) r)->WE {DC P w K mg mD (gs++fs) q n g (.ref c) r A N s (offL H r)with xe:=xe c} lb (gvs.map some++fvs.map some) (offL H r) Q')
  (ok:∀v H',Q' v H'->mC H' (rc H H' r)->Q v (rc H H' r))
  (bad:∀c e s',xe c e s'->wpAny (model P w) (A.deeper<|PySem.W.envX q n #v[s] g (.ref c) r) (leaving (PySem.W.envX q n #v[s] g (.ref c) r) e) (λ_ T3=>CX N H s E e T3) (λe' T3=>CX N H s E e' T3) s') :
  codeAny (model P w) A (.call (.ref g) #[us,[]]) (CR CX N P w H s Q E) s:=by
 obtain⟨pm,B5,c,oc,vs,tt,p,j,Y,h3,h4,_⟩:=C;have o1:s.heap.get? g=some (PySem.W.kla_obj "<lambda>" q la lb n r pm c B5):=(l.hok g _ j).1;have o2:s.heap.get? c=some oc:=(l.hok c _ Y).1;have lim:s.heap.NoLimit:=l.mod.nolimit.keeps λb o e=>(l.bs b o e).1
 refine PySem.W.kla_callFunE hr.depth o1 rfl hco S1 rfl #[c,oc,vs,tt,rfl,o2,h3,h4] ?_;rw[hb];refine nG<|wpAny_newFunctionEnv G hg (λU F9 D=>#[lim.fresh _ D,?_]) hk;change codeAny _ _ (.expr lb<|PySem.W.envX q n #v[s] g (.ref c) r) _ _;have mq:∀b o,s.heap.get? b=some o->U.get? b=some o:=λb o e=>D.extBut b o (oi<|nO e)<|nQ _ e
 have B:∀{x:lR}{a:lS},r.lookup x=some a->a∈r.map snd:=λh=>mX.mpr #[_,rS h,rfl]
 have hok0:oq P w (offL H r) s.heap:=λb o e=>by
  refine(l.hok b o<|Tn b o e).stay (λ_ _ _ z=>z) (λd z=>L.soft z trivial) (λd p z=>L.soft z trivial) (λd p z=>?_) (λd p z=>L.soft z trivial);rw[ug]
  ·show z
  ·intro y;obtain⟨o3,u3,p,_⟩:=L.isC y;rw[z]at p;cases p
 have nA:∀b:lS,b∉([]:lQ lS):=λb z=>nomatch z
 have I:mI {DC P w K mg mD (gs++fs) q n g (.ref c) r A N s (offL H r)with xe:=xe c} [] (gvs.map some++fvs.map some) (offL H r) {s with heap:=U,toks:=s.toks+(gs.zip us).length}:=by
  refine#[#[l.mod,hk,rfl,rfl,nk _,λy z a j Y=>Ls L.apart (rS j)<|rS Y,λy hy=>?_,λy a z _=>(oU z).elim,λ_=>hr.hd,Around.frames_deeper l.frames,.inr #[rfl,rfl],λb z=>absurd z<|nA b,λb o e=>#[(l.bs b o e).1,za (l.bs b o e).2],l.bsz,λb _ _=>nA b,λb z=>absurd z<|nA b,l.funs,λb z=>za<|l.frf b z],
   rfl,l.bare,Un.kept mq,#[_,F9,λi y v j Y h3=>?_],λy a z=>?_,za<|l.hok.fresh<|nk _,λy a z=>zE<|B z,(λp hp=>nomatch hp),hok0.kept mq,?_]
  ·rcases(show n.names.lookup y=some .cell\/n.names.lookup y=some .free from hy)with hy|hy
   ·show absurd rfl<|G _<|rS hy
   ·obtain⟨i,hi,e⟩:=AO<|A3 _ (rS hy) rfl;obtain⟨v,_,_,a,z1,_⟩:=Paired.get L.cells (i:=i) (a:=y) (by rw[oy hi,e]);show#[a,z1]
  ·have j:(gs++fs)[i]? =some y:=j;have Y:(gvs.map some++fvs.map some)[i]? =some (some v):=Y;rw[<-nj,nJ]at Y;obtain⟨v',p,h6⟩:=nR.mp Y;cases h6
   by_cases hi:i<gs.length
   ·rw[AT hi]at j;rw[AT (by lia)]at p;obtain⟨u,a,b,c⟩:=hgv i y v j p;show#[u,a,.inl #[b,c]]
   ·rw[yM (by lia)]at j;rw[yM (by lia),M]at p;obtain⟨v2,z0,z1,a,z2,o,uu,z3,z4,z5⟩:=Paired.get L.cells j;rw[p]at z0;cases z0;show#[uu,z5,.inr #[.inr z1,a,z2,o,mq _ _ (l.hok a _ z3).1,z4]]
  ·obtain⟨o,uu,z1,z2⟩:=L.isC<|B z;show#[_,o,mq _ _ (l.hok a _ z1).1,z2]
  ·change(gvs.map some++fvs.map some).length=(gs++fs).length;rw[nX,nX,mK,mK,M,nH L.cells]
 refine PySem.W.kla_codeExpr<|pX ((body c<|hr.deeper _).run [] _ I) (λv s' hs=>?_) λe s' hs=>bad c e s' hs;obtain⟨v',H',J,J5,qq⟩:=hs;obtain⟨un,k,sm⟩:=QF L l (show Un (oF N) [] (offL H r) H' s.heap s'.heap from J.mD) J.hok;show#[v',_,J.os,J.bare,un,k,J5,ok _ _ qq sm]
def BZ(C:Clo H Pt n q I Y r x)(L:rG H r x fs fvs)
  (G:∀(E p D u:lT),bindArgs (PySem.W.kla_fn "<lambda>" q I Y r x E p D) #[[u],[]]=pure [(g,u)]) (U:r.names.lookup g=some .local) (B:g∉fs) (A3:∀y∈r.names,y.2=.free->y.1∈fs) (l:∀y∈r.names,y.2≠.cell)
  (hk:r.kind=.function) (j:r.isCoroutine=false) (S1:r.isGenerator=false)
  (body:∀(p:lT)(A:me)(h:lQ Env)(s:lU),Y4 k (A.deeper<|PySem.W.envX q r #v[s] n p x)->
   WE (DC P w K mg mD (g ::fs) q r n p x A h s<|offL H x) Y (some N ::fvs.map some) (offL H x) (λv H'=>mC (offL H x) H'/\∀d,mC H' d->mC H d->Q v d)):Iy P w K mg mD (k+1) n H [N] Q:=by
 intro A h s us hr e0 rv;obtain⟨u,rfl,ru⟩:=W5 rv;refine IN (gs:=[g]) (gvs:=[N]) (xe:=λ_ _ _=>False) C L (λa b c=>G a b c u) (λy hy=>?_) rfl (λi y v M h2=>?_) A3 l hk j S1 hr e0 (λc=>body (.ref c) A h s) (λv H' z J=>z.2 _ J λb o e=>?_) λ_ _ _ z=>z.elim
 ·obtain rfl:y=(g,u):=oP.mp hy;show U
 ·cases i with
  | zero =>
   cases M;cases h2;show#[u,ru,U,by simp]
  | succ i=>cases M
 ·by_cases y:b∈x.map snd
  ·unfold rc;rw[mU y];show e
  ·show J.at (z.1.at (by rw[ug y];show e))
end
def pc(s:lX):ma:=match(Y7 s).getLast? with
 | some (.Return (some e) _)=>e
 | _=>.Constant .none 0 #[0,0,0,0]
def Bc:ma->Arguments
 | .Lambda a _ _ _=>a
 | _=>{posonlyargs:=[],args:=[],vararg:=none,kwonlyargs:=[],kw_defaults:=[],kwarg:=none,defaults:=[]}
def zp:ma->ma
 | .Lambda _ b _ _=>b
 | e=>e
def vz:ma->Scope
 | .Lambda _ _ s _=>s
 | _=>{kind:=.function,names:=[],isGenerator:=false,isCoroutine:=false}
def tI:ma->Pos
 | .Lambda _ _ _ p=>p
 | _=>#[0,0,0,0]
structure Bu(K:Frag)(h:Heap)(tabs:List (Addr×Array Value)):Prop where
 cod:∀p∈tabs,∃c,PySem.W.codeHdIn K c p.1=true
 emp:∀p∈tabs,h.get? p.1=some (PySem.W.tabObj #[])
 shape:∀p∈tabs,∃ls,p.2=Wk ls/\(ls.map λp=>(p.1,p.2.1)).Nodup
 nd:(tabs.map fst).Nodup
 nt:PySem.W.noTabs K=true
inductive yd(K:lW)(tabs:lQ (lS×Array lT)):Sp
 | mk (a) (ns:lQ Int):vs=[.ref a]->SqL K H a (ns.map V.int)->ns.length<=63->(∀p∈tabs,H p.1=some (.tbl p.2))->(∀H',Q (.bl true) H')->yd K tabs vs H Q E
theorem FM{z:Type}:∀{l:lQ (lS×z)}{p:lS×z},(l.map fst).Nodup->p∈l->l.lookup p.1=some p.2
 | [],_,_,h=>by cases h
 | q ::r,p,x,h=>by
  have x:(q.1 ::r.map fst).Nodup:=x;obtain⟨w,u⟩:=pS.mp x;rw[pI];rcases nU.mp h with e|e
  ·rw[e,we]
  ·have:(p.1 ==q.1)=false:=by rw[qt];show λy=>w<|mX.mpr #[p,e,y]
   rw[this];show FM u e
theorem Cj{z:Type}:∀{l:lQ (lS×z)}{a:lS}{v:z},l.lookup a=some v->(a,v)∈l
 | [],_,_,e=>by cases e
 | (b,x) ::r,a,v,e=>by
  rw[pI]at e;cases y:a ==b with
  | true=>rw[y]at e;cases e;rw[eq_of_beq y];show .head _
  | false=>rw[y]at e;show .tail _<|Cj e
def Yh3(K:lW):lQ V->Hp->VK->Prop:=λz H Q=>∃e C c b,z=[.ref e,c]/\H e=some (qC e C none)/\XG K C/\((∃n,c=.ty n/\kitOne K (.ref C) (.type n)=some b)\/(∃a,c=.ref a/\kitOne K (.ref C) (.ref a)=some b))/\Q (.bl b) H
def Zxa:Xe X (.builtin "isinstance") (Yh3 X.K):=by
 intro d s z H Y U Q I r h;obtain⟨e,C,c,b,rfl,he,g,k,q⟩:=h;obtain⟨u,c,rfl,n,p⟩:=wp r;obtain rfl:u=Value.ref e:=n;obtain⟨o,c,l,j,i,x⟩:=qC.at I.hok he;have J:PySem.W.InstAt s.heap e o C none:=#[l,j,by unfold PySem.W.notCls;rw[x],by rw[i];trivial]
 have Z:PySem.W.KitX X.K (.ref e) (.ref C) (λh=>PySem.W.InstAt h e o C none):=IL g.xa g.hc g.cl g.cg g.ct g.ob;rcases k with⟨c,rfl,k⟩|⟨a,rfl,k⟩
 ·cases p;show rA Z I.kIn J k (λy=>nomatch y) λw=>#[.bl b,H,I.tok w,rfl,q]
 ·cases p;show rA Z I.kIn J k (λy=>nomatch y) λw=>#[.bl b,H,I.tok w,rfl,q]
def UX:V->lQ V->Hp->VK->Prop:=λx z H Q=>∃(l:lS)(bs:lQ Bool)(b:Bool),x=.ref l/\z=[.bl b]/\H l=some (.lst<|bs.map V.bl)/\Q (.int (bs.countP (λc=>c ==b):Nat)) H
theorem Fq:∀{bs:lQ Bool}{us:lQ lT},Z7 (bs.map V.bl) us->us=bs.map Value.bool
 | [],_,.nil=>rfl
 | b ::bs,_,.cons r t=>by
  rw[Fq t];cases r
  rfl
def zG(b:Bool):lT->Bool
 | .bool c=>c ==b
 | _=>false
def ZM:AL X "list.count" UX:=by
 intro d s z H x a v Y Q I o j h;obtain⟨l,bs,b,rfl,rfl,i,q⟩:=h;cases o;obtain⟨u,rfl,g⟩:=j.one;cases g;obtain⟨y,u,n,r,U,e⟩:=I.lstM i;obtain rfl:=Fq r;refine xV F.slot_list_count #[_,e,rfl] F.entry_list_count (F.args_list_count_2 _ _) (SeqAt.list_countAt l _ n _ _ (.bool b)<|zG b) #[e,λw p=>?_,?_]
 ·have p:w∈bs.map Value.bool:=by simpa using p
  obtain⟨c,_,rfl⟩:=mX.mp p;show Il c b
 ·refine#[.int _,H,I.tok _,#[_,rfl],?_];have:List.countP (zG b) (bs.map Value.bool).toArray.toList=bs.countP (λc=>c ==b):=by
   rw[List.toList_toArray,List.countP_map]
   rfl
  rw[this];show q
def EI(y:Gl X x)(h:∃z,X.mg x=some (.str v z))(hd:(x ==("__debug__":lR))=false:=by lk):PE X (.Name x pos) (tC<|.str v):=by
 obtain⟨z,h⟩:=h;show X7 y h #[z,rfl] hd
theorem Hy:∀{p:lR}{l:lQ lR},risingS p l=true->(p ::l).Pairwise (λa b=>ltCps b.cps.toList a.cps.toList=false)
 | p,[],_=>by simp
 | p,x ::r,h=>by
  rw[show risingS p (x ::r)=(!ltCps x.cps.toList p.cps.toList && risingS x r)from rfl,qu,Bool.not_eq_true']at h;have y:=Hy h.2;refine Pq.mpr #[λb s=>?_,y];rcases nU.mp s with z|z
  ·rw[z];show h.1
  ·have w:=List.rel_of_pairwise_cons y z;have u:=h.1;rw[ltCps_eq,JF]at u w ⊢;show zU.mpr<|List.le_trans (zU.mp u)<|zU.mp w
def zL(h:sortedS l=true)(h':sortedS z=true)(p:l.Perm z):l=z:=by
 have y:∀{l:lQ lR},sortedS l=true->l.Pairwise (λa b=>ltCps b.cps.toList a.cps.toList=false):=λ{l} h=>by
  cases l with
  | nil=>show .nil
  | cons x r=>show Hy h
 refine p.eq_of_pairwise (λa b _ _ w u=>?_) (y h)<|y h';rw[ltCps_eq,JF]at w u;have e:=List.le_antisymm (zU.mp w)<|zU.mp u;cases a;cases b;simpa using Array.toList_inj.mp e
end L2
end
section
namespace L2
open PySem PyProof.Rows
theorem PK{E:lT->lU->Prop}(j:A.handled=none)(h:l≠it):∀(n i:Nat)(s:lU)(Q:lQ lT->lU->Prop),(s.heap.IsListIter it l i/\s.heap.IsList l z)->i+n<=z.size->
  (∀h' c,(h'.IsListIter it l (i+n)/\h'.IsList l z)->(∀b o,b∉[it]->s.heap.get? b=some o->h'.get? b=some o)->Q ((z.toList.drop i).take n) {s with heap:=h',toks:=c})->wpAny (model P w) A (draw (.ref it) n) Q E s
 | 0,i,s,Q,x,_,u=>by
  change wpAny _ _ (pure []) Q E s;show nG (by simpa using u s.heap s.toks x λ_ _ _ e=>e)
 | n+1,i,s,Q,x,L,u=>by
  have r:i<z.size:=by lia
  change wpAny _ _ (pyNext (.ref it)>>=_) Q E s;refine mS<|(Du (prog:=P) (w:=w) j it l h z).item i s _ _ r x λv J a g Y q=>?_;refine mS<|qW<|PK j h n (i+1) _ _ Y (by lia) λU p y N=>nG ?_;have hd:z.toList.drop i=z[i] ::z.toList.drop (i+1):=by simp[yl,r]
  have M:v=z[i]:=by rw[Array.getElem?_eq_getElem r]at g;show(oK g).symm
  have:=u U p (by rw[show i+(n+1)=i+1+n by lia];show y) λb o d e=>N b o d<|q b o d e
  rw[hd,Ox,<-M]at this;show this
def TL{E:lT->lU->Prop}{u:lQ (Bool×(lT->Sem Unit))}{Q:Unit->lU->Prop}(j:A.handled=none)(r:s.heap.IsList l y)
  (c:u.length=y.size) (x:u.findIdx? (·.1)=none)
  (h:∀h' a,(∀b o,s.heap.get? b=some o->h'.get? b=some o)->wpAny (model P w) A (assignInOrder (u.map (·.2)) y.toList) Q E {s with heap:=h',toks:=a}) :
  wpAny (model P w) A (unpack (.ref l) u) Q E s:=by
 have Y:l<#v[s]:=by obtain⟨o,q,_⟩:=r;show nO q
 have U:s.TypeIs (.ref l) "list":=by obtain⟨o,q,N,_⟩:=r;show#[o,q,N]
 unfold unpack;rw[c,x];refine mS<|qW ?_;unfold unpackItems;refine mS ?_;unfold notIterableAtAll;refine mS<|wpAny_specialOf U F.slot_list_iter.lookup ?_;refine nG ?_;simp only[uc,rD];refine mS<|qW<|xU r ?_;have i:l≠#v[s]:=oi Y;refine mS<|qW<|PK j i y.size 0 _ _ #[#[_,oQ _ rfl,rfl,rfl],r.push _] (by lia) λG M g p=>?_;have L:List.take y.size (List.drop 0 y.toList)=y.toList:=by
  rw[Ec];show sK (by simp)
 rw[L];rw[mT (by simp)];rw[BP]at g;refine mS<|qW<|(Du (prog:=P) (w:=w) j #v[s] l i y).done _ _ _ g λJ n I=>?_;simp only[Option.isSome_none,uc,rD];refine nG<|h J n λb o e=>?_;have d:b∉[#v[s]]:=λz=>by
  have H:b=#v[s]:=by simpa using z
  rw[H]at e;show qL _<|nO e
 show I b o d<|p b o d<|nQ _ e
def SY(K:lW)(n:Nat)(t:xu):TG:=λv z H Q=>GT (SqL K) n H (λy=>t y z H Q) v
def Yfl(l:X.calm=true)(h:yw X y t)
  (j:(assignEach y X.env).length=n:=by rfl) (i:(assignEach y X.env).findIdx? (·.1)=none:=by rfl):PG X (.Tuple y k pos) (SY X.K n t):=by
 intro w s z H v u Q I r x;obtain@⟨a,g,d,c,x⟩:=x;cases r;obtain⟨a,q,Y,L⟩:=I.list d;rw[assign_Tuple];refine mS<|zX<|TL (I.ok.hd l) Y.isList (by simp[j,<-c,q.length]) i λU p N=>?_;have M:mI X w z H {s with heap:=U,toks:=p}:=I.kept (t':=p) λb o e=>N b o e
 show h w _ z H g _ Q M (by simpa using q) x
def zD(ns:lQ Int):Int:=ns.foldl (· + ·) 0
theorem Rq(ns:lQ Int):∀j,preSum (λi=>ns.getD i 0) j=zD (ns.take j)\/ns.length<j
 | 0=>.inl rfl
 | j+1=>by
  by_cases h:ns.length<j+1
  ·show .inr h
  ·refine .inl ?_;rcases Rq ns j with e|e
   ·have z:j<ns.length:=by lia
    rw[preSum,e,og,oy z];unfold zD;rw[zl,qo,oy z]
    rfl
   ·lia
def Zzf(d:X.calm=true):Xe X (.builtin "sum") (λxs H Q=>∃(p:lS)(ns:lQ Int),xs=[.ref p]/\SqL X.K H p (ns.map V.int)/\Q (.int<|zD ns) H):=by
 intro M s z H xs L Q I r h;obtain⟨p,ns,rfl,c,q⟩:=h;obtain⟨u,rfl,a⟩:=W5 r;cases a;obtain⟨l,j,w,y⟩:=I.list c;have g:p<#v[s]:=by obtain⟨_,_,e,_⟩:=w;show nO e
 refine call_sum_walkG<|xU w.isList ?_;refine#[#v[s],_,_,l.toArray.size,_,_,λi=>ns.getD i 0,rfl,Du (A:=X.A.in1) (show X.A.in1.handled=none from I.ok.hd d) #v[s] p (oi g) l.toArray,#[#[_,oQ _ rfl,rfl,rfl],w.isList.push _],?_,?_,λy Y U k=>?_]
 ·intro b x;have:=vD s.heap {cls:=.type "list_iterator",data:=.fields (List.toArray [.ref p,.int 0 0])};have y:b=#v[s]\/b=p:=by simpa using x
  change b<(s.heap.push _).objs.size;rw[this];rcases y with rfl|rfl
  ·show zK _
  ·show FA g
 ·intro i v u;obtain⟨x,y,o⟩:=Paired.get' j (i:=i) (b:=v) (by simpa using u);rw[nJ]at y;obtain⟨n,N,rfl⟩:=nR.mp y;obtain⟨t,rfl⟩:=o;show#[t,by change Value.int n t=Value.int (ns.getD i 0) t;rw[qo,N];rfl]
 ·have x:=j.length;rw[mK]at x;refine#[.int<|zD ns,H,?_,?_,q]
  ·refine I.kept (t':=Y) λb o e=>k b o ?_<|nQ _ e
   have:=nO e;intro y;have u:b=#v[s]:=by simpa using y
   rw[u]at this;show qL _ this
  ·refine#[U,?_];rw[oz,<-x];rcases Rq ns ns.length with e|e
   ·rw[e,oJ]
   ·lia
def rW(x:lR)(n:Nat):lR:=#[(List.replicate n x.cps).foldl (· ++ ·) #[]]
def Yiv:R2:=λx y H Q=>∃(z:lR)(n:Nat),x=.str z/\y=.int n/\z.length * n<=1000/\n<=1000/\Q (.str<|rW z n) H
def Pm:nW X (binaryOp .Mult) Yiv:=by
 intro c s z H x y v u Q I l j h;obtain⟨w,n,rfl,rfl,p,o,q⟩:=h;obtain⟨t,rfl⟩:=l;obtain⟨o,rfl⟩:=j;refine PySem.P.mul_str ?_ ?_ ?_ ?_
 ·rw[om (by lia),om<|by lia];rfl
 ·intro r i g;have:((2:Int) ^ 63-1) / (n:Int) ≥ 1000:=by
   rw[ge_iff_le,Int.le_ediv_iff_mul_le<|by lia];lia
  have o:w.length<=w.length * n:=Nat.le_mul_of_pos_right _ (by lia);lia
 ·intro r i;change decide (w.length * (n:Int).toNat >sizeLine)=false;rw[om];have:=sz (n:=w.length * n) p;rw[zC];lia
 ·by_cases g:n=0
  ·subst g;rw[mU (by lk)];show#[by lk,.str<|rW w 0,H,I.kept λb o e=>e,#[_,rfl],q]
  ·rw[mT (by lia)]
   by_cases r:((n:Int) ==1 || w.length ==0)=true
   ·rw[mU r];refine#[.str<|rW w n,H,I,#[t,?_],q];have:rW w n=w:=by
     rw[CQ,rK,rK]at r;rcases r with e|e
     ·have e:n=1:=by lia
      subst e;unfold rW;simp
     ·have e:w.cps=#[]:=Array.eq_empty_of_size_eq_zero e;have:∀m,(List.replicate m (#[]:Array Nat)).foldl (· ++ ·) #[]=#[]:=λm=>by
       induction m with
       | zero=>rfl
       | succ m d=>rw[List.replicate_succ,List.foldl_cons];simpa using d
      unfold rW;rw[e,this n];cases w;simp at e;rw[e]
    rw[this]
   ·rw[mT r,zC];refine#[?_,.str<|rW w n,H,I.kept λb o e=>e,#[_,rfl],q];show fits_reps (by change decide (_ >sizeLine)=false;rw[om];have:=sz (n:=w.length * n) p;lia)
def Yjk(K:lW)(u:TE)(ts:TO):TE:=λz H Q=>u z H λx s=>ts z s λk y=>∃a w,k=some (-1)/\x=.ref a/\SqL K y a w/\pD y (.lst w.reverse) Q
def Z7.rev(h:Z7 xs us):Z7 xs.reverse us.reverse:=by
 induction h with
 | nil=>show .nil
 | cons r _ z=>rw[BQ,BQ];show Paired.append z<|.cons r .nil
def Yfe{X:Cx}{e st:ma}{p:TE}{ts:TO}{w pos:Pos}{ops:lT->lT->lQ lT}(he:PE X e p)(g:PO X (some st) ts)(d:∀l r,subscripted (.Slice none none (some st) w) false l r=operate (ops l r) (getItem l r)):PE X (.Subscript e (.Slice none none (some st) w) pos) (Yjk X.K p ts):=by
 intro y s z H Q I h;refine Subscript_<|mZ (he y s z H _ I h) λv c ⟨x,Y,U,N,M⟩=>?_;refine wpAny_Slice ?_;rw[evalPart_none];refine nG ?_;refine nG ?_;refine mZ (g y c z Y _ U M) λn s3 L=>?_
 obtain⟨k,J,G,E,a,D,C,B,A,q⟩:=L;subst C B;cases N;have u:mI X y z J {s3 with heap:=s3.heap.push {cls:=.type "slice",data:=.fields (List.toArray [.none,.none,n])}}:=G.kept (t':=s3.toks) λb ob q=>nQ _ q
 obtain⟨x,r,j,i⟩:=u.list A;change ∅ (subscriptTail e (.Slice none none (some st) w) (.ref a)<|.ref #v[s3]) (EP X y z Q) X.xe {s3 with heap:=s3.heap.push {cls:=.type "slice",data:=.fields (List.toArray [.none,.none,n])}};refine tail_any (ops:=ops (.ref a)<|.ref #v[s3]) j.isList.typeIs Ik.lookup ?_<|d _ _;refine Qo j.isList (Heap.IsSliceOf.new ..) .none .none E (by simp) ?_ (by rw[oz,<-r.length];show i);rw[PySem.W.krv_pick];refine#[.ref _,_,u.laid (t':=s3.toks) (o:=.lst D.reverse) (λb ob q=>nQ _ q) (nk _) ?_,rfl,q.at _<|u.hok.fresh<|nk _];show#[by rw[List.length_reverse];show i,_,0,Z7.rev r,oQ _ rfl]
end L2
end
section
namespace L2
open PySem PySem.Spec PyProof.Rows
structure yp(K:Frag)(x qual:Str)(st:Stmt)(ps:List Str)(v:V) where
 f:Addr
 fd:FuncData
 dV:Value
 F:xH K x qual st dV f fd
 b:qx K fd ps []
 u:Value
 r:Yd v u
 b1:qx K fd ps [u]
def xH.okW{P:md}{w:lZ}{K:lW}{y:lR->lV lT}{mD:lY}{x qual:lR}{st:lX}{u:lT}{f:lS}{fd:mf}{N ps:lQ lR}{k:Nat}{z:Sp}(F:xH K x qual st u f fd)(S:Zw N ps (Zj st))
  (r:∀(d6:lT)(A:me)(mB:lQ Env)(s:lU)(H:Hp)(vs:lQ V)(Q:VK)(E:XK),Y4 k (A.deeper<|envOfC qual (Zj st) #v[s] f d6)->z vs H Q E->
   let X:=(oS oN P w K y mD N qual (Zj st) f d6 A mB s H E).nox;let D:pT:={nx:=λ_ H'=>Q .non H',rt:=Q};WSs X (Y7 st) D (start N vs) H) (len:∀vs H Q E,z vs H Q E->vs.length=ps.length:=by bv_omega):Xs P w K y mD oN (k+1) f fd ps z:=xH.ok F S len r
def W1(y:Gl X x)(h:∃z,X.mg x=some (.int v z))(hd:(x ==("__debug__":lR))=false:=by lk):PE X (.Name x pos) (tC<|.int v):=by
 obtain⟨z,h⟩:=h;show X7 y h #[z,rfl] hd
def xl{z:Type}{l:lQ z}{a:z}(y:l.Nodup)(h:l[i]? =some a):a∉l.take i:=λm=>by
 have e:l=l.take i++(a ::l.drop (i+1)):=by rw[<-GP h,xr]
 rw[e,qk]at y;show y.2.2 a m a ph rfl
section
variable {prog:md} {w:lZ} {KT:Type} [DecidableEq KT] {knd:HeapKind prog w KT} {A:me} {E:lT->lU->Prop} {s:lU}
def RH(c:lS)(x:(c ==sysModules)=false):MeetsIn prog w (Builtin.«dict.__len__» #[[.ref c],[]]) (λ_ R s=>∃z,s.heap.DictOfH knd c z/\R (.ok<|.ret<|.int z.length s.toks) {s with toks:=s.toks+1}) :=
 .of_wp λA R s ⟨z,u,h⟩=>by
  obtain⟨p,o,n,r,_,y,q,_,_⟩:=u;change wpAny _ _ (dictSize c >>=_) _ _ s;unfold dictSize;refine mS<|mS<|wpAny_dictEntries r y<|nG ?_;change wpAny _ _ (Builtin.Dict.pendingCount c >>=_) _ _ s;refine mS<|wpAny_pendingCount_other x<|wpAny_ret_mkInt ?_;rw[DA,size_of_entries q];show h
def Zwz{Q:lT->lU->Prop}(x:(c ==sysModules)=false)(y:s.heap.DictOfH knd c z)(u:(z.length:Int)<2 ^ 63)
  (h:Q (.int z.length<|s.toks+1) {s with toks:=s.toks+1+1}):wpAny (model prog w) A (call (.builtin "len") [.ref c]) Q E s:=by
 refine Gx kind_len plain_len entry_len (args_len1 _) ?_;unfold Builtin.«len»;refine mS (m:=oneArg "len" _)<|nG<|mS (m:=callSpecial? (.ref c)<|Str.ofString "__len__") ?_;refine wpAny_callSpecial?_slot (name:=Str.ofString "__len__") y.typeIs F.slot_dict_len<|vO F.slot_dict_len y.typeIs F.entry_dict_len (F.args_dict_len_1 _) (RH (knd:=knd) c x) #[z,y,?_];change wpAny _ _ _ _ _ {s with toks:=s.toks+1};refine mS<|qW<|nG<|mS<|wpAny_letGo ?_;change wpAny _ _ (if((z.length:Nat):Int)<0 then _ else _) _ _ _;rw[mT (by lia)];change wpAny _ _ (if((z.length:Nat):Int) ≥ 2 ^ 63 then _ else _) _ _ _;rw[mT (by lia)];show mS<|wpAny_mkInt<|nG #[_,rfl,h]
end
def Er:lQ V->Hp->VK->Prop:=λy H Q=>∃a z,y=[V.ref a]/\H a=some (.dT z)/\Q (.int z.length) H
def NV:Xe X (.builtin "len") Er:=by
 intro i s z H g e Q I r h;obtain⟨a,x,rfl,p,q⟩:=h;obtain⟨u,rfl,o⟩:=W5 r;cases o;obtain⟨y,hd,n,l,j⟩:=Kw I.hok p;have w:x.length=n.length:=nH l;refine Zwz hd j (by rw[<-w];rw[tJ]at y;lia) ?_;rw[<-w];show#[.int _,H,I.tok _,#[_,rfl],q]
section
variable {prog:md} {w:lZ} {KT:Type} [DecidableEq KT] {knd:HeapKind prog w KT} {A:me} {R:Result->lU->Prop} {l d it:lS} {tps:lQ lS} {qs:lQ (KT×lS×lT)} {h₀:lY}
def zv(knd:HeapKind prog w KT)(h:lY)(tps:lQ lS)(qs:lQ (KT×lS×lT)):Prop :=
 Paired (λp (q:KT×lS×lT)=>(∃o n,h.get? p=some o/\o.cls=.type "tuple"/\o.data=.seq (List.toArray [.ref q.2.1,q.2.2]) n)/\∃ok,h.get? q.2.1=some ok/\∀z:lY,z.get? q.2.1=some ok->knd.is z q.1 q.2.1) tps qs
def zv.key(y:zv knd h tps qs):∀q∈qs,∃ok,h.get? q.2.1=some ok/\∀h':lY,h'.get? q.2.1=some ok->knd.is h' q.1 q.2.1:=by
 unfold zv at y
 induction y with
 | nil=>intro q z;cases z
 | cons r _ x =>
  intro q z;rcases nU.mp z with rfl|z
  ·show r.2
  ·show x q z
def TQ{h h':lY}{z:lQ (KT×lS×lT)}(x:h.DictOfH knd d z)(hd:∀o,h.get? d=some o->h'.get? d=some o)(u:∀y∈z,knd.is h' y.1 y.2.1):h'.DictOfH knd d z:=by
 obtain⟨o,s,r,q,p,n,j,_,i⟩:=x;show#[o,s,r,hd o q,p,n,j,u,i]
def UQ{Q:lT->lU->Prop}{E:lT->lU->Prop}(M:A.handled=none)(L:knd.room A.in1.in1)(J:s.heap.get? l=some {cls:=.type "list",data:=.seq (tps.map Value.ref).toArray n})(g:zv knd s.heap tps qs)(I:(qs.map (·.1)).Nodup)(hsz:qs.length<=sizeLine)
  (h:∀h' Y dd,h'.DictOfH knd dd qs->dd=#v[s]->s.heap.get? dd=none->(∀b o,s.heap.get? b=some o->h'.get? b=some o)->Q (.ref dd) {s with heap:=h',toks:=Y}) :
  wpAny (model prog w) A (call (.type "dict") [.ref l]) Q E s:=by
 have is_:∀h':lY,(∀b o,s.heap.get? b=some o->h'.get? b=some o)->∀q∈qs,knd.is h' q.1 q.2.1:=λh' H q G=>by
  obtain⟨ok,D,U⟩:=g.key q G;show U h'<|H _ _ D
 refine ND (Pd:=λi h=>h.DictOfH knd #v[s] (qs.take i)/\∀b o,s.heap.get? b=some o->h.get? b=some o) M J (λi p e=>?_) #[Heap.DictOfH.new s.heap,λb o z=>nQ _ z] (λi h h' a b c=>#[TQ a.1 b λy j=>is_ h' c y<|uX j,c]) λh' Y dd e u=>?_
 ·obtain⟨q,x,⟨C,B,O9,p,U0⟩,_⟩:=Paired.get g e;have c:q∈qs:=pe x;refine#[_,_,C,B,O9,p,U0,λargs s' Q E u N=>wpAny_dictSet_heap (by rw[Fk (by left)];show L) (is_ _ u.2 q c) u.1 (λU a r=>N U _ #[?_,?_] r) ?_]
  ·have E1:atKey (qs.take i) q.1=none:=by
    cases e:atKey (qs.take i) q.1 with
    | none=>rfl
    | some z =>
     unfold atKey at e;obtain⟨y,j,_⟩:=nR.mp e;have y0:=List.find?_some j;have y1:y.1=q.1:=pq y0;have N:y.1∈(qs.map (·.1)).take i:=by rw[<-tH];show mX.mpr #[y,List.mem_of_find?_eq_some j,rfl]
     rw[y1]at N;show absurd N (xl I<|by rw[nJ,x];rfl)
   rw[show storedH (qs.take i) q.1 q.2.1 q.2.2=qs.take (i+1)from by rw[storedH_new E1,og,x];rfl]at a;show a
  ·show λb o z=>by rw[r.2 _ (oi<|nO z)];show u.2 b o z
  ·rw[oh];lia
 ·subst e;rw[show qs.take tps.length=qs from sK (by rw[nH g];show nk _)]at u;show h h' Y _ u.1 rfl
end
def Oi:lQ V->Hp->VK->Prop:=λx H Q=>∃(l:lS)(y:lQ lS)(z:lQ (lQ ng×V)),x=[.ref l]/\H l=some (.lst<|y.map V.ref)/\
 Paired (λt (q:lQ ng×V)=>∃a,H t=some (.tup [.ref a,q.2])/\H a=some (.tup<|q.1.map kV)) y z/\(z.map fst).Nodup/\pD H (.dT z) Q
def Zu1(hc:X.calm=true)(hu:X.A.units+64<cLine):Xe X (.type "dict") Oi:=by
 intro c7 s z H xs us Q I r h;obtain⟨l,j,x,rfl,hl,c,hn,q⟩:=h;obtain⟨u,rfl,ru⟩:=W5 r;cases ru;obtain⟨hz,c8,n,Y,hg⟩:=(show Z8 X.prog X.w H s.heap l (.lst<|j.map V.ref)from I.hok l _ hl)
 rw[wL Y]at hg;have key:∀{j:lQ lS}{x:lQ (lQ ng×V)},Paired (λt (q:lQ ng×V)=>∃a,H t=some (.tup [.ref a,q.2])/\H a=some (.tup<|q.1.map kV)) j x->∃w,KT H x w/\zv (tupleKind<|Z1 X.prog X.w) s.heap j w:=by
  intro j x c
  induction c with
  | nil=>show#[[],.nil,.nil]
  | cons r t U =>
   rename_i p q _ _;obtain⟨w,h1,h2⟩:=U;obtain⟨a,ra,rk⟩:=r;obtain⟨_,c8,Y,o,ho,y7,m,hd⟩:=(show Z8 X.prog X.w H s.heap p (.tup [.ref a,q.2])from I.hok p _ ra)
   obtain⟨k,v,rfl,N,M⟩:=wp Y;cases(show k=Value.ref a from N);obtain⟨_,L0,r2,o2,T9,g,m2,L⟩:=(show Z8 X.prog X.w H s.heap a (.tup<|q.1.map kV)from I.hok a _ rk)
   show#[(q.1,a,v) ::w,.cons #[rfl,rk,M] h1,.cons #[#[o,m,ho,y7,hd],o2,T9,λh' e=>#[o2,_,m2,e,g,L,by simpa using Fd r2]] h2]
 obtain⟨w,G,E⟩:=key c;have D:x.length=w.length:=nH G;have G9:x.length<=sizeLine:=by
  have:=nH c;rw[mK]at hz;lia
 have O2:(w.map (·.1)).Nodup:=by
  have:∀{x:lQ (lQ ng×V)}{w:lQ (lQ ng×lS×lT)},KT H x w->w.map (·.1)=x.map fst:=by
   intro x w y
   induction y with
   | nil=>rfl
   | cons r t U=>rw[nV,nV,U,r.1]
  rw[this G];show hn
 refine UQ (knd:=tupleKind<|Z1 X.prog X.w) (I.ok.hd hc) (yt (A:=X.A.in1)<|by change X.A.units+1+1<cLine;lia) hg E O2 (by rw[<-D];show G9) λh' A9 i hD C d k=>?_
 have B:i≠sysModules:=λy=>by
  have hb:=I.big;rw[<-C,y]at hb;show qL _ hb
 have hH0:H i=none:=by
  cases e:H i with
  | none=>rfl
  | some u =>
   obtain⟨ob,y⟩:=(I.hok i u e).there;rw[d]at y;cases y
 obtain⟨o,es,ep,e1,e2,e3,e4,_,e5⟩:=hD;obtain⟨hH,J⟩:=I.laidAt (t':=A9) (o:=.dT x) k d (show Z8 X.prog X.w (mJ H i<|.dT x) h' i (.dT x)from#[G9,qt.mpr B,w,G.keeps λb ys e=>by rw[Zd (Ze e hH0)];show e,o,es,ep,e1,e2,e3,e4,e5]);show#[.ref i,_,J,rfl,q.at i hH]
section
variable {E:lT->lU->Prop} {κ:KeyKind} {kd:SortKind}
def Vo(prog:md)(w:lZ)(A:me)(s:lU)(κ:KeyKind)(kd:SortKind):Prop :=
 ∀(x y:lT)(a b:κ.α)(u:lT->lU->Prop)(z:Bool->lU->Prop),κ.keyOf x=some a->κ.keyOf y=some b->a≠b->z (κ.blt a b) s->wpAny (model prog w) A (keyLt' kd x y) z u s
def Tc(κ:KeyKind)(o:Array Keyed):Prop:=(o.toList.map λp=>κ.keyOf p.1).Nodup
variable (hL:Vo prog w A s κ kd) (k:KeysOf κ o) (d:Tc κ o)
include hL k d
end
end L2
end
section
namespace L2
open PySem PyProof.Rows
section
variable {prog:md} {w:lZ} {A:me} {E:lT->lU->Prop} {s:lU} {o:Array Keyed} {kd:SortKind} {p:Array (Nat×Nat×Nat)} {st:SortSt}
def yg(prog:md)(w:lZ)(A:me)(s:lU)(kd:SortKind)(o:Array Keyed):Prop :=
 ∀x∈o,∀y∈o,∀(u:lT->lU->Prop)(z:Bool->lU->Prop),(∀b,z b s)->wpAny (model prog w) A (keyLt' kd x.1 y.1) z u s
variable (L:yg prog w A s kd o)
include L
omit L
variable {a b out:Array Keyed} {x y z:lQ Keyed} {v:Keyed}
omit L in
omit L in
include L
omit L
include L
omit L in
end
end L2
end
section
namespace L2
open PySem PySem.Spec PyProof.Rows
open Classical in
def wN(z:lQ (lR×lS))(H:Hp):Hp:=λb=>if ∃x,z.lookup x=some b then none else H b
def Vt(h:z.lookup x=some b):wN z H b=none:=mU #[x,h]
def xt(h:∀x,y.lookup x≠some b):wN y H b=H b:=mT λ⟨x,z⟩=>h x z
def Qq :mC (wN y H) H:=λb o e=>by
 unfold wN at e
 by_cases z:∃x,y.lookup x=some b
 ·rw[mU z]at e;cases e
 ·rw[mT z]at e;show e
variable {X:Cx}
def Bt(I:mI X w z H s)(h:X.env.cells.lookup x=some c):∃o v,qX X.env.cells H s.heap c=some (Fz o)/\s.heap.get? c=some o/\o.data=.cell v:=by
 obtain⟨v,o,y,hd⟩:=I.cell x c h;refine#[o,v,?_,y,hd];unfold qX;rw[mU #[x,h],y];rfl
def mI.noC(I:mI X u z H s)(w:∀x,X.fn x=true)(h:X.mh.heap.get? b=some o)(x:lR):X.env.cells.lookup x≠some b:=λy=>absurd (pK (nO h)<|I.ok.cab x b (w x) y)<|qL _
def mI.env0C(I:mI X n z H s)(r:∀x,X.fn x=true):sZ X.prog X.w X.K X.mg X.mD X.A X.stack s (qX X.env.cells H s.heap):=by
 have E:=I.env0;refine#[E.frames,E.mod,λb o e=>#[(E.bs b o e).1,?_],E.bsz,E.funs,λb p=>?_,λb o e=>?_,E.bare]
 ·rw[zg λx=>I.noC r (I.ok.bs b o e).1 x];show(E.bs b o e).2
 ·rw[zg λx y=>?_]
  ·show E.frf b p
  ·rcases nU.mp (I.stkSub b p)with w|w
   ·show I.cne x b y w
   ·obtain⟨_,o,u,_⟩:=I.ok.funs.mem w;show I.noC r u x y
 ·by_cases y:∃x,X.env.cells.lookup x=some b
  ·obtain⟨x,y⟩:=y;obtain⟨l,v,q,u,j⟩:=Bt I y;rw[q]at e;cases e;show#[u,u,_,u]
  ·rw[zg λx w=>y #[x,w]]at e;show(I.hok b o e).stay (λ_ _ _ q=>q) (λc q=>Xh I q) (λc u q=>Xh I q) (λc o q=>Xh I q) (λc o q=>Xh I q)
def CE.lend(I:mI X E z H s)(h:CE X.stack X.prog X.w (qX X.env.cells H s.heap) s Q u s'):CE X.stack X.prog X.w H s (λv N=>∃H',N=wN X.env.cells H'/\(∀x c o,X.env.cells.lookup x=some c->s.heap.get? c=some o->H' c=some (Fz o))/\Q v H') u s':=by
 obtain⟨v,H',os,g,un,i,r,q⟩:=h;have frz:∀x c o,X.env.cells.lookup x=some c->s.heap.get? c=some o->H' c=some (Fz o):=λx c o M L=>by
  obtain⟨G,w,j,l,_⟩:=Bt I M;rw[L]at l;cases l;show un.frzs c _ _ j
 have a:∀{b:lS}{o:HO},H b=some o->∀x,X.env.cells.lookup x≠some b:=λe x y=>by rw[I.freeC x _ y]at e;cases e
 have ad:∀{b:lS},(∀x,X.env.cells.lookup x≠some b)->H b=none->qX X.env.cells H s.heap b=none:=λy n=>by rw[zg y];show n
 refine#[v,wN X.env.cells H',os,g,#[λb o j l Y d=>?_,λb o j l Y d=>?_,λb o j l d=>?_,un.there,λb U e=>?_,λb o u e=>?_,λb J e=>?_],λb o e=>?_,r,H',rfl,frz,q]
 ·by_cases y:∃x,X.env.cells.lookup x=some b
  ·obtain⟨x,y⟩:=y;show(i b _<|frz x b o y j).1
  ·show un.keep b o j (ad (λx p=>y #[x,p]) l) Y d
 ·by_cases y:∃x,X.env.cells.lookup x=some b
  ·obtain⟨x,y⟩:=y;show#[o.slots,(i b _<|frz x b o y j).1]
  ·show un.slot b o j (ad (λx p=>y #[x,p]) l) Y d
 ·by_cases y:∃x,X.env.cells.lookup x=some b
  ·obtain⟨x,y⟩:=y;show Vt y
  ·rw[xt λx p=>y #[x,p]];show un.free b o j (ad (λx p=>y #[x,p]) l) d
 ·rw[xt (a e)];show un.tups b U<|Xh I e
 ·rw[xt (a e)];show un.frzs b o u<|Xh I e
 ·obtain⟨m,y⟩:=un.tbls b J<|Xh I e;show#[m,by rw[xt (a e)];show y]
 ·have soft:∀{c:lS}{o:HO},H' c=some o->(∀G,o≠Fz G)->wN X.env.cells H' c=some o:=λ{c o} y n=>by
   rw[xt]
   ·show y
   ·intro x p;obtain⟨_,w,_,l,_⟩:=Bt I p;rw[frz x c _ p l]at y;cases y;show n _ rfl
  show(i b o<|Qq b o e).stay (λ_ _ _ q=>q) (λc q=>soft q λ_ y=>nomatch y) (λc U q=>soft q λ_ y=>nomatch y) (λc o q=>soft q λ_ y=>nomatch y) (λc o q=>soft q λ_ y=>nomatch y)
def Eb(X:Cx)(z:St)(H:Hp)(S:Hp->VK->Prop)(Q:VK):Prop:=∀w,mC H w->(∀(i:Nat)(x:lR)(v:V)(c:lS),X.N[i]? =some x->z[i]? =some (some v)->X.env.scope.names.lookup x=some .cell->X.env.cells.lookup x=some c->H c=none/\CellAt w c v)->
 S w λv s=>∀y,mC y s->(∀b u o,H b=some u->s b=some o->y b=some o)->(∀b o,s b=some o->(∀x,o≠Fz x)->y b=some o)->Q v y
def Ydi(F:Xs X.prog X.w X.K X.mg X.mD oN k f fd ps j)(g:Y4 k X.A)(d:∀x,X.fn x=true)(a:qx X.K fd ps [])
  (I:mI X Y z H s) (r:Z7 vs us) (h:Eb X z H (λU N=>j vs U N E0) Q):∅ (call (.ref f) us) (EP X Y z Q) X.xe s:=by
 have h:=h (qX X.env.cells H s.heap) (λb o e=>Xh I e) λi x v c M l L J=>Iv I M l L J
 have G:us.length=ps.length:=by rw[<-r.length];show F.len _ _ _ _ h
 have b:=a s us I.kIn (by rw[pH];show G);rw[pH]at b;refine ux<|ve (F.run X.A X.stack s _ #[us,[]] us vs _ E0 g (I.env0C d) b r h) λr y p=>?_;cases r with
 | error e=>show False.elim p
 | ok E =>
  cases E with
  | ret u =>
   obtain⟨v,y,D,C,w,B,frz,q⟩:=I.after<|CE.lend I p;subst B;refine#[v,_,D,C,q _ Qq (λb u o e A=>?_) λb o e n=>?_]
   ·rw[xt λx y=>by rw[I.freeC x b y]at e;cases e];show A
   rw[xt]
   ·show e
   ·intro x y;obtain⟨_,w,_,l,_⟩:=Bt I y;rw[frz x b _ y l]at e;cases e;show n _ rfl
  | next=>show False.elim p
  | brk=>show False.elim p
  | cont=>show False.elim p
def Yfi(X:Cx)(y:Sp)(t:TA):TE:=λz H Q=>t z H λx w=>Eb X z w (λu s=>y x u s E0) Q
def Mq(F:Xs X.prog X.w X.K X.mg X.mD oN k f fd ps u)(o:Y4 k X.A)(n:∀x,X.fn x=true)(l:Gl X x)(j:X.mg x=some (.ref f))(i:keepIn X.K (.ref f)=true)(g:qx X.K fd ps [])
  (d:PA X (e ::y) t) (c:(x ==("__debug__":lR))=false:=by lk) (he:starEach (e ::y) X.env=(false,eval e X.env) ::starEach y X.env:=by rfl) (a:(backTo pos<|starEach y X.env).any (·.1)=false:=by rfl) :
  PE X (.Call (.Name x p) (e ::y) [] pos) (Yfi X u t):=by
 intro Y s z H Q I h;refine vB<|xj I l j ?_ c;refine AI (h₀:=X.mD) I.ok.mod.kin i (mZ (d pos Y s z H _ I h) λU N ⟨M,L,w,r,q⟩=>#[w.kIn,?_]) he a;show Ydi F o n g w r q
def SM(X:Cx)(Pt:lS)(s:Arguments)(r:ma)(q:Scope)(u:Pos)(z:lQ (lR×lS)):TE:=λ_ H Q=>∃y,H Pt=some (.tbl<|Wk y)/\(u.line,u.col,X.env.qual++"<lambda>")∈y/\∀x w,mC H w->H x=none->Clo w Pt x (X.env.qual++"<lambda>") s r q z->Q (.ref x) w
def PP(p:X.env.code=.ref c)(o:PySem.W.codeHdIn X.K c Pt=true)(y:defaultsOf w X.env=([],[]):=by rfl)(n:closureFor u X.env=pure x:=by rfl):PE X (.Lambda w l u j) (SM X Pt w l u j x):=by
 intro M s z H Q I h;obtain⟨i,g,e,d⟩:=h;show KL I y p (FE I.ok.mod.kin o) g e n λr q L a Y U N=>#[.ref r,q,a,rfl,d r q Y U N]
section
variable {P:md} {w:lZ} {K:lW} {mg:lR->lV lT} {mD:lY}
def qT.okL{x qual:lR}{st:lX}{f Pt:lS}{fd:mf}{N ps:lQ lR}{k:Nat}{z:Sp}(F:qT K x qual st f fd)(L:vn K fd Pt)(S:Zw N ps (Zj st))
  (r:∀(c:lS)(A:me)(y:lQ Env)(s:lU)(H:Hp)(vs:lQ V)(Q:VK)(E:XK),PySem.W.codeHdIn K c Pt=true->Y4 k (A.deeper<|envOfC qual (Zj st) #v[s] f (.ref c))->z vs H Q E->
   let X:=(oS oN P w K mg mD N qual (Zj st) f (.ref c) A y s H E).nox;let D:pT:={nx:=λ_ H'=>Q .non H',rt:=Q};WSs X (Y7 st) D (start N vs) H) (len:∀vs H Q E,z vs H Q E->vs.length=ps.length:=by bv_omega):Xs P w K mg mD oN (k+1) f fd ps z:=by
 obtain⟨j,i,kV,h,g,e,q,d,a,rfl,lk,p⟩:=F.ex;obtain⟨c,u,o⟩:=L;have u:q=.ref c:=u;subst u;refine Dw lk p S len λA y s H vs Q E n l=>?_
 show#[_,qM.nox Zn,r c A y s H vs Q E o n l]
end
def kD:ng->PyData
 | .inl i=>.int i
 | .inr x=>.str x
mutual
inductive Rp(H:Hp):PyData->V->Prop
 | str (x:Str):Rp H (.str x) (.str x)
 | bl (b:Bool):Rp H (.bool b) (.bl b)
 | int (i:Int):Rp H (.int i) (.int i)
 | lst {a:Addr} {xs:List V} {ds:List PyData}:H a=some (.lst xs)->rC H ds xs->Rp H (.list ds) (.ref a)
 | tup {a:Addr} {xs:List V} {ds:List PyData}:H a=some (.tup xs)->rC H ds xs->Rp H (.tuple ds) (.ref a)
 | dk {a:Addr} {kvs:List (ng×V)} {ds:List PyData}:H a=some (.dK kvs)->rC H ds (kvs.map snd)->Rp H (.dict<|(kvs.map λp=>kD p.1).zip ds) (.ref a)
inductive rC(H:Hp):List PyData->List V->Prop
 | nil:rC H [] []
 | cons {d:PyData} {v:V} {ds:List PyData} {vs:List V}:Rp H d v->rC H ds vs->rC H (d ::ds) (v ::vs)
end
def rC.length{ds:lQ PyData}{vs:lQ V}(h:rC H ds vs):ds.length=vs.length:=by
 induction ds generalizing vs with
 | nil=>cases h;rfl
 | cons d _ t=>cases h with | cons _ h=>show oE Nat.succ (t h)
def UC(e:wv k u=true):Reads h u (kD k) []:=by
 rcases Xj e with⟨i,t,rfl,rfl⟩|⟨x,t,rfl,rfl⟩
 ·show .int i t
 ·show .str x t
def Ztj{z:lQ DictEntry}{kvs:lQ (ng×lT)}(g:Pairs (Z1 P w) z kvs):ReadsAll h (z.map (·.key)) (kvs.map λp=>kD p.1) []:=by
 induction g with
 | nil=>show .nil
 | cons y _ _ x=>show ReadsAll.cons (as:=[]) (bs:=[]) (UC y) x
def Ly {z:lQ DictEntry}{kvs:lQ (ng×lT)}(h:Pairs (Z1 P w) z kvs):z.map (·.val)=kvs.map snd:=by
 induction h with
 | nil=>rfl
 | cons _ y _ x=>rw[nV,nV,y,x]
def Ycm(h:KV kvs vs):Z7 (kvs.map snd) (vs.map snd)/\(vs.map λp=>kD p.1)=kvs.map λp=>kD p.1:=by
 induction h with
 | nil=>show#[.nil,rfl]
 | cons r t z=>show#[.cons r.2 z.1,by rw[nV,nV,z.2,r.1]]
mutual
theorem Rp.reads(I:mI X E z H s):∀{d:PyData}{v:V}{u:lT},Rp H d v->Yd v u->∃as,Reads s.heap u d as/\∀a∈as,∃o,H a=some o
 | _,_,u,.str x,r=>by
  obtain⟨t,rfl⟩:=(show ∃t,u=Value.str x t from r)
  show#[[],.str x t,λ_ y=>nomatch y]
 | _,_,u,.bl b,r=>by
  obtain rfl:u=Value.bool b:=r;show#[[],.bool b,λ_ y=>nomatch y]
 | _,_,u,.int i,r=>by
  obtain⟨t,rfl⟩:=(show ∃t,u=Value.int i t from r)
  show#[[],.int i t,λ_ y=>nomatch y]
 | _,_,u,.lst (a:=a) (xs:=j) e h,r=>by
  obtain rfl:u=Value.ref a:=r;obtain⟨_,Y,n,g,w⟩:=(show Z8 X.prog X.w H s.heap a (.lst j)from I.hok a _ e)
  obtain⟨as,q,l⟩:=rC.reads I h g;show#[a ::as,.list w rfl rfl q,λb c=>(nU.mp c).elim (λy=>#[_,(oE H y).trans e]) (l b)]
 | _,_,u,.tup (a:=a) (xs:=j) e h,r=>by
  obtain rfl:u=Value.ref a:=r;obtain⟨_,Y,g,o,w,x,m,hd⟩:=(show Z8 X.prog X.w H s.heap a (.tup j)from I.hok a _ e)
  obtain⟨as,q,l⟩:=rC.reads I h g;show#[as,.tuple w x hd q,l]
 | _,_,u,.dk (a:=a) (kvs:=x) (ds:=n) e h,r=>by
  obtain rfl:u=Value.ref a:=r;obtain⟨_,_,D,U,o,C,B,w,Q,hd,_,i,_⟩:=(show Z8 X.prog X.w H s.heap a (.dK x)from I.hok a _ e)
  obtain⟨N,M⟩:=Ycm U;obtain⟨as,q,l⟩:=rC.reads I h N;have L:=h.length;rw[mK]at L;have J:((x.map λp=>kD p.1).zip n).map fst=x.map λp=>kD p.1:=List.map_fst_zip (by rw[mK];lia)
  have G:((x.map λp=>kD p.1).zip n).map snd=n:=List.map_snd_zip (by rw[mK];lia);refine#[a ::[]++as,.dict w Q.1 hd ?_ ?_,λb c=>?_]
  ·rw[J,<-M];show Ztj i
  ·rw[G,Ly i];show q
  ·rcases nU.mp c with y|y
   ·show#[_,(oE H y).trans e]
   ·show l b y
theorem rC.reads(I:mI X n z H s):∀{ds:lQ PyData}{vs:lQ V}{us:lQ lT},rC H ds vs->Z7 vs us->∃as,ReadsAll s.heap us ds as/\∀a∈as,∃o,H a=some o
 | _,_,_,.nil,r=>by
  cases r;show#[[],.nil,λ_ y=>nomatch y]
 | _,_,_,.cons h t,r=>by
  cases r with
  | cons r y =>
   obtain⟨as,x,w⟩:=Rp.reads I h r;obtain⟨bs,u,q⟩:=rC.reads I t y;show#[as++bs,.cons x u,λb p=>(oj.mp p).elim (w b) (q b)]
end
def EJ:lQ V->Hp->VK->Prop:=λz H Q=>∃(a:lS)(d:PyData),z=[.ref a]/\Rp H d (.ref a)/\d.showable=true/\d.depth<=60/\d.shown.length<=sizeLine/\Q (.str d.shown) H
def MQ(y:∃x,X.mD.Ns sysModules x)(w:X.A.guards=some [])(N:X.A.units+64<cLine):Xe X (.builtin "repr") EJ:=by
 intro M s z H L J Q I r h;obtain⟨a,d,rfl,p,n,hd,l,q⟩:=h;obtain⟨u,rfl,j⟩:=W5 r;cases j;obtain⟨o,i,g⟩:=p.reads I (u:=.ref a) rfl;refine repr_of_reads' i n (λ_ c=>?_) w (by lia) (λ_ _ e=>e) (λY u U y=>?_) l
 ·obtain⟨o,e⟩:=g _ c;obtain⟨x,o,d,G,y,_⟩:=y;rw[(I.bs _ _ y).2]at e;cases e
 ·show#[.str _,H,I.un (h':=Y) (t':=U) (Un.kept y)<|I.hok.kept y,#[_,rfl],q]
def Zxw{P:md}{w:lZ}{K:lW}{L mb:lR->lV lT}{k:Nat}{fa a:lS}{fd:mf}{x:lR}{l:lU}{vs:lQ lT}{ns:lQ Int}{tabs:lQ (lS×Array lT)}
  (KX:K.In l.heap) (F9:l.heap.Ns mainGlobals L) (Y:l.heap.Ns builtinsNs mb) (hbb:∀x:lR,x≠ "__name__"->mb x=bootBuiltins x) (I:l.heap.NoLimit) (hbm:Jv L l.heap) (hg:l.gens=#[])
  (G:l.heap.get? a=some {cls:=.type "list",data:=.seq vs.toArray}) (hi:IntsAre vs ns) (hl:ns.length<=63) (hr:Y4 k callerA) (TO:Bu K l.heap tabs)
  (hsm:∃mm,l.heap.Ns sysModules mm) (F:∀mD:lY,K.In mD->mD.Ns mainGlobals L->(∃mm,mD.Ns sysModules mm)->Xs P w K L mD oN k fa fd [x] (yd K tabs)) (M:∀(s:lU)(u:lT),BindsTo s fd #[[u],[]] [(x,u)]) :
  codeAny (model P w) callerA (.call (.ref fa) #[[.ref a],[]]) (λr s'=>r=.ok (.ret<|.bool true)/\OldK l.heap s'.heap/\s'.os=l.os/\AllBare s'.gens) l:=by
 have rv:=LV hi;have E:=hi.length;have D:ns.length<=sizeLine:=ow hl (by lk);have i:∀{b:lS}{j:Array lT},tabs.lookup b=some j->l.heap.get? b=some (PySem.W.tabObj #[]):=λe=>TO.emp _<|Cj e
 have core:∀H:Hp,SqL K H a (ns.map V.int)->oq P w H l.heap->(∀b u,H b=some u->(b=a/\K.lookup a=none/\∃o xs,u=.frz o (.lst xs))\/∃j,tabs.lookup b=some j/\u=.tbl j)->(∀p∈tabs,H p.1=some (.tbl p.2))->
   codeAny (model P w) callerA (.call (.ref fa) #[[.ref a],[]]) (λr s'=>r=.ok (.ret<|.bool true)/\OldK l.heap s'.heap/\s'.os=l.os/\AllBare s'.gens) l:=by
  intro H hS C hA hT;have L7:∀{b:lS}{o:Obj},l.heap.get? b=some o->H b=none->(vq l.heap H).get? b=some o:=λe n=>UT e n
  have B:∀{b:lS}{o:Obj},l.heap.get? b=some o->(∀vs n,o.data≠.seq vs n)->(∀vs,o.data≠.fields vs)->H b=none:=λ{b o} e d1 d2=>by
   cases q:H b with
   | none=>rfl
   | some u =>
    rcases hA b u q with⟨Q,_⟩|⟨j,Q,_⟩
    ·subst Q;rw[G]at e;cases e;show absurd rfl<|d1 _ _
    ·rw[i Q]at e;cases e;show absurd rfl<|d2 _
  have U:∀{b:lS}{m:lR->lV lT},l.heap.Ns b m->(vq l.heap H).Ns b m:=λ{b m} ⟨o,es,ep,e,d,r⟩=>#[o,es,ep,L7 e (B e (λ_ _ z=>by rw[d]at z;cases z) λ_ z=>by rw[d]at z;cases z),d,r]
  have A:K.In (vq l.heap H):=λb o e=>L7 (KX b o e) (by
   cases q:H b with
   | none=>rfl
   | some u =>
    rcases hA b u q with⟨Q,y,_⟩|⟨j,Q,_⟩
    ·subst Q;rw[y]at e;cases e
    ·have g:=KX b o e;rw[i Q]at g;cases g;have h2:=wj.mp TO.nt _<|PySem.W.mem_of_lookupK e;show absurd (show false=true from h2) oU)
  have hM:Mod K L (vq l.heap H):=#[A,U F9,#[mb,U Y,hbb],let⟨mc,g,h2⟩:=I;#[mc,U g,h2],by
   obtain⟨bm,ob,b1,b2,c,b4,b5,y⟩:=hbm;show#[bm,ob,b1,b2,L7 c (B c (λ_ _ z=>by rw[y]at z;cases z) λ_ z=>by rw[y]at z;cases z),b4,b5,y]]
  have e0:sZ P w K L (vq l.heap H) callerA [] l H:=#[rfl,hM,λb o e=>Yb3 e,vJ<|SV _ _,trivial,λb Y=>absurd (show b∈([]:lQ lS)from Y) (by simp),C,.of_eq hg]
  refine ve ((F _ A (U F9)<|hsm.imp λ_ z=>U z).run callerA [] l H #[[.ref a],[]] [.ref a] [.ref a] (λv _=>v=.bl true) E0 hr e0 (M l<|.ref a) (.cons rfl .nil) #[a,ns,rfl,hS,hl,hT,λ_=>rfl]) λr s' h=>?_
  cases r with
  | error e=>show False.elim h
  | ok fl =>
   cases fl with
   | next=>show False.elim h
   | brk=>show False.elim h
   | cont=>show False.elim h
   | ret u =>
    obtain⟨v,y,os,bare,un,O4,r',q⟩:=h;have q':v=.bl true:=q;subst q';obtain rfl:u=Value.bool true:=r';refine#[rfl,#[λb o e=>?_,λb o e=>un.there b o e<|by simp],os,bare];cases q:H b with
    | none=>show .inl (un.keep b o e q (by intro z;show absurd (show b∈([]:lQ lS)from z)<|by simp)<|by simp)
    | some u =>
     rcases hA b u q with⟨_,_,ob,xs,z⟩|⟨j,z,z2⟩
     ·subst z;have z2:=un.frzs b ob _ q;obtain⟨y,_⟩:=C b _ q;obtain⟨c,_⟩:=O4 b _ z2;rw[e]at y;cases y;show .inl c
     ·subst z2;obtain⟨more,y⟩:=un.tbls b j q;have Q:=i z;rw[e]at Q;cases Q;obtain⟨c,hc⟩:=TO.cod _<|Cj z;obtain⟨qs,y1,_⟩:=O4 b _ y;show .inr<|.inl #[((FE KX hc).tab e).isCodeTable,rfl,#[],qs,rfl,by rw[y1];simp]
 have tabH:∀p∈tabs,p.1≠a:=λp J z=>by
  have:=TO.emp p J;rw[z,G]at this;cases this
 have N:∀{H:Hp}{b:lS}{j:Array lT},tabs.lookup b=some j->Z8 P w H l.heap b (.tbl j):=λ{H b j} e=>by
  obtain⟨ls,hq,nd⟩:=TO.shape _<|Cj e;have hq:j=Wk ls:=hq;subst hq;show#[_,i e,.inr #[ls,[],rfl,nd,rfl,λ_ z=>nomatch z]]
 cases hk:K.lookup a with
 | some o =>
  have e:=KX a o hk;rw[G]at e;cases e;refine core (λb=>(tabs.lookup b).map HO.tbl) (.inr #[_,vs.toArray,_,hk,rfl,rfl,rfl,by rw[oz,E];show D,by simpa using rv]) (λb u z=>?_) (λb u z=>?_) λp J=>?_
  ·obtain⟨j,g,rfl⟩:=nR.mp z;show N g
  ·obtain⟨j,g,rfl⟩:=nR.mp z;show .inr #[j,g,rfl]
  ·change(tabs.lookup p.1).map HO.tbl=_;rw[FM TO.nd J];rfl
 | none =>
  refine core (λb=>if b=a then some (.frz {cls:=.type "list",data:=.seq vs.toArray} (.lst<|ns.map V.int))else(tabs.lookup b).map HO.tbl) (.inl<|.inr #[{cls:=.type "list",data:=.seq vs.toArray},mU rfl]) (λb u z=>?_) (λb u z=>?_) λp J=>?_
  ·by_cases Y:b=a
   ·have y:=(mU Y).symm.trans z;cases y;subst Y;show#[G,by rw[mK];show D,vs,_,rv,G]
   ·have y:=(mT Y).symm.trans z;obtain⟨j,g,rfl⟩:=nR.mp y;show N g
  ·by_cases Y:b=a
   ·have y:=(mU Y).symm.trans z;cases y;show .inl #[Y,hk,_,_,rfl]
   ·have y:=(mT Y).symm.trans z;obtain⟨j,g,rfl⟩:=nR.mp y;show .inr #[j,g,rfl]
  ·change(if p.1=a then _ else _)=_;rw[mT (tabH p J),FM TO.nd J];rfl
def walk_ofS{l:PySem.W.OpenLaw}{k:Nat}{q:md}{g:lQ lR}{e:(lR->lV lT)->lY->Prop}{n:lZ->lY->Prop}{d:DefRec}{K:Params->lW}{x:lR}
  (c:l.most=some 63) (j:d.params.defaults=[]) (U:Y4 k callerA) (Q:∀(w:lZ)(h:lY),n w h->(K w.params).In h)
  (F:∀(w:lZ)(y:lR->lV lT)(p:lS)(h:lY),n w h->(K w.params).In h->h.Ns mainGlobals y->y d.name=some (.ref p)->
   ∃(fd:mf)(tabs:lQ (lS×Array lT)),Bu (K w.params) h tabs/\(∀(s:lU)(u:lT),BindsTo s fd #[[u],[]] [(x,u)])/\
    ∀mD:lY,(K w.params).In mD->mD.Ns mainGlobals y->(∃N,mD.Ns sysModules N)->Xs l.prog w (K w.params) y mD oN k p fd [x] (yd (K w.params) tabs)) (M:importsNone q=true) :
  PySem.W.WalkO q g e n l.row.toRowW d [] (λf vs=>PySem.call f vs):=by
 refine Att.attach_call c j λw D C y B p o A cd A6 a vs ns G Y ho hd E6 i r L J I=>?_
 have KX:=Q w _ Y;obtain⟨fd,tabs,TO,H,E⟩:=F w y p _ Y KX G.T.g i;show Zxw KX G.T.g G.T.b G.T.builtins G.T.nolimit G.T.bmain I r L J U TO ((G.T.seer M).mods.imp λ_ z=>z.1) E H
def Yce:V->lQ V->Hp->VK->Prop:=λx z H Q=>∃(l:lS)(bs:lQ Bool)(b:Bool)(j:Nat),x=.ref l/\z=[.bl b]/\H l=some (.lst<|bs.map V.bl)/\j<1000/\bs[j]? =some b/\(∀i,i<j->bs[i]? ≠some b)/\Q (.int (j:Nat)) H
def TK:AL X "list.index" Yce:=by
 intro J s z H x G v E Q I d a h;obtain⟨l,bs,b,j,rfl,rfl,Y,y,U,N,q⟩:=h;cases d;obtain⟨u,rfl,M⟩:=a.one;cases M;obtain⟨y,u,n,r,c,e⟩:=I.lstM Y;obtain rfl:=Fq r;obtain⟨L,p⟩:=oo.mp U;refine xV F.slot_list_index #[_,e,rfl] F.entry_list_index (F.args_list_index_2 _ _) (SeqAt.list_indexAt l _ n _ _ (.bool b) (zG b) j (by simpa using L) (by lia) ?_ λm o i=>?_) #[e,λw g=>?_,#[.int _,H,I.tok _,#[_,rfl],q]]
 ·simp[zG,p]
 ·have o:m<bs.length:=by simpa using o
  have:=N m i;rw[oy o]at this;simpa[zG]using this
 ·have g:w∈bs.map Value.bool:=by simpa using g
  obtain⟨c,_,rfl⟩:=mX.mp g;show Il c b
def HI(P:md)(w:lZ)(K:lW)(y:lR->lV lT)(mD:lY)(k:Nat)(f:lS)(H:Hp)(Q:VK)(E:XK):Prop :=
 ∀(A:me)(z:lQ Env)(s:lU),Y4 k A->sZ P w K y mD A z s H->codeAny (model P w) A (.call (.ref f) #[[],[]]) (CR (ol P w) z P w H s Q E) s
def WR(P:md)(w:lZ)(K:lW)(u:lR->lV lT)(mD:lY)(k:Nat)(E:XK)(s:TE):TE:=λz H Q=>s z H λx y=>∃f,x=.ref f/\wa y f/\HI P w K u mD k f y Q E
def WQ(l:Y4 k X.A)(j:PE X (.Name x p) i)(g:sM (ol X.prog X.w) X E):PE X (.Call (.Name x p) [] [] pos) (WR X.prog X.w X.K X.mg X.mD k E i):=by
 intro o s z H Q I h;refine vB<|mZ (j o s z H _ I h) λu n d=>?_;obtain⟨y,c,q,a,f,Y,U,N⟩:=d;subst Y;obtain rfl:u=Value.ref f:=a;refine PySem.W.callWith_F0 (U.at q)<|ux<|ve (N X.A X.stack n l q.env0) λr M w=>?_;cases r with
 | error e=>show g o z c n e M q w
 | ok y =>
  cases y with
  | ret u=>show q.after w
  | next=>show False.elim w
  | brk=>show False.elim w
  | cont=>show False.elim w
section
variable {P:md} {w:lZ} {K:lW} {mg:lR->lV lT} {mD:lY}
def CF(P:md)(w:lZ)(K:lW)(mg:lR->lV lT)(mD:lY)(N:lQ lR)(q:lR)(scope:Scope)(f:lS)(y:lT)(z:lQ (lR×lS))(A:me)(x:lQ Env)(s:lU)(H:Hp)(E:XK):Cx :=
 {DC P w K mg mD N q scope f y z A x s H with xe:=λe r=>wpAny (model P w) (A.deeper<|PySem.W.envX q scope #v[s] f y z) (leaving (PySem.W.envX q scope #v[s] f y z) e) (λ_ u=>ol P w x H s E e u) (λp u=>ol P w x H s E p u) r}
def Qr :sM (ol P w) (CF P w K mg mD N q scope f l x A j s H E) E:=by
 intro L z J G e i I h;obtain⟨g,cls,o,Y,rfl,os,u,un,r,⟨U,B,d,c⟩,a⟩:=h;have n:=I.call' os un r u (λb y=>absurd y<|by simp);change wpAny _ _ (leaving _<|.ref g) _ _ i;refine KJ n.ok.frames rfl d λD p up=>?_
 show Pi (X:=CF P w K mg mD N q scope f l x A j s H E) rfl rfl rfl n p up (λb o Y U Q=>c b o Y (U.imp_left λ⟨M,y⟩=>I.mD.there b M y<|by change b∉([]:lQ lS);simp) Q) a
def XF(C:Clo H Pt p q I J r x)(L:rG H r x fs fvs)
  (G:∀(D d6 B5:lT),bindArgs (PySem.W.kla_fn "<lambda>" q I J r x D d6 B5) #[[],[]]=pure []) (A3:∀y∈r.names,y.2=.free->y.1∈fs) (d:∀y∈r.names,y.2≠.cell)
  (hk:r.kind=.function) (a:r.isCoroutine=false) (S1:r.isGenerator=false)
  (body:∀(c:lS)(A:me)(l:lQ Env)(s:lU),Y4 k (A.deeper<|PySem.W.envX q r #v[s] p (.ref c) x)->
   WE (CF P w K mg mD fs q r p (.ref c) x A l s (offL H x) (λcls j H'=>∀u,mC H' u->(∀b∈x.map snd,u b=H b)->E cls j u)) J (fvs.map some) (offL H x) (λv H'=>∀u,mC H' u->(∀b∈x.map snd,u b=H b)->Q v u)):HI P w K mg mD (k+1) p H Q E:=by
 intro A l s hr Y;have ER:∀{H':Hp}{b:lS},b∈x.map snd->rc H H' x b=H b:=λ{H' b} z=>by unfold rc;rw[mU z]
 have conv:∀{e:lT}{g:lU},ol P w l (offL H x) s (λcls j H'=>∀u,mC H' u->(∀b∈x.map snd,u b=H b)->E cls j u) e g->ol P w l H s E e g:=λ{e g} h9=>by
  obtain⟨ea,cls,j,H',e1,os,h,JB,U,⟨a0,B,p,pB⟩,e2⟩:=h9;obtain⟨un,ok,N⟩:=QF L Y JB U;refine#[ea,cls,j,rc H H' x,e1,os,h,un,ok,#[a0,B,p,λb o M z2 n=>pB b o M ?_ n],e2 _ N λb z=>ER z]
  by_cases y:b∈x.map snd
  ·obtain⟨_,_,M,_⟩:=L.isC y;show .inl #[_,(Y.hok b _ M).1]
  ·refine z2.imp_right λn=>?_
   unfold rc at n;rw[mT y]at n;show n
 show IN (gs:=[]) (gvs:=[]) C L G (λy o=>nomatch o) rfl (λi y v o n=>by cases o) A3 d hk a S1 hr Y (λc=>body c A l s) (λv H' z N=>z _ N λb z=>ER z) λc e g hs=>pX hs (λ_ T3 z=>conv z) λe' T3 z=>conv z
end
end L2
end
section
namespace YM
open PySem L2 NM
def sV(c k:Int):Int:=((c+7919 * k) * 48271%2147483647) * ((c+7919 * k) * 48271%2147483647+2 * k+1)%2147483629
def Zzy(c k:Int):0<=sV c k:=pY _ (by lk)
def Ybg(c k:Int):sV c k<2147483629:=qg _ (by lk)
def Al(ns:lQ Int)(k:Nat):Int:=match ns[k]? with
 | some c=>sV c k
 | none=>0
abbrev Zh:=lR×lR
def Yr(k:lR):lQ lR:=if k ="points" then["stem","left","right"]else if k ="cross" then["a","b","c","d"]else if k ="plain" then["a","b"]else["a"]
def sJ(i:Int):Nat:=qG.getD i.toNat 0
def sF(k:Nat):lR:=toString (k:Int)
def Yt(kind:lR)(c:Int)(k:Nat):lR:=if c%3=0 then#[(List.toArray [kind.cps.toList.getD 0 0])]++sF k else(#[(List.toArray [sJ (c / 3%26)])]++#[(List.toArray [sJ (c / 78%26)])])++rW "0" (c / 2028%3).toNat++sF k
def CY:∀k,k<100->(sF k).length<=2:=by left
def EO{k:Nat}(h:k<100):(k:Int).natAbs.log2<1920:=by
 rw[Int.natAbs_natCast];refine Eh (Nat.log2_le_self k) (by lia)
def ul(a c:Nat):Nat:=if 48<=c/\c<=57 then a * 10+(c-48)else 0
def sW(s:lR):Nat:=s.cps.toList.foldl ul 0
def EE:∀k,k<100->sW (sF k)=k:=by left
def BW:∀k,k<100->0<(sF k).length:=by left
def Vq:∀m,m<3->(rW "0" m).cps.toList.foldl ul 0=0:=by left
def Yaf:∀m,m<3->(rW "0" m).length=m:=by left
def Ydu:∀i,i<26->97<=qG.getD i 0/\qG.getD i 0<=122:=by left
def PQ{i:Int}(z:0<=i)(y:i<26):97<=sJ i/\sJ i<=122:=Ydu i.toNat (by lia)
def uk(x y:lR):(x++y).cps.toList=x.cps.toList++y.cps.toList:=yX x y
def xG{kind:lR}{c:Int}{k:Nat}(y:57<kind.cps.toList.getD 0 0)(h:k<100):sW (Yt kind c k)=k:=by
 have z:∀a c,57<c->ul a c=0:=λa c h=>by unfold ul;rw[mT (by lia)]
 unfold Yt;split
 ·unfold sW;rw[uk,zl];change List.foldl ul (ul 0<|kind.cps.toList.getD 0 0) _=k;rw[z _ _ y];show EE k h
 ·have u:=pY (c / 3) (show(26:Int)≠0 by lk);have s:=qg (c / 3) (show(0:Int)<26 by lk);have x:=pY (c / 78) (show(26:Int)≠0 by lk);have w:=qg (c / 78) (show(0:Int)<26 by lk);have r:=pY (c / 2028) (show(3:Int)≠0 by lk);have q:=qg (c / 2028) (show(0:Int)<3 by lk);unfold sW;rw[uk,uk,uk,zl,zl,zl];change List.foldl ul (List.foldl ul (ul (ul 0<|sJ<|c / 3%26)<|sJ<|c / 78%26) _) _=k;rw[z _ (sJ<|c / 78%26) (by have:=PQ x w;lia),Vq _<|by lia];show EE k h
def yq{kind:lR}{c:Int}{k:Nat}(h:k<100):2<=(Yt kind c k).length:=by
 have:=BW k h;unfold Yt;split
 ·rw[pU];change 2<=1+_;lia
 ·rw[pU,pU,pU];change 2<=1+1+_+_;lia
def YG{kind:lR}{c:Int}{k:Nat}(h:k<100):(Yt kind c k).length<=6:=by
 have:=CY k h;unfold Yt;split
 ·rw[pU];change 1+_<=6;lia
 ·have z:=pY (c / 2028) (show(3:Int)≠0 by lk);have y:=qg (c / 2028) (show(0:Int)<3 by lk);rw[pU,pU,pU,Yaf _<|by lia];change 1+1+_+_<=6;lia
def Yu(ps:lQ Zh):lQ Zh:=ps.flatMap λp=>(Yr p.1).map λe=>(p.2,e)
def Xv(z:lQ (Zh×Zh)):lQ Zh:=z.flatMap λj=>[j.1,j.2]
def Ia(a b:lQ Zh):Yu (a++b)=Yu a++Yu b:=xR ..
def AV(a b:lQ (Zh×Zh)):Xv (a++b)=Xv a++Xv b:=xR ..
def qp:lQ lR:=["plain","points","cross","gate","stop"]
structure Net(ps:List Zh)(js:List (Zh×Zh))(opn:List Zh):Prop where
 perm:(Xv js++opn).Perm (Yu ps)
 nd:(ps.map snd).Nodup
 apart:∀j∈js,j.1.1≠j.2.1
 kind:∀p∈ps,p.1∈qp
inductive qy(n1 n2 n3 n4:Str):List Zh->List (Zh×Zh)->Zh->Zh->Prop
 | plain (a b:Str) (h:(a,b)∈[(("a":Str),("b":Str)),("b","a")]):qy n1 n2 n3 n4 [("plain",n1)] [] (n1,a) (n1,b)
 | loop (a b:Str) (h:(a,b)∈[(("left":Str),("right":Str)),("right","left")]):qy n1 n2 n3 n4 [("points",n1),("plain",n2),("plain",n3),("points",n4)] [((n1,"left"),(n2,"a")),((n1,"right"),(n3,"a")),((n2,"b"),(n4,a)),((n4,b),(n3,"b"))] (n1,"stem") (n4,"stem")
 | siding (x a b k:Str) (h:[x,a,b].Perm ["stem","left","right"]) (hk:k∈[("stop":Str),"gate"]):qy n1 n2 n3 n4 [("points",n1),("plain",n2),(k,n3)] [((n1,x),(n2,"b")),((n2,"a"),(n3,"a"))] (n1,a) (n1,b)
 | cross (k:Str) (hk:k∈[("gate":Str),"stop"]):qy n1 n2 n3 n4 [("cross",n1),("gate",n2),(k,n3)] [((n1,"c"),(n2,"a")),((n3,"a"),(n1,"d"))] (n1,"a") (n1,"b")
def Bs{z:Type}{d:z}{l m:lQ z}(y:lQ Nat)(h:y.Perm (List.range m.length))(e:l=y.map λi=>m.getD i d):l.Perm m:=by
 have x:((List.range m.length).map λi=>m.getD i d)=m:=by
  apply List.ext_getElem
  ·simp
  ·intro i u w;simp[qo,w]
 rw[e];show(h.map _).trans (by rw[x])
def qy.sub{z y x w:lR}{ps:lQ Zh}{u:lQ (Zh×Zh)}{a b:Zh}(h:qy z y x w ps u a b):(ps.map snd).Sublist [z,y,x,w]:=by
 cases h with
 | plain=>show .cons_cons _ (DK _)
 | loop=>show List.Sublist.refl _
 | siding=>show .cons_cons _ (.cons_cons _<|.cons_cons _<|DK _)
 | cross=>show .cons_cons _<|.cons_cons _<|.cons_cons _<|DK _
def yN{k:lR}(z:k ="gate"\/k ="stop"):Yr k=[("a":lR)]:=by rcases z with rfl|rfl<;>decide +kernel
def NX:Yr "points"=[("stem":lR),"left","right"]:=by left
def DT:Yr "plain"=[("a":lR),"b"]:=by left
def WT:Yr "cross"=[("a":lR),"b","c","d"]:=by left
def qy.perm{z y w s:lR}{ps:lQ Zh}{q:lQ (Zh×Zh)}{a b:Zh}(h:qy z y w s ps q a b):(Xv q++[a,b]).Perm (Yu ps):=by
 cases h with
 | plain a b h =>
  simp only[nU,uI,uO,yy]at h;rcases h with⟨rfl,rfl⟩|⟨rfl,rfl⟩
  ·simp[Xv,Yu,DT]
  ·simp only[Xv,Yu,DT,List.flatMap_nil,CA,nV,uP,FI,pH];show Av _ _ _
 | loop a b h =>
  have he:Yu [("points",z),("plain",y),("plain",w),("points",s)]=([(z,"stem"),(z,"left"),(z,"right"),(y,"a"),(y,"b"),(w,"a"),(w,"b"),(s,"stem"),(s,"left"),(s,"right")]:lQ Zh):=by simp[Yu,NX,DT]
  rw[he];simp only[nU,uI,uO,yy]at h;rcases h with⟨rfl,rfl⟩|⟨rfl,rfl⟩
  ·show Bs (d:=(z,z)) [1,3,2,5,4,8,9,6,0,7] (show List.Perm _ (List.range 10) by lk) rfl
  ·show Bs (d:=(z,z)) [1,3,2,5,4,9,8,6,0,7] (show List.Perm _ (List.range 10) by lk) rfl
 | siding x a b k h r =>
  have u:k ="gate"\/k ="stop":=by
   simp only[nU,uI,uO]at r;show r.symm
  have he:Yu [("points",z),("plain",y),(k,w)]=([("stem":lR),"left","right"].map λe=>(z,e))++([(y,"a"),(y,"b"),(w,"a")]:lQ Zh):=by simp[Yu,NX,DT,yN u]
  rw[he];refine BE ?_<|Cg _<|h.map λe=>(z,e);show Bs (d:=(z,z)) [0,4,3,5,1,2] (show List.Perm _ (List.range 6) by lk) rfl
 | cross k r =>
  have u:k ="gate"\/k ="stop":=by
   simp only[nU,uI,uO]at r;show r
  have he:Yu [("cross",z),("gate",y),(k,w)]=([(z,"a"),(z,"b"),(z,"c"),(z,"d"),(y,"a"),(w,"a")]:lQ Zh):=by simp[Yu,WT,yN u,yN (k :="gate")<|.inl rfl]
  rw[he];show Bs (d:=(z,z)) [2,4,5,3,0,1] (show List.Perm _ (List.range 6) by lk) rfl
def qy.kind{w u s r:lR}{ps:lQ Zh}{q:lQ (Zh×Zh)}{a b:Zh}(h:qy w u s r ps q a b):∀p∈ps,p.1∈qp:=by
 cases h with
 | plain=>intro p z;simp at z;subst z;simp[qp]
 | loop=>intro p z;simp at z;rcases z with rfl|rfl|rfl|rfl<;>simp[qp]
 | siding x a b k h y=>intro p z;simp at z y;rcases z with rfl|rfl|rfl<;>rcases y with rfl|rfl<;>simp[qp]
 | cross k y=>intro p z;simp at z y;rcases z with rfl|rfl|rfl<;>rcases y with rfl|rfl<;>simp[qp]
def qy.apart{y w u s:lR}{ps:lQ Zh}{r:lQ (Zh×Zh)}{a b:Zh}(h:qy y w u s ps r a b)(q:[y,w,u,s].Nodup):∀j∈r,j.1.1≠j.2.1:=by
 simp only[pS,nU,uI,uO,not_or,Be,not_false_eq_true,tw,and_true]at q;obtain⟨⟨x,o,n⟩,⟨x,o⟩,l⟩:=q;cases h with
 | plain=>intro j z;cases z
 | loop=>intro j z;simp at z;rcases z with rfl|rfl|rfl|rfl<;>first|assumption|show oM (by assumption)
 | siding x a b k h p=>intro j z;simp at z;rcases z with rfl|rfl<;>first|assumption|show oM (by assumption)
 | cross k p=>intro j z;simp at z;rcases z with rfl|rfl<;>first|assumption|show oM (by assumption)
def qy.opens{z y x w:lR}{ps:lQ Zh}{u:lQ (Zh×Zh)}{a b:Zh}(h:qy z y x w ps u a b):a.1∈ps.map snd/\b.1∈ps.map snd:=by
 cases h<;>simp
def Bl{ps:lQ Zh}{e:Zh}(h:e∈Yu ps):e.1∈ps.map snd:=by
 obtain⟨p,z,he⟩:=uj.mp h;obtain⟨x,_,rfl⟩:=mX.mp he;show mX.mpr #[p,z,rfl]
def Net.more{ps:lQ Zh}{u:lQ (Zh×Zh)}{e:Zh}{s r q o:lR}{qs:lQ Zh}{w:lQ (Zh×Zh)}{a b:Zh}(h:Net ps u [e])(B:qy s r q o qs w a b)(l:[s,r,q,o].Nodup)(new:∀n∈[s,r,q,o],n∉ps.map snd):Net (ps++qs) (u++w++[(e,a)]) [b]:=by
 have he:e.1∈ps.map snd:=Bl (h.perm.subset<|by simp);have i:a.1∉ps.map snd:=new _<|B.sub.subset B.opens.1;refine#[?_,?_,?_,?_]
 ·rw[AV,AV,Ia];refine BE ?_<|h.perm.append B.perm;change(Xv u++Xv w++[e,a]++[b]).Perm ((Xv u++[e])++(Xv w++[a,b]));rw[pr,pr,pr];refine BV _ ?_;change(Xv w++([e]++[a,b])).Perm ([e]++(Xv w++[a,b]));rw[<-pr,<-pr];show Cg _ vX
 ·rw[nj,qk];show#[h.nd,zt B.sub l,λx p y j z=>new y (B.sub.subset j)<|z ▸ p]
 ·intro j x;rw[oj,oj]at x;rcases x with(z|z)|z
  ·show h.apart j z
  ·show B.apart l j z
  ·simp at z;subst z;show λy=>i<|y ▸ he
 ·intro p x;rcases oj.mp x with z|z
  ·show h.kind p z
  ·show B.kind p z
def vY(s:lR)(n:Nat):Prop:=∃z c k,(96<z.cps.toList.getD 0 0/\z.cps.toList.getD 0 0<123)/\k<n/\s=Yt z c k
def qy.len{y x w u:lR}{ps:lQ Zh}{z:lQ (Zh×Zh)}{a b:Zh}(h:qy y x w u ps z a b):ps.length<=4/\z.length<=4:=by
 cases h<;>simp
structure vA(i:Nat)(ps:List Zh)(js:List (Zh×Zh))(R6:Zh):Prop where
 net:Net ps js [R6]
 pl:ps.length<=1+4 * i
 jl:js.length<=5 * i
 nm:∀p∈ps,p=((("gate":Str),("g":Str)):Zh)\/vY p.2 (4 * i)
def vA.start:vA 0 [("gate","g")] [] ("g","a"):=by
 refine#[#[?_,by simp,by simp,by simp[qp]],by simp,by simp,by simp];simp[Xv,Yu,yN (k :="gate")<|.inl rfl]
def Mo{x s:lR}(y:x.length=1)(h:2<=s.length):s≠x:=λz=>by rw[z]at h;lia
def vA.more{i:Nat}{ps:lQ Zh}{N:lQ (Zh×Zh)}{M:Zh}{k1 k2 k3 s:lR}{r q o l:Int}{qs:lQ Zh}{L:lQ (Zh×Zh)}{a b:Zh}(h:vA i ps N M)(hi:i<20)
  (J:96<k1.cps.toList.getD 0 0/\k1.cps.toList.getD 0 0<123) (I:96<k2.cps.toList.getD 0 0/\k2.cps.toList.getD 0 0<123) (H:96<k3.cps.toList.getD 0 0/\k3.cps.toList.getD 0 0<123) (G:96<s.cps.toList.getD 0 0/\s.cps.toList.getD 0 0<123)
  (B:qy (Yt k1 r<|4 * i) (Yt k2 q<|4 * i+1) (Yt k3 o<|4 * i+2) (Yt s l<|4 * i+3) qs L a b):vA (i+1) (ps++qs) (N++L++[(M,a)]) b:=by
 have j:=xG (c:=r) (tW (by lk) J.1) (show 4 * i<100 by lia);have g:=xG (c:=q) (tW (by lk) I.1) (show 4 * i+1<100 by lia);have d:=xG (c:=o) (tW (by lk) H.1) (show 4 * i+2<100 by lia);have Y:=xG (c:=l) (tW (by lk) G.1) (show 4 * i+3<100 by lia);have w:∀{x y:lR}{m n:Nat},sW x=m->sW y=n->m≠n->x≠y:=λD C u z=>u (by rw[<-D,<-C,z])
 have A:[Yt k1 r (4 * i),Yt k2 q<|4 * i+1,Yt k3 o<|4 * i+2,Yt s l<|4 * i+3].Nodup:=by
  simp[w j g (by lia),w j d (by lia),w j Y (by lia),w g d (by lia),w g Y (by lia),w d Y<|by lia]
 have all:∀n∈[Yt k1 r (4 * i),Yt k2 q<|4 * i+1,Yt k3 o<|4 * i+2,Yt s l<|4 * i+3],4 * i<=sW n/\2<=n.length/\vY n (4 * (i+1)):=by
  intro n u;simp only[nU,uI,uO]at u;rcases u with rfl|rfl|rfl|rfl
  ·show#[by lia,yq (by lia),_,_,_,J,by lia,rfl]
  ·show#[by lia,yq (by lia),_,_,_,I,by lia,rfl]
  ·show#[by lia,yq (by lia),_,_,_,H,by lia,rfl]
  ·show#[by lia,yq (by lia),_,_,_,G,by lia,rfl]
 refine#[h.net.more B A λn u hm=>?_,?_,?_,?_]
 ·obtain⟨p,U,rfl⟩:=mX.mp hm;obtain⟨a1,a2,_⟩:=all _ u;rcases h.nm p U with z|⟨E,c,k,Q,i9,e⟩
  ·show Mo (x :="g") (by left) a2 (by rw[z])
  ·rw[e,xG (tW (by lk) Q.1)<|by lia]at a1;lia
 ·have:=B.len.1;have:=h.pl;rw[nX];lia
 ·have:=B.len.2;have:=h.jl;rw[nX,nX];change _+_+1<=_;lia
 ·intro p U;rcases oj.mp U with z|z
  ·rcases h.nm p z with y|⟨E,c,k,Q,i9,e⟩
   ·show .inl y
   ·show .inr #[E,c,k,Q,by lia,e]
  ·show .inr (all _<|B.sub.subset<|mX.mpr #[p,z,rfl]).2.2
def vA.done{i:Nat}{ps:lQ Zh}{u:lQ (Zh×Zh)}{w:Zh}(h:vA i ps u w)(g:i<20):Net (ps++[(("gate":lR),("h":lR))]) (u++[(w,(("h":lR),("a":lR)))]) []:=by
 have r:("h":lR)∉ps.map snd:=λz=>by
  obtain⟨p,s,e⟩:=mX.mp z;rcases h.nm p s with y|⟨n,c,k,x,q,y⟩
  ·rw[y]at e;show absurd e (by left)
  ·show Mo (x :="h") (by left) (yq (kind:=n) (c:=c) (k:=k)<|by lia) (by rw[<-y];show e)
 have l:w.1∈ps.map snd:=Bl (h.net.perm.subset<|by simp);refine#[?_,?_,?_,?_]
 ·rw[AV,Ia,pH];have he:Yu [("gate","h")]=([("h","a")]:lQ Zh):=by simp[Yu,yN (k :="gate")<|.inl rfl]
  rw[he];change(Xv u++([w]++[(("h":lR),("a":lR))])).Perm _;rw[<-pr];show Cg _ h.net.perm
 ·rw[nj,qk];show#[h.net.nd,by simp,λx q y o z=>by simp at o;rw[z,o]at q;show r q]
 ·intro j x;rcases oj.mp x with z|z
  ·show h.net.apart j z
  ·simp at z;subst z;show λy=>r (by have y:w.1=("h":lR):=y;rw[<-y];show l)
 ·intro p s;rcases oj.mp s with z|z
  ·show h.net.kind p z
  ·simp at z;subst z;simp[qp]
def W9(j:Nat):lR :="e"++sF j
def wM(Zs:lQ Zh)(i:Nat)(y:lQ Zh)(x:lQ (Zh×Zh)):Prop:=∃z:lQ lR,z.length=i/\(∀k∈z,k ="gate"\/k ="stop")/\y=(List.range i).map (λj=>(z.getD j "gate",W9 j))/\x=(List.range i).map (λj=>(Zs.getD j ("",""),(W9 j,("a":lR))))
def wM.more{Zs:lQ Zh}{i:Nat}{w:lQ Zh}{u:lQ (Zh×Zh)}{k:lR}{q:Zh}(h:wM Zs i w u)(p:k ="gate"\/k ="stop")(o:Zs[i]? =some q):wM Zs (i+1) (w++[(k,W9 i)]) (u++[(q,(W9 i,("a":lR)))]):=by
 obtain⟨s,r,y,rfl,rfl⟩:=h;refine#[s++[k],by rw[nX,r];rfl,?_,?_,?_]
 ·intro x n;rcases oj.mp n with z|z
  ·show y x z
  ·simp at z;rw[z];show p
 ·rw[yb,nj];congr 1
  ·refine Ao λj z=>?_
   have z:=yB.mp z;rw[qo,qo,AT<|by lia]
  ·change[(k,W9 i)]=[((s++[k]).getD i "gate",W9 i)];rw[qo,yM (by lia),r,GY]
   rfl
 ·rw[yb,nj];congr 1;change[(q,(W9 i,("a":lR)))]=[(Zs.getD i ("",""),(W9 i,("a":lR)))];rw[qo,o]
  rfl
def YH(k:lR):(Yr k).Nodup:=by
 unfold Yr;split
 ·decide +kernel
 ·split
  ·decide +kernel
  ·split<;>decide +kernel
theorem yF:∀{ps:lQ Zh},(ps.map snd).Nodup->(Yu ps).Nodup
 | [],_=>tw
 | p ::ps,h=>by
  rw[nV,pS]at h;rw[show Yu (p ::ps)=((Yr p.1).map λe=>(p.2,e))++Yu ps from CA ..,qk];refine#[?_,yF h.2,?_]
  ·refine Fm _ (λa b z y=>z ?_)<|YH p.1;show(Prod.mk.inj y).2
  ·intro x u y w z;obtain⟨e,_,rfl⟩:=mX.mp u;rw[<-z]at w;show h.1<|Bl w
def Net.ond{ps:lQ Zh}{z:lQ (Zh×Zh)}{o:lQ Zh}(h:Net ps z o):o.Nodup:=by
 have:=(h.perm.nodup_iff).mpr (yF h.nd);show(qk.mp this).2.1
def Net.add{ps:lQ Zh}{w:lQ (Zh×Zh)}{o:lQ Zh}{k n:lR}(h:Net ps w o)(r:n∉ps.map snd)(q:k∈qp):Net (ps++[(k,n)]) w (o++(Yr k).map λe=>(n,e)):=by
 refine#[?_,?_,h.apart,?_]
 ·rw[Ia,<-pr];have:Yu [(k,n)]=(Yr k).map λe=>(n,e):=by simp[Yu]
  rw[this];show Cg _ h.perm
 ·rw[nj,qk];show#[h.nd,by simp,λx u y s z=>by simp at s;rw[z,s]at u;show r u]
 ·intro p y;rcases oj.mp y with z|z
  ·show h.kind p z
  ·simp at z;rw[z];show q
def Net.join{ps:lQ Zh}{y:lQ (Zh×Zh)}{o o':lQ Zh}{a b:Zh}(h:Net ps y o)(x:(a ::b ::o').Perm o)(w:a.1≠b.1):Net ps (y++[(a,b)]) o':=by
 refine#[?_,h.nd,?_,h.kind]
 ·rw[AV];refine BE ?_ h.perm;change(Xv y++[a,b]++o').Perm _;rw[pr];show BV _ x
 ·intro j u;rcases oj.mp u with z|z
  ·show h.apart j z
  ·simp at z;rw[z];show w
theorem Gq{z:Type}:∀{l:lQ z}{i:Nat}{a:z},l[i]? =some a->(a ::l.eraseIdx i).Perm l
 | [],_,_,h=>by cases h
 | x ::l,0,a,h=>by cases h;show qh _
 | x ::l,i+1,a,h=>by
  rw[Cb];show(Av x a _).trans ((Gq (l:=l) h).cons x)
def Ya4{z:Type}{l m:lQ z}{i j:Nat}{a b:z}(y:l[i]? =some a)(x:m[j]? =some b):(a ::b ::(l.eraseIdx i++m.eraseIdx j)).Perm (l++m):=by
 refine BE ?_<|(Gq y).append (Gq x);change List.Perm _ (a ::(l.eraseIdx i++(b ::m.eraseIdx j)));show(List.perm_middle.symm).cons a
def Zyq{l:lQ Zh}{a:Zh}(w:l.Nodup)(s:a∈l):(a ::l.filter λe=>decide<|e≠a).Perm l:=by
 induction l with
 | nil=>cases s
 | cons x l r =>
  rw[pS]at w
  by_cases z:x=a
  ·subst z;rw[se,mT<|by simp];have:(l.filter λe=>decide<|e≠x)=l:=FL.mpr λe he=>nS λy=>w.1<|y ▸ he
   rw[this]
  ·rw[se,mU<|nS z];have u:a∈l:=by
    rcases nU.mp s with y|y
    ·show absurd y.symm z
    ·show y
   show(Av x a _).trans ((r w.2 u).cons x)
def Zys{r:Zh}{l:lQ Zh}{a:Zh}(z:(r ::l).Nodup)(y:a∈l):(a ::r ::l.filter λe=>decide<|e≠a).Perm (r ::l) :=
 (Av r a _).trans ((Zyq (pS.mp z).2 y).cons r)
def Oe{j:Nat}(h:j<100):sW (W9 j)=j:=by
 unfold W9 sW;rw[uk,zl];show EE j h
def Zx5:∀k,k<100->(sF k).cps.toList.getD 0 0<=57:=by left
def VZ{kd:lR}{c:Int}{k j:Nat}(w:j<100)(u:kd.cps.toList.getD 0 0≠101):Yt kd c k≠W9 j:=by
 intro z;have y:=oE (λs:lR=>s.cps.toList) z;have he:(W9 j).cps.toList=101 ::(sF j).cps.toList:=by unfold W9;rw[uk];rfl
 simp only[he]at y;unfold Yt at y;split at y
 ·rw[uk]at y;show u (Go y).1
 ·rw[uk,uk,uk]at y;have s:=pY (c / 78) (show(26:Int)≠0 by lk);have r:=qg (c / 78) (show(0:Int)<26 by lk);have p:=PQ s r;have q:=(Go y).2;have x:=Zx5 j w;rw[<-q]at x;have:sJ (c / 78%26)<=57:=x;lia
def Net.closed{ps:lQ Zh}{x:lQ (Zh×Zh)}{Zs s:lQ Zh}{r:lQ (Zh×Zh)}(h:Net ps x Zs)(d:wM Zs Zs.length s r)(L:Zs.length<=90)(c:∀j,j<90->W9 j∉ps.map snd):Net (ps++s) (x++r) []:=by
 obtain⟨y,z,w,rfl,rfl⟩:=d;have Y:∀n,n<=Zs.length->Net (ps++(List.range n).map λj=>(y.getD j "gate",W9 j)) (x++(List.range n).map λj=>(Zs.getD j ("",""),(W9 j,("a":lR)))) (Zs.drop n):=by
  intro n
  induction n with
  | zero=>intro _;simpa using h
  | succ n U =>
   intro Q;have q:=U (by lia);have p:n<Zs.length:=by lia
   have o:y.getD n "gate"="gate"\/y.getD n "gate"="stop":=w _ (by
    rw[qo,oy<|by lia];show List.getElem_mem _)
   have l:W9 n∉(ps++(List.range n).map λj=>(y.getD j "gate",W9 j)).map snd:=by
    rw[nj,oj];rintro(z|z)
    ·show c n (by lia) z
    ·rw[pi]at z;obtain⟨j,i,e⟩:=mX.mp z;have i:=yB.mp i;have:=oE sW e;rw[Oe (by lia)]at this;have u:sW (W9 j)=n:=this;rw[Oe (by lia)]at u;lia
   have g:=q.add l (k:=y.getD n "gate") (by rcases o with z|z<;>rw[z]<;>simp[qp]);rw[yN o]at g;have hd:Zs.drop n=Zs.getD n ("","") ::Zs.drop (n+1):=by
    rw[yl p,qo,oy p]
    rfl
   have N:(Zs.getD n ("","")).1≠W9 n:=by
    have:Zs.getD n ("","")∈Zs.drop n:=by rw[hd];simp
    have M:=Bl<|q.perm.subset<|qv _ this;show λz=>l<|z ▸ M
   have u:=g.join (a:=Zs.getD n ("","")) (b:=(W9 n,"a")) (o':=Zs.drop<|n+1) (by
    rw[hd];change List.Perm _ (Zs.getD n ("","") ::(Zs.drop (n+1)++[(W9 n,("a":lR))]));show(List.perm_append_singleton _ _).symm.cons _) N
   rw[yb,nj,nj,<-pr,<-pr];show u
 have:=Y Zs.length<|nk _;rwa[BI]at this
end YM
end
section
namespace YM
open PySem L2 NM
def Ck:∀k∈qp,57<k.cps.toList.getD 0 0/\k.cps.toList.getD 0 0≠101/\0<k.length/\k.length<=6/\(Yr k).length<=4/\0<(Yr k).length:=by left
def GR(s:lR)(n:Nat):Prop:=∃z∈qp,∃(c:Int)(k:Nat),k<n/\s=Yt z c k
structure Xx(i m:Nat)(ps:List Zh)(js:List (Zh×Zh))(Zs:List Zh):Prop where
 net:Net ps js Zs
 sum:ps.length+Zs.length<=39
 jl:js.length<=m
 nm:∀p∈ps,GR p.2 i
def Xx.start:Xx 0 0 [] [] []:=#[#[qh _,tw,by simp,by simp],by simp,by simp,by simp]
def Xx.mono{i m z y:Nat}{ps:lQ Zh}{x:lQ (Zh×Zh)}{Zs:lQ Zh}(h:Xx i m ps x Zs)(o:i<=z)(w:m<=y):Xx z y ps x Zs :=
 #[h.net,h.sum,ow h.jl w,λp u=>let⟨s,r,c,k,n,q⟩:=h.nm p u;#[s,r,c,k,by lia,q]]
def Xx.new{i m:Nat}{ps:lQ Zh}{y:lQ (Zh×Zh)}{Zs:lQ Zh}{kd:lR}{c:Int}(h:Xx i m ps y Zs)(x:i<100)(w:kd∈qp):Yt kd c i∉ps.map snd:=λz=>by
 obtain⟨p,u,e⟩:=mX.mp z;obtain⟨s,r,o,k,n,q⟩:=h.nm p u;have:=oE sW<|e.symm.trans q;rw[xG (Ck _ w).1 x,xG (Ck _ r).1 (by lia)]at this;lia
def Xx.add{i m:Nat}{ps:lQ Zh}{x:lQ (Zh×Zh)}{Zs:lQ Zh}{kd:lR}{c:Int}(h:Xx i m ps x Zs)(w:i<100)(y:kd∈qp)(s:ps.length+Zs.length+(Yr kd).length<=38):Xx (i+1) m (ps++[(kd,Yt kd c i)]) x (Zs++(Yr kd).map λe=>(Yt kd c i,e)):=by
 refine#[h.net.add (h.new w y) y,?_,h.jl,?_]
 ·rw[nX,nX,mK];change _+1+_<=39;lia
 ·intro p u;rcases oj.mp u with z|z
  ·show(h.mono (rV i)<|nk m).nm p z
  ·simp at z;rw[z];show#[kd,y,c,i,by lia,rfl]
def Xx.join(h:Xx i m ps y o)(z:(a ::b ::o').Perm o)(x:a.1≠b.1):Xx i (m+1) ps (y++[(a,b)]) o':=by
 refine#[h.net.join z x,?_,?_,h.nm]
 ·have:=h.sum;have w:=z.length_eq;simp at w;lia
 ·rw[nX];show xT h.jl
def Xx.done{i m:Nat}{ps:lQ Zh}{y:lQ (Zh×Zh)}{Zs x:lQ Zh}{w:lQ (Zh×Zh)}(h:Xx i m ps y Zs)(n:i<=100)(u:wM Zs Zs.length x w):Net (ps++x) (y++w) []:=by
 have l:=h.sum;refine h.net.closed u (by lia) λj g z=>?_
 obtain⟨p,s,e⟩:=mX.mp z;obtain⟨r,q,d,k,c,o⟩:=h.nm p s;show VZ (by lia) (Ck _ q).2.1 (o.symm.trans e)
theorem NQ{z y:Type}{R:z->y->Prop}:∀{l:lQ z}{m:lQ y},Paired R l m->∀i,Paired R (l.eraseIdx i) (m.eraseIdx i)
 | _,_,.nil,_=>.nil
 | _,_,.cons r t,0=>t
 | _,_,.cons r t,i+1=>.cons r<|NQ t i
theorem IT{z y:Type}(f:z->y):∀(l:lQ z)(i:Nat),(l.map f).eraseIdx i=(l.eraseIdx i).map f
 | [],_=>rfl
 | _ ::_,0=>rfl
 | x ::l,i+1=>by rw[nV,Cb,Cb,nV,IT f l i]
end YM
end
section
namespace L2
open PySem PySem.Spec PyProof.Rows
section
variable {X:Cx} {a b:ma} {ta tb:TE} {p pos:Pos}
def pp(z:X.mg "len"=none)(y:PE X a ta)(x:Gl X "len":=by rfl)(h:Aw a=true:=by rfl):PE X (.Call (.Name "len" p) [a] [] pos) (yx (JZ X.K)<|tY ta wD):=Z4 WD x z Hg (Zb y Za h) (by lk) (by lk) (zR h) rfl
def ro(n:String){u:lR}{q:Pos}(y:X.mg "isinstance"=none)(x:X.mg u=none)(w:bootBuiltins u=some (.type n))(s:PE X a ta)(r:Gl X "isinstance":=by rfl)(h:Aw a=true:=by rfl)(z:Gl X u:=by rfl)(o:u≠ "__name__":=by lk)(l:(u ==("__debug__":lR))=false:=by lk):PE X (.Call (.Name "isinstance" p) [a,.Name u q] [] pos) (yx (yk X.K)<|tY ta<|tY (tC<|.ty n) wD):=Z4 Cm r y rP (Zb s (Zb (Mm (v:=.ty n) z x w rfl o l) Za) h) (by lk) (by lk) (zR h) (by rw[zR rfl];rfl)
def Ab{k:Nat}(z:Y4 k X.A)(y:PE X a ta)(x:PE X b tb):PE X (.Compare a [.Eq] [b] pos) (qQ (AQ X.K) ta tb):=uT (CZ z) y x<|Yn _
def oZ{k:Nat}(z:Y4 k X.A)(y:PE X a ta)(x:PE X b tb):PT X (.Compare a [.Eq] [b] pos) (xL<|qQ (AQ X.K) ta tb):=Yf (CZ z) y x<|Yn _
def Pw{k:Nat}(z:Y4 k X.A)(y:PE X a ta)(x:PE X b tb):PE X (.Compare a [.NotEq] [b] pos) (qQ (uo X.K) ta tb):=uT (wK z) y x<|Yn _
def rH{k:Nat}(z:Y4 k X.A)(y:PE X a ta)(x:PE X b tb):PT X (.Compare a [.NotEq] [b] pos) (xL<|qQ (uo X.K) ta tb):=Yf (wK z) y x<|Yn _
def GF{k:Nat}(z:Y4 k X.A)(y:PE X a ta)(x:PE X b tb)(w:behindInMarks .In b=false:=by with_unfolding_all rfl):PE X (.Compare a [.In] [b] pos) (qQ (Cr X.K) ta tb):=uT (GX z) y x w
def xI{k:Nat}(z:Y4 k X.A)(y:PE X a ta)(x:PE X b tb)(w:behindInMarks .In b=false:=by with_unfolding_all rfl):PT X (.Compare a [.In] [b] pos) (xL<|qQ (Cr X.K) ta tb):=Yf (GX z) y x w
def uZ{k:Nat}(z:Y4 k X.A)(y:PE X a ta)(x:PE X b tb)(w:behindInMarks .NotIn b=false:=by with_unfolding_all rfl):PT X (.Compare a [.NotIn] [b] pos) (xL<|qQ (Iq X.K) ta tb):=Yf (Ow z) y x w
def ny(z:PE X a ta)(y:PE X b tb)(x:EQ b:=by show λ_ _=>rfl):PE X (.Subscript a b pos) (qQ (zf X.K) ta tb):=KN Mx z y x
def rO{q:Pos}(y:PE X a ta)(w:PE X b tb)(h:Aw b=true:=by rfl)(u:attributeBase a "append" X.env (eval a X.env)=eval a X.env:=by rfl)
  (z:((backTo pos<|starEach [b] X.env).all (λx=>!x.1) && (backToKw pos<|keywordEach [] X.env).all (λx=>x.1.isSome)
   && decide ([b].length+([]:lQ Keyword).length+(if([]:lQ Keyword).isEmpty then 0 else 1)<30))=true:=by rfl)
  (s:(q.endLine ==pos.line)=true:=by rfl):PE X (.Call (.Attribute a "append" q) [b] [] pos) (QS X.K "list" Qb ta<|tY tb wD):=yh xO Qc PySem.F.type_list_append Jm y (Zb w Za h) u z s (zR h) rfl
end
def oR{X:Cx}{scope:Scope}{s:lQ (lR×lS)}{r:lQ lR}(n:Nat)(w:lQ Nat)(u:closureFor scope X.env=pure s)(kind:scope.kind=.function:=by rfl)(cell:∀y∈scope.names,y.2≠.cell:=by left)
  (names:∀y∈scope.names,y.2=.local->scope.names.lookup y.1=some .local:=by left) (q:uU (λp=>X.env.cells.lookup p.1=some p.2) s:=by repeat first|show trivial|refine#[rfl,?_])
  (o:(scope.names.all λy=>y.2 !=.free || ((s.lookup y.1).isSome && (X.env.kindOf y.1 ==some .cell || X.env.kindOf y.1 ==some .free)))=true:=by rfl)
  (l:r.length=n+w.length:=by rfl) (i:uU (λp:Nat×Nat=>∃x,r[n+p.1]? =some x/\X.N[p.2]? =some x/\scope.names.lookup x=some .free) ((List.range w.length).zip w):=by repeat first|show trivial|refine#[#[_,rfl,rfl,rfl],?_]) :
  X8 X scope s r (λz=>List.replicate n none++w.map λj=>(z[j]?).join):=X8.std n w kind cell names u q o l i
def Ax:lQ lR->Bool
 | []=>true
 | x ::l=>!l.contains x && Ax l
theorem Mj:∀{l:lQ lR},Ax l=true->l.Nodup
 | [],_=>tw
 | x ::l,h=>by
  rw[Ax,qu,Bool.not_eq_true']at h;show pS.mpr #[λz=>(by rw[Ja.mpr z]at h;cases h.1),Mj h.2]
def oA{X:Cx}{pos:Pos}(i:Nat){x:lR}(z:Ax X.N=true:=by kernel_rfl)(y:X.N[i]? =some x:=by rfl)(w:vo X.env.scope x:=by show xY<|lookup_relabel_local rfl)(u:X.fn x=true\/X.env.scope.names.lookup x=some .local:=by show yZ<|lookup_relabel_local rfl):PG X (.Name x pos) (qI i):=Gf (Mj z) y w u
def mY{X:Cx}(i:Nat){ps:lQ lR}{x:lR}{e:ma}{z:TE}{pos y:Pos}(S:Zw X.N ps X.env.scope)(he:PE X e z)(w:X.N[i]? =some x:=by rfl)(u:vo X.env.scope x:=by first|show xY rfl|show yZ rfl)(s:swapsWith e (some<|.Name x y) pos.line X.env=pure false:=by rfl)(r:X.fn x=true\/X.env.scope.names.lookup x=some .local:=by and_intros):PS X (.Assign [.Name x y] e pos) (AM z<|qI i):=Yf4 S.nd w u he s r
def nZ{X:Cx}(i:Nat){ps:lQ lR}{x:lR}{pos:Pos}(S:Zw X.N ps X.env.scope)(z:X.N[i]? =some x:=by rfl)(y:vo X.env.scope x:=by first|show xY rfl|show yZ rfl)(w:X.fn x=true\/X.env.scope.names.lookup x=some .local:=by and_intros):PG X (.Name x pos) (qI i):=Gf S.nd z y w
def pF{X:Cx}{q u r:ma}{p:lQ ma}{scope:Scope}{pos:Pos}{y:lQ (lR×lS)}(w:lQ lR){fr:St->St}{o:TI}{g:TG}{n:TT}{l:TE}
  (S:X8 X scope y w fr) (j:PI X u r o) (i:∀{s H C z},PG (Xf X scope y w s H C z) u g) (h:∀{s H C z},PF (Xf X scope y w s H C z) p n)
  (he:∀{s H C z},PE (Xf X scope y w s H C z) q l) (e:X.calm=true:=by rfl) (d:∀x,foldedSetIterable r X.env x=pure x:=by intro _;rfl):PE X (.ListComp q [#[u,r,p,0]] scope pos) (AA o fr g n l):=XZ e S j (λ_ _ _ _=>i) (λ_ _ _ _=>h) (λ_ _ _ _=>he) d
def xo{X:Cx}(i:Nat){ps:lQ lR}{y:lR}{j z:Pos}{o u r:ma}{n:lQ ma}{scope:Scope}{pos:Pos}{q:lQ (lR×lS)}(p:lQ lR){fr:St->St}{h:TI}{g:TG}{e:TT}{d:TE}
  (F:Zw X.N ps X.env.scope) (S:X8 X scope q p fr) (c:PI X u r h) (a:∀{s H C w},PG (Xf X scope q p s H C w) u g) (Y:∀{s H C w},PF (Xf X scope q p s H C w) n e)
  (he:∀{s H C w},PE (Xf X scope q p s H C w) o d) (U:X.N[i]? =some y:=by rfl) (Q:vo X.env.scope y:=by show xY rfl) (N:X.calm=true:=by rfl) (M:∀x,foldedSetIterable r X.env x=pure x:=by intro _;rfl)
  (l:swapsWith (.ListComp o [#[u,r,n,0]] scope pos) (some<|.Name y j) z.line X.env=pure true:=by rfl) (L:X.fn y=true\/X.env.scope.names.lookup y=some .local:=by and_intros) :
  PS X (.Assign [.Name y j] (.ListComp o [#[u,r,n,0]] scope pos) z) (AM (AA h fr g e d)<|qI i):=UZ F.nd U Q N S c (λ_ _ _ _=>a) (λ_ _ _ _=>Y) (λ_ _ _ _=>he) M l L
abbrev Dn.O{K:lW}{x q:lR}{st:lX}{ps:lQ lR}(d:Dn K x q st ps)(P:md)(w:lZ)(mg:lR->lV lT)(mD:lY)(k:Nat)(sp:Sp):Prop:=Xs P w K mg mD oN k d.f d.fd ps sp
abbrev yp.O{K:lW}{x q:lR}{st:lX}{ps:lQ lR}{v:V}(d:yp K x q st ps v)(P:md)(w:lZ)(mg:lR->lV lT)(mD:lY)(k:Nat)(sp:Sp):Prop:=Xs P w K mg mD oN k d.f d.fd ps sp
def RB{z:Type}{us:lQ z}(h:us.length=5):∃a b c d e,us=[a,b,c,d,e]:=by
 rcases us with _|⟨a,_|⟨b,_|⟨c,_|⟨d,_|⟨e,_|_⟩⟩⟩⟩⟩<;>first|show#[_,_,_,_,_,rfl]|cases h
abbrev kB(K:lW)(a b:lS)(v:Bool):Prop:=kitOne K (.ref a) (.ref b)=some v
abbrev wf(ps:lQ lR)(st:lX):Prop:=Zw ps ps<|Zj st
abbrev cB(K:lW)(a:lS):Prop:=findIn K (.ref a) "__class__"=some (some<|.builtin "object.__class__")
abbrev OE(K:lW)(mg:lR->lV lT)(x:lR)(a:lS):Prop:=Bw K mg x a [.type "ValueError",.type "Exception",.type "BaseException",.type "object"] "ValueError.__new__"
structure DG(K:Frag)(mg:Str->Option Value)(x:Str)(st:Stmt)(ps:List Str) extends Dn K x x st ps where
 m:mg x=some (.ref f)
def Zy{X:Cx}{x:lR}{st:lX}{ps:lQ lR}{d:DG X.K X.mg x st ps}{y:Sp}{j k:Nat}{e:ma}{z:lQ ma}{t:TA}{p pos:Pos}(F:Xs X.prog X.w X.K X.mg X.mD oN k d.f d.fd ps y)(w:Y4 j X.A)(u:PA X (e ::z) t)(s:Gl X x:=by rfl)(r:k<=j:=by lk)(q:(x ==("__debug__":lR))=false:=by lk)(he:starEach (e ::z) X.env=(false,eval e X.env) ::starEach z X.env:=by rfl)(o:(backTo pos<|starEach z X.env).any (·.1)=false:=by rfl):PE X (.Call (.Name x p) (e ::z) [] pos) (IK y [] E0 t):=Xy F (w.mono r) s d.m d.F.kp d.b .nil Z0 u q he o
end L2
end
section
namespace L2
abbrev IF:=Nat->St->Hp->Prop
abbrev IC:=St->Hp->Prop
end L2
namespace HT
open PySem PyProof.Rows
section
open PySem.SeqAt
variable {prog:md} {w:lZ} {A:me} {E:lT->lU->Prop} {s:lU}
def cat_tup{t b:lS}{vs z:lQ lT}{Q:lT->lU->Prop}(d:IsTup s.heap t vs.toArray)(c:IsTup s.heap b z.toArray)(o:vs≠[])
  (a:z=[]->Q (.ref t) s) (Y:z≠[]->Q (.ref #v[s]) {s with heap:=s.heap.push {cls:=.type "tuple",data:=.seq (vs++z).toArray}})
  (hsz:vs.length+z.length<=sizeLine):wpAny (model prog w) A (binaryOp .Add (.ref t)<|.ref b) Q E s:=by
 obtain⟨⟨cls,l,data,j⟩,r,i,n,hd⟩:=id d;obtain⟨⟨h,y,data2,x⟩,q,P3,g,u⟩:=id c;simp only at i hd P3 u;subst i hd P3 u;have e:vs.toArray++z.toArray=(vs++z).toArray:=by simp
 by_cases p:z=[]
 ·show concat_meets #[_,r,rfl] #[_,q,rfl] noFill_tuple_add seq_tuple_add PX ON (JW _ _)
   (tuple_addW1 t b vs.toArray z.toArray n g l y j x (by simpa using o)<|by simp[p]) #[r,q,a p]
 ·refine concat_meets #[_,r,rfl] #[_,q,rfl] noFill_tuple_add seq_tuple_add PX ON (JW _ _)
   (tuple_addW2 t b vs.toArray z.toArray n g l y j x (by simpa using o) (by simpa using p) (by rw[oz,oz];show hsz)) #[r,q,?_]
  rw[e];show Y p
end
end HT
namespace L2
open PySem PyProof.Rows
section
variable {prog:md} {w:lZ} {A:me} {E:lT->lU->Prop} {s:lU} {o:Array Keyed} {kd:SortKind} {p:Array (Nat×Nat×Nat)} {st:SortSt}
structure Ps(kd:SortKind)(o:Array Keyed)(p:Array (Nat×Nat×Nat))(st:SortSt):Prop where
 perm:(arrOf st).Perm o
 kind:kindOf st=kd
 good:failedOf st=none
 pend:pendingOf st=p
theorem Ps.many(h:Ps kd o p st):(arrOf st).size=o.size:=h.perm.size_eq
theorem Ps.to(h:Ps kd o p st){xs:Array Keyed}(q:xs.Perm (arrOf st)):Ps kd o p (setArr st xs):=#[q.trans h.perm,h.kind,h.good,h.pend]
theorem Ps.mem(h:Ps kd o p st){x:Keyed}(z:x∈arrOf st):x∈o:=h.perm.mem_iff.mp z
theorem Xt{z:Array Keyed}{i:Nat}{Q:Keyed->SortSt->Prop}(y:i<z.size)(q:Q z[i] st):wpS (model prog w) A E s (elem' z i) Q st:=by
 rw[elem'_eq,Hw z i y];show nI q
theorem oG{z:Type}{c:Prop}[Decidable c]{x y:StateT SortSt Sem z}{R:z->SortSt->Prop}(r:c->wpS (model prog w) A E s x R st)(q:¬c->wpS (model prog w) A E s y R st):wpS (model prog w) A E s (if c then x else y) R st:=by
 by_cases u:c
 ·rw[mU u];show r u
 ·rw[mT u];show q u
theorem FV{z:Type}{m n:StateT SortSt Sem z}{Q:z->SortSt->Prop}(C:SortSt->Prop)(a:(∀y:SortSt,C y->wpS (model prog w) A E s m Q y)->wpS (model prog w) A E s n Q st)(b:∀y:SortSt,C y->wpS (model prog w) A E s m Q y):wpS (model prog w) A E s n Q st:=a b
theorem En{z y:Type}{m:y->StateT SortSt Sem z}{Q:z->SortSt->Prop}{n:StateT SortSt Sem z}(C:y->SortSt->Prop)(a:(∀x u,C x u->wpS (model prog w) A E s (m x) Q u)->wpS (model prog w) A E s n Q st)(b:∀x u,C x u->wpS (model prog w) A E s (m x) Q u):wpS (model prog w) A E s n Q st:=a b
theorem CT{z y u:Type}{m:y->u->StateT SortSt Sem z}{Q:z->SortSt->Prop}{n:StateT SortSt Sem z}(C:y->u->SortSt->Prop)(a:(∀x r q,C x r q->wpS (model prog w) A E s (m x r) Q q)->wpS (model prog w) A E s n Q st)(b:∀x r q,C x r q->wpS (model prog w) A E s (m x r) Q q):wpS (model prog w) A E s n Q st:=a b
def WF:Nat->StateT SortSt Sem Unit:=sortPriv% PySem.Builtin.setMinGallop
def Gs(st z:SortSt):Prop:=kindOf z=kindOf st/\arrOf z=arrOf st/\pendingOf z=pendingOf st/\failedOf z=failedOf st
theorem BU{g:Nat}{Q:Unit->SortSt->Prop}{z:SortSt}(h:Gs z st)(q:∀y,Gs z y->Q () y):wpS (model prog w) A E s (WF g) Q st:=Aa<|q _ #[h.1,h.2.1,h.2.2.1,h.2.2.2]
variable (L:yg prog w A s kd o)
include L
theorem zQ{x y:Keyed}{Q:lV Bool->SortSt->Prop}(z:kindOf st=kd)(u:x∈o)(r:y∈o)(q:∀b,Q (some b) st):wpS (model prog w) A E s (lt' x y) Q st:=by
 rw[lt'_eq];refine nw<|uK ?_;rw[z];show nw<|xQ<|wpAny_attempt<|L x u y r _ _ λb=>#[rfl,nI<|q b]
theorem zJ{i j:Nat}{Q:lV Bool->SortSt->Prop}(h:Ps kd o p st)(z:i<o.size)(y:j<o.size)(q:∀b,Q (some b) st):wpS (model prog w) A E s (ltAt' i j) Q st:=by
 rw[ltAt'_eq];refine nw<|uK<|nw<|Xt (by rw[h.many];show z)<|nw<|Xt (by rw[h.many];show y) ?_;show zQ L h.kind (h.mem<|sN _) (h.mem<|sN _) q
theorem Tw{lo m:Nat}{Q:lV Nat->SortSt->Prop}(h:Ps kd o p st)(g:1<=m)(H:lo+m<=o.size)(q:∀n x,Ps kd o p x->1<=n->n<=m->Q (some n) x):wpS (model prog w) A E s (countRun' lo m) Q st:=by
 have up:∀(a:Nat)(st:SortSt)(R:lV (lV Nat)×Nat->SortSt->Prop),1<=a->a<=m->Ps kd o p st->(∀n,a<=n->n<=m->R (none,n) st)->
   wpS (model prog w) A E s (forIn [a:m] ((none,a):lV (lV Nat)×Nat) λ_ z=>do
    let l <-ltAt' (lo+z.snd) (lo+z.snd-1)
    match l with
    | some smaller=>if smaller=true then pure (ForInStep.done (none,z.snd))else pure (ForInStep.yield (none,z.snd+1))
    | _=>pure<|ForInStep.done (some none,z.snd)) R st:=λa st R g d h q=>by
  refine rQ (I:=λn c x=>x=st/\c=(none,n)) ?_ ?_ #[rfl,rfl]
  ·rintro n c x r j ⟨rfl,rfl⟩;refine nw<|zJ L h (by lia) (by lia) λb=>?_;cases b with
   | true=>show nI (q n r<|by lia)
   | false=>show nI #[rfl,rfl]
  ·rintro c x ⟨rfl,rfl⟩;show q _ (by lia) (by lia)
 rw[countRun'_eq];refine nw<|up 1 st _ (nk _) g h λn Y U=>?_;dsimp only
 by_cases N:n=m
 ·rw[mU (by simpa using N)];show nI<|q n st h Y U
 rw[mT (by simpa using N)];apply FV (Ps kd o p)
 case a =>
  intro Zs
  by_cases z:n >1
  ·rw[mU z];refine nw<|zJ L h (by lia) (by lia) λb=>?_;cases b with
   | true=>show nI (q n st h Y U)
   | false=>show nw<|wpS_reverse<|Zs _<|h.to<|mirror_perm _ _ _ _
  ·rw[mT z];show Zs st h
 intro x d;refine nw<|xQ<|vh #[rfl,?_];refine nw<|sS (rQ (I:=λi c u=>Ps kd o p u/\∃e,c=(none,i,e)) (Q:=λc u=>Ps kd o p u/\∃i e,c=(none,i,e)/\n+1<=i/\i<=m) ?_ ?_ #[d,0,rfl]) ?_
 ·rintro i c u r j ⟨y,e,rfl⟩;dsimp only;refine nw<|zJ L y (by lia) (by lia) λb=>?_;cases b with
  | true =>
   change wpS _ _ _ _ (if e >0 then _ else _) _ _
   by_cases he:e >0
   ·rw[mU he];show nw<|wpS_reverse<|nI #[y.to<|mirror_perm _ _ _ _,0,rfl]
   ·rw[mT he];show nI #[y,0,rfl]
  | false =>
   refine nw<|zJ L y (by lia) (by lia) λb=>?_;cases b with
   | true=>show nI #[y,i,e,rfl,r,by lia]
   | false=>show nI #[y,e+1,rfl]
 ·rintro c u ⟨y,e,rfl⟩;show#[y,_,e,rfl,by lia,by lia]
 ·rintro c u ⟨y,i,e,rfl,r,j⟩;dsimp only;apply FV (Ps kd o p)
  case a =>
   intro Zs
   by_cases he:e >0
   ·rw[mU he];show nw<|wpS_reverse<|Zs _<|y.to<|mirror_perm _ _ _ _
   ·rw[mT he];show Zs u y
  intro z M;refine nw<|wpS_reverse ?_;have l:=M.to<|mirror_perm (arrOf z) lo (lo+i)<|(lo+i-lo) / 2;show nw<|up i _ _ (by lia) j l λk G J=>nI<|q k _ l (by lia) J
theorem Uj{lo n r:Nat}{Q:Bool->SortSt->Prop}(h:Ps kd o p st)(d:lo+n<=o.size)(q:∀j,Ps kd o p j->Q true j):wpS (model prog w) A E s (binarySort' lo n r) Q st:=by
 rw[binarySort'_eq];refine nw<|sS (rQ (I:=λ_ c j=>c=(none,())/\Ps kd o p j) (Q:=λc j=>c=(none,())/\Ps kd o p j) ?_ (λ_ _ z=>z) #[rfl,h]) ?_
 ·rintro x c j a Y ⟨rfl,g⟩;refine nw<|sS (rQ (I:=λ_ c i=>i=j/\∃l u,c=(none,l,u)/\u<=x) (Q:=λc i=>i=j/\∃l u,c=(none,l,u)/\u<=x) ?_ (λ_ _ z=>z) #[rfl,0,x,rfl,nk _]) ?_
  ·rintro y c i _ _ ⟨rfl,l,u,rfl,e⟩;dsimp only
   by_cases z:l ≥ u
   ·rw[mU z];show nI #[rfl,l,u,rfl,e]
   ·rw[mT z];refine nw<|zJ L g (by lia) (by lia) λb=>?_;cases b with
    | true=>show nI #[rfl,l,(l+u) / 2,rfl,by lia]
    | false=>show nI #[rfl,(l+u) / 2+1,u,rfl,e]
  ·rintro c i ⟨rfl,l,u,rfl,e⟩;change wpS _ _ _ _ (do moveDown' (lo+x) (lo+l);pure (ForInStep.yield (none,()))) _ _;rw[moveDown'_eq];show nw<|Aa<|nI #[rfl,g.to<|bubble_perm _ _ _]
 ·rintro c j ⟨rfl,g⟩;show nI<|q j g
def WG:Bool->Keyed->Array Keyed->Nat->Nat->Nat->StateT SortSt Sem (lV Nat):=sortPriv% PySem.Builtin.gallop
def Ya6:Array Keyed->Array Keyed->StateT SortSt Sem (Array Keyed):=sortPriv% PySem.Builtin.mergeLo
def Ybh:Array Keyed->Array Keyed->StateT SortSt Sem (Array Keyed):=sortPriv% PySem.Builtin.mergeHi
theorem zk{left:Bool}{key:Keyed}{U:Array Keyed}{mD n h:Nat}{Q:lV Nat->SortSt->Prop}(J:kindOf st=kd)(H:key∈o)(B:∀x∈U,x∈o)(hb:mD+n<=U.size)(hh:h<n)(q:∀k,k<=n->Q (some k) st) :
  wpS (model prog w) A E s (WG left key U mD n h) Q st:=by
 have j:∀(i:Nat)(R:lV Bool->SortSt->Prop),i<n->(∀b,R (some b) st)->wpS (model prog w) A E s (do
   let x <-elem' U (mD+i)
   if left=true then lt' x key else do
    let y <-lt' key x
    pure (Option.map (λx=>!x) y)) R st:=λi R hi r=>by
  have D:mD+i<U.size:=by lia
  refine nw<|Xt D ?_;have C:=B _<|sN D;cases left with
  | true=>show zQ L J C H r
  | false=>show nw<|zQ L J H C λb=>nI<|r _
 refine nw<|j h _ hh λb=>?_;have on:∀{f:Nat->lV (lV Nat)×Nat×Nat->StateT SortSt Sem (ForInStep<|lV (lV Nat)×Nat×Nat)}{R:lV (lV Nat)×Nat×Nat->SortSt->Prop}(G:Nat->Prop){l u:Nat},G u->
   (∀i l u (a:ForInStep (lV (lV Nat)×Nat×Nat)->SortSt->Prop),G u->(∀l u,G u->a (.done (none,l,u)) st/\a (.yield (none,l,u)) st)->wpS (model prog w) A E s (f i (none,l,u)) a st)->(∀l u,G u->R (none,l,u) st)->wpS (model prog w) A E s (forIn [:n] (none,l,u) f) R st:=λ{f R} G {l u} g hf r =>
  sS (rQ (I:=λ_ c N=>N=st/\∃l u,c=(none,l,u)/\G u) (Q:=λc N=>N=st/\∃l u,c=(none,l,u)/\G u) (λi c N _ _ ⟨e,l,u,M,Y⟩=>by subst e M;show hf i l u _ Y λl u Y=>#[#[rfl,l,u,rfl,Y],#[rfl,l,u,rfl,Y]]) (λ_ _ z=>z) #[rfl,l,u,rfl,g]) λc N ⟨e,l,u,M,Y⟩=>by subst e M;show r l u Y
 have go:∀{c:Prop} [Decidable c] {x y:StateT SortSt Sem (ForInStep<|lV (lV Nat)×Nat×Nat)} {R:ForInStep (lV (lV Nat)×Nat×Nat)->SortSt->Prop},(c->wpS (model prog w) A E s x R st)->(¬c->wpS (model prog w) A E s y R st)->wpS (model prog w) A E s (if c then x else y) R st:=λ{c _ x y R} h1 h2=>by
  by_cases z:c
  ·rw[mU z];show h1 z
  ·rw[mT z];show h2 z
 cases b with
 | true =>
  refine nw<|on (λ_=>True) trivial (λi l u a _ r=>go (λ_=>nI (r l u trivial).1) λ(z:¬u ≥ n-h)=>nw<|j (h+u) _ (by lia) λb=>?_) λl u _=>?_
  ·cases b with
   | true=>show nI (r _ _ trivial).2
   | false=>show nI (r _ _ trivial).1
  ·refine nw<|on (λu=>u<=n) (show h+min u (n-h)<=n by lia) (λi l u a d r=>go (λ_=>nI (r l u d).1) λ(z:¬l ≥ u)=>nw<|j (l+(u-l) / 2) _ (by lia) λb=>?_) λl u d=>nI<|q u d;cases b with
   | true=>show nI (r _ _ d).2
   | false=>show nI (r _ _ (show l+(u-l) / 2<=n by lia)).2
 | false =>
  refine nw<|on (λ_=>True) trivial (λi l u a _ r=>go (λ_=>nI (r l u trivial).1) λ(z:¬u ≥ h+1)=>nw<|j (h-u) _ (by lia) λb=>?_) λl u _=>?_
  ·cases b with
   | true=>show nI (r _ _ trivial).1
   | false=>show nI (r _ _ trivial).2
  ·refine nw<|on (λu=>u<=n) (show h-l<=n by lia) (λi l u a d r=>go (λ_=>nI (r l u d).1) λ(z:¬l ≥ u)=>nw<|j (l+(u-l) / 2) _ (by lia) λb=>?_) λl u d=>nI<|q u d;cases b with
   | true=>show nI (r _ _ d).2
   | false=>show nI (r _ _ (show l+(u-l) / 2<=n by lia)).2
omit L
def Mg(a b:Array Keyed)(out:Array Keyed)(x y:lQ Keyed):Prop:=(out.toList++(x++y)).Perm (a.toList++b.toList)
variable {a b out:Array Keyed} {x y z:lQ Keyed} {v:Keyed}
omit L in
theorem Mg.one(h:Mg a b out (v ::x) y):Mg a b (out.push v) x y:=by
 unfold Mg at h ⊢;rw[Ht,pr];show h
omit L in
theorem Mg.two(h:Mg a b out x (v ::y)):Mg a b (out.push v) x y:=by
 unfold Mg at h ⊢;rw[Ht,pr];show(BV _ (List.perm_middle (l₁:=x)).symm).trans h
theorem Mg.ones(h:Mg a b out (z++x) y){t:Array Keyed}(e:t.toList.Perm z):Mg a b (out++t) x y:=by
 unfold Mg at h ⊢;rw[uL,pr,<-pr t.toList];show(((e.append_right x).append_right y).append_left _).trans h
theorem Mg.twos(h:Mg a b out x (z++y)){t:Array Keyed}(e:t.toList.Perm z):Mg a b (out++t) x y:=by
 unfold Mg at h ⊢;rw[uL,pr];refine(BV _ ?_).trans h;rw[<-pr,<-pr];show((e.append_right x).trans vX).append_right y
theorem Mg.swap(h:Mg a b out x y):(out.toList++(y++x)).Perm (a.toList++b.toList):=(vX.append_left _).trans h
theorem AC{u:Array Keyed}{i:Nat}(h:i<u.size):u.toList.drop i=u[i] ::u.toList.drop (i+1):=by
 rw[yl (by simpa using h)];simp
theorem Oj{u:Array Keyed}{i k:Nat}:u.toList.drop i=(u.extract i<|i+k).toList++u.toList.drop (i+k):=by
 rw[wX,wR,show i+k-i=k by lia,<-Fj,xr]
theorem Co{u:Array Keyed}{i:Nat}:(u.extract i u.size).toList=u.toList.drop i:=by
 rw[wX,wR,sK<|by simp]
theorem Mg.perm{u r:lQ Keyed}(h:Mg a b out x y)(q:u.Perm x)(n:r.Perm y):Mg a b out u r:=((q.append n).append_left _).trans h
theorem Ay{u:Array Keyed}{i:Nat}(r:1<=i)(h:i<=u.size):(u.toList.take i).Perm (u[i-1] ::u.toList.take (i-1)):=by
 have e:u.toList.take i=u.toList.take (i-1)++[u[i-1]]:=by
  have:=og (l:=u.toList) (i:=i-1);rw[show i-1+1=i by lia,wq,Hw u (i-1)<|by lia]at this;show this
 rw[e];show vX
theorem NK{u:Array Keyed}{i n:Nat}(h:i<=n):(u.toList.take n).Perm ((u.extract i n).reverse.toList++u.toList.take i):=by
 have e:u.toList.take n=u.toList.take i++(u.extract i n).toList:=by
  have:=FG (l:=u.toList) (i:=i) (j:=n-i);rw[show i+(n-i)=n by lia]at this;rw[this,wX,wR]
 rw[e,FW];show vX.trans<|(BA _).symm.append_right _
theorem BR{u:Array Keyed}{i:Nat}:(u.extract 0 i).toList=u.toList.take i:=by
 rw[wX,wR]
 rfl
section
variable {C D F:Type} {pd:Array Keyed->Nat->Nat->Prop} {fd:Array Keyed->Nat->Nat->D->C} {ls:lQ Keyed} {fu:Array Keyed->F->C} {G G1 G2:C->SortSt->Prop}
def tU(st:SortSt)(pd:Array Keyed->Nat->Nat->Prop)(fd:Array Keyed->Nat->Nat->D->C)(c:C)(u:SortSt):Prop:=Gs st u/\∃o i j d,c=fd o i j d/\pd o i j
def xM(st:SortSt)(ls:lQ Keyed)(fu:Array Keyed->F->C)(c:C)(u:SortSt):Prop:=Gs st u/\∃r d,c=fu r d/\r.toList.Perm ls
theorem rX(h:∀o i j d u,Gs st u->pd o i j->G (fd o i j d) u)(c:C)(u:SortSt)(z:tU st pd fd c u):G c u:=by
 obtain⟨r,o,i,j,d,rfl,q⟩:=z;show h o i j d u r q
theorem yf(h:∀r d u,Gs st u->r.toList.Perm ls->G (fu r d) u)(c:C)(u:SortSt)(z:xM st ls fu c u):G c u:=by
 obtain⟨q,r,d,rfl,n⟩:=z;show h r d u q n
theorem Dh(r:∀c u,G1 c u->G c u)(q:∀c u,G2 c u->G c u)(c:C)(u:SortSt)(z:G1 c u\/G2 c u):G c u:=z.elim (r c u)<|q c u
end
def AY(a b:Array Keyed)(n:Nat)(out:Array Keyed)(i j:Nat):Prop:=Mg a b out (a.toList.drop i) (b.toList.drop j)/\i+1<a.size/\j<b.size/\n<i+j
def AW(a b:Array Keyed)(n:Nat)(out:Array Keyed)(i j:Nat):Prop:=Mg a b out (a.toList.take i) (b.toList.take j)/\1<=i/\i<=a.size/\2<=j/\j<=b.size/\n+i+j<a.size+b.size
include L
theorem Yfv{Q:Array Keyed->SortSt->Prop}(hk:kindOf st=kd)(ha:∀x∈a,x∈o)(hb:∀x∈b,x∈o)(a1:1<=a.size)(b1:1<=b.size)(q:∀(r:Array Keyed) e,Gs st e->r.toList.Perm (a.toList++b.toList)->Q r e):wpS (model prog w) A E s (Ya6 a b) Q st:=by
 have h:Gs st st:=#[rfl,rfl,rfl,rfl]
 refine nw<|xQ<|vh #[rfl,?_];refine nw<|Xt (show 0<b.size by lia) ?_;have m0:Mg a b (List.toArray [b[0]]) (a.toList.drop 0) (b.toList.drop 1):=by
  have:Mg a b #[] (a.toList.drop 0) (b.toList.drop 0):=qh _;rw[AC (show 0<b.size by lia)]at this;show this.two
 have E9:∀{out:Array Keyed}{i j:Nat},Mg a b out (a.toList.drop i) (b.toList.drop j)->(out++a.extract i a.size++b.extract j b.size).toList.Perm (a.toList++b.toList):=λz=>by
  rw[uL,uL,Co,Co,pr];show z
 have M0:∀{out:Array Keyed}{i j:Nat},Mg a b out (a.toList.drop i) (b.toList.drop j)->(out++b.extract j b.size++a.extract i a.size).toList.Perm (a.toList++b.toList):=λz=>by
  rw[uL,uL,Co,Co,pr];show z.swap
 refine oG (λ_=>nI<|q _ _ h<|E9 m0) λe1=>oG (λ_=>nI<|q _ _ h<|M0 m0) λe2=>?_
 have e1:¬1=b.size:=by simpa using e1
 have e2:¬1=a.size:=by simpa using e2
 refine nw<|uK ?_;refine nw (sS (rQ
  (I:=λk=>tU st (AY a b k) λo i j d=>(none,o,i,j,d))
  (Q:=xM st (a.toList++b.toList) λr d=>(some r,d)) ?_ ?_ #[h,_,_,_,_,rfl,m0,by lia,by lia,by lia]) ?_)
 rotate_left
 ·show rX λo i j d N M u=>absurd u.2.2.2 (by have:=u.2.1;have:=u.2.2.1;lia)
 ·show yf λr d N M hr=>nI<|q r N M hr
 intro k c e _ k2;revert c e;refine rX λout i j d e M u=>?_
 refine nw (sS (rQ
  (I:=λk'=>tU st (AY a b<|k+k') λo i j d=>(none,o,i,j,d))
  (Q:=λc N=>xM st (a.toList++b.toList) (λr d=>(some r,d)) c N\/tU st (AY a b<|k+1) (λo i j d=>(none,o,i,j,d)) c N) ?_ ?_ #[M,_,_,_,_,rfl,u]) ?_)
 ·clear u M;intro k' c Y _ k3;revert c Y;refine rX λout i j d Y n u=>?_
  have m:=u.1;have C:=u.2.1;have l:=u.2.2.1;have B:=u.2.2.2;dsimp only;refine nw<|Xt l<|nw<|Xt (show i<a.size by lia)<|nw<|zQ L (n.1.trans hk) (hb _<|sN _) (ha _<|sN _) λc=>?_;cases c with
  | true =>
   refine nw<|Xt l ?_;rw[AC l]at m;refine oG (λ_=>nI<|.inl #[n,_,_,rfl,E9 m.two]) λ(z:¬(j+1 ==b.size)=true)=>?_
   have z:¬j+1=b.size:=by simpa using z
   show oG (λ_=>nI<|.inr #[n,_,_,_,_,rfl,m.two,C,by lia,by lia]) λ_=>nI #[n,_,_,_,_,rfl,m.two,C,by lia,by lia]
  | false =>
   refine nw<|Xt (show i<a.size by lia) ?_;rw[AC (show i<a.size by lia)]at m;refine oG (λ_=>nI<|.inl #[n,_,_,rfl,M0 m.one]) λ(z:¬(i+1+1 ==a.size)=true)=>?_
   have z:¬i+1+1=a.size:=by simpa using z
   show oG (λ_=>nI<|.inr #[n,_,_,_,_,rfl,m.one,by lia,l,by lia]) λ_=>nI #[n,_,_,_,_,rfl,m.one,by lia,l,by lia]
 ·show rX λo i j d N M u=>.inr #[M,_,_,_,_,rfl,u.1,u.2.1,u.2.2.1,by have:=u.2.2.2;lia]
 clear u M;refine Dh (yf λr d Y n hr=>nI #[n,r,_,rfl,hr])<|rX λout i j d Y n u=>?_;refine nw<|xQ<|vh #[rfl,?_];refine nw (sS (rQ
  (I:=λk'=>tU st (AY a b<|k+1) λo i j d=>(none,o,i,j,d))
  (Q:=λc N=>xM st (a.toList++b.toList) (λr d=>(some r,d)) c N\/tU st (AY a b<|k+1) (λo i j d=>(none,o,i,j,d)) c N) ?_ (λ_ _=>.inr) #[n,_,_,_,_,rfl,u]) ?_)
 ·clear u n;intro k' c Y _ k3;revert c Y;refine rX λout i j d Y n u=>?_
  have m:=u.1;have C:=u.2.1;have l:=u.2.2.1;have B:=u.2.2.2;dsimp only;generalize d.1=g;apply En (λ(_:Nat) e=>Gs st e)
  case a =>
   intro Zs;refine oG (λ_=>?_) λ_=>?_
   ·generalize g-1=g';show Zs g' Y n
   ·show Zs g Y n
  intro g st4 h4;refine nw<|BU h4 λB9 J=>?_;refine nw<|Xt l<|nw<|zk L (J.1.trans hk) (hb _<|sN _) ha (by lia) (by lia) λk5 hk5=>?_;dsimp only;have m5:=m;rw[Oj (i:=i) (k:=k5)]at m5;apply CT (λ(out:Array Keyed) (i:Nat) e=>Gs st e/\Mg a b out (a.toList.drop i) (b.toList.drop j)/\i+1<a.size/\k+1<i+j)
  case a =>
   intro Zs;refine oG (λ_=>oG (λ_=>nI<|.inl #[J,_,_,rfl,M0<|m5.ones<|qh _]) λz1=>oG (λ_=>nI<|.inl #[J,_,_,rfl,E9<|m5.ones<|qh _]) λz2=>?_) λ_=>?_
   ·have z1:¬i+k5+1=a.size:=by simpa using z1
    have z2:¬i+k5=a.size:=by simpa using z2
    have H:i+k5+1<a.size:=by lia
    have G:k+1<i+k5+j:=by lia
    have D:=m5.ones<|qh _;revert H G D;generalize i+k5=i';generalize out++a.extract i i'=U;show λH G D=>Zs U i' B9 #[J,D,H,G]
   ·show Zs out i B9 #[J,m,C,B]
  clear m5 m C B J hk5;intro out i st6 u;have h6:=u.1;have m:=u.2.1;have C:=u.2.2.1;have B:=u.2.2.2;refine nw<|Xt l ?_;rw[AC l]at m;refine oG (λ_=>nI<|.inl #[h6,_,_,rfl,E9 m.two]) λz=>?_
  have z:¬j+1=b.size:=by simpa using z
  refine nw<|Xt (show i<a.size by lia)<|nw<|zk L (h6.1.trans hk) (ha _<|sN _) hb (by lia) (by lia) λk7 hk7=>?_;dsimp only;have m7:=m.two;have m8:=m7;rw[Oj (i:=j+1) (k:=k7)]at m8;apply CT (λ(out:Array Keyed) (j:Nat) e=>Gs st e/\Mg a b out (a.toList.drop i) (b.toList.drop j)/\j<b.size/\k+1<i+j)
  case a =>
   intro Zs;refine oG (λ_=>oG (λ_=>nI<|.inl #[h6,_,_,rfl,E9<|m8.twos<|qh _]) λz1=>?_) λ_=>?_
   ·have z1:¬j+1+k7=b.size:=by simpa using z1
    have H:j+1+k7<b.size:=by lia
    have G:k+1<i+(j+1+k7):=by lia
    have D:=m8.twos<|qh _;revert H G D;generalize j+1+k7=j';generalize out.push b[j]++b.extract (j+1) j'=U;show λH G D=>Zs U j' st6 #[h6,D,H,G]
   ·show Zs _ _ st6 #[h6,m7,by lia,by lia]
  clear m7 m8 m B h6 hk7 z l;intro out j st7 u;have h7:=u.1;have m:=u.2.1;have l:=u.2.2.1;have B:=u.2.2.2;refine nw<|Xt (show i<a.size by lia) ?_;rw[AC (show i<a.size by lia)]at m;refine oG (λ_=>nI<|.inl #[h7,_,_,rfl,M0 m.one]) λz=>?_
  have z:¬i+1+1=a.size:=by simpa using z
  show oG (λ_=>nI<|.inr #[h7,_,_,_,_,rfl,m.one,by lia,l,by lia]) λ_=>nI #[h7,_,_,_,_,rfl,m.one,by lia,l,by lia]
 show Dh (yf λr d Y n hr=>nI #[n,r,_,rfl,hr])<|rX λout i j d Y n u=>nw<|BU n λB9 J=>nI #[J,_,_,_,_,rfl,u]
theorem Yfj{Q:Array Keyed->SortSt->Prop}(hk:kindOf st=kd)(ha:∀x∈a,x∈o)(hb:∀x∈b,x∈o)(a1:1<=a.size)(b1:1<=b.size)(q:∀(r:Array Keyed) l,Gs st l->r.toList.Perm (a.toList++b.toList)->Q r l):wpS (model prog w) A E s (Ybh a b) Q st:=by
 have h:Gs st st:=#[rfl,rfl,rfl,rfl]
 refine nw<|xQ<|vh #[rfl,?_];refine nw<|Xt (show a.size-1<a.size by lia) ?_;have m0:Mg a b (List.toArray [a[a.size-1]]) (a.toList.take<|a.size-1) (b.toList.take b.size):=by
  have:Mg a b #[] (a.toList.take a.size) (b.toList.take b.size):=by
   rw[sK (by simp),sK<|by simp];show qh _
  show(this.perm (Ay a1<|nk _).symm (qh _)).one
 have E9:∀{out:Array Keyed}{i j:Nat},Mg a b out (a.toList.take i) (b.toList.take j)->(a.extract 0 i++b.extract 0 j++out.reverse).toList.Perm (a.toList++b.toList):=λz=>by
  rw[uL,uL,BR,BR,FW];show(vX.trans<|(BA _).append_right _).trans z
 have M0:∀{out:Array Keyed}{i j:Nat},Mg a b out (a.toList.take i) (b.toList.take j)->(b.extract 0 j++a.extract 0 i++out.reverse).toList.Perm (a.toList++b.toList):=λz=>by
  rw[uL,uL,BR,BR,FW];show(vX.trans<|(BA _).append_right _).trans z.swap
 refine oG (λ_=>nI<|q _ _ h<|E9 m0) λe1=>oG (λ_=>nI<|q _ _ h<|M0 m0) λe2=>?_
 have e1:¬a.size-1=0:=by simpa using e1
 have e2:¬b.size=1:=by simpa using e2
 refine nw<|uK ?_;refine nw (sS (rQ
  (I:=λk=>tU st (AW a b k) λo i j d=>(none,i,j,o,d))
  (Q:=xM st (a.toList++b.toList) λr d=>(some r,d)) ?_ ?_ #[h,_,_,_,_,rfl,m0,by lia,by lia,by lia,by lia,by lia]) ?_)
 rotate_left
 ·show rX λo i j d U M u=>absurd u.2.2.2.2.2 (by have:=u.2.1;have:=u.2.2.2.1;lia)
 ·show yf λr d U M hr=>nI<|q r U M hr
 intro k c l _ k2;revert c l;refine rX λout i j d l M u=>?_
 refine nw (sS (rQ
  (I:=λk'=>tU st (AW a b<|k+k') λo i j d=>(none,i,j,o,d))
  (Q:=λc U=>xM st (a.toList++b.toList) (λr d=>(some r,d)) c U\/tU st (AW a b<|k+1) (λo i j d=>(none,i,j,o,d)) c U) ?_ ?_ #[M,_,_,_,_,rfl,u]) ?_)
 ·clear u M;intro k' c e _ k3;revert c e;refine rX λout i j d e n u=>?_
  have m:=u.1;have J:=u.2.1;have H:=u.2.2.1;have D:=u.2.2.2.1;have N:=u.2.2.2.2.1;have k1:=u.2.2.2.2.2;dsimp only;refine nw<|Xt (show j-1<b.size by lia)<|nw<|Xt (show i-1<a.size by lia)<|nw<|zQ L (n.1.trans hk) (hb _<|sN _) (ha _<|sN _) λc=>?_;cases c with
  | true =>
   refine nw<|Xt (show i-1<a.size by lia) ?_;have m:=(m.perm (Ay J H).symm (qh _)).one;refine oG (λ_=>nI<|.inl #[n,_,_,rfl,E9 m]) λz=>?_
   have z:¬i-1=0:=by simpa using z
   show oG (λ_=>nI<|.inr #[n,_,_,_,_,rfl,m,by lia,by lia,D,N,by lia]) λ_=>nI #[n,_,_,_,_,rfl,m,by lia,by lia,D,N,by lia]
  | false =>
   refine nw<|Xt (show j-1<b.size by lia) ?_;have m:=(m.perm (qh _) (Ay (by lia) N).symm).two;refine oG (λ_=>nI<|.inl #[n,_,_,rfl,M0 m]) λz=>?_
   have z:¬j-1=1:=by simpa using z
   show oG (λ_=>nI<|.inr #[n,_,_,_,_,rfl,m,J,H,by lia,by lia,by lia]) λ_=>nI #[n,_,_,_,_,rfl,m,J,H,by lia,by lia,by lia]
 ·show rX λo i j d U M u=>.inr #[M,_,_,_,_,rfl,u.1,u.2.1,u.2.2.1,u.2.2.2.1,u.2.2.2.2.1,by have:=u.2.2.2.2.2;lia]
 clear u M;refine Dh (yf λr d e n hr=>nI #[n,r,_,rfl,hr])<|rX λout i j d e n u=>?_;refine nw<|xQ<|vh #[rfl,?_];refine nw (sS (rQ
  (I:=λk'=>tU st (AW a b<|k+1) λo i j d=>(none,i,j,o,d))
  (Q:=λc U=>xM st (a.toList++b.toList) (λr d=>(some r,d)) c U\/tU st (AW a b<|k+1) (λo i j d=>(none,i,j,o,d)) c U) ?_ (λ_ _=>.inr) #[n,_,_,_,_,rfl,u]) ?_)
 ·clear u n;intro k' c e _ k3;revert c e;refine rX λout i j d e n u=>?_
  have m:=u.1;have J:=u.2.1;have H:=u.2.2.1;have D:=u.2.2.2.1;have N:=u.2.2.2.2.1;have k1:=u.2.2.2.2.2;dsimp only;generalize d.1=g;apply En (λ(_:Nat) l=>Gs st l)
  case a =>
   intro Zs;refine oG (λ_=>?_) λ_=>?_
   ·generalize g-1=g';show Zs g' e n
   ·show Zs g e n
  intro g st4 h4;refine nw<|BU h4 λB9 C=>?_;refine nw<|Xt (show j-1<b.size by lia)<|nw<|zk L (C.1.trans hk) (hb _<|sN _) ha (by lia) (by lia) λB hk5=>?_;dsimp only;generalize i-B=ac;have m5:=(m.perm (NK hk5).symm (qh _)).ones (qh _);apply CT (λ(out:Array Keyed) (i:Nat) l=>Gs st l/\Mg a b out (a.toList.take i) (b.toList.take j)/\1<=i/\i<=a.size/\k+1+i+j<a.size+b.size)
  case a =>
   intro Zs;refine oG (λ_=>oG (λ_=>nI<|.inl #[C,_,_,rfl,E9 m5]) λz1=>?_) λ_=>?_
   ·have z1:¬B=0:=by simpa using z1
    have r1:1<=B:=by lia
    have r2:B<=a.size:=by lia
    have r3:k+1+B+j<a.size+b.size:=by lia
    have r4:=m5;revert r4 r1 r2 r3;generalize out++(a.extract B i).reverse=Y;generalize B=i';show λr1 r2 r3 r4=>Zs Y i' B9 #[C,r4,r1,r2,r3]
   ·show Zs out i B9 #[C,m,J,H,k1]
  clear m5 m J H k1 C hk5;intro out i st6 u;have h6:=u.1;have m:=u.2.1;have J:=u.2.2.1;have H:=u.2.2.2.1;have k1:=u.2.2.2.2;refine nw<|Xt (show j-1<b.size by lia) ?_;have m:=(m.perm (qh _) (Ay (by lia) N).symm).two;refine oG (λ_=>nI<|.inl #[h6,_,_,rfl,M0 m]) λz=>?_
  have z:¬j-1=1:=by simpa using z
  refine nw<|Xt (show i-1<a.size by lia)<|nw<|zk L (h6.1.trans hk) (ha _<|sN _) hb (by lia) (by lia) λG hk7=>?_;dsimp only;generalize j-1-G=bc;have m8:=(m.perm (qh _) (NK hk7).symm).twos (qh _);apply CT (λ(out:Array Keyed) (j:Nat) l=>Gs st l/\Mg a b out (a.toList.take i) (b.toList.take j)/\2<=j/\j<=b.size/\k+1+i+j<a.size+b.size)
  case a =>
   intro Zs;refine oG (λ_=>oG (λ_=>nI<|.inl #[h6,_,_,rfl,M0 m8]) λz1=>oG (λ_=>nI<|.inl #[h6,_,_,rfl,E9 m8]) λz2=>?_) λ_=>?_
   ·have z1:¬G=1:=by simpa using z1
    have z2:¬G=0:=by simpa using z2
    have r1:2<=G:=by lia
    have r2:G<=b.size:=by lia
    have r3:k+1+i+G<a.size+b.size:=by lia
    have r4:=m8;revert r4 r1 r2 r3;generalize out.push b[j-1]++(b.extract G<|j-1).reverse=Y;generalize G=j';show λr1 r2 r3 r4=>Zs Y j' st6 #[h6,r4,r1,r2,r3]
   ·show Zs _ _ st6 #[h6,m,by lia,by lia,by lia]
  clear m8 m k1 h6 hk7 z D N;intro out j st7 u;have h7:=u.1;have m:=u.2.1;have D:=u.2.2.1;have N:=u.2.2.2.1;have k1:=u.2.2.2.2;refine nw<|Xt (show i-1<a.size by lia) ?_;have m:=(m.perm (Ay J H).symm (qh _)).one;refine oG (λ_=>nI<|.inl #[h7,_,_,rfl,E9 m]) λz=>?_
  have z:¬i-1=0:=by simpa using z
  show oG (λ_=>nI<|.inr #[h7,_,_,_,_,rfl,m,by lia,by lia,D,N,by lia]) λ_=>nI #[h7,_,_,_,_,rfl,m,by lia,by lia,D,N,by lia]
 show Dh (yf λr d e n hr=>nI #[n,r,_,rfl,hr])<|rX λout i j d e n u=>nw<|BU n λB9 C=>nI #[C,_,_,_,_,rfl,u]
omit L
theorem Ydh{u:Type}{M:Model}{Q:PUnit->u->Prop}{q r:u}(h:Q ⟨⟩ r):wpS M A E s (set r:StateT u Sem PUnit) Q q:=by
 unfold wpS;rw[StateT.run_set];show nG #[rfl,h]
theorem JE:∀(l:lQ Keyed)(off k:Nat)(u:Array Keyed),off+k+l.length<=u.size->((l.zipIdx k).foldl (λa x=>a.setIfInBounds (off+x.2) x.1) u).toList=u.toList.take (off+k)++l++u.toList.drop (off+k+l.length)
 | [],off,k,u,_=>by simp
 | x ::l,off,k,u,h=>by
  rw[pE]at h;rw[List.zipIdx_cons,List.foldl_cons,JE l off (k+1) _ (by rw[Array.size_setIfInBounds];lia),MZ];have r:(u.toList.set (off+k) x).take (off+(k+1))=u.toList.take (off+k)++[x]:=by
   rw[show off+(k+1)=off+k+1 by lia,og,List.take_set_of_le<|nk _,Hq<|by simpa using(by lia:off+k<u.size)]
   rfl
  rw[r,List.drop_set_of_lt (by lia),pE,pr,pr,show off+(k+1)+l.length=off+k+(l.length+1) by lia];simp
theorem Zx9{u m:Array Keyed}{i j k:Nat}(q:i<=j)(n:j<=k)(d:k<=u.size)(r:m.toList.Perm ((u.extract i j).toList++(u.extract j k).toList)) :
  ((m.toList.zipIdx).foldl (λa x=>a.setIfInBounds (i+x.2) x.1) u).Perm u:=by
 have e:(u.extract i j).toList++(u.extract j k).toList=(u.toList.drop i).take (k-i):=by
  rw[wX,wX,wR,wR,show k-i=(j-i)+(k-j) by lia,FG,Fj,show i+(j-i)=j by lia]
 rw[e]at r;have l:=r.length_eq;have h:u.toList.length=u.size:=tV;rw[oh,sP,h]at l;rw[QK,JE m.toList i 0 u<|by lia];have g:u.toList=u.toList.take i++(u.toList.drop i).take (k-i)++u.toList.drop (i+(k-i)):=by
  rw[<-FG,xr]
 rw[show i+0+m.toList.length=i+(k-i) by lia];show((r.append_left _).append_right _).trans (by rw[DA,<-g])
def Ch:Nat->lQ (Nat×Nat×Nat)->Nat->Prop
 | a,[],b=>a=b
 | a,x ::r,b=>x.1=a/\1<=x.2.1/\Ch (a+x.2.1) r b
theorem Ch.le:∀{l:lQ (Nat×Nat×Nat)}{a b:Nat},Ch a l b->a<=b
 | [],_,_,h=>vJ h
 | _ ::_,_,_,⟨_,_,h⟩=>ow (Nat.le_add_right _ _) h.le
theorem Ch.snoc{n q:Nat}:∀{l:lQ (Nat×Nat×Nat)}{a b:Nat},Ch a l b->1<=n->Ch a (l++[(b,n,q)]) (b+n)
 | [],_,_,h,u=>by cases(h:_=_);show#[rfl,u,rfl]
 | _ ::_,_,_,⟨r,j,h⟩,u=>#[r,j,h.snoc u]
theorem Ch.mod{f:Nat×Nat×Nat->Nat×Nat×Nat}(u:∀x,(f x).1=x.1/\(f x).2.1=x.2.1):∀{l:lQ (Nat×Nat×Nat)}{k a b:Nat},Ch a l b->Ch a (l.modify k f) b
 | [],k,_,_,h=>by rw[List.modify_nil];show h
 | x ::r,0,_,_,⟨q,n,h⟩=>by rw[List.modify_zero_cons];show#[(u x).1.trans q,by rw[(u x).2];show n,by rw[(u x).2];show h]
 | x ::r,k+1,_,_,⟨q,n,h⟩=>by rw[List.modify_succ_cons];show#[q,n,h.mod u]
theorem Ch.two{x y:Nat×Nat×Nat}{post:lQ (Nat×Nat×Nat)}:∀{pre:lQ (Nat×Nat×Nat)}{a b:Nat},Ch a (pre++x ::y ::post) b->x.1+x.2.1=y.1/\1<=x.2.1/\1<=y.2.1/\y.1+y.2.1<=b/\Ch a (pre++(x.1,x.2.1+y.2.1,x.2.2) ::post) b
 | [],a,b,⟨u,r,q,n,h⟩=>#[by rw[u,q],r,n,by rw[q];show h.le,u,by change 1<=x.2.1+y.2.1;lia,by change Ch (a+(x.2.1+y.2.1)) post b;rw[<-Nat.add_assoc];show h]
 | z ::pre,a,b,⟨u,r,h⟩=>by
  obtain⟨q,n,l,j,g⟩:=h.two;show#[q,n,l,j,u,r,g]
include L
theorem UF{pre post:lQ (Nat×Nat×Nat)}{x y:Nat×Nat×Nat}{Q:Bool->SortSt->Prop}(h:Ps kd o p st)(D:p.toList=pre++x ::y ::post)(e:x.1+x.2.1=y.1)(hb:y.1+y.2.1<=o.size)(n1:1<=x.2.1)(n2:1<=y.2.1)
  (q:∀(I:Array (Nat×Nat×Nat)) u,I.toList=pre++(x.1,x.2.1+y.2.1,x.2.2) ::post->Ps kd o I u->Q true u):wpS (model prog w) A E s (mergeAt' pre.length) Q st:=by
 obtain⟨l,d,U⟩:=x;obtain⟨c,Y,qw⟩:=y;have g1:(pendingOf st)[pre.length]? =some (l,d,U):=by rw[h.pend,<-wq,D];simp
 have g2:(pendingOf st)[pre.length+1]? =some (c,Y,qw):=by rw[h.pend,<-wq,D];simp
 dsimp only at e hb n1 n2 q;have es:=h.many;refine nw<|uK ?_;change wpS _ _ _ _ (match((pendingOf st)[pre.length]?,(pendingOf st)[pre.length+1]?)with
  | (some (l,d,power),some (c,Y,snd_))=>_
  | x=>_) _ _
 rw[g1,g2];refine nw<|Ydh ?_;have I:(((pendingOf st).setIfInBounds pre.length (l,d+Y,U)).eraseIdxIfInBounds (pre.length+1)).toList=pre++(l,d+Y,U) ::post:=by
  rw[h.pend,Array.toList_eraseIdxIfInBounds,MZ,D,List.set_append_right _ _<|nk _,List.eraseIdx_append_of_length_le<|rV _];simp
 have N:∀x∈arrOf st,x∈o:=λx M=>h.mem M
 have C:∀u:SortSt,Ps kd o (((pendingOf st).setIfInBounds pre.length (l,d+Y,U)).eraseIdxIfInBounds (pre.length+1)) u->Q true u:=λu z=>q _ u I z
 clear q;refine nw<|Xt (show c<(arrOf st).size by lia)<|nw<|zk L h.kind (N _<|sN _) N (show l+d<=(arrOf st).size by lia) (show 0<d by lia) λk hk=>?_;refine oG (λ_=>nI<|C _ #[h.perm,h.kind,h.good,rfl]) λ(z:¬(d-k ==0)=true)=>?_
 have z:¬d-k=0:=by simpa using z
 refine nw<|Xt (show l+k+(d-k)-1<(arrOf st).size by lia)<|nw<|zk L h.kind (N _<|sN _) N (show c+Y<=(arrOf st).size by lia) (show Y-1<Y by lia) λH hk3=>?_;refine oG (λ_=>nI<|C _ #[h.perm,h.kind,h.good,rfl]) λ(B:¬(H ==0)=true)=>?_
 have B:¬H=0:=by simpa using B
 have jn:∀(r:Array Keyed)(n u:SortSt),Gs n u->arrOf n=arrOf st->kindOf n=kd->failedOf n=none->pendingOf n=((pendingOf st).setIfInBounds pre.length (l,d+Y,U)).eraseIdxIfInBounds (pre.length+1)->r.toList.Perm (((arrOf st).extract (l+k) c).toList++((arrOf st).extract c (c+H)).toList)->
   wpS (model prog w) A E s (do
    modify λs=>setArr s<|r.toList.zipIdx.foldl (λa x=>a.setIfInBounds (l+k+x.2) x.1)<|arrOf s
    let x <-get
    pure (failedOf x).isNone) Q u:=λr n u g b1 b2 b3 b4 J=>by
  refine nw<|Aa<|nw<|uK<|nI ?_;have e3:failedOf u=none:=g.2.2.2.trans b3;have e4:=g.2.1.trans b1;change Q (failedOf u).isNone _;rw[e3];refine C _ #[?_,g.1.trans b2,e3,g.2.2.1.trans b4];change(r.toList.zipIdx.foldl (λa x=>a.setIfInBounds (l+k+x.2) x.1)<|arrOf u).Perm o;rw[e4];show(Zx9 (by lia) (by lia) (by lia) J).trans h.perm
 have z0:1<=((arrOf st).extract (l+k) c).size:=by rw[Oa];lia
 have z3:1<=((arrOf st).extract c (c+H)).size:=by rw[Oa];lia
 have G:∀{i j:Nat},∀x∈(arrOf st).extract i j,x∈o:=λx M=>N x (by
  rw[<-zM]at M ⊢;rw[wX,wR]at M;show GM<|uX M)
 show oG (λ_=>nw<|Yfv L h.kind G G z0 z3 λr u g J=>jn r _ u g rfl h.kind h.good rfl J) λ_=>nw<|Yfj L h.kind G G z0 z3 λr u g J=>jn r _ u g rfl h.kind h.good rfl J
omit L in
theorem Ygl{u:Type}{l:lQ u}{i:Nat}(h:i+1<l.length):∃pre x y post,l=pre++x ::y ::post/\pre.length=i:=by
 refine#[l.take i,l[i],l[i+1],l.drop<|i+2,?_,by rw[oh];lia];rw[<-yl,<-yl,xr]
theorem IB{lo i:Nat}{Q:Bool->SortSt->Prop}(h:Ps kd o p st)(c:Ch 0 p.toList lo)(n:lo<=o.size)(j:i+1<p.size)(q:∀(u:Array (Nat×Nat×Nat)) r,Ps kd o u r->Ch 0 u.toList lo->Q true r):wpS (model prog w) A E s (mergeAt' i) Q st:=by
 obtain⟨pre,x,y,post,e,rfl⟩:=Ygl (l:=p.toList) (i:=i) (by simpa using j);rw[e]at c;obtain⟨g,d,Y,J,U⟩:=c.two;show UF L h e g (by lia) d Y λu r N M=>q u r M (by rw[N];show U)
theorem VB{Q:Unit->SortSt->Prop}(h:Ps kd o #[] st)(q:∀r,(arrOf r).Perm o->failedOf r=none->Q () r):wpS (model prog w) A E s sortRuns' Q st:=by
 rw[sortRuns'_eq];refine nw<|uK ?_;dsimp only;rw[h.many];generalize minRun' o.size o.size 0=H;refine nw<|sS (rQ (I:=λ_ c r=>∃lo p,c=(none,lo)/\Ps kd o p r/\Ch 0 p.toList lo/\lo<=o.size) (Q:=λc r=>∃lo p,c=(none,lo)/\Ps kd o p r/\Ch 0 p.toList lo/\lo<=o.size) ?_ (λ_ _ z=>z) #[0,#[],rfl,h,rfl,sH _]) ?_
 ·rintro x c r _ _ ⟨lo,p,rfl,d,Y,i⟩;dsimp only;refine oG (λ_=>nI #[lo,p,rfl,d,Y,i]) λz=>?_
  refine nw<|Tw L d (by lia) (by lia) λn U j N G=>?_;dsimp only;apply En (λ(n:Nat) r=>Ps kd o p r/\1<=n/\lo+n<=o.size)
  case a =>
   intro Zs;refine oG (λD=>nw<|xQ<|vh #[rfl,nw<|Uj L j (by lia) λg M=>?_]) λ_=>?_
   ·have D:1<=min (o.size-lo) H:=by lia
    have C:lo+min (o.size-lo) H<=o.size:=by lia
    simp only[GB,uc,rD];revert D C;generalize min (o.size-lo) H=n';show λD C=>Zs n' g #[M,D,C]
   ·show Zs n U #[j,N,by lia]
  clear d j N G;rintro n g ⟨M,N,G⟩;refine nw<|uK ?_;apply FV (λr=>∃p,Ps kd o p r/\Ch 0 p.toList lo)
  case a =>
   intro Zs;cases C:(pendingOf g).back? with
   | none=>show Zs g #[p,M,Y]
   | some y =>
    refine nw<|sS (rQ (I:=λ_ c l=>c=(none,())/\∃p,Ps kd o p l/\Ch 0 p.toList lo) (Q:=λc l=>c=(none,())/\∃p,Ps kd o p l/\Ch 0 p.toList lo) ?_ (λ_ _ z=>z) #[rfl,p,M,Y]) ?_
    ·rintro x c l _ _ ⟨rfl,J,u,e⟩;refine nw<|uK ?_
     by_cases D:(pendingOf l).size >1
     ·rw[mU D,Hw (pendingOf l) ((pendingOf l).size-2)<|by lia];refine oG (λ_=>nI #[rfl,J,u,e]) λ_=>nw<|IB L u e i ?_ λB st6 h6 c6=>nI #[rfl,B,h6,c6]
      rw[<-u.pend];lia
     ·rw[mT D];show nI #[rfl,J,u,e]
    ·rintro c l ⟨rfl,J,u,e⟩;refine nw<|Aa<|Zs _ #[_,#[u.perm,u.kind,u.good,rfl],?_];rw[u.pend,Array.toList_modify];refine Ch.mod (λ_=>?_) e;show#[rfl,rfl]
  rintro l ⟨J,u,e⟩;refine nw<|Aa<|nI #[lo+n,_,rfl,#[u.perm,u.kind,u.good,rfl],?_,G];rw[u.pend,Ht];show e.snoc N
 ·rintro c r ⟨lo,p,rfl,d,Y,i⟩;dsimp only;refine nw<|sS (rQ (I:=λ_ c l=>c=(none,())/\∃p,Ps kd o p l/\Ch 0 p.toList lo) (Q:=λc l=>c=(none,())/\∃p,Ps kd o p l/\Ch 0 p.toList lo) ?_ (λ_ _ z=>z) #[rfl,p,d,Y]) ?_
  ·rintro x c U _ _ ⟨rfl,u,j,n⟩;refine nw<|uK ?_;refine oG (λ_=>nI #[rfl,u,j,n]) λz=>nw<|IB L j n i ?_ λB st6 h6 c6=>nI #[rfl,B,h6,c6]
   rw[j.pend]at z ⊢;have g:∀b:Bool,(if b=true then u.size-2-1 else u.size-2)+1<u.size:=λb=>by cases b<;>simp<;>lia
   show g _
  ·rintro c U ⟨rfl,u,j,n⟩;show nI<|q U j.perm j.good
end
open PySem.Spec
def Z7.nil_iff{xs:lQ V}{us:lQ lT}(r:Z7 xs us):us=[]↔xs=[]:=by
 cases r with
 | nil=>simp
 | cons _ _=>simp
section
variable {X:Cx} {pos:Pos}
def SX(c:TT)(s:TS):TS:=λD z H=>∃W:Nat->St->Hp->Prop,(∃m,W m z H)/\∀m z H,W m z H->
 c z H λb x=>if b=true then ∃N:St->Hp->Prop,(∀y w,N y w->∃u,u<m/\W u y w)/\s {D with nx:=N,ct:=N,bk:=D.nx} z x else D.nx z x
def Zzs{c:ma}{body:lQ lX}{g:TT}{e:TS}(d:PassesOwn (model X.prog X.w) X.A X.env X.xe)(M:PT X c g)(L:qM X body e):PS X (.While c body [] pos) (SX g e):=by
 intro q s z H D I h;obtain⟨W,⟨J,G⟩,E⟩:=h;refine wpAny_While<|codeAny_whileLoop (λn r=>∃y w,mI X q y w r/\W n y w) ?_ J #[z,H,I,G];rintro n C ⟨x,a,B,A⟩;refine wZ d<|mZ (M q C x a _ B<|E n x a A) λb s2 ⟨Y,U,u⟩=>?_;cases b with
 | true =>
  obtain⟨N,Q,u⟩:=u;rw[mU rfl];refine wZ d<|mZ (L q s2 x Y _ U u) λf N r=>?_;cases f with
  | next =>
   obtain⟨y,w,p,o⟩:=r;obtain⟨l,j,i⟩:=Q y w o;show#[l,j,y,w,p,i]
  | cont =>
   obtain⟨y,w,p,o⟩:=r;obtain⟨l,j,i⟩:=Q y w o;show#[l,j,y,w,p,i]
  | brk=>show r
  | ret v=>show r
 | false =>
  rw[mT oU];show AD #[x,Y,U,u]
end
section
variable {X:Cx} {e:ma} {te:TE} {lo hi:lV ma} {tl th:TO} {pos p2:Pos}
def Yhb(K:lW):R2:=λx y H Q=>∃a b w z,x=.ref a/\y=.ref b/\SqT K H a w/\SqT K H b z/\w≠[]/\w.length+z.length<=sizeLine/\
 (z=[]->Q (.ref a) H)/\(z≠[]->∀p,H p=none->Q (.ref p) (mJ H p<|.tup<|w++z))
def Yck:nW X (binaryOp .Add) (Yhb X.K):=by
 intro J s z H x y v u Q I j i h;obtain⟨a,b,g,d,rfl,rfl,c,Y,U,l,N,M⟩:=h;cases j;cases i;obtain⟨r,n,L,_⟩:=I.tuple c;obtain⟨r,p,p2,_⟩:=I.tuple Y;refine HT.cat_tup L p2 (λw=>U<|n.nil_iff.mp w) (λw=>#[.ref a,H,I,rfl,N<|p.nil_iff.mp w]) (λw=>?_) (by rw[<-n.length,<-p.length];show l);refine#[.ref #v[s],_,I.laid (t':=s.toks) (o:=.tup<|g++d) (λb r q=>nQ _ q) (nk _) ?_,rfl,M (λr=>w<|p.nil_iff.mpr r) _<|I.hok.fresh<|nk _];show#[by rw[nX];show l,_,n.append p,IsTup.new _ _]
end
section
variable {X:Cx} {a b:ma} {ta tb:TE} {pos:Pos}
def Yj5(K:lW)(T:String)(r:V->lQ V->Hp->VK->Prop)(to:TE):TE:=λz H Q=>to z H λx y=>Fl K T x y/\r x [] y Q
variable {o e:ma} {es:lQ ma} {to:TE} {t:TA} {name:lR} {u5 j8:Pos} {T id:String} {r:V->lQ V->Hp->VK->Prop}
def SC(p:PlainAttrs T)(slot:Slot T name id)(y:typeOf (.builtin id)=pure (.type "method_descriptor"))(n:AL X id r)(l:PE X o to)
  (j:attributeBase o name X.env (eval o X.env)=eval o X.env:=by rfl) (i:(u5.endLine ==j8.line)=true:=by rfl):PE X (.Call (.Attribute o name u5) [] [] j8) (Yj5 X.K T r to):=by
 intro w s z H Q I h;refine Hx j i<|mZ (l w s z H _ I h) λv g ⟨x,d,u,q,c,Y⟩=>?_;obtain⟨U,N⟩:=PL u q c;show#[T,id,p,slot,y,U,N,xx rfl<|Fc<|n w g z d x [] v [] Q u q .nil Y]
end
section
theorem Z7.zero:∀{us:lQ lT},Z7 [] us->us=[]
 | _,.nil=>rfl
end
section
def Z7.dropLast{xs:lQ V}{us:lQ lT}(h:Z7 xs us):Z7 xs.dropLast us.dropLast:=by
 induction h with
 | nil=>show .nil
 | cons r t z =>
  cases t with
  | nil=>show .nil
  | cons q y=>show .cons r z
end
section
def Va{z:Type}(l:lQ z):l.eraseIdx (l.length-1)=l.dropLast:=by
 induction l with
 | nil=>rfl
 | cons a r y =>
  cases r with
  | nil=>rfl
  | cons b r =>
   have e:(a ::b ::r).length-1=((b ::r).length-1)+1:=by
    have x:(a ::b ::r).length=r.length+2:=rfl;have w:(b ::r).length=r.length+1:=rfl;lia
   rw[e,Cb,y]
   all_goals rfl
end
variable {X:Cx}
def SB:V->lQ V->Hp->VK->Prop:=λx w H Q=>∃l z y,x=.ref l/\w=[]/\H l=some (.lst z)/\z[z.length-1]? =some y/\Q y (mJ H l<|.lst z.dropLast)
def Ug:BO X "list.pop" SB:=by
 intro N s z H x M v L Q I i g h;obtain⟨l,w,y,rfl,rfl,j,d,q⟩:=h;cases i;have c:=g.zero;subst c;obtain⟨w,p,n,r,a,e⟩:=I.lstM j;obtain⟨u,Y,U⟩:=r.get d;have o:p.toArray[p.toArray.size-1]? =some u:=by
  change p.toArray[p.length-1]? =some u;rw[<-wq,<-a];show Y
 refine xV AU #[_,e,rfl] F.entry_list_pop (F.args_list_pop_1 _) (MeetsSeq.list_pop_last l p.toArray n u o<|by rw[oz];lia) #[e,?_];refine#[y,_,I.lset (its':=p.dropLast) j e ?_ r.dropLast ?_,U,q]
 ·change p.toArray.eraseIdxIfInBounds (p.toArray.size-1)=p.dropLast.toArray;rw[oz,Jl,Va]
 ·rw[List.length_dropLast];lia
section
variable {prog:md} {w:lZ} {A:me} {E:lT->lU->Prop} {s:lU}
def Zyc{a b:lR}{t u:Tok}{Q:Bool->lU->Prop}(h:Q (decide<|a.cps.toList<b.cps.toList) s):wpAny (model prog w) A (oneLt' false (.str a t)<|.str b u) Q E s:=by
 rw[oneLt'_eq];simp only[uc,rD];refine mS<|wpAny_richCompare_same (op:=.Lt) (wO s a t) (wO s b u) slot_str_lt<|call_str_lt #[(λz=>nomatch z),?_];show tX h
end
section
def zh:lT->lS
 | .ref a=>a
 | _=>0
end
section
theorem Kb:∀{out:lQ lT}{as:lQ lS},(∀v∈out,v∈as.map Value.ref)->out=(out.map zh).map Value.ref
 | [],_,_=>rfl
 | v ::out,as,h=>by
  obtain⟨a,_,e⟩:=mX.mp<|h v ph;rw[nV,nV,<-Kb λu z=>h u<|pG _ z,<-e]
  rfl
end
section
theorem LP:∀as:lQ lS,Z7 (as.map V.ref) (as.map Value.ref)
 | []=>.nil
 | a ::as=>.cons rfl<|LP as
end
section
variable {prog:md} {w:lZ} {A:me} {E:lT->lU->Prop} {s:lU}
theorem Yct:∀{vs:lQ lT},vs.length<2->(vs.toArray.zip vs.toArray).map (·.2)=vs.toArray
 | [],_=>by simp
 | [_],_=>by simp
 | _ ::_ ::_,h=>absurd h (by simp)
def WL{a:lS}{vs:lQ lT}{n:Nat}{kd:SortKind}{P:Fin->lU->Prop}(p:s.heap.get? a=some (seqObj "list" vs.toArray n))(i:vs.length<=sizeLine)
  (Y:2<=vs.length->∀y:lY,(∀b x,b≠a->s.heap.get? b=some x->y.get? b=some x)->(∀Q:SortKind->lU->Prop,Q kd {s with heap:=y}->wpAny (model prog w) A (keyKind' vs.toArray) Q E {s with heap:=y})/\yg prog w A {s with heap:=y} kd (pairsOf vs))
  (h:∀out:lQ lT,out.Perm vs->P (.done<|.ret .none) {s with heap:=sortedHeap s.heap a vs out.toArray}):wpAny (model prog w) A (Builtin.«list.sort» #[[.ref a],[]]) P E s:=by
 rw[list_sort_plain];have C:a<#v[s]:=nO p;refine mS (listItems_at p rfl<|mS<|listUpdate_at p rfl ?_ (hsz:=by simpa using i));obtain⟨g,q⟩:∃g,(s.heap.update a<|Obj.mapSeq λ_=>#[]).get? a=some (seqObj "list" #[] g):=#[_,get?_update_seq p _]
 refine mS<|seqEpoch_at q rfl<|mS<|wpAny_newTuple (hsz:=by simpa using i)<|mS<|wpAny_newList<|qW ?_;generalize d:((s.heap.update a<|Obj.mapSeq λ_=>#[]).push (seqObj "tuple" vs.toArray 0)).push (seqObj "list" #[] 0)=y;have z:∀b x,(s.heap.update a<|Obj.mapSeq λ_=>#[]).get? b=some x->y.get? b=some x:=λb x o=>by
  rw[<-d];show nQ _<|nQ _ o
 have u:=z _ _ q;have z:∀b x,b≠a->s.heap.get? b=some x->y.get? b=some x:=λb x U o=>z b x (by rw[tT _ _ (oM U)];show o)
 have fin:∀out:lQ lT,out.Perm vs->P (.done<|.ret .none) {s with heap:=y.update a (Obj.mapSeq λ_=>out.toArray)}:=λout N=>by
  have:=h out N;unfold sortedHeap at this;rw[d]at this;show this
 change wpAny (model prog w) A _ P E {s with heap:=y};dsimp only
 by_cases r:vs.toArray.size<2
 ·rw[mU r,mU r];refine mS<|nG ?_;rw[StateT.run_pure];refine mS<|nG ?_;dsimp only;refine mS (seqEpoch_at u rfl<|mS<|listUpdate_at u rfl ?_ (hsz2:=by rw[Array.size_map];change(pairsOf vs).size<=_;rw[pairsOf_size];lia));simp only[CU,uc,rD];refine nG ?_;change P _ {s with heap:=y.update a (Obj.mapSeq λ_=>(vs.toArray.zip vs.toArray).map (·.2))};rw[Yct (by simpa using r)];show fin vs<|qh _
 ·rw[mT r,mT r];have l:2<=vs.length:=by
   have:¬vs.length<2:=by simpa using r
   lia
  obtain⟨M,L⟩:=Y l y z;refine mS<|M _ ?_;refine mS<|pX (VB L (st:=SortSt.mk' kd (vs.toArray.zip vs.toArray) #[] 7 none) (Q:=λ_ st=>(arrOf st).Perm (pairsOf vs)/\failedOf st=none) #[Array.Perm.refl _,rfl,rfl,rfl] λst J I=>#[J,I]) ?_ λ_ _ e=>e;rintro⟨⟨⟩,st⟩ B ⟨rfl,c,H⟩;dsimp only;have j:(arrOf st).size=vs.length:=c.size_eq.trans<|pairsOf_size _;refine mS (seqEpoch_at u rfl<|mS<|listUpdate_at u rfl ?_ (hsz2:=by rw[Array.size_map,j];lia));rw[H];simp only[CU,uc,rD];refine nG ?_;have G:(arrOf st).toList.Perm (vs.zip vs):=by rw[<-pairsOf_toList];show QK.mp c
  have D:(arrOf st).map (·.2)=((arrOf st).toList.map (·.2)).toArray:=by rw[<-Array.toList_map,Array.toArray_toList]
  change P _ {s with heap:=y.update a (Obj.mapSeq λ_=>(arrOf st).map (·.2))};rw[D];show fin _ ((G.map _).trans (by rw[List.map_snd_zip (nk _)]))
def uY(h:lY)(v:lT):Prop:=∃(a:lS)(z:Obj)(x:lT)(u:lQ lT)(n:Nat),v=.ref a/\h.get? a=some z/\z.cls=.type "tuple"/\z.data=.seq (x ::u).toArray n/\∀y∈x ::u,∃p t,y=Value.str p t
theorem JL{b fin:Bool}{Q:Bool->lU->Prop}(q:∀b,Q b s):∀(l:lQ (lT×lT)) (i:Nat),(∀p∈l,(∃x t,p.1=Value.str x t)/\∃x t,p.2=Value.str x t)->PySem.W.KatLex prog w A b fin Q l i s
 | [],_,_=>PySem.W.kat_nil (q _)
 | (u,v) ::l,i,h=>by
  obtain⟨⟨x,t,rfl⟩,y,z,rfl⟩:=h _ ph;refine GD<|CS<|Ee (λ_=>HN<|JL q l (i+1) λp z=>h p<|pG _ z) λ_=>GC ?_;cases b && i ==0 with
  | true=>show oneLt_str (q _)
  | false=>show Zyc<|q _
def Ur{vs:lQ lT}(h:∀v∈vs,uY s.heap v):yg prog w A s (tuples' true) (pairsOf vs):=λx z y o U Q q=>by
 have mem:∀x∈pairsOf vs,uY s.heap x.1:=λx z=>by
  rw[<-zM,pairsOf_toList]at z;show h _ (uV z).1
 obtain⟨a,p,u,N,n,l,j,M,i,g⟩:=mem x z;obtain⟨b,u,v,vs,m,e,d,p,c,Y⟩:=mem y o;rw[l,e];refine PySem.W.kat_lt j i d c<|JL q _ 0 λp r=>?_;show#[g _ (by simpa using(uV r).1),Y _<|by simpa using(uV r).2]
def Zx0{vs:lQ lT}{Q:SortKind->lU->Prop}(h:∀v∈vs,uY s.heap v)(o:2<=vs.length)(q:Q (tuples' true) s):wpAny (model prog w) A (keyKind' vs.toArray) Q E s:=by
 have all:∀l:lQ lT,(∀v∈l,uY s.heap v)->∃fs,PySem.W.KatTups s.heap l fs/\fs.length=l.length/\∀f∈fs,∃p t,f=Value.str p t:=by
  intro l
  induction l with
  | nil=>show λ_=>#[[],Rt,rfl,λ_ z=>nomatch z]
  | cons v l j =>
   intro h;obtain⟨fs,y,o,x⟩:=j λv r=>h v<|pG _ r
   obtain⟨a,c,u,Y,n,rfl,i,g,e,d⟩:=h v ph;refine#[u ::fs,Rm i g e rfl y,by rw[pE,pE,o],λf z=>?_];rcases nU.mp z with rfl|z
   ·show d _ ph
   ·show x f z
 obtain⟨fs,y,e,x⟩:=all vs h;refine PySem.W.kat_kind (T:=.type "str") y (by lia) (λv r=>?_) (by lk) q;obtain⟨p,t,rfl⟩:=x v r;show .now
end
section
def Gb{z y:Type}{R:z->y->Prop}{as u:lQ z}(p:u.Perm as):∀{bs:lQ y},Paired R as bs->∃s,s.Perm bs/\Paired R u s:=by
 induction p with
 | nil=>show λh=>#[_,qh _,h]
 | cons x _ w =>
  rintro _ (_|⟨r,t⟩);obtain⟨s,p,q⟩:=w t;show#[_,p.cons _,.cons r q]
 | swap x w l =>
  rintro _ (_|⟨r,_|⟨q,t⟩⟩);show#[_,.swap _ _ _,.cons q<|.cons r t]
 | trans _ _ w q =>
  intro bs h;obtain⟨g,o,n⟩:=q h;obtain⟨l,j,i⟩:=w n;show#[l,j.trans o,i]
end
section
variable {prog:md} {w:lZ} {A:me} {E:lT->lU->Prop} {s:lU}
def uH{z:Type}[DecidableEq z](lt:z->z->Bool):lQ z->lQ z->Bool
 | [],[]=>false
 | [],_ ::_=>true
 | _ ::_,[]=>false
 | a ::x,b ::y=>if a=b then uH lt x y else lt a b
def wP(a b:lR):Bool:=decide<|a.cps.toList<b.cps.toList
def Rj{z:lQ lR}{vs:lQ lT}(g:ItemsAre (PySem.strKind prog w) z vs):StrsAre vs z:=by
 induction g with
 | nil=>show .nil
 | cons h t y =>
  obtain⟨u,rfl⟩:=Value.isStrOf_shape h;show .cons _ _ y
def Znm{x y:lQ lR}{a b:lS}{P:Fin->lU->Prop}(B:IsTupleKey (PySem.strKind prog w) s.heap x a)(C:IsTupleKey (PySem.strKind prog w) s.heap y b)(h:P (.done<|.ret<|.bool<|uH wP x y) s) :
  wpAny (model prog w) A (Builtin.«tuple.__lt__» #[[.ref a,.ref b],[]]) P E s:=by
 have M:=C.typeIs;obtain⟨z,c,u,L,_,J,l⟩:=B;obtain⟨z,Y,u,E4,_,R3,j⟩:=C;change wpAny _ _ (isInstance (.ref b) (.type "tuple")>>=_) _ _ s;refine mS<|wpAny_isInstance M isSubtype_tuple_tuple ?_;simp only[GB,uc,rD];refine mS<|wpAny_tupleItemsOf L J<|mS<|wpAny_tupleItemsOf E4 R3<|mS ?_;have l:=Rj l;have j:=Rj j;refine wpAny_forIn_list _ (λZs r g=>r.1=none/\g=s/\∃U Q p o,Zs=List.zip p o/\StrsAre p U/\StrsAre o Q/\uH wP U Q=uH wP x y/\decide (p.length<o.length)=decide (c.size<Y.size)) _ ?_ ?_ _ _ #[rfl,rfl,x,y,c.toList,Y.toList,rfl,l,j,rfl,by simp]
 ·rintro⟨u,v⟩ Zs r g ⟨I,rfl,U,Q,p,o,e,i,n,q,H⟩;cases i with
  | nil=>simp at e
  | cons G t1 u =>
   cases n with
   | nil=>simp at e
   | cons D t2 d =>
    simp only[List.zip_cons_cons,Bj,yy]at e;obtain⟨⟨rfl,rfl⟩,rfl⟩:=e;refine mS<|CS ?_
    by_cases N:G=D
    ·rw[nS N];simp only[GB,uc,rD];refine nG #[rfl,rfl,_,_,_,_,rfl,u,d,?_,by simpa using H];rw[<-q];show(mU N).symm
    ·rw[om N];simp only[Bool.not_false,ud];have hf:wP G D=uH wP x y:=by rw[<-q];show(mT N).symm
     refine mS<|vh<|mS<|wpAny_richCompare_same (op:=.Lt) (wO g G t1) (wO g D t2) slot_str_lt<|call_str_lt #[(λz=>nomatch z),?_];rw[<-hf]at h;show mS<|nG<|nG<|nG h
 ·rintro⟨u,d⟩ g ⟨I,rfl,U,Q,p,o,e,i,n,q,H⟩;simp only at I;subst I;refine nG ?_;have z:decide (c.size<Y.size)=uH wP x y:=by
   rw[<-q,<-H];cases i with
   | nil =>
    cases n with
    | nil=>simp[uH]
    | cons _ _ _=>simp[uH]
   | cons _ _ _ =>
    cases n with
    | nil=>simp[uH]
    | cons _ _ _=>simp at e
  change P (.done<|.ret<|.bool<|decide<|c.size<Y.size) g;rw[z];show h
def Vs{x y:lQ lR}{a b:lS}{Q:Bool->lU->Prop}(r:A.units<cLine)(z:IsTupleKey (PySem.strKind prog w) s.heap x a)(u:IsTupleKey (PySem.strKind prog w) s.heap y b)(h:Q (uH wP x y) s):wpAny (model prog w) A (oneLt' false (.ref a)<|.ref b) Q E s:=by
 rw[oneLt'_eq];simp only[uc,rD];show mS<|IJ (op:=.Lt) z.typeIs u.typeIs QX (DL QX z.typeIs PySem.F.entry_tuple_lt (Znm z u #[_,rfl,(λe=>nomatch e),tX h])<|PySem.F.args_tuple_lt_2 _ _) r
end
section
def Jd(K:lW):R2:=λx y H Q=>∃a b z w,x=.ref a/\y=.ref b/\SqT K H a z/\SqT K H b w/\z≠[]/\w≠[]/\z.length+w.length<=sizeLine/\pD H (.tup<|z++w) Q
end
section
def KS{X:Cx}:nW X (binaryOp .Add) (Jd X.K):=Yck.imp λx y H Q h=>by
 obtain⟨a,b,w,u,s,r,q,o,n,l,j,i⟩:=h;show#[a,b,w,u,s,r,q,o,n,j,λz=>absurd z l,λ_ p g=>i.at p g]
end
section
variable {prog:md} {w:lZ} {A:me} {E:lT->lU->Prop} {s:lU}
def vd(prog:md)(w:lZ)(h:lY)(v:lT):Prop:=∃(a:lS)(z:Obj)(p:lR)(t:Tok)(x:lQ lT)(n:Nat),v=.ref a/\h.get? a=some z/\z.cls=.type "tuple"/\z.data=.seq (.str p t ::x).toArray n/\∀y∈x,∃b u,y=Value.ref b/\IsTupleKey (PySem.strKind prog w) h u b
def vd.mono{h h':lY}{v:lT}(k:∀b z,z.cls=.type "tuple"->h.get? b=some z->h'.get? b=some z)(x:vd prog w h v):vd prog w h' v:=by
 obtain⟨a,z,p,t,q,n,e,f,c,d,r⟩:=x;refine#[a,z,p,t,q,n,e,k a z c f,c,d,λy l=>?_];obtain⟨b,j,i,o,g,m,Y,u,U⟩:=r y l;show#[b,j,i,o,g,m,k b o u Y,u,U]
theorem Ol{fin:Bool}{Q:Bool->lU->Prop}(y:A.units<cLine)(q:∀b,Q b s):∀(l:lQ (lT×lT)) (i:Nat),(∀p∈l,(∃b z,p.1=Value.ref b/\IsTupleKey (PySem.strKind prog w) s.heap z b)/\∃b z,p.2=Value.ref b/\IsTupleKey (PySem.strKind prog w) s.heap z b)->PySem.W.KatLex prog w A true fin Q l (i+1) s
 | [],_,_=>PySem.W.kat_nil (q _)
 | (u,v) ::l,i,h=>by
  obtain⟨⟨b,z,x,o⟩,c,j,r,n⟩:=h _ ph;have x:u=.ref b:=x;have r:v=.ref c:=r;subst x r;show GD (wpAny_eqBool_tuple y o n (Ee (λ_=>HN<|Ol y q l (i+1) λp j=>h p<|pG _ j) λ_=>GC (show wpAny _ _ (oneLt' false (.ref b)<|.ref c) _ _ _ from Vs y o n<|q _)))
def JJ{z:lQ lR}{vs:lQ lT}(h:StrsAre vs z):ItemsAre (PySem.strKind prog w) z vs:=by
 induction h with
 | nil=>show .nil
 | cons x t _ h=>show .cons (by simp[PySem.strKind,Value.isStrOf]) h
def Ybx{vs:lQ lT}(o:A.units<cLine)(h:∀v∈vs,vd prog w s.heap v):yg prog w A s (tuples' true) (pairsOf vs):=λx u y l J j q=>by
 have mem:∀x∈pairsOf vs,vd prog w s.heap x.1:=λx u=>by
  rw[<-zM,pairsOf_toList]at u;show h _ (uV u).1
 obtain⟨a,z,p,t,i,n,g,e,r,d,c⟩:=mem x u;obtain⟨b,z,Y,U,vs,m,Q,N,r,M,L⟩:=mem y l;rw[g,Q];refine PySem.W.kat_lt e d N M ?_;change PySem.W.KatLex prog w A true _ j ((.str p t,.str Y U) ::i.zip vs) 0 s;show GD<|CS<|Ee (λ_=>HN<|Ol o q _ 0 λz r=>#[c _ (uV r).1,L _ (uV r).2]) λ_=>GC<|oneLt_str<|q _
def Zz7{vs:lQ lT}{Q:SortKind->lU->Prop}(h:∀v∈vs,vd prog w s.heap v)(r:2<=vs.length)(q:Q (tuples' true) s):wpAny (model prog w) A (keyKind' vs.toArray) Q E s:=by
 have all:∀l:lQ lT,(∀v∈l,vd prog w s.heap v)->∃fs,PySem.W.KatTups s.heap l fs/\fs.length=l.length/\∀f∈fs,∃p t,f=Value.str p t:=by
  intro l
  induction l with
  | nil=>show λ_=>#[[],Rt,rfl,λ_ z=>nomatch z]
  | cons v l o =>
   intro h;obtain⟨fs,y,r,x⟩:=o λv u=>h v<|pG _ u
   obtain⟨a,e,p,t,d,n,rfl,j,i,g,c⟩:=h v ph;refine#[.str p t ::fs,Rm j i g rfl y,by rw[pE,pE,r],λf z=>?_];rcases nU.mp z with rfl|z
   ·show#[p,t,rfl]
   ·show x f z
 obtain⟨fs,y,e,x⟩:=all vs h;refine PySem.W.kat_kind (T:=.type "str") y (by lia) (λv u=>?_) (by lk) q;obtain⟨p,t,rfl⟩:=x v u;show .now
end
section
def Lv{X:Cx}(hu:X.A.units+64<cLine){d:lQ (lS×Obj)}{s:lU}{z:St}{H:Hp}{Q:VK}{p:lS}{ts:lQ lS}(I:mI X d z H s)(pl:PlainL s.heap p (ts.map Value.ref).toArray)(u:(ts.map Value.ref).length<=sizeLine){Pv:lY->lT->Prop}(M:∀v∈ts.map Value.ref,Pv s.heap v)
  (B:∀{h h':lY}{v:lT},(∀b r,r.cls=.type "tuple"->h.get? b=some r->h'.get? b=some r)->Pv h v->Pv h' v)
  (pk:∀{A:me}{E:lT->lU->Prop}{s:lU}{vs:lQ lT}{Q:SortKind->lU->Prop},(∀v∈vs,Pv s.heap v)->2<=vs.length->Q (tuples' true) s->wpAny (model X.prog X.w) A (keyKind' vs.toArray) Q E s)
  (pa:∀{A:me}{s:lU}{vs:lQ lT},A.units<cLine->(∀v∈vs,Pv s.heap v)->yg X.prog X.w A s (tuples' true) (pairsOf vs))
  (q:∀L:lQ lS,L.Perm ts->pD H (.lst<|L.map V.ref) Q):∅ (call (.builtin "sorted") [.ref p]) (EP X d z Q) X.xe s:=by
 refine Gx kind_sorted plain_sorted entry_sorted (args_sorted1 _) ?_;unfold Builtin.«sorted»;refine mS (m:=checkCount "sorted" 1 1 _)<|nG<|mS<|collect_list pl.isList (hsz:=u)<|mS<|wpAny_newList (hsz:=u) ?_;generalize hV:ts.map Value.ref=vs at M u pl ⊢;have Y:((s.heap.push<|seqObj "list" #[] 0).update #v[s] (Obj.mapSeq (· ++vs.toArray))).objs.size=#v[s]+1:=by rw[Heap.size_update,size_push']
 have U:(((s.heap.push<|seqObj "list" #[] 0).update #v[s] (Obj.mapSeq (· ++vs.toArray))).push (seqObj "list" vs.toArray 0)).get? (#v[s]+1)=some (seqObj "list" vs.toArray 0):=by
  rw[<-Y];show oQ _ rfl
 have J:∀b o,s.heap.get? b=some o->(((s.heap.push<|seqObj "list" #[] 0).update #v[s] (Obj.mapSeq (· ++vs.toArray))).push (seqObj "list" vs.toArray 0)).get? b=some o:=λb o i=>by
  have lt:=nO i;rw[Heap.get?_push_ne _ _ _ (by rw[Y];show oi<|FA lt),tT _ _<|xJ lt];show nQ _ i
 change wpAny _ _ _ _ _ {s with heap:=((s.heap.push<|seqObj "list" #[] 0).update #v[s] (Obj.mapSeq (· ++vs.toArray))).push (seqObj "list" vs.toArray 0)};rw[Y];have fin:∀out:lQ lT,out.Perm vs->∃y G,mI X d z G {s with heap:=sortedAll s.heap vs out.toArray}/\Yd y (.ref<|#v[s]+1)/\Q y G:=λout n=>by
  subst hV;have D:out=(out.map zh).map Value.ref:=Kb λv N=>n.mem_iff.mp N
  have w:(out.map zh).Perm ts:=by
   have:=n.map zh;rw[pi,show(zh ∘ Value.ref)=id from rfl,GJ]at this;show this
  generalize C:out.map zh=l at D w;subst D;obtain⟨e,he⟩:=sortedAll_at s.heap (ts.map Value.ref) (l.map Value.ref).toArray;have hl:=w.length_eq;rw[mK]at u;show#[.ref<|#v[s]+1,_,I.laid (a:=#v[s]+1) (o:=.lst<|l.map V.ref) (t':=s.toks) (λb o h=>sortedAll_old h) (rV _) (show Z8 X.prog X.w _ _ _ (.lst _)from#[by rw[mK];lia,l.map Value.ref,e,LP _,he]),rfl,(q l w).at _ (I.hok.fresh<|rV _)]
 unfold sortedAll at fin;generalize hG:((s.heap.push<|seqObj "list" #[] 0).update #v[s] (Obj.mapSeq (· ++vs.toArray))).push (seqObj "list" vs.toArray 0)=g at U J fin ⊢;have so:∀(A:me)(E:lT->lU->Prop)(P:Fin->lU->Prop),A.units<cLine->(∀out:lQ lT,out.Perm vs->P (.done<|.ret .none) {s with heap:=sortedHeap g (#v[s]+1) vs out.toArray})->wpAny (model X.prog X.w) A (Builtin.«list.sort» #[[.ref (#v[s]+1)],[]]) P E {s with heap:=g}:=λA E P C h =>
  have mono:∀j:lY,(∀b r,b≠#v[s]+1->g.get? b=some r->j.get? b=some r)->∀v∈vs,Pv j v:=λj k v N=>B (λb r c i=>k b r (λx=>by
   have:=nO i;rw[x]at this;show absurd this<|Nat.not_lt.mpr<|rV _)<|J b r i) (M v N)
  WL (s:={s with heap:=g}) (kd:=tuples' true) U u (λx j k=>#[λQ q=>pk (s:={s with heap:=j}) (mono j k) x q,pa (s:={s with heap:=j}) C<|mono j k]) h
 show mS<|qW<|DL slot_list_sort #[_,U,rfl] entry_list_sort (so _ _ _ (by simp only[X0];lia) λout n=>#[_,rfl,nG #[_,rfl,fin out n]])<|args_list_sort _
end
section
def OB(K:lW):lQ V->Hp->VK->Prop:=λw H Q=>∃(p:lS)(z:lQ lS),w=[.ref p]/\SqL K H p (z.map V.ref)/\(∀t∈z,∃(sig:lR)(y:lQ lS),H t=some (.tup<|.str sig ::y.map V.ref)/\∀u∈y,∃l:lQ lR,H u=some (.tup<|l.map V.str))/\∀x:lQ lS,x.Perm z->pD H (.lst<|x.map V.ref) Q
end
section
def Zuo{X:Cx}(g:X.A.units+64<cLine):Xe X (.builtin "sorted") (OB X.K):=by
 intro c7 s z H xs n Q I r h;obtain⟨p,j,rfl,e,d,q⟩:=h;obtain⟨u,rfl,c⟩:=W5 r;cases c;obtain⟨a,Y,U,i⟩:=I.list e;have w:=wL Y;subst w;have o:(j.map Value.ref).length<=sizeLine:=by rw[mK]at i ⊢;show i
 have N:∀v∈j.map Value.ref,vd X.prog X.w s.heap v:=λv M=>by
  obtain⟨t,L,rfl⟩:=mX.mp M;obtain⟨sig,n,J,G⟩:=d t L;obtain⟨_,a,E,D,C,B,m,A⟩:=(show Z8 X.prog X.w H s.heap t (.tup<|.str sig ::n.map V.ref)from I.hok _ _ J)
  cases E with
  | cons y zs =>
   obtain⟨tk,rfl⟩:=y;have w:=wL zs;subst w;refine#[t,D,sig,tk,_,m,rfl,C,B,A,λx hy=>?_];obtain⟨u,p,rfl⟩:=mX.mp hy;obtain⟨l,hl⟩:=G u p;obtain⟨_,ws,B8,o3,g1,g2,m3,g3⟩:=(show Z8 X.prog X.w H s.heap u (.tup<|l.map V.str)from I.hok _ _ hl)
   show#[u,l,rfl,o3,ws.toArray,m3,g1,g2,g3,by simpa using JJ (zH B8)]
 show Lv g I U o N vd.mono Zz7 Ybx q
end
section
def uY.up{h h':lY}{v:lT}(k:∀b z,z.cls=.type "tuple"->h.get? b=some z->h'.get? b=some z)(x:uY h v):uY h' v:=by obtain⟨b,z,y,w,m,e,f,c,d,r⟩:=x;show#[b,z,y,w,m,e,k b z c f,c,d,r]
end
section
def Sa{w:lQ lR}{vs:lQ lT}(h:StrsAre vs w):∀y∈vs,∃p t,y=Value.str p t:=by
 induction h with
 | nil=>intro y z;cases z
 | cons x t _ u =>
  intro y z;rcases nU.mp z with rfl|z
  ·show#[_,_,rfl]
  ·show u y z
end
section
def EW(K:lW):lQ V->Hp->VK->Prop:=λw H Q=>∃(p:lS)(z:lQ lS),w=[.ref p]/\SqL K H p (z.map V.ref)/\(∀t∈z,∃(x:lR)(l:lQ lR),H t=some (.tup<|(x ::l).map V.str))/\∀y:lQ lS,y.Perm z->pD H (.lst<|y.map V.ref) Q
end
section
def Ob{X:Cx}(i:X.A.units+64<cLine):Xe X (.builtin "sorted") (EW X.K):=by
 intro A s z H xs us Q I r h;obtain⟨p,n,rfl,g,e,q⟩:=h;obtain⟨u,rfl,d⟩:=W5 r;cases d;obtain⟨c,a,Y,j⟩:=I.list g;have U:=wL a;subst U;have o:(n.map Value.ref).length<=sizeLine:=by rw[mK]at j ⊢;show j
 have N:∀v∈n.map Value.ref,uY s.heap v:=λv M=>by
  obtain⟨t,L,rfl⟩:=mX.mp M;obtain⟨x,l,J⟩:=e t L;obtain⟨_,c,G,E,D,C,m,B⟩:=(show Z8 X.prog X.w H s.heap t (.tup<|(x ::l).map V.str)from I.hok _ _ J)
  cases G with
  | cons y p =>
   obtain⟨tk,rfl⟩:=y;refine#[t,E,_,_,m,rfl,D,C,B,λw u=>?_];rcases nU.mp u with rfl|u
   ·show#[_,_,rfl]
   ·show Sa (zH p) w u
 show Lv i I Y o N uY.up Zx0 (λ_=>Ur) q
end
end L2
section
namespace L2
open PySem PySem.Spec PyProof.Rows
section
open PySem.SeqAt
open PySem.AutoSeq1 (wpAny_loadPart')
open PySem.MeetsSeq PySem.MeetsSeq2 PySem.MeetsSeq3
def Dj(prog:md)(w:lZ)(A:me)(s:lU)(y x:lT):Prop:=∀(E:lT->lU->Prop)(Q:Bool->lU->Prop),Q true s->wpAny (model prog w) A (eqBool y x) Q E s
end
def zo(K:lW)(H:Hp)(x y:V):Prop:=vc K H x y\/∃a b z w,x=.ref a/\y=.ref b/\Rd H a (.dK z)/\Rd H b (.dK w)/\z.length=w.length/\∀u∈z,∃v,Y8 w u.1=some v/\vc K H u.2 v
def zo.eqIn{X:Cx}{G:lQ (lS×Obj)}{z:St}{H:Hp}{s:lU}{A:me}{x y:V}{u v:lT}(I:mI X G z H s)(h:zo X.K H x y)(c:Yd x u)(j:Yd y v)(hu:A.units+62<cLine):Dj X.prog X.w A s u v:=by
 rcases h with h|⟨a,b,ka,D,rfl,rfl,C,B,hl,p0⟩
 ·show λE Q n=>h.eqAt I c j (by lia) _ _ E Q n
 ·cases c;cases j
  by_cases e:a=b
  ·subst e;show λE Q n=>zS _ _ _ E Q n
  ·intro E Q n;unfold eqBool;refine qW ?_;refine wpAny_ite_split (λT6=>absurd (by have:=eq_of_beq T6;injection this) e) λ_=>?_;obtain⟨_,sa,va,Y,da⟩:=qK I.hok C;obtain⟨_,sb,U,N,db⟩:=qK I.hok B;have la:=KV.length Y;have lb:=KV.length N;have E8:∀{w:lQ (ng×V)}{o:lQ (ng×lT)},KV w o->(∀i∈w,∃v,Y8 D i.1=some v/\vc X.K H i.2 v)->PySem.W.KeqHits A.in1 s U o true:=by
    intro w o r
    induction r with
    | nil=>intro _;show .nil
    | cons r t ih =>
     rename_i p q l m;intro M;obtain⟨e1,r2⟩:=r;obtain⟨v,g,d⟩:=M p ph;have L:=KV.val N p.1;rw[g]at L;obtain⟨y,J,j⟩:=pR.some_of L;rw[e1]at J;have:=Fe (k:=q.1) (v:=q.2) J (d.eqAt (A:=A.in1) I r2 j<|by rw[X0];lia)<|ih λi C8=>M i<|pG _ C8;simpa using this
   refine mS<|PySem.W.keq_eq (knd:=Z1 X.prog X.w) sa sb da db (by lia) (λ_=>E8 Y p0)<|tX ?_;rw[show(va.length ==U.length)=true by rw[<-la,<-lb,hl];simp];show n
def Je(K:lW):R2:=λx y H Q=>∃a w z,x=.ref a/\y=.str z/\SqT K H a w/\Q (.bl false) H
def ZZ{X:Cx}(j:X.A.units+64<cLine):nW X (compareOp .Eq) (Je X.K):=by
 intro i s z H x y v u Q I r p h;obtain⟨a,g,w,rfl,rfl,o,q⟩:=h;cases r;obtain⟨t,rfl⟩:=(show ∃t,u=Value.str w t from p)
 obtain⟨n,g,l,_⟩:=I.tuple o;show SeqAt.RcAt.tuple_str w t (show s.heap.IsTuple a n.toArray from l) (by lia) _ _ _ _ #[.bl false,H,I,rfl,q]
def Jw(K:lW):R2:=λx y H Q=>AQ K x y H Q\/Je K x y H Q
def Yjf{X:Cx}{k:Nat}(z:Y4 k X.A):nW X (compareOp .Eq) (Jw X.K):=(CZ z).or (ZZ z.units)
section
open PySem.SeqAt
open PySem.AutoSeq1 (wpAny_loadPart')
open PySem.MeetsSeq PySem.MeetsSeq2 PySem.MeetsSeq3
def SJ{prog:md}{w:lZ}{l b:lS}{z its':Array lT}{n o:Nat}{dd e:lV lS}{c a:Array (lV lT)}(hsz:z.size=its'.size)(k:Nat) :
  ∀i:Nat,z.size-i=k->MeetsIn prog w (Builtin.«list.__eq__.loop» #[[.ref l,.ref b,rawInt i,rawInt 2],[]])
   (λA R s=>s.heap.get? l=some {cls:=.type "list",dict:=dd,data:=.seq z n,slots:=c}/\s.heap.get? b=some {cls:=.type "list",dict:=e,data:=.seq its' o,slots:=a}/\
    (∀j (r:j<z.size) (q:j<its'.size),Dj prog w A.in1 s z[j] its'[j])/\R (.ok<|.ret<|.bool true) s):=by
 induction k with
 | zero =>
  intro i Y A R s h;obtain⟨U,g,d,Q,os⟩:=s;obtain⟨x,u,he,h⟩:=h
  wp_walk using wc x,wc u
  have r:z[((i:Nat):Int).toNat]? =none:=by simp;lia
  have q:its'[((i:Nat):Int).toNat]? =none:=by simp;lia
  rw[r,q]
  wp_walk using wc x,wc u
  change R (.ok<|.ret<|.bool<|z.size ==its'.size) _;rw[hsz];simpa using h
 | succ k N =>
  intro i Y A R s h;obtain⟨U,g,d,Q,os⟩:=s;obtain⟨x,u,he,h⟩:=h
  wp_walk using wc x,wc u
  have p:i<z.size:=by lia
  have y:i<its'.size:=by lia
  have r:z[((i:Nat):Int).toNat]? =some z[i]:=by simp[p]
  have q:its'[((i:Nat):Int).toNat]? =some its'[i]:=by simp[y]
  have M:((i:Int)+1)=((i+1:Nat):Int):=by push_cast;rfl
  rw[r,q];refine mS (he i p y _ _ ?_)
  wp_walk
  rw[M];show#[plainId_quiet plain_eq_loop _,CC entry_eq_loop (by
   rw[Fk plain_eq_loop _];show N (i+1) (by lia) A R _ #[x,u,he,h])]
def RG{prog:md}{w:lZ}{l b:lS}{z its':Array lT}{n u:Nat}{dd r:lV lS}{q p:Array (lV lT)}(hsz:z.size=its'.size) :
  MeetsIn prog w (Builtin.«list.__eq__» #[[.ref l,.ref b],[]])
   (λA R s=>s.heap.get? l=some {cls:=.type "list",dict:=dd,data:=.seq z n,slots:=q}/\s.heap.get? b=some {cls:=.type "list",dict:=r,data:=.seq its' u,slots:=p}/\
    (∀j (o:j<z.size) (i:j<its'.size),Dj prog w A.in1 s z[j] its'[j])/\R (.ok<|.ret<|.bool true) s):=by
 intro A R s h;obtain⟨e,g,d,c,os⟩:=s;obtain⟨y,x,he,h⟩:=h;have a:=AutoSeq1.sub_list_list;have Y:¬(z.size !=its'.size)=true:=by simp[hsz]
 wp_walk using wc y,wc x
 show#[plainId_quiet plain_eq_loop _,CC entry_eq_loop (by
  rw[Fk plain_eq_loop _];show SJ hsz _ 0 rfl A R _ #[y,x,he,h])]
def Yao{prog:md}{w:lZ}{A:me}{s:lU}{l b:lS}{y its':Array lT}{Q:lT->lU->Prop}{E:lT->lU->Prop}(o:s.heap.IsList l y)(i:s.heap.IsList b its')(hsz:y.size=its'.size)(h:A.units<cLine)
  (he:∀j (e:j<y.size) (d:j<its'.size),Dj prog w A.in1 s y[j] its'[j]) (q:Q (.bool true) s):wpAny (model prog w) A (richCompare .Eq (.ref l)<|.ref b) Q E s:=by
 obtain⟨⟨cls,x,data,g⟩,u,r,n,hd⟩:=id o;obtain⟨⟨x,n,data2,g⟩,p,P3,c,z⟩:=id i;simp only at r hd P3 z;subst r hd P3 z;show IJ (op:=.Eq) #[_,u,rfl] #[_,p,rfl] F.slot_list_eq (vO F.slot_list_eq #[_,u,rfl] F.entry_list_eq (F.args_list_eq_2 _ _) (RG hsz) #[u,p,he,show Value.bool true≠Value.notImplemented/\Q (.bool true) s from#[(λx=>nomatch x),q]]) h
end
def NN(K:lW):R2:=λx y H Q=>∃a b z w,x=.ref a/\y=.ref b/\SqL K H a z/\SqL K H b w/\Paired (zo K H) z w/\Q (.bl true) H
def TV{X:Cx}(hu:X.A.units+64<cLine):nW X (compareOp .Eq) (NN X.K):=by
 intro c7 s z H x y v u Q I d c h;obtain⟨a,b,p,ys,rfl,rfl,Y,U,n,q⟩:=h;cases d;cases c;obtain⟨l,g,N,_⟩:=I.list Y;obtain⟨w,e,M,_⟩:=I.list U;have L:=g.length;have l2:=e.length;have m1:=nH n;have J:l.toArray.size=w.toArray.size:=by rw[oz,oz];lia
 refine Yao N.isList M.isList J (by lia) (λj G a=>?_) #[.bl true,H,I,rfl,q];have r:j<p.length:=by simpa[L]using G
 obtain⟨y,o,E⟩:=Paired.get n (i:=j) (a:=p[j]) (by simp[r]);obtain⟨D,C,B⟩:=g.get (i:=j) (x:=p[j]) (by simp[r]);obtain⟨A,f2,g2⟩:=e.get (i:=j) (x:=y) o;have e1:l.toArray[j]=D:=by
  obtain⟨_,this⟩:=oo.mp C;simpa using this
 have o:w.toArray[j]=A:=by
  obtain⟨_,this⟩:=oo.mp f2;simpa using this
 rw[e1,o];show E.eqIn I B g2 (by rw[X0];lia)
inductive MB(K:Frag)(U6:Bool)(H:Hp)(Q:VK):V->V->Prop
 | mk {a b xs}:SqT K H a xs->SqT K H b []->Q (.bl<|xs.isEmpty !=U6) H->MB K U6 H Q (.ref a) (.ref b)
def CL(K:lW)(z:Bool):R2:=λx y H Q=>MB K z H Q x y
def RD{X:Cx}(M:X.A.units+64<cLine):nW X (compareOp .Eq) (CL X.K false):=by
 intro L s z H x y v u Q I o n h;obtain@⟨a,b,p,l,i,q⟩:=h;cases o;cases n;obtain⟨r,g,d,_⟩:=I.tuple l;obtain⟨w,c,Y,_⟩:=I.tuple i;have U:=c.length;obtain rfl:w=[]:=uD.mp U.symm;have e:((List.range<|min r.toArray.size ([]:lQ lT).toArray.size).all (λj=>true) && r.toArray.size ==([]:lQ lT).toArray.size)=(p.isEmpty !=false):=by
  have J:=g.length;cases p<;>cases r<;>simp_all
 refine SeqAt.RcAt.tuples (show s.heap.IsTuple a r.toArray from d) (show s.heap.IsTuple b ([]:lQ lT).toArray from Y) (by lia) (e:=λ_=>true) (λj G N=>absurd N<|by simp) _ _ _ _ #[.bl _,H,I,rfl,?_];rw[e];show q
def ZK{X:Cx}(M:X.A.units+64<cLine):nW X (compareOp .NotEq) (CL X.K true):=by
 intro L s z H x y v u Q I o n h;obtain@⟨a,b,p,l,i,q⟩:=h;cases o;cases n;obtain⟨r,g,d,_⟩:=I.tuple l;obtain⟨w,c,Y,_⟩:=I.tuple i;have U:=c.length;obtain rfl:w=[]:=uD.mp U.symm;have e:(!((List.range<|min r.toArray.size ([]:lQ lT).toArray.size).all (λj=>true) && r.toArray.size ==([]:lQ lT).toArray.size))=(p.isEmpty !=true):=by
  have J:=g.length;cases p<;>cases r<;>simp_all
 refine SeqAt.RcNeAt.tuples (show s.heap.IsTuple a r.toArray from d) (show s.heap.IsTuple b ([]:lQ lT).toArray from Y) (by lia) (e:=λ_=>true) (λj G N=>absurd N<|by simp) _ _ _ _ #[.bl _,H,I,rfl,?_];rw[e];show q
def qH{X:Cx}{K:lW}{a b:ma}{z y:TE}{pos:Pos}(x:X.K=K)(w:PE X a z)(u:PE X b y)(s:EQ b:=by show λ_ _=>rfl):PE X (.Subscript a b pos) (qQ (zf K) z y):=by subst x;show KN Mx w u s
def mQ{n:Nat}(h:n<=1000:=by simp):n<=sizeLine:=sz h
end L2
namespace L2
def pz{z:Sort u}{p R:z->Prop}{w:z}(h:p w)(k:R w):∃x,p x/\R x:=#[w,h,k]
def vR{z:Sort u}{y:Sort v}{p R:z->y->Prop}{q:z->y->Prop}{w:z}{s:y}(h:p w s)(g:q w s)(k:R w s):∃x r,p x r/\q x r/\R x r:=#[w,s,h,g,k]
end L2
def nK:=@L2.Paired.mapP
def qj:=@L2.PW.pt
def mO:=@L2.SqL.of
def mW:=@L2.SqT.of
def qB:=@L2.Xk.k
def sQ:=@L2.Zcp.k
def qc:=@L2.mC.refl
def oW:=@L2.We.set
def pN:=@L2.WS.of
def sU:=@L2.WE.of
def mM:=@L2.WSs.step
def mP:=@L2.WSs.last
def pL:=@L2.WSs.cut
def vj:=@L2.Im.tup
def tS:=@L2.Im.lst
def pj:=@L2.Paired.get
def pM:=@L2.Paired.append
def pb:=@L2.mC.new
def yr:=@L2.mC.thaw
namespace K65
open PySem L2 NM
def nq(i:Nat):lX:=PySem.Challenge.pw_yardkeep_k64_given_back.main.body.getD i<|.Pass #[0,0,0,0]
abbrev TJ:lX:=Z5 (nq 7) 0
abbrev Zkr:lX:=Z5 (nq 8) 0
abbrev Sr:lX:=Z5 (nq 9) 0
abbrev ZG:lX:=nq 16
abbrev SK:lX:=Z5 (nq 17) 0
abbrev Zs8:lX:=Z5 (nq 17) 1
abbrev Zsy:lX:=Z5 (nq 17) 2
abbrev Zq6:lX:=Z5 (nq 17) 3
abbrev Wn:lX:=Z5 (nq 17) 4
def Hn:Zw ["self","end","lie","one","two"] ["self","end","lie"] (Zj Wn):={}
abbrev Zqi:lX:=Z5 (nq 17) 5
abbrev Tq:lX:=Z5 (nq 19) 0
abbrev Sj:lX:=Z5 (nq 19) 1
abbrev YC:lX:=Z5 (nq 21) 0
abbrev XX:lX:=Z5 (nq 21) 1
abbrev Zly:lX:=Z5 (nq 21) 2
abbrev Uo:lX:=Z5 (nq 21) 3
abbrev Zq9:lX:=Z5 (nq 22) 0
abbrev Vk:lX:=Z5 (nq 22) 1
abbrev Zns:lX:=Z5 (nq 22) 2
abbrev So:lX:=nq 26
abbrev XJ:lX:=nq 27
abbrev Rx:lX:=nq 28
def OV:wf ["name","known"] Rx:={}
abbrev Qm:lX:=nq 29
def Hk:Zw ["parts","part_of","part"] ["parts"] (Zj Qm):={}
abbrev KO:lX:=nq 30
def Wi:Zw ["part_of","part_at","name","part","end"] ["part_of"] (Zj KO):={}
abbrev Jq:lX:=nq 31
def Rw:Zw ["join","part_at","joined","end"] ["join","part_at","joined"] (Zj Jq):={}
abbrev QY:lX:=nq 32
def Ix:Zw ["joins","part_at","joined","join"] ["joins","part_at"] (Zj QY):={}
abbrev TB:lX:=nq 33
abbrev Ni:lX:=nq 34
def zV:Zw ["signals","part_at","post_of","signal","name","end"] ["signals","part_at"] (Zj Ni):={}
abbrev Y5:lX:=Z5 (nq 35) 0
def Eo:Zw ["self","parts","joins","signals","asked_signals","part_at"] ["self","parts","joins","signals"] (Zj Y5):={}
abbrev Us:lX:=Z5 (nq 35) 1
abbrev Zmo:lX:=Z5 (nq 35) 2
abbrev Zj4:lX:=Z5 (nq 35) 3
abbrev RN:lX:=Z5 (nq 35) 4
abbrev UW:lX:=Z5 (nq 35) 5
abbrev Tg:lX:=Z5 (nq 35) 6
abbrev Vv:lX:=nq 36
abbrev ZN:lX:=nq 37
abbrev Zj9:lX:=nq 38
abbrev MM:lX:=nq 41
def MJ:wf ["tracks","gate"] MM:={}
abbrev JT:lX:=nq 42
def MK:wf ["long"] JT:={}
abbrev Zkl:lX:=nq 43
abbrev Zhj:lX:=Z5 (nq 46) 0
abbrev Mt:lX:=nq 49
def AN:Zw ["tracks","end","name","entry","part","steps"] ["tracks","end"] (Zj Mt):={}
abbrev Zp6:lX:=nq 50
abbrev Th:lX:=nq 51
abbrev Zuv:lX:=nq 53
abbrev Rr:lX:=nq 54
def EZ:Zw ["paths","part","train","path"] ["paths","part"] (Zj Rr):={}
abbrev Rb:lX:=nq 55
def Hm:Zw ["paths","steps","ahead","part"] ["paths","steps"] (Zj Rb):={}
abbrev BL:lX:=nq 56
def Ru:Zw ["paths","train","steps","told"] ["paths","train","steps"] (Zj BL):={}
abbrev Nz:lX:=nq 57
def LA:Zw ["path","length","seen","taken"] ["path","length","seen"] (Zj Nz):={}
abbrev Ke:lX:=nq 58
def Dz:Zw ["paths","lengths","seen","told","train","path"] ["paths","lengths","seen"] (Zj Ke):={}
abbrev Qe:lX:=nq 61
def DX:Zw ["tracks","begun","post","last","passed"] ["tracks","begun"] (Zj Qe):={}
abbrev NA:lX:=nq 62
def Wy:Zw ["tracks","signal","found","begun","ahead","step"] ["tracks","signal"] (Zj NA):={}
abbrev LK:lX:=nq 63
def Jo:Zw ["tracks","thing","place"] ["tracks","thing"] (Zj LK):={}
abbrev ZV:lX:=nq 64
abbrev X3:lX:=nq 66
def Ux:wf ["part"] X3:={}
abbrev Xr:lX:=nq 67
def Uh:wf ["part"] Xr:={}
abbrev Yy:lX:=nq 68
def Zn4:wf ["part"] Yy:={}
abbrev X1:lX:=nq 69
def JK:Zw ["part","lie","stiff"] ["part","lie"] (Zj X1):={}
abbrev Kg:lX:=nq 70
def Fo:Zw ["route","rules","step"] ["route"] (Zj Kg):={}
abbrev JV:lX:=nq 71
def Gy:Zw ["rules","ground","rule","told"] ["rules","ground"] (Zj JV):={}
abbrev Ky:lX:=nq 73
def Nj:Zw ["lies","route","told"] ["lies","route"] (Zj Ky):={}
abbrev MS:lX:=nq 75
def Ie:wf ["told"] MS:={}
abbrev Mf:lX:=nq 76
def Dd:Zw ["ahead","behind","parts","train","path"] ["ahead","behind"] (Zj Mf):={}
abbrev WI:lX:=Z5 (nq 77) 0
abbrev RC:lX:=Z5 (nq 77) 1
abbrev SR:lX:=Z5 (nq 77) 2
abbrev IQ:lX:=Z5 (nq 77) 3
def Md:wf ["self","train","length","gate","seen"] IQ:={}
abbrev IG:lX:=Z5 (nq 77) 4
def Lx:Zw ["self","train","route","seen","path"] ["self","train","route","seen"] (Zj IG):={}
abbrev VN:lX:=Z5 (nq 77) 6
abbrev NL:lX:=Z5 (nq 77) 8
def Qi:Zw ["self","seen","ahead"] ["self","seen"] (Zj NL):={}
abbrev VY:lX:=Z5 (nq 77) 12
abbrev Zl0:lX:=Z5 (nq 77) 13
abbrev RI:lX:=Z5 (nq 77) 14
abbrev Ve:lX:=Z5 (nq 77) 15
abbrev Zkm:lX:=Z5 (nq 77) 16
abbrev Si:lX:=Z5 (nq 77) 17
abbrev Ph:lX:=nq 79
def MP:Zw ["_law_cell","_law_k","_law_left"] ["_law_cell","_law_k"] (Zj Ph):={}
abbrev YF:lX:=nq 80
abbrev WC:lX:=nq 81
abbrev TR:lX:=nq 82
abbrev Qf:lX:=nq 83
def Ed:Zw ["_law_kind","_law_cell","_law_k","_law_letters","_law_signs"] ["_law_kind","_law_cell","_law_k"] (Zj Qf):={}
abbrev Rc:lX:=nq 84
def Z2:Zw ["_law_cell","_law_names","_law_one","_law_two","_law_three","_law_four","_law_way","_law_ends_here","_law_far","_law_joins","_law_parts","_law_turn","_law_aside","_law_rest"] ["_law_cell","_law_names"] (Zj Rc):={}
abbrev Ql:lX:=nq 85
def Yz:Zw ["_law_cells_here","_law_parts","_law_joins","_law_end","_law_k","_law_cell","_law_names","_law_j","_law_block_here"] ["_law_cells_here"] (Zj Ql):={}
abbrev MX:lX:=nq 86
def Bx:Zw ["_law_parts","_law_joins","_law_rest","_law_cell","_law_j","_law_end","_law_name"] ["_law_parts","_law_joins","_law_rest","_law_cell"] (Zj MX):={}
abbrev Pp:lX:=nq 87
def Yj:Zw ["_law_cells_here","_law_parts","_law_joins","_law_rest","_law_k","_law_cell","_law_kind","_law_ends_here","_law_name","_law_fresh","_law_near","_law_other"] ["_law_cells_here"] (Zj Pp):={}
abbrev Ms:lX:=nq 88
def Yc:Zw ["_law_parts","_law_cell","_law_letters","_law_ends_here","_law_kind","_law_name","_law_end","_law_found","_law_k","_law_draw","_law_signs"] ["_law_parts","_law_cell"] (Zj Ms):={}
abbrev Jh:lX:=nq 89
def Xl:Zw ["_law_cells_here","_law_cell","_law_found","_law_parts","_law_joins","_law_at"] ["_law_cells_here","_law_cell"] (Zj Jh):={}
abbrev XN:lX:=nq 90
abbrev SN:lX:=nq 91
abbrev KP:lX:=nq 92
def Xu:Zw ["_law_doing","e","_law_kinds","_law_words","_law_word"] ["_law_doing"] (Zj KP):={}
abbrev JQ:lX:=nq 94
def Yk:Zw ["_law_yard","_law_cells_here","_law_tracks_here","_law_gates","_law_kind","_law_one","_law_points","_law_k","_law_came","_law_turn","_law_cell","_law_gate","_law_keeper","_law_name"] ["_law_yard","_law_cells_here"] (Zj JQ):={}
abbrev Ln:lX:=nq 95
def yE:Zw ["_law_keeper","_law_tracks_here","_law_name","_law_cell","_law_seen","_law_step","_law_signal","_law_ways","_law_way"] ["_law_keeper","_law_tracks_here","_law_name","_law_cell","_law_seen"] (Zj Ln):={}
abbrev PC:lX:=nq 96
def W8:Zw ["_law_keeper","_law_tails","_law_found","_law_name","_law_path","_law_step"] ["_law_keeper","_law_tails"] (Zj PC):={}
abbrev Ll:lX:=nq 97
def Hl:Zw ["_law_parts","_law_stood_here","_law_wrong","_law_seen","_law_one"] ["_law_parts","_law_stood_here","_law_wrong"] (Zj Ll):={}
abbrev LR:lX:=nq 98
def Y6:Zw ["_law_keeper","_law_tails","_law_seen","_law_right","_law_held","_law_ahead","_law_name","_law_rest","_law_found","_law_due","_law_many","_law_whole"] ["_law_keeper","_law_tails","_law_seen","_law_right","_law_held"] (Zj LR):={}
abbrev vK:lX:=nq 99
def Wd:Zw ["_law_script","_law_yard","_law_k","_law_keeper","_law_name","_law_parts","_law_tails","_law_held","_law_cell","_law_j","_law_room","_law_on","_law_wrong","_law_some","_law_seen","_law_one"] ["_law_script"] (Zj vK):={}
set_option genInjectivity false in
set_option genSizeOf false in
structure Tx(K:Frag)(mg:Str->Option Value) where
 aK:Dn K "__init__" "Held.__init__" TJ ["self","part"]
 bt:Dn K "__init__" "Seen.__init__" Zkr ["self","part"]
 bf:Dn K "__init__" "Stiff.__init__" Sr ["self","part"]
 gi:DG K mg "is_name" ZG ["thing"]
 ao:Dn K "__init__" "Part.__init__" SK ["self","name"]
 cx:Dn K "ends" "Part.ends" Zs8 ["self"]
 aL:Dn K "lies" "Part.lies" Zsy ["self"]
 bV:Dn K "pairs" "Part.pairs" Zq6 ["self","lie"]
 aO:yp K "leads" "Part.leads" Wn ["self","end","lie"] (.str "")
 aQ:Dn K "bears" "Part.bears" Zqi ["self"]
 cy:Dn K "ends" "Stop.ends" Tq ["self"]
 bW:Dn K "pairs" "Stop.pairs" Sj ["self","lie"]
 cI:Dn K "ends" "Points.ends" YC ["self"]
 cJ:Dn K "lies" "Points.lies" XX ["self"]
 cA:Dn K "pairs" "Points.pairs" Zly ["self","lie"]
 cD:Dn K "bears" "Points.bears" Uo ["self"]
 cP:Dn K "ends" "Cross.ends" Zq9 ["self"]
 cK:Dn K "pairs" "Cross.pairs" Vk ["self","lie"]
 cL:Dn K "bears" "Cross.bears" Zns ["self"]
 gj:DG K mg "is_pair" So ["thing"]
 fm:DG K mg "is_known" XJ ["end","ends"]
 aF:DG K mg "refuse_name" Rx ["name","known"]
 cZ:DG K mg "parts_by_name" Qm ["parts"]
 de:DG K mg "ends_to_parts" KO ["part_of"]
 dJ:DG K mg "refuse_join" Jq ["join","part_at","joined"]
 dL:DG K mg "joined_ends" QY ["joins","part_at"]
 dM:DG K mg "refuse_post" TB ["end","part_at","ends_with_signals"]
 ft:DG K mg "posts_of" Ni ["signals","part_at"]
 bH:yp K "__init__" "Tracks.__init__" Y5 ["self","parts","joins","signals"] .non
 bN:Dn K "names" "Tracks.names" Us ["self"]
 bg:Dn K "named" "Tracks.named" Zmo ["self","name"]
 aY:Dn K "beyond" "Tracks.beyond" Zj4 ["self","end"]
 aw:Dn K "signal_at" "Tracks.signal_at" RN ["self","end"]
 bX:Dn K "signals" "Tracks.signals" UW ["self"]
 bu:Dn K "end_of" "Tracks.end_of" Tg ["self","signal"]
 fw:DG K mg "gates_of" Vv ["tracks"]
 eQ:DG K mg "points_of" ZN ["tracks"]
 df:DG K mg "lies_at_first" Zj9 ["tracks"]
 aG:DG K mg "refuse_gate" MM ["tracks","gate"]
 ay:DG K mg "refuse_length" JT ["long"]
 di:DG K mg "refuse_points" Zkl ["tracks","points"]
 bI:Dn K "__init__" "Ground.__init__" Zhj ["self","lie_of","stiff_ones","path_of","told"]
 ee:DG K mg "steps_into" Mt ["tracks","end"]
 ef:DG K mg "end_behind" Zp6 ["step"]
 ei:DG K mg "ends_there" Th ["tracks","step"]
 fz:DG K mg "parts_of" Zuv ["steps"]
 gT:DG K mg "holder" Rr ["paths","part"]
 bF:DG K mg "refuse_held" Rb ["paths","steps"]
 ci:DG K mg "longer" BL ["paths","train","steps"]
 ej:DG K mg "given_back" Nz ["path","length","seen"]
 eR:DG K mg "shortened" Ke ["paths","lengths","seen"]
 fA:DG K mg "steps_on" Qe ["tracks","begun"]
 dN:DG K mg "routes_from" NA ["tracks","signal"]
 fE:DG K mg "is_route" LK ["tracks","thing"]
 gk:DG K mg "lies_of" ZV ["route"]
 dv:DG K mg "rule_held" X3 ["part"]
 cV:DG K mg "rule_taken" Xr ["part"]
 cW:DG K mg "rule_stiff" Yy ["part"]
 dw:DG K mg "rule_lies" X1 ["part","lie"]
 fF:DG K mg "rules_of" Kg ["route"]
 gm:DG K mg "against" JV ["rules","ground"]
 iz:DG K mg "laid" Ky ["lies","route"]
 ag:DG K mg "refuse_against" MS ["told"]
 gn:DG K mg "dropped" Mf ["ahead","behind"]
 bJ:Dn K "__init__" "Keeper.__init__" WI ["self","tracks"]
 az:Dn K "refuse_no_train" "Keeper.refuse_no_train" RC ["self","train"]
 aZ:Dn K "ground" "Keeper.ground" SR ["self","seen"]
 aB:Dn K "come" "Keeper.come" IQ ["self","train","length","gate","seen"]
 bh:Dn K "set_way" "Keeper.set_way" IG ["self","train","route","seen"]
 bY:Dn K "stiffen" "Keeper.stiffen" VN ["self","points"]
 cj:Dn K "look" "Keeper.look" NL ["self","seen"]
 aD:Dn K "path" "Keeper.path" VY ["self","train"]
 cE:Dn K "paths" "Keeper.paths" Zl0 ["self"]
 ck:Dn K "lies" "Keeper.lies" RI ["self"]
 bO:Dn K "stiff" "Keeper.stiff" Ve ["self"]
 aT:Dn K "length" "Keeper.length" Zkm ["self","train"]
 aq:Dn K "trains" "Keeper.trains" Si ["self"]
 aj:DG K mg "_law_mixed" Ph ["_law_cell","_law_k"]
 ar:DG K mg "_law_cell_at" YF ["_law_script","_law_k"]
 ek:DG K mg "_law_cells" WC ["_law_script","_law_at","_law_end"]
 eU:DG K mg "_law_ends" TR ["_law_kind"]
 dz:DG K mg "_law_name_by" Qf ["_law_kind","_law_cell","_law_k"]
 em:DG K mg "_law_block" Rc ["_law_cell","_law_names"]
 eV:DG K mg "_law_line" Ql ["_law_cells_here"]
 dO:DG K mg "_law_closed" MX ["_law_parts","_law_joins","_law_rest","_law_cell"]
 er:DG K mg "_law_drawn" Pp ["_law_cells_here"]
 cT:DG K mg "_law_signals_by" Ms ["_law_parts","_law_cell"]
 dA:DG K mg "_law_yard_by" Jh ["_law_cells_here","_law_cell"]
 eW:DG K mg "_law_part" XN ["_law_kind","_law_name"]
 dP:DG K mg "_law_tracks" SN ["_law_yard"]
 aU:DG K mg "_law_caught" KP ["_law_doing"]
 cY:DG K mg "_law_begun" JQ ["_law_yard","_law_cells_here"]
 dZ:DG K mg "_law_led" Ln ["_law_keeper","_law_tracks_here","_law_name","_law_cell","_law_seen"]
 eu:DG K mg "_law_stood" PC ["_law_keeper","_law_tails"]
 eZ:DG K mg "_law_told" Ll ["_law_parts","_law_stood_here","_law_wrong"]
 dQ:DG K mg "_law_looked" LR ["_law_keeper","_law_tails","_law_seen","_law_right","_law_held"]
 {cQ:Addr}
 jW:mg "Part"=some (.ref cQ)
 gy:pP K cQ
 ic:mV K cQ "name"
 jT:Mk K cQ ao.f
 gU:Xb K cQ "ends" cx.f
 gV:Xb K cQ "lies" aL.f
 gz:Xb K cQ "pairs" bV.f
 gA:Xb K cQ "bears" aQ.f
 gB:Xb K cQ "leads" aO.f
 {bP:Addr}
 jf:mg "Plain"=some (.ref bP)
 ez:pP K bP
 ff:mV K bP "name"
 iM:Mk K bP ao.f
 gC:Xb K bP "ends" cx.f
 gD:Xb K bP "lies" aL.f
 fW:Xb K bP "pairs" bV.f
 fX:Xb K bP "bears" aQ.f
 fY:Xb K bP "leads" aO.f
 {bv:Addr}
 ja:mg "Stop"=some (.ref bv)
 fG:pP K bv
 fH:mV K bv "name"
 jg:Mk K bv ao.f
 gW:Xb K bv "ends" cy.f
 gX:Xb K bv "lies" aL.f
 gE:Xb K bv "pairs" bW.f
 gF:Xb K bv "bears" aQ.f
 gG:Xb K bv "leads" aO.f
 {bw:Addr}
 jb:mg "Gate"=some (.ref bw)
 fJ:pP K bw
 fK:mV K bw "name"
 jh:Mk K bw ao.f
 gY:Xb K bw "ends" cy.f
 gZ:Xb K bw "lies" aL.f
 gH:Xb K bw "pairs" bW.f
 gI:Xb K bw "bears" aQ.f
 gJ:Xb K bw "leads" aO.f
 {aE:Addr}
 iq:mg "Points"=some (.ref aE)
 dB:pP K aE
 eF:mV K aE "name"
 iA:Mk K aE ao.f
 fZ:Xb K aE "ends" cI.f
 gc:Xb K aE "lies" cJ.f
 fL:Xb K aE "pairs" cA.f
 fM:Xb K aE "bears" cD.f
 fN:Xb K aE "leads" aO.f
 {bQ:Addr}
 ji:mg "Cross"=some (.ref bQ)
 eG:pP K bQ
 fg:mV K bQ "name"
 iN:Mk K bQ ao.f
 gK:Xb K bQ "ends" cP.f
 gL:Xb K bQ "lies" aL.f
 ge:Xb K bQ "pairs" cK.f
 gf:Xb K bQ "bears" cL.f
 gh:Xb K bQ "leads" aO.f
 {aR:Addr}
 iO:mg "Tracks"=some (.ref aR)
 ak:pP K aR
 bx:mV K aR "part_of"
 cF:mV K aR "joined"
 bz:mV K aR "post_of"
 bK:mV K aR "signal_on"
 iC:Mk K aR bH.f
 dC:Xb K aR "names" bN.f
 cR:Xb K aR "named" bg.f
 cN:Xb K aR "beyond" aY.f
 aW:Xb K aR "signal_at" aw.f
 eM:Xb K aR "signals" bX.f
 dm:Xb K aR "end_of" bu.f
 {cM:Addr}
 iP:mg "Ground"=some (.ref cM)
 dD:pP K cM
 dE:mV K cM "lie_of"
 cS:mV K cM "stiff_ones"
 dq:mV K cM "path_of"
 eI:mV K cM "told"
 iD:Mk K cM bI.f
 {aH:Addr}
 iQ:mg "Keeper"=some (.ref aH)
 ae:pP K aH
 aI:mV K aH "tracks"
 bR:mV K aH "lie_of"
 bn:mV K aH "stiff_ones"
 bM:mV K aH "length_of"
 am:mV K aH "path_of"
 iE:Mk K aH bJ.f
 cp:Xb K aH "refuse_no_train" az.f
 cO:Xb K aH "ground" aZ.f
 dR:Xb K aH "come" aB.f
 eN:Xb K aH "set_way" bh.f
 eO:Xb K aH "stiffen" bY.f
 dS:Xb K aH "look" cj.f
 aV:Xb K aH "path" aD.f
 fO:Xb K aH "paths" cE.f
 dU:Xb K aH "lies" ck.f
 dF:Xb K aH "stiff" bO.f
 cq:Xb K aH "length" aT.f
 aM:Xb K aH "trains" aq.f
 {ap:Addr}
 ig:mg "YardError"=some (.ref ap)
 {au:Addr}
 iF:mg "BadName"=some (.ref au)
 {bo:Addr}
 iR:mg "BadEnd"=some (.ref bo)
 {bi:Addr}
 iG:mg "TooMany"=some (.ref bi)
 {ax:Addr}
 iH:mg "NoTrain"=some (.ref ax)
 {aJ:Addr}
 iS:mg "BadWay"=some (.ref aJ)
 {cG:Addr}
 iT:mg "NoTurn"=some (.ref cG)
 {aS:Addr}
 hU:mg "Held"=some (.ref aS)
 {bd:Addr}
 jc:mg "Seen"=some (.ref bd)
 {aN:Addr}
 iI:mg "Stiff"=some (.ref aN)
 aX:mg "len"=none
 dI:mg "range"=none
 af:mg "isinstance"=none
 fP:mg "list"=none
 eP:mg "dict"=none
 ir:mg "tuple"=none
 fh:mg "str"=none
 bS:mg "enumerate"=none
 jd:mg "max"=none
 je:mg "min"=none
 jF:mg "sum"=none
 cH:mg "sorted"=none
 jG:mg "all"=none
 fQ:mg "bool"=none
 fi:mg "int"=none
 iJ:mg "repr"=none
 gM:mg "ValueError"=none
 jj:mg "reversed"=none
 jX:kitOne K (.type "tuple") (.type "tuple")=some true
 jU:kitOne K (.type "str") (.type "str")=some true
 lN:kitOne K (.type "NoneType") (.type "str")=some false
 jY:kitOne K (.type "int") (.type "int")=some true
 jZ:kitOne K (.type "int") (.type "bool")=some false
 ke:kitOne K (.type "bool") (.type "int")=some true
 kf:kitOne K (.type "bool") (.type "bool")=some true
 kg:kitOne K (.type "NoneType") (.type "int")=some false
 kh:kitOne K (.type "str") (.type "int")=some false
 lO:kitOne K (.type "int") (.type "str")=some false
 jH:kB K cQ bv false
 jk:kB K bP bv false
 jI:kB K bv bv true
 jJ:kB K bw bv true
 iU:kB K aE bv false
 jp:kB K bQ bv false
 jK:kB K cQ bw false
 jq:kB K bP bw false
 jL:kB K bv bw false
 jM:kB K bw bw true
 iV:kB K aE bw false
 jt:kB K bQ bw false
 jN:kB K cQ aE false
 ju:kB K bP aE false
 jO:kB K bv aE false
 jP:kB K bw aE false
 iW:kB K aE aE true
 jv:kB K bQ aE false
 ki:kB K au au true
 kl:kB K au bo false
 kn:kB K au bi false
 kq:kB K au ax false
 kr:kB K au aJ false
 kt:kB K au cG false
 ku:kB K au aS false
 ky:kB K au bd false
 kz:kB K au aN false
 jw:kB K ax au false
 iX:kB K ax bo false
 jx:kB K ax bi false
 iu:kB K ax ax true
 gq:kB K ax aJ false
 jV:kB K ax cG false
 iY:kB K ax aS false
 jC:kB K ax bd false
 kE:kB K ax aN false
 kG:kB K aJ au false
 kH:kB K aJ bo false
 kI:kB K aJ bi false
 kJ:kB K aJ ax false
 kK:kB K aJ aJ true
 kL:kB K aJ cG false
 kM:kB K aJ aS false
 kN:kB K aJ bd false
 kO:kB K aJ aN false
 kP:kB K bd au false
 kQ:kB K bd bo false
 kR:kB K bd bi false
 kS:kB K bd ax false
 kT:kB K bd aJ false
 kU:kB K bd cG false
 kW:kB K bd aS false
 kX:kB K bd bd true
 kY:kB K bd aN false
 kZ:kB K aS au false
 lh:kB K aS bo false
 li:kB K aS bi false
 lq:kB K aS ax false
 lu:kB K aS aJ false
 lv:kB K aS cG false
 ly:kB K aS aS true
 lz:kB K aS bd false
 lB:kB K aS aN false
 lC:kB K aN au false
 lD:kB K aN bo false
 lE:kB K aN bi false
 lF:kB K aN ax false
 lG:kB K aN aJ false
 lH:kB K aN cG false
 lI:kB K aN aS false
 lJ:kB K aN bd false
 lK:kB K aN aN true
 c0:PySem.W.kitCls K (.ref au) (.ref ap)=some true
 c1:PySem.W.kitCls K (.ref ax) (.ref ap)=some true
 c2:PySem.W.kitCls K (.ref aJ) (.ref ap)=some true
 c3:PySem.W.kitCls K (.ref bd) (.ref ap)=some true
 c4:PySem.W.kitCls K (.ref aS) (.ref ap)=some true
 c5:PySem.W.kitCls K (.ref aN) (.ref ap)=some true
 v0:kitOne K (.ref au) (.type "ValueError")=some true
 v1:kitOne K (.ref ax) (.type "ValueError")=some true
 v2:kitOne K (.ref aJ) (.type "ValueError")=some true
 v3:kitOne K (.ref bd) (.type "ValueError")=some true
 v4:kitOne K (.ref aS) (.type "ValueError")=some true
 v5:kitOne K (.ref aN) (.type "ValueError")=some true
 lM:kitOne K (.ref ap) (.type "BaseException")=some true
 cz:OE K mg "YardError" ap
 gw:OE K mg "BadName" au
 hW:OE K mg "BadEnd" bo
 cU:OE K mg "TooMany" bi
 jD:OE K mg "NoTrain" ax
 hZ:OE K mg "BadWay" aJ
 jQ:OE K mg "NoTurn" cG
 dG:XI K aS ap aK.f "part"
 jy:XG K aS
 fR:XI K bd ap bt.f "part"
 jz:XG K bd
 eJ:XI K aN ap bf.f "part"
 iZ:XG K aN
 gx:∃tk,mg "LETTERS"=some (.str "abcdefghijklmnopqrstuvwxyz" tk)
 iw:∃tk,mg "FIGURES"=some (.str "0123456789" tk)
 ix:XG K au
 jR:XG K bo
 jE:XG K bi
 iy:XG K ax
 iK:XG K aJ
 jS:XG K cG
 fS:∃tk,mg "LONGEST_NAME"=some (.int 6 tk)
 gN:∃tk,mg "MOST_PARTS"=some (.int 40 tk)
 fT:∃tk,mg "MOST_SIGNALS"=some (.int 40 tk)
 bA:∃tk,mg "LONGEST_TRAIN"=some (.int 4 tk)
 gO:∃tk,mg "MOST_STEPS"=some (.int 12 tk)
 {dH:Addr}
 ib:mg "NO_END"=some (.ref dH)
 iL:∀H:Hp,SqT K H dH ([.str "",.str ""]:List V)
 tG:PySem.W.specialIn K (.builtin "object.__class__") "__get__"=some (some<|.builtin "getset_descriptor.__get__")
 tK:PySem.W.takesIn K (.builtin "object.__class__")=some true
 ii:cB K cQ
 ij:PySem.W.mroIn K cQ (.type "object")=some true
 gP:cB K bP
 gQ:PySem.W.mroIn K bP (.type "object")=some true
 ik:cB K bv
 il:PySem.W.mroIn K bv (.type "object")=some true
 io:cB K bw
 ip:PySem.W.mroIn K bw (.type "object")=some true
 fU:cB K aE
 fV:PySem.W.mroIn K aE (.type "object")=some true
 gR:cB K bQ
 gS:PySem.W.mroIn K bQ (.type "object")=some true
 lP:(Value.ref aS ==Value.ref ap)=false
 {bT:Addr}
 eK:vn K dv.fd bT
 {bq:Addr}
 dW:vn K cV.fd bq
 {ba:Addr}
 dX:vn K cW.fd ba
 {bU:Addr}
 eL:vn K dw.fd bU
 {br:Addr}
 dY:vn K cY.fd br
 {cw:Addr}
 fk:vn K dZ.fd cw
section
variable {P:md} {w:lZ} {K:lW} {mg:lR->lV lT} {mD:lY} (T:Tx K mg)
seal PySem.wpAny
structure rj(T:Tx K mg)(H:Hp):Prop where
 rule_held:H T.bT=some (.tbl<|sI (tI<|pc X3)<|~~~"rule_held")
 rule_taken:H T.bq=some (.tbl<|sI (tI<|pc Xr)<|~~~"rule_taken")
 rule_stiff:H T.ba=some (.tbl<|sI (tI<|pc Yy)<|~~~"rule_stiff")
 rule_lies:H T.bU=some (.tbl<|sI (tI<|pc X1)<|~~~"rule_lies")
 _law_begun:H T.br=some (.tbl<|Wk [(575,36,~~~"_law_begun")])
 _law_led:H T.cw=some (.tbl<|Wk [(588,34,~~~"_law_led")])
def rj.mono{T:Tx K mg}{H H':Hp}(e:mC H H')(h:rj T H):rj T H':=#[e _ _ h.rule_held,e _ _ h.rule_taken,e _ _ h.rule_stiff,e _ _ h.rule_lies,e _ _ h._law_begun,e _ _ h._law_led]
abbrev Tx.tabs(T:Tx K mg):lQ (lS×Array lT):=[(T.bT,(sI (tI<|pc X3)<|~~~"rule_held")),(T.bq,(sI (tI<|pc Xr)<|~~~"rule_taken")),(T.ba,(sI (tI<|pc Yy)<|~~~"rule_stiff")),(T.bU,(sI (tI<|pc X1)<|~~~"rule_lies")),(T.br,(Wk [(575,36,~~~"_law_begun")])),(T.cw,(Wk [(588,34,~~~"_law_led")]))]
def rj.of{T:Tx K mg}{H:Hp}(h:∀p∈T.tabs,H p.1=some (.tbl p.2)):rj T H:=#[h (T.bT,(sI (tI<|pc X3)<|~~~"rule_held")) (by simp),h (T.bq,(sI (tI<|pc Xr)<|~~~"rule_taken")) (by simp),h (T.ba,(sI (tI<|pc Yy)<|~~~"rule_stiff")) (by simp),h (T.bU,(sI (tI<|pc X1)<|~~~"rule_lies")) (by simp),h (T.br,(Wk [(575,36,~~~"_law_begun")])) (by simp),h (T.cw,(Wk [(588,34,~~~"_law_led")]))<|by simp]
open YM
inductive Fv:Sp
 | mk (c k):vs=[.int c,.int k]->Q (.int<|sV c k) H->Fv  vs H Q E
inductive FT(K:lW):Sp
 | mk (a) (ns:lQ Int) (k:Nat):vs=[.ref a,.int k]->SqL K H a (ns.map V.int)->Q (.int<|Al ns k) H->FT K vs H Q E
def YK:T.aj.O P w mg mD 1 Fv:=by
 refine T.aj.F.okW MP ?_;rfl'
 ·obtain⟨c,k,rfl,q⟩:=h;intro X D;refine mM (mY 2 MP<|Zp Yl (Zp xS (Zp Wm (pv 0)<|Zp xS Zf<|pv 1) Zf) Zf) ?_;refine#[.inl #[by lk,by lk],.inl #[.inr #[by lk,by lk],(by change(0:Int)<2147483647;decide),?_]];refine mP (Zl<|Zp Yl (Zp xS (pv 2)<|Zp Wm (Zp Wm (pv 2)<|Zp xS Zf<|pv 1) Zf) Zf) ?_;refine#[.inl #[by lk,by lk],.inl<|.inl #[.inl ?_,(by change(0:Int)<2147483629;decide),q]];have z:=pY ((c+7919 * k) * 48271) (show(2147483647:Int)≠0 by lk);have y:=qg ((c+7919 * k) * 48271) (show(0:Int)<2147483647 by lk)
  constructor<;>lia
def W0(h:1<=k:=by lk):T.aj.O P w mg mD k Fv:=(YK T).mono h
def Vh:T.ar.O P w mg mD 2 (FT K):=by
 refine T.ar.F.okA ?_;rfl'
 ·obtain⟨a,x,k,rfl,u,q⟩:=h;intro X D;refine mM (Zv (Yf xb (pv 1) (pp T.aX<|pv 0)<|Yn _) Zn Zk) ?_;refine(.inl #[.inl u,Yh (λy=>?_) λy=>?_])
  ·have y:=pq y;rw[mK]at y;have z:k<x.length:=by lia
   have e:x[k]? =some x[k]:=by simp[z]
   refine mP (Zl<|Xy (W0 T) hr rfl T.aj.m T.aj.F.kp T.aj.b .nil Z0<|Zb (ny (pv 0)<|pv 1)<|Zb (pv 1) Za)<|.inl #[u,Zq (by rw[nJ,e];rfl),x[k],k,rfl,?_];unfold Al at q;rw[e]at q;show q
  ·have y:¬((k:Int)<((x.map V.int).length:Int)):=λz=>y<|nS z
   rw[mK]at y;have e:x[k]? =none:=wb (by lia);unfold Al at q;rw[e]at q;show mP (Zl Zf) q
def FX(h:2<=k:=by lk):T.ar.O P w mg mD k (FT K):=(Vh T).mono h
inductive IZ:Sp
 | mk (k):vs=[.str k]->(∀p H',mC H H'->H p=none->H' p=some (.lst<|(Yr k).map V.str)->Q (.ref p) H')->IZ  vs H Q E
def Mz:T.eU.O P w mg mD 1 IZ:=by
 refine T.eU.F.okA ?_;rfl'
 ·obtain⟨k,rfl,q⟩:=h;intro X D;refine mM (Zv (oZ hr (pv 0) Zg) Zn Zk)<|.inl #[rfl,Yh (λz=>?_) λz=>?_]
  ·have z:k ="points":=by simpa using z
   subst z;show mP (Zl<|Zm<|Zb Zg<|Zb Zg<|Zb Zg Za) #[mQ,λp y x u r=>q p y x u r]
  have o:¬k ="points":=by simpa using z
  refine mM (Zv (oZ hr (pv 0) Zg) Zn Zk)<|.inl #[rfl,Yh (λz=>?_) λz=>?_]
  ·have z:k ="cross":=by simpa using z
   subst z;show mP (Zl<|Zm<|Zb Zg<|Zb Zg<|Zb Zg<|Zb Zg Za) #[mQ,λp y x u r=>q p y x u r]
  have n:¬k ="cross":=by simpa using z
  refine mM (Zv (oZ hr (pv 0) Zg) Zn Zk)<|.inl #[rfl,Yh (λz=>?_) λz=>?_]
  ·have z:k ="plain":=by simpa using z
   subst z;show mP (Zl<|Zm<|Zb Zg<|Zb Zg Za) #[mQ,λp y x u r=>q p y x u r]
  have l:¬k ="plain":=by simpa using z
  show mP (Zl<|Zm<|Zb Zg Za) #[mQ,λp y x u r=>q p y x u (by unfold Yr;rw[mT o,mT n,mT l];show r)]
def Bi(y:l.length=n)(x:0<=i)(u:i<n):oH l i=some (l.getD i.toNat 0):=by
 have e:i=((i.toNat:Nat):Int):=by lia
 have z:i.toNat<l.length:=by lia
 rw[e];refine Zq ?_;rw[qo,zC,oy z]
 rfl
def tE(c:Int):Int:=c%2028+2028 * (c / 2028%2)
def QB(c:Int):tE c%3=c%3:=by unfold tE;lia
def Ul(c:Int):tE c / 2028%3=c / 2028%2:=by unfold tE;lia
def nmA(c:Int):tE c / 3%26=c / 3%26:=by unfold tE;lia
def XD(c:Int):tE c / 78%26=c / 78%26:=by unfold tE;lia
inductive LO:Sp
 | mk (kind:lR) (c) (k:Nat):vs=[.str kind,.int c,.int k]->0<kind.length->kind.length<=100->0<=c->k<100->Q (.str<|Yt kind (tE c) k) H->LO  vs H Q E
def Jp:T.dz.O P w mg mD 1 LO:=by
 refine T.dz.F.okW Ed ?_;rfl'
 ·obtain⟨kind,c,k,rfl,u,o,e,r,q⟩:=h;intro X D;refine mM (mY 3 Ed Zg) ?_;have d:=CY k r;refine mM (Zv (oZ hr (Zp Yl (pv 1) Zf) Zf) Zn Zk) #[(by change(0:Int)<3;decide),.inl #[rfl,Yh (λz=>?_) λz=>?_]]
  ·have z:c%3=0:=by simpa using z
   unfold Yt at q;rw[mU ((QB c).trans z)]at q;refine mP (Zl<|Zp Wm (ny (pv 0) Zf)<|Y0 By (by rfl) T.fh wI<|Zb (pv 2) Za)<|.inr<|.inr #[kind,0,kind.cps.toList.getD 0 0,rfl,rfl,sz (by lia),?_,(k:Int),rfl,EO r,.inr<|.inl<|vR rfl rfl #[sz ?_,q]]
   ·have:(0:Int)<kind.cps.toList.length:=by rw[tV];show Int.ofNat_lt.mpr u
    show Bi (n:=kind.cps.toList.length) rfl (by lk) this
   ·change 1+(sF k).length<=1000;lia
  have z:¬c%3=0:=by simpa using z
  have l:=pY (c / 3) (show(26:Int)≠0 by lk);have j:=qg (c / 3) (show(0:Int)<26 by lk);have i:=pY (c / 78) (show(26:Int)≠0 by lk);have g:=qg (c / 78) (show(0:Int)<26 by lk);have a:=pY (c / 2028) (show(2:Int)≠0 by lk);have Y:=qg (c / 2028) (show(0:Int)<2 by lk);obtain⟨y,x⟩:∃y:Nat,c / 2028%2=(y:Int):=#[(c / 2028%2).toNat,by lia]
  unfold Yt at q;rw[QB,mT z,Ul,x,zC,nmA,XD]at q;refine mM (mY 4 Ed<|Zp Wm (ny (pv 3)<|Zp Yl (Zp Yq (pv 1) Zf) Zf)<|ny (pv 3)<|Zp Yl (Zp Yq (pv 1) Zf) Zf) #[#[by lk,by lk],(by change(0:Int)<26;decide),.inr<|.inr #[_,_,sJ<|c / 3%26,rfl,rfl,sz (by rw[BF];decide),(by rw[Cu];show Bi (n:=26) rfl l j),?_]];refine#[#[by lk,by lk],(by change(0:Int)<26;decide),.inr<|.inr #[_,_,sJ<|c / 78%26,rfl,rfl,sz (by rw[BF];decide),(by rw[Cu];show Bi (n:=26) rfl i g),.inr<|.inl #[_,_,rfl,rfl,sz (by change 1+1<=1000;decide),?_]]];have U:(rW "0" y).length<=2:=by
   have:y<3:=by lia
   have hd:∀m,m<3->(rW "0" m).length<=2:=by left
   show hd y this
  have p:(#[(List.toArray [sJ (c / 3%26)])]++#[(List.toArray [sJ (c / 78%26)])]:lR).length=2:=by rw[pU];rfl
  refine mP (Zl<|Zp Wm (Zp Wm (pv 4)<|Zp Pm Zg<|Zp Yl (Zp Yq (pv 1) Zf) Zf)<|Y0 By (by rfl) T.fh wI<|Zb (pv 2) Za) #[#[by lk,by lk],(by change(0:Int)<2;decide),"0",y,rfl,by rw[<-x],by change 1 * y<=1000;lia,by lia,.inr<|.inl<|vR rfl rfl #[sz (by rw[p];lia),(k:Int),rfl,EO r,.inr<|.inl<|vR rfl rfl #[sz ?_,q]]];change _+(sF k).length<=1000;rw[pU,p];lia
def Zt(H:Hp)(t:lS)(q:Zh):Prop:=H t=some (.tup [.str q.1,.str q.2])
def Wv(H:Hp)(t:lS)(j:Zh×Zh):Prop:=∃a b,H t=some (.tup [.ref a,.ref b])/\Zt H a j.1/\Zt H b j.2
def Zz(H:Hp)(l:lS)(ps:lQ Zh):Prop:=∃z:lQ lS,H l=some (.lst<|z.map V.ref)/\Paired (Zt H) z ps
def Yp(H:Hp)(l:lS)(y:lQ (Zh×Zh)):Prop:=∃z:lQ lS,H l=some (.lst<|z.map V.ref)/\Paired (Wv H) z y
def Zt.mono(e:mC H H')(h:Zt H t q):Zt H' t q:=e.at h
def Wv.mono(e:mC H H')(h:Wv H t j):Wv H' t j:=let⟨a,b,z,y,x⟩:=h;#[a,b,e.at z,y.mono e,x.mono e]
def Zz.mono(e:mC H H')(h:Zz H l ps):Zz H' l ps:=let⟨z,y,x⟩:=h;#[z,e.at y,nK x λ_ _ r=>r.mono e]
def Yp.mono(e:mC H H')(h:Yp H l z):Yp H' l z:=let⟨y,x,u⟩:=h;#[y,e.at x,nK u λ_ _ r=>r.mono e]
inductive OH:Sp
 | mk (c nl n1 n2 n3 n4):vs=[.int c,.ref nl]->H nl=some (.lst [.str n1,.str n2,.str n3,.str n4])->(∀(t:lS)(H':Hp)(pl jl ie oe:lS)(ps:lQ Zh)(js:lQ (Zh×Zh)) (e1 e2:Zh),mC H H'->H' t=some (.tup [.ref pl,.ref jl,.ref ie,.ref oe])->Zz H' pl ps->Yp H' jl js->Zt H' ie e1->Zt H' oe e2->qy n1 n2 n3 n4 ps js e1 e2->Q (.ref t) H')->OH  vs H Q E
def Ct :∃w,oH [u,v] (n%2)=some w/\((n%2=0/\w=u)\/(n%2=1/\w=v)):=by
 have z:=pY n (show(2:Int)≠0 by lk);have y:=qg n (show(0:Int)<2 by lk);generalize n%2=m at z y;have:m=0\/m=1:=by lia
 rcases this with rfl|rfl
 ·show#[u,rfl,.inl #[rfl,rfl]]
 ·show#[v,rfl,.inr #[rfl,rfl]]
def Yda{l D:lS}{xs:lQ lR}{x:lR}{s:Hp}{Q:VK}{z:St}(a:s l=some (.lst<|xs.map V.str))(U:xs.length<=100)(j:s D=none)(q:∀H',mC s H'->H' D=some (.lst<|(xs.filter λe=>decide<|e≠x).map V.str)->Q (.ref D) H'){fr:St->St}(Y:fr z=[none,some<|.str x]){h:TT}(n:h=xL (qQ (uo K) (rB 0)<|rB 1)) :
  qV (ub K l) fr (qI 0) h (rB 0) Q z s D:=by
 refine Y9 (xs:=xs.map V.str) (λi r H'=>r=((xs.take i).filter λe=>decide<|e≠x).map V.str/\H' D=some (.lst r)/\mC s H') #[rfl,Zc,pb j] ?_ ?_ ?_
 ·rintro i r H' _ ⟨_,_,p⟩;show mO<|p.at a
 ·rintro k v r H' g ⟨rfl,d,p⟩;rw[nJ]at g;obtain⟨y,c,rfl⟩:=nR.mp g;unfold W4;rw[Y,n];refine#[oW rfl,.inl #[rfl,Yh (λu=>?_) λu=>?_]]
  ·have u:y≠x:=by simpa using u
   refine#[d,?_,?_,Zc,λb o e=>?_]
   ·rw[mK];have:=vL (λe:lR=>decide<|e≠x)<|xs.take k;rw[oh]at this;show Zo (by lia)
   ·rw[og,c,tP,nj,show(some y).toList=[y]from rfl,se,mU<|nS u]
    rfl
   ·rw[Zd (Ze e j)];show p.at e
  ·have u:¬y≠x:=by simpa using u
   refine#[?_,d,p];rw[og,c,tP,show(some y).toList=[y]from rfl,se,mT (by simpa using u),vI,pH]
 ·rintro r u ⟨rfl,y,o⟩;rw[mK,oJ]at y;show q u o y
def VE:T.em.O P w mg mD 1 OH:=by
 refine T.em.F.okW Z2 ?_;rfl'
 ·obtain⟨c,x,n1,n2,n3,n4,rfl,hnl,q⟩:=h;intro X D;refine mM (MV (pv 1)<|Yfl rfl<|Zu (nZ 2 Z2)<|Zu (nZ 3 Z2)<|Zu (nZ 4 Z2)<|Zu (nZ 5 Z2) Xd) #[mO hnl,rfl,rfl,?_];refine mM (mY 6 Z2<|Zp Yl (pv 0) Zf) #[(by change(0:Int)<8;decide),?_];refine mM (Zv (Yf xb (pv 6) Zf<|Yn _) Zn Zk)<|Yh (λ_=>?_) λ_=>?_
  ·refine mM (mY 7 Z2<|ny (Zm<|Zb (Zm<|Zb Zg<|Zb Zg Za)<|Zb (Zm<|Zb Zg<|Zb Zg Za) Za)<|Zp Yl (Zp Yq (pv 0) Zf) Zf) #[mQ,λla H1 G _ e1=>#[mQ,λlb H2 g _ e2=>#[mQ,λll H3 j _ e3=>#[#[by lk,by lk],(by change(0:Int)<2;decide),?_]]]];obtain⟨l7,a,b,D3,h7,T6⟩:∃l7 a b,oH [V.ref la,.ref lb] (c / 8%2)=some (.ref l7)/\H3 l7=some (.lst [.str a,.str b])/\(a,b)∈[(("a":lR),("b":lR)),("b","a")]:=by
    obtain⟨w,C,h|h⟩:=Ct (n:=c / 8) (u:=V.ref la) (v:=V.ref lb)
    ·show#[la,"a","b",by rw[C,h.2],j.at<|g.at e1,by simp]
    ·show#[lb,"b","a",by rw[C,h.2],j.at e2,by simp]
   refine .inl #[mO e3,D3,?_];have O5:=G.trans<|g.trans j;refine mP (Zl<|Zi<|Zb (Zm<|Zb (Zi<|Zb Zg<|Zb (pv 2) Za) Za)<|Zb (Zm Za)<|Zb (Zi<|Zb (pv 2)<|Zb (ny (pv 7) Zf) Za)<|Zb (Zi<|Zb (pv 2)<|Zb (ny (pv 7) Zf) Za) Za) #[mQ,λx H4 l _ e=>#[mQ,λpl H5 y _ e5=>#[mQ,λjl H6 o _ e6=>(.inl #[mO<|o.at<|y.at<|l.at h7,rfl,mQ,λie H7 p _ e7=>(.inl #[mO<|p.at<|o.at<|y.at<|l.at h7,rfl,mQ,λoe H8 z _ e8=>#[mQ,λt H9 d _ e9=>?_]])])]]];show q t H9 pl jl ie oe _ _ _ _ (O5.trans<|l.trans<|y.trans<|o.trans<|p.trans<|z.trans d) e9 #[[x],d.at<|z.at<|p.at<|o.at e5,.cons (d.at<|z.at<|p.at<|o.at<|y.at e) .nil] #[[],d.at<|z.at<|p.at e6,.nil] (d.at<|z.at e7) (d.at e8)<|.plain a b T6
  refine mM (Zv (Yf xb (pv 6) Zf<|Yn _) Zn Zk)<|Yh (λ_=>?_) λ_=>?_
  ·refine mM (mY 8 Z2<|ny (Zm<|Zb (Zm<|Zb Zg<|Zb Zg Za)<|Zb (Zm<|Zb Zg<|Zb Zg Za) Za)<|Zp Yl (Zp Yq (pv 0) Zf) Zf) #[mQ,λla H1 G _ e1=>#[mQ,λlb H2 g _ e2=>#[mQ,λll H3 j _ e3=>#[#[by lk,by lk],(by change(0:Int)<2;decide),?_]]]];obtain⟨l7,a,b,D3,h7,T6⟩:∃l7 a b,oH [V.ref la,.ref lb] (c / 8%2)=some (.ref l7)/\H3 l7=some (.lst [.str a,.str b])/\(a,b)∈[(("left":lR),("right":lR)),("right","left")]:=by
    obtain⟨w,C,h|h⟩:=Ct (n:=c / 8) (u:=V.ref la) (v:=V.ref lb)
    ·show#[la,"left","right",by rw[C,h.2],j.at<|g.at e1,by simp]
    ·show#[lb,"right","left",by rw[C,h.2],j.at e2,by simp]
   refine .inl #[mO e3,D3,?_];have O5:=G.trans<|g.trans j;refine mM (mY 9 Z2<|Zm<|Zb (Zi<|Zb (Zi<|Zb (pv 2)<|Zb Zg Za)<|Zb (Zi<|Zb (pv 3)<|Zb Zg Za) Za)<|Zb (Zi<|Zb (Zi<|Zb (pv 2)<|Zb Zg Za)<|Zb (Zi<|Zb (pv 4)<|Zb Zg Za) Za) Za) #[mQ,λa1 H4 l _ Y=>#[mQ,λa2 H5 y _ U=>#[mQ,λj1 H6 o _ N=>#[mQ,λa3 H7 p _ M=>#[mQ,λa4 H8 z _ L=>#[mQ,λj2 H9 d _ J=>#[mQ,λjA K1 x _ I=>?_]]]]]]];have J1:Wv K1 j1 ((n1,"left"),(n2,"a")):=#[a1,a2,x.at<|d.at<|z.at<|p.at N,x.at<|d.at<|z.at<|p.at<|o.at<|y.at Y,x.at<|d.at<|z.at<|p.at<|o.at U]
   have J2:Wv K1 j2 ((n1,"right"),(n3,"a")):=#[a3,a4,x.at J,x.at<|d.at<|z.at M,x.at<|d.at L]
   have s0A:=O5.trans<|l.trans<|y.trans<|o.trans<|p.trans<|z.trans<|d.trans x;have h7:=(l.trans<|y.trans<|o.trans<|p.trans<|z.trans<|d.trans x).at h7;clear G g j l y o p z d x Y U N M L J e1 e2 e3 O5;refine mM (mY 9 Z2<|Zp Wm (pv 9)<|Zm<|Zb (Zi<|Zb (Zi<|Zb (pv 3)<|Zb Zg Za)<|Zb (Zi<|Zb (pv 5)<|Zb (ny (pv 8) Zf) Za) Za)<|Zb (Zi<|Zb (Zi<|Zb (pv 5)<|Zb (ny (pv 8) Zf) Za)<|Zb (Zi<|Zb (pv 4)<|Zb Zg Za) Za) Za) #[mQ,λb1 P0 A7 _ Y=>(.inl #[mO<|A7.at h7,rfl,mQ,λb2 H12 A2 _ U=>#[mQ,λj3 H13 v6 _ N=>(.inl #[mO<|v6.at<|A2.at<|A7.at h7,rfl,mQ,λb3 U8 x9 _ M=>#[mQ,λb4 H15 B3 _ L=>#[mQ,λj4 H16 B1 _ J=>#[mQ,λjB H17 e _ f8=>.inr<|.inr #[(A7.trans<|A2.trans<|v6.trans<|x9.trans<|B3.trans<|B1.trans e).at I,f8,mQ,λjl H18 K8 _ f9=>?_]]]]])]])];have sAB:=A7.trans<|A2.trans<|v6.trans<|x9.trans<|B3.trans<|B1.trans<|e.trans K8;have J3:Wv H18 j3 ((n2,"b"),(n4,a)):=#[b1,b2,(x9.trans<|B3.trans<|B1.trans<|e.trans K8).at N,(A2.trans<|v6.trans<|x9.trans<|B3.trans<|B1.trans<|e.trans K8).at Y,(v6.trans<|x9.trans<|B3.trans<|B1.trans<|e.trans K8).at U]
   have J4:Wv H18 j4 ((n4,b),(n3,"b")):=#[b3,b4,(e.trans K8).at J,(B3.trans<|B1.trans<|e.trans K8).at M,(B1.trans<|e.trans K8).at L]
   have A1:Yp H18 jl [((n1,"left"),(n2,"a")),((n1,"right"),(n3,"a")),((n2,"b"),(n4,a)),((n4,b),(n3,"b"))]:=#[[j1,j2,j3,j4],f9,.cons (J1.mono sAB)<|.cons (J2.mono sAB)<|.cons J3<|.cons J4 .nil]
   have s0B:=s0A.trans sAB;clear J1 J2 J3 J4 A7 A2 v6 x9 B3 B1 e K8 sAB s0A Y U N M L J I f8 f9 h7;refine mM (mY 10 Z2<|Zm<|Zb (Zi<|Zb Zg<|Zb (pv 2) Za)<|Zb (Zi<|Zb Zg<|Zb (pv 3) Za)<|Zb (Zi<|Zb Zg<|Zb (pv 4) Za)<|Zb (Zi<|Zb Zg<|Zb (pv 5) Za) Za) #[mQ,λc1 G1 G _ Y=>#[mQ,λc2 G2 g _ U=>#[mQ,λc3 G3 j _ N=>#[mQ,λc4 G4 l _ M=>#[mQ,λpl G5 y _ L=>?_]]]]];have u0:Zz G5 pl [("points",n1),("plain",n2),("plain",n3),("points",n4)]:=#[[c1,c2,c3,c4],L,.cons (y.at<|l.at<|j.at<|g.at Y)<|.cons (y.at<|l.at<|j.at U)<|.cons (y.at<|l.at N)<|.cons (y.at M) .nil]
   have sG:=G.trans<|g.trans<|j.trans<|l.trans y;refine mP (Zl<|Zi<|Zb (pv 10)<|Zb (pv 9)<|Zb (Zi<|Zb (pv 2)<|Zb Zg Za)<|Zb (Zi<|Zb (pv 5)<|Zb Zg Za) Za) #[mQ,λie G6 o _ J=>#[mQ,λoe G7 p _ I=>#[mQ,λt G8 z _ f8=>?_]]];have i:=o.trans<|p.trans z;show q t G8 pl jl ie oe _ _ _ _ (s0B.trans<|sG.trans i) f8 (u0.mono i) (A1.mono<|sG.trans i) ((p.trans z).at J) (z.at I)<|.loop a b T6
  refine mM (Zv (Yf xb (pv 6) Zf<|Yn _) Zn Zk)<|Yh (λ_=>?_) λ_=>?_
  ·refine mM (mY 7 Z2<|Zm<|Zb Zg<|Zb Zg<|Zb Zg Za) #[mQ,λle H1 G _ e1=>?_];refine mM (mY 11 Z2<|Zp Yl (Zp Yq (pv 0) Zf) Zf) #[#[by lk,by lk],(by change(0:Int)<3;decide),?_];obtain⟨x,r0,r1,D3,O3,hpm⟩:∃x r0 r1:lR,oH [V.str "stem",.str "left",.str "right"] (2-c / 8%3)=some (.str x)/\(([("stem":lR),"left","right"].filter λe=>decide<|e≠x)=[r0,r1])/\[x,r0,r1].Perm ["stem","left","right"]:=by
    have h0:=pY (c / 8) (show(3:Int)≠0 by lk);have h1:=qg (c / 8) (show(0:Int)<3 by lk);generalize c / 8%3=m at h0 h1;have:m=0\/m=1\/m=2:=by lia
    rcases this with rfl|rfl|rfl
    ·show#["right","stem","left",rfl,by left,by left]
    ·show#["left","stem","right",rfl,by left,by left]
    ·show#["stem","left","right",rfl,by left,by left]
   refine mM (mY 12 Z2<|ny (pv 7)<|Zp vM Zf<|pv 11)<|.inl #[mO e1,D3,?_];refine mM (mY 9 Z2<|Zm<|Zb (Zi<|Zb (Zi<|Zb (pv 2)<|Zb (pv 12) Za)<|Zb (Zi<|Zb (pv 3)<|Zb Zg Za) Za)<|Zb (Zi<|Zb (Zi<|Zb (pv 3)<|Zb Zg Za)<|Zb (Zi<|Zb (pv 4)<|Zb Zg Za) Za) Za) #[mQ,λa1 H2 g _ Y=>#[mQ,λa2 H3 j _ U=>#[mQ,λj1 H4 l _ N=>#[mQ,λa3 H5 y _ M=>#[mQ,λa4 H6 o _ L=>#[mQ,λj2 H7 p _ J=>#[mQ,λjl H8 z _ I=>?_]]]]]]];have A1:Yp H8 jl [((n1,x),(n2,"b")),((n2,"a"),(n3,"a"))]:=#[[j1,j2],I,.cons #[a1,a2,(y.trans<|o.trans<|p.trans z).at N,(j.trans<|l.trans<|y.trans<|o.trans<|p.trans z).at Y,(l.trans<|y.trans<|o.trans<|p.trans z).at U]<|.cons #[a3,a4,z.at J,(o.trans<|p.trans z).at M,(p.trans z).at L] .nil]
   have s28:=g.trans<|j.trans<|l.trans<|y.trans<|o.trans<|p.trans z;have s08:=G.trans s28;have e1:=s28.at e1;clear G g j l y o p z Y U N M L J I s28;refine mM (xo 13 ["_law_end","_law_aside"] Z2 (oR 1 [12] rfl) (Ya<|pv 7) (oA 0) (tO<|Yf (r:=uo K) (wK hr) (pv 0) (pv 1)<|Yn _) (pv 0)) #[mO e1,λe hlr=>?_];refine Yda (xs:=["stem","left","right"]) (x:=x) e1 (by lk) hlr (λH9 d e9=>?qq) ?aa ?bb
   case aa=>rfl
   case bb=>rfl
   rw[O3]at e9;obtain⟨B,R1,hkm⟩:∃B:lR,oH [V.str "stop",.str "gate"] (c / 24%2)=some (.str B)/\B∈[("stop":lR),"gate"]:=by
    obtain⟨w,C,h|h⟩:=Ct (n:=c / 24) (u:=V.str "stop") (v:=V.str "gate")
    ·show#["stop",by rw[C,h.2],by simp]
    ·show#["gate",by rw[C,h.2],by simp]
   refine mM (mY 10 Z2<|Zm<|Zb (Zi<|Zb Zg<|Zb (pv 2) Za)<|Zb (Zi<|Zb Zg<|Zb (pv 3) Za)<|Zb (Zi<|Zb (ny (Zm<|Zb Zg<|Zb Zg Za)<|Zp Yl (Zp Yq (pv 0) Zf) Zf)<|Zb (pv 4) Za) Za) #[mQ,λc1 G1 G _ Y=>#[mQ,λc2 G2 g _ U=>#[mQ,λlk G3 j _ N=>#[#[by lk,by lk],(by change(0:Int)<2;decide),.inl #[mO N,R1,mQ,λc3 G4 l _ M=>#[mQ,λpl G5 y _ L=>?_]]]]]];have u0:Zz G5 pl [("points",n1),("plain",n2),(B,n3)]:=#[[c1,c2,c3],L,.cons (y.at<|l.at<|j.at<|g.at Y)<|.cons (y.at<|l.at<|j.at U)<|.cons (y.at M) .nil]
   have sG:=G.trans<|g.trans<|j.trans<|l.trans y;obtain⟨a,b,ha,hb,T6⟩:∃a b:lR,oH [V.str r0,.str r1] (c / 48%2)=some (.str a)/\oH [V.str r0,.str r1] (1-c / 48%2)=some (.str b)/\[x,a,b].Perm ["stem","left","right"]:=by
    have h0:=pY (c / 48) (show(2:Int)≠0 by lk);have h1:=qg (c / 48) (show(0:Int)<2 by lk);generalize c / 48%2=m at h0 h1;have:m=0\/m=1:=by lia
    rcases this with rfl|rfl
    ·show#[r0,r1,rfl,rfl,hpm]
    ·show#[r1,r0,rfl,rfl,((Av r0 r1 []).cons x).trans hpm]
   refine mP (Zl<|Zi<|Zb (pv 10)<|Zb (pv 9)<|Zb (Zi<|Zb (pv 2)<|Zb (ny (pv 13)<|Zp Yl (Zp Yq (pv 0) Zf) Zf) Za)<|Zb (Zi<|Zb (pv 2)<|Zb (ny (pv 13)<|Zp vM Zf<|Zp Yl (Zp Yq (pv 0) Zf) Zf) Za) Za) #[#[by lk,by lk],(by change(0:Int)<2;decide),.inl #[mO<|sG.at e9,ha,mQ,λie G6 o _ J=>?_]];refine#[#[by lk,by lk],(by change(0:Int)<2;decide),.inl #[mO<|o.at<|sG.at e9,hb,mQ,λoe G7 p _ I=>#[mQ,λt G8 z _ f8=>?_]]];have i:=o.trans<|p.trans z;show q t G8 pl jl ie oe _ _ _ _ (s08.trans<|d.trans<|sG.trans i) f8 (u0.mono i) (A1.mono<|d.trans<|sG.trans i) ((p.trans z).at J) (z.at I)<|.siding x a b B T6 hkm
  refine mM (mY 9 Z2<|Zm<|Zb (Zi<|Zb (Zi<|Zb (pv 2)<|Zb Zg Za)<|Zb (Zi<|Zb (pv 3)<|Zb Zg Za) Za)<|Zb (Zi<|Zb (Zi<|Zb (pv 4)<|Zb Zg Za)<|Zb (Zi<|Zb (pv 2)<|Zb Zg Za) Za) Za) #[mQ,λa1 H2 g _ Y=>#[mQ,λa2 H3 j _ U=>#[mQ,λj1 H4 l _ N=>#[mQ,λa3 H5 y _ M=>#[mQ,λa4 H6 o _ L=>#[mQ,λj2 H7 p _ J=>#[mQ,λjl H8 z _ I=>?_]]]]]]];have A1:Yp H8 jl [((n1,"c"),(n2,"a")),((n3,"a"),(n1,"d"))]:=#[[j1,j2],I,.cons #[a1,a2,(y.trans<|o.trans<|p.trans z).at N,(j.trans<|l.trans<|y.trans<|o.trans<|p.trans z).at Y,(l.trans<|y.trans<|o.trans<|p.trans z).at U]<|.cons #[a3,a4,z.at J,(o.trans<|p.trans z).at M,(p.trans z).at L] .nil]
  have s08:=g.trans<|j.trans<|l.trans<|y.trans<|o.trans<|p.trans z;clear g j l y o p z Y U N M L J I;obtain⟨B,R1,hkm⟩:∃B:lR,oH [V.str "gate",.str "stop"] (c / 8%2)=some (.str B)/\B∈[("gate":lR),"stop"]:=by
   obtain⟨w,C,h|h⟩:=Ct (n:=c / 8) (u:=V.str "gate") (v:=V.str "stop")
   ·show#["gate",by rw[C,h.2],by simp]
   ·show#["stop",by rw[C,h.2],by simp]
  refine mM (mY 10 Z2<|Zm<|Zb (Zi<|Zb Zg<|Zb (pv 2) Za)<|Zb (Zi<|Zb Zg<|Zb (pv 3) Za)<|Zb (Zi<|Zb (ny (Zm<|Zb Zg<|Zb Zg Za)<|Zp Yl (Zp Yq (pv 0) Zf) Zf)<|Zb (pv 4) Za) Za) #[mQ,λc1 G1 G _ Y=>#[mQ,λc2 G2 g _ U=>#[mQ,λlk G3 j _ N=>#[#[by lk,by lk],(by change(0:Int)<2;decide),.inl #[mO N,R1,mQ,λc3 G4 l _ M=>#[mQ,λpl G5 y _ L=>?_]]]]]];have u0:Zz G5 pl [("cross",n1),("gate",n2),(B,n3)]:=#[[c1,c2,c3],L,.cons (y.at<|l.at<|j.at<|g.at Y)<|.cons (y.at<|l.at<|j.at U)<|.cons (y.at M) .nil]
  have sG:=G.trans<|g.trans<|j.trans<|l.trans y;refine mP (Zl<|Zi<|Zb (pv 10)<|Zb (pv 9)<|Zb (Zi<|Zb (pv 2)<|Zb Zg Za)<|Zb (Zi<|Zb (pv 2)<|Zb Zg Za) Za) #[mQ,λie G6 o _ J=>#[mQ,λoe G7 p _ I=>#[mQ,λt G8 z _ f8=>?_]]];have i:=o.trans<|p.trans z;show q t G8 pl jl ie oe _ _ _ _ (s08.trans<|sG.trans i) f8 (u0.mono i) (A1.mono<|sG.trans i) ((p.trans z).at J) (z.at I)<|.cross B hkm
end
end K65
end
section
namespace K65
open PySem L2 NM YM
section
variable {P:md} {w:lZ} {K:lW} {mg:lR->lV lT} {mD:lY} (T:Tx K mg)
seal PySem.wpAny
def wA(xs:lQ V)(k:Nat):qi xs (some (k:Int)) none=xs.drop k:=by
 unfold qi;rw[HT.sIx_nat,HT.sIx_none]
 by_cases h:k<=xs.length
 ·rw[Br h,sK (by rw[sP];show nk _)]
 ·rw[Ci (by lia),BI,Bb,NR<|by lia]
def yA(xs:lQ V)(k:Nat):qi xs none (some (k:Int))=xs.take k:=by
 unfold qi;rw[HT.sIx_nat,HT.sIx_none,Ec,Nat.sub_zero]
 by_cases h:k<=xs.length
 ·rw[Br h]
 ·rw[Ci (by lia),oJ,sK<|by lia]
def Zz.app(z:Paired (Zt H) ts ps)(y:Paired (Zt H) us qs)(e:H l=some (.lst<|ts.map V.ref++us.map V.ref)):Zz H l (ps++qs):=#[ts++us,by rw[nj];show e,pM z y]
def Yp.app(z:Paired (Wv H) ts ps)(y:Paired (Wv H) us qs)(e:H l=some (.lst<|ts.map V.ref++us.map V.ref)):Yp H l (ps++qs):=#[ts++us,by rw[nj];show e,pM z y]
inductive LS(K:lW):Sp
 | mk (cl) (cs:lQ Int):vs=[.ref cl]->SqL K H cl (cs.map V.int)->(∀c∈cs,0<=c)->(∀(t:lS)(H':Hp)(pl jl:lS)(ps:lQ Zh)(js:lQ (Zh×Zh)),mC H H'->H' t=some (.tup [.ref pl,.ref jl])->Zz H' pl ps->Yp H' jl js->H pl=none->H jl=none->Net ps js []->ps.length<=38->(∀p∈ps,p=((("gate":lR),("g":lR)):Zh)\/p=((("gate":lR),("h":lR)):Zh)\/vY p.2 36)->Q (.ref t) H')->LS K vs H Q E
inductive Ng(H H5:Hp)(cl:Addr)(i:Nat):St->Hp->Prop
 | mk (pl jl e o4 o5 o6 o7 o8 ps js R6):mC H5 H'->Zz H' pl ps->Yp H' jl js->Zt H' e R6->vA i ps js R6->H pl=none->H jl=none->Ng H H5 cl i [some (.ref cl),some<|.ref pl,some<|.ref jl,some<|.ref e,o4,o5,o6,o7,o8] H'
def Zql:T.eV.O P w mg mD 2 (LS K):=by
 refine T.eV.F.okW Yz ?_;rfl'
 ·obtain⟨cl,cs,rfl,y7,N0,q⟩:=h;intro X D;refine mM (mY 1 Yz<|Zm<|Zb (Zi<|Zb Zg<|Zb Zg Za) Za) #[mQ,λt1 x s1 _ e1=>#[mQ,λpl0 p s2 n2 e2=>?_]];refine mM (mY 2 Yz<|Zm Za) #[mQ,λjl0 x s3 n3 e3=>?_];refine mM (mY 3 Yz<|Zi<|Zb Zg<|Zb Zg Za) #[mQ,λe0 H4 s4 n4 e4=>?_];have N2:=s1.trans<|s2.trans<|s3.trans s4;have hp0:Zz H4 pl0 [("gate","g")]:=#[[t1],s4.at<|s3.at e2,.cons (s4.at<|s3.at<|s2.at e1) .nil]
  have hj0:Yp H4 jl0 []:=#[[],s4.at e3,.nil]
  have f0:H pl0=none:=s1.free n2;have f1:H jl0=none:=s1.free<|s2.free n3;clear s1 s2 s3 s4 n2 n3 n4 e1 e2 e3;refine mM (Yw oO rfl (xz rfl T.bS<|Zb (Xq (r:=qN K) qZ (pv 0) Wl<|Xw Zf) Za) (rE rfl<|Zu (nZ 4 Yz)<|Zu (nZ 5 Yz) Xd) Zn)<|.inr<|.inl #[N2.seq y7,λx H5 s5 p e5=>#[mO e5,?_]];rw[show(some (9:Int))=some ((9:Nat):Int)from rfl,yA,<-tH]at e5;have d:=N2.trans s5;refine yi (xs:=(cs.take 9).map V.int) (Ng H H5 cl)
   (.mk pl0 jl0 e0 none none none none none _ _ _ (qc _) (hp0.mono s5) (hj0.mono s5) (s5.at e4) vA.start f0 f1) ?_ ?_ ?_
  ·rintro i z H' _ ⟨_,_,_,_,_,_,_,_,_,_,_,x,_⟩;show mO<|x.at e5
  ·rintro i v z H6 hi ⟨pl,jl,e,o4,o5,o6,o7,o8,ps,js,R6,s6,u0,A1,N3,u,fp,fj⟩ tp H7 N n7 e7;rw[nJ]at hi;obtain⟨c,hc,rfl⟩:=nR.mp hi;have hi9:i<9:=by
    have:=(oo.mp hc).1;rw[oh]at this;lia
   have hc0:0<=c:=N0 c<|uX<|pe hc;refine#[mW e7,rfl,rfl,?_];have M3:=s6.trans N;have u0:=u0.mono N;have A1:=A1.mono N;have N3:=N3.mono N;obtain⟨nm,w4⟩:∃nm:Nat->lR,nm=λj=>Yt ((["p","q","r","t"]:lQ lR).getD j "p") (tE<|c / 96+5 * (j:Int)) (4 * i+j):=#[_,rfl]
   refine mM (mY 6 Yz<|Zm Za) #[mQ,λD x s75 hD e75=>?_];let I1:IF:=λj z H'=>(∃o7,z=[some (.ref cl),some<|.ref pl,some<|.ref jl,some<|.ref e,some<|.int (i:Int),some<|.int c,some<|.ref D,o7,o8])/\H' D=some (.lst<|((List.range j).map nm).map V.str)/\mC H7 H'
   refine mM (Yw oO rfl (Nn rfl T.dI<|Zb Zf Za) (nZ 7 Yz) Zn)<|pz rfl #[by lk,by lk,yD (lo:=0) (n:=4) I1 #[#[_,rfl],e75,s75] ?_ ?_]
   ·rintro j z H8 hj ⟨⟨o7,rfl⟩,p,g⟩;obtain⟨kd,C⟩:∃kd,kd=(["p","q","r","t"]:lQ lR).getD j "p":=#[_,rfl]
    have a:j=0\/j=1\/j=2\/j=3:=by lia
    obtain⟨x,D3,B⟩:∃x,oH (Str.cps "pqrt").toList ((0:Int)+(j:Int))=some x/\(#[(List.toArray [x])]:lR)=kd:=by
     rw[C];rcases a with rfl|rfl|rfl|rfl<;>show#[_,rfl,rfl]
    have hkl:kd.length=1:=by
     rw[<-B]
     rfl
    refine mP (Z3<|rO (pv 6)<|Zy (Jp T) hr<|Zb (ny Zg<|pv 7)<|Zb (Zp Wm (Zp Yq (pv 5) Zf)<|Zp xS Zf<|pv 7)<|Zb (Zp Wm (Zp xS Zf<|pv 4)<|pv 7) Za) #[.inl #[rfl,_,mO p],.inr<|.inr #[_,_,x,rfl,rfl,sz (by left),D3,#[by lk,by lk],.inl #[by lk,by lk],.inl #[.inl #[by lk,by lk],.inl #[kd,c / 96+5 * (j:Int),4 * i+j,?_,by lia,by lia,?_,by lia,p,?_,#[_,rfl],?_,λb o y=>?_]]]]
    ·change[V.str #[(List.toArray [x])],V.int<|c / 96+5 * (0+(j:Int)),V.int<|4 * (i:Int)+(0+(j:Int))]=_;rw[B,show(0:Int)+(j:Int)=j by lia,show 4 * (i:Int)+(j:Int)=((4 * i+j:Nat):Int) by lia]
    ·have:=Int.ediv_nonneg hc0 (show(0:Int)<=96 by lk);lia
    ·rw[mK,mK,AB];show Zo (by lia)
    ·rw[Zc,yb,nj,nj,w4,C]
     rfl
    ·rw[Zd (Ze y hD)];show g.at y
   ·rintro z H8 ⟨⟨o7,rfl⟩,p,g⟩;have u0:=u0.mono g;have A1:=A1.mono g;have N3:=N3.mono g;refine mM (mY 8 Yz<|Zy (VE T) hr<|Zb (pv 5)<|Zb (pv 6) Za) #[c,D,nm 0,nm 1,nm 2,nm 3,rfl,p,λt H9 bp bj ie oe qs ks a b Y e9 hbp hbj hie hoe B=>?_];subst w4;have O4:=u.more (by lia) (by left) (by left) (by left) (by left) B;obtain⟨ts,ht,m9⟩:=u0.mono Y;obtain⟨us,hu,w6⟩:=hbp;obtain⟨M,hj1,l⟩:=A1.mono Y;obtain⟨js2,hj2,o⟩:=hbj;have lp:=u.pl;have lj:=u.jl;have lb:=B.len;have c1:=nH m9;have c2:=nH w6;have c3:=nH l;have c4:=nH o;refine mM (mY 1 Yz<|Zp Wm (pv 1)<|ny (pv 8) Zf)<|.inr<|.inl #[mW e9,rfl,.inr<|.inr #[ht,hu,?_,λpl' K1 U n10 jw=>?_]]
    ·rw[mK,mK];show sz (by lia)
    refine mM (mY 2 Yz<|Zp Wm (Zp Wm (pv 2)<|ny (pv 8) Zf)<|Zm<|Zb (Zi<|Zb (pv 3)<|Zb (ny (pv 8) Zf) Za) Za)<|.inr<|.inl #[mW<|U.at e9,rfl,.inr<|.inr #[U.at hj1,U.at hj2,?_,λjm P0 I a iX=>(.inr<|.inl #[mW<|I.at<|U.at e9,rfl,mQ,λtj H12 L n12 jx=>#[mQ,λl2 H13 J n13 iu=>.inr<|.inr #[(L.trans J).at iX,iu,?_,λjl' U8 G n14 gq=>?_]]])]]
    ·rw[mK,mK];show sz (by lia)
    ·rw[nX,mK,mK];show sz (by simp;lia)
    have C:=I.trans<|L.trans<|J.trans G;have x:=U.trans C;refine mP (mY 3 Yz<|ny (pv 8) Zf)<|.inr<|.inl #[mW<|x.at e9,rfl,.mk pl' jl' oe _ _ _ _ _ _ _ _ (M3.trans<|g.trans<|Y.trans x) ?_ ?_ (hoe.mono x) O4 ?_ ?_]
    ·show Zz.app (ts:=ts) (us:=us) (nK m9 λ_ _ r=>r.mono x) (nK w6 λ_ _ r=>r.mono x)<|C.at jw
    ·have a:Paired (Wv U8) (M++js2) (js++ks):=pM (nK l λ_ _ r=>r.mono x)<|nK o λ_ _ r=>r.mono x;refine Yp.app (ts:=M++js2) (us:=[tj]) a (.cons #[e,ie,(J.trans G).at jx,(N3.mono Y).mono x,hie.mono x] .nil) ?_;rw[nj];show gq
    ·show d.free<|M3.free<|g.free<|Y.free n10
    ·show d.free<|M3.free<|g.free<|Y.free<|(U.trans<|I.trans<|L.trans J).free n14
  ·rintro z H6 ⟨pl,jl,e,o4,o5,o6,o7,o8,ps,js,R6,s6,u0,A1,N3,u,fp,fj⟩;rw[mK,oh]at u;have hm:min 9 cs.length<=9:=Nat.min_le_left ..;have C:=u.done (by lia);obtain⟨ts,ht,m9⟩:=u0;obtain⟨M,hj1,l⟩:=A1;have lp:=u.pl;have lj:=u.jl;have c1:=nH m9;have c3:=nH l;refine mP (Zl<|Zi<|Zb (Zp Wm (pv 1)<|Zm<|Zb (Zi<|Zb Zg<|Zb Zg Za) Za)<|Zb (Zp Wm (pv 2)<|Zm<|Zb (Zi<|Zb (pv 3)<|Zb (Zi<|Zb Zg<|Zb Zg Za) Za) Za) Za) #[mQ,λt1 H7 N _ e7=>#[mQ,λp H8 g _ x=>.inr<|.inr #[g.at<|N.at ht,x,?_,λpl' H9 Y B e9=>#[mQ,λt2 K1 U _ jw=>#[mQ,λt3 P0 I _ iX=>#[mQ,λl2 H12 L _ jx=>.inr<|.inr #[(N.trans<|g.trans<|Y.trans<|U.trans<|I.trans L).at hj1,jx,?_,λjl' H13 J n13 iu=>#[mQ,λt U8 G _ gq=>?_]]]]]]]]
   ·rw[mK];show sz (by simp;lia)
   ·rw[mK];show sz (by simp;lia)
   have j:=N.trans<|g.trans<|Y.trans<|U.trans<|I.trans L;have o:=j.trans<|J.trans G;have a:=U.trans<|I.trans<|L.trans<|J.trans G;refine q t U8 pl' jl' _ _ (d.trans<|s6.trans o) gq ?_ ?_ (d.free<|s6.free<|N.free<|g.free B) (d.free<|s6.free<|j.free n13) C ?_ ?_
   ·show Zz.app (ts:=ts) (us:=[t1]) (nK m9 λ_ _ r=>r.mono o) (.cons ((g.trans<|Y.trans a).at e7) .nil)<|a.at e9
   ·show Yp.app (ts:=M) (us:=[t3]) (nK l λ_ _ r=>r.mono o) (.cons #[e,t2,(L.trans<|J.trans G).at iX,N3.mono o,(I.trans<|L.trans<|J.trans G).at jw] .nil)<|G.at iu
   ·rw[nX];simp;lia
   ·intro p hp;rcases oj.mp hp with y|y
    ·rcases u.nm p y with x|⟨kd,c,k,h1,h2,h3⟩
     ·show .inl x
     ·show .inr<|.inr #[kd,c,k,h1,by lia,h3]
    ·simp at y;subst y;show .inr<|.inl rfl
inductive Og(K:lW):Sp
 | mk (a) (ns:lQ Int) (i j:Nat):vs=[.ref a,.int i,.int j]->SqL K H a (ns.map V.int)->ns.length<=63->i<=1000->j<=1000->(∀(p:lS)(H':Hp)(cs:lQ Int),mC H H'->H p=none->H' p=some (.lst<|cs.map V.int)->(∀c∈cs,0<=c/\c<2147483629)->cs.length<=63->Q (.ref p) H')->Og K vs H Q E
def UH:T.ek.O P w mg mD 2 (Og K):=by
 refine T.ek.F.okA ?_;rfl'
 ·obtain⟨a,x,i,j,rfl,Y,z,o,e,q⟩:=h;intro X D;have y:(if((x.map V.int).length:Int)<(j:Int)then((x.map V.int).length:Int)else(j:Int))=((min j x.length:Nat):Int):=by
   rw[mK];split<;>lia
  refine mP (Zl<|pF ["_law_k","_law_script"] (oR 1 [0] rfl) (Dv rfl T.dI<|Zb (pv 1)<|Zb (Z4 (Li rfl) (by rfl) T.je QZ<|Zb (pv 2)<|Zb (pp T.aX<|pv 0) Za) Za) (oA 0) Wb (Xy (W0 T) hr rfl T.aj.m T.aj.F.kp T.aj.b .nil Z0<|Zb (qH (K:=K) rfl (pv 1)<|pv 0)<|Zb (pv 0) Za))<|.inl #[.inl Y,_,_,rfl,_,_,rfl,?_,λD l=>?_]
  ·rw[y];lia
  rw[y];obtain⟨m,M⟩:∃m:Nat,(((min j x.length:Nat):Int)-(i:Int)).toNat=m:=#[_,rfl]
  rw[M];refine QH (lo:=(i:Int)) (n:=m) (λk r z=>(∃u:lQ Int,r=u.map V.int/\u.length=k/\∀c∈u,0<=c/\c<2147483629)/\z D=some (.lst r)/\mC H z) #[#[[],rfl,rfl,by simp],Zc,pb l] ?_ ?_
  ·rintro k r U L ⟨⟨u,rfl,N,g⟩,d,p⟩;unfold W4;have a:i+k<x.length:=by lia
   refine#[oW rfl,.inl #[p.seq Y,(show oH _ _=some (.int<|x.getD (i+k) 0)from ?_),_,_,rfl,d,?_,#[u++[sV (x.getD (i+k) 0) ((i:Int)+(k:Int))],?_,?_,?_],Zc,λb o e=>?_]]
   ·rw[show(i:Int)+(k:Int)=((i+k:Nat):Int) by lia];refine Zq ?_;rw[nJ,oy a,qo,oy a]
    rfl
   ·rw[mK];show Zo (by lia)
   ·rw[nj];rfl
   ·rw[nX];simp;show N
   ·intro c o;rcases oj.mp o with z|z
    ·show g c z
    ·simp at z;rw[z];show#[Zzy _ _,Ybg _ _]
   ·rw[Zd (Ze e l)];show p.at e
  ·rintro r U ⟨⟨u,rfl,N,g⟩,d,p⟩;show q D U u p l d g (by lia)
def Wz(h:Paired (Zt H) ts ps)(y:H c=some (.lst xs)):Paired (Zt<|mJ H c o) ts ps :=
 nK h λt q r=>by
  unfold Zt at r ⊢;rw[Zd λz=>by rw[z,y]at r;cases r];show r
def Wv.off(h:Wv H t j)(r:H c=some (.lst xs)):Wv (mJ H c o) t j:=by
 obtain⟨a,b,s,y,x⟩:=h;unfold Zt at y x;have u:∀{t:lS}{q:lQ V},H t=some (.tup q)->t≠c:=λh z=>by rw[z,r]at h;cases h
 show#[a,b,by rw[Zd (u s)];show s,by unfold Zt;rw[Zd (u y)];show y,by unfold Zt;rw[Zd (u x)];show x]
def xK(h:Paired (Wv H) ts z)(y:H c=some (.lst xs)):Paired (Wv<|mJ H c o) ts z:=nK h λ_ _ r=>r.off y
inductive Ld:Sp
 | mk (pl jl rl c) (ps:lQ Zh) (js:lQ (Zh×Zh)) (Zs:lQ Zh):vs=[.ref pl,.ref jl,.ref rl,.int c]->Zz H pl ps->Yp H jl js->Zz H rl Zs->pl≠jl->rl≠pl->rl≠jl->ps.length<=100->js.length<=200->Zs.length<=90->(∀(H':Hp)(E2:lQ Zh)(F3:lQ (Zh×Zh)),(∀b o,b≠pl->b≠jl->H b=some o->H' b=some o)->Zz H' pl (ps++E2)->Yp H' jl (js++F3)->wM Zs Zs.length E2 F3->Q .non H')->Ld  vs H Q E
def Zm5:T.dO.O P w mg mD 2 Ld:=by
 refine T.dO.F.okW Bx ?_;rfl'
 ·obtain⟨p,I,rl,c,ps,js,Zs,rfl,u0,A1,⟨rs,P7,O6⟩,n1,n2,n3,x,u,r,q⟩:=h;intro X D;have lrs:=nH O6;let I2:IF:=λi z H'=>(∃o4 o5 o6,z=[some (.ref p),some<|.ref I,some<|.ref rl,some<|.int c,o4,o5,o6])/\(∀b o,b≠p->b≠I->H b=some o->H' b=some o)/\∃d U,Zz H' p (ps++d)/\Yp H' I (js++U)/\wM Zs i d U
  refine mP (Yw oO rfl (xz rfl T.bS<|Zb (pv 2) Za) (rE rfl<|Zu (nZ 4 Bx)<|Zu (nZ 5 Bx) Xd) Zn) #[mO P7,yi (xs:=rs.map V.ref) I2
   #[#[none,none,none,rfl],λ_ _ _ _ y=>y,[],[],by rw[pH];show u0,by rw[pH];show A1,[],rfl,by simp,rfl,rfl] ?_ ?_ ?_]
  ·rintro i z H' _ ⟨_,M,_⟩;show mO<|M _ _ n2 n3 P7
  ·rintro i v z H2 hi ⟨⟨o4,o5,o6,rfl⟩,M,d,U,⟨n,ht,m9⟩,⟨us,hu,w6⟩,G⟩ tp H3 s3 n3' e3;rw[nJ]at hi;obtain⟨te,N4,rfl⟩:=nR.mp hi;obtain⟨x,hy,u⟩:=pj O6 N4;have C3:i<rs.length:=(oo.mp N4).1;obtain⟨ks,hkl,hks,hnp,hnj⟩:=id G;have c1:=nH m9;have c2:=nH w6;rw[nX,hnp,mK,AB]at c1;rw[nX,hnj,mK,AB]at c2;have C:Zt H2 te x:=by
    unfold Zt at u ⊢;refine M _ _ (λy=>?_) (λy=>?_) u
    ·obtain⟨_,N,_⟩:=u0;rw[y,N]at u;cases u
    ·obtain⟨_,N,_⟩:=A1;rw[y,N]at u;cases u
   refine#[mW e3,rfl,rfl,?_];have fl:=CY i (by lia);refine mM (mY 6 Bx<|Zp Wm Zg<|Y0 By (by rfl) T.fh wI<|Zb (pv 4) Za) #[(i:Int),rfl,EO (by lia),.inr<|.inl<|vR rfl rfl #[sz (by change 1+(sF i).length<=1000;lia),?_]];obtain⟨L,R1,hkm⟩:∃L:lR,oH [V.str "gate",.str "stop",.str "gate"] (sV c (i:Int)%3)=some (.str L)/\(L ="gate"\/L ="stop"):=by
    have h0:=pY (sV c (i:Int)) (show(3:Int)≠0 by lk);have N:=qg (sV c (i:Int)) (show(0:Int)<3 by lk);generalize sV c (i:Int)%3=m at h0 N;have:m=0\/m=1\/m=2:=by lia
    rcases this with rfl|rfl|rfl
    ·show#["gate",rfl,.inl rfl]
    ·show#["stop",rfl,.inr rfl]
    ·show#["gate",rfl,.inl rfl]
   refine mM (Z3<|rO (pv 0)<|Zi<|Zb (ny (Zm<|Zb Zg<|Zb Zg<|Zb Zg Za)<|Zp Yl (Xy (W0 T) hr rfl T.aj.m T.aj.F.kp T.aj.b .nil Z0<|Zb (pv 3)<|Zb (pv 4) Za) Zf)<|Zb (pv 6) Za) #[.inl #[rfl,_,mO<|s3.at ht],mQ,λlk H4 s4 n4 e4=>#[c,(i:Int),rfl,(by change(0:Int)<3;decide),.inl #[mO e4,R1,mQ,λg a s5 n5 e5=>#[s5.at<|s4.at<|s3.at ht,?_,?_]]]]
   ·rw[mK];show Zo (by lia)
   have J:=s3.trans<|s4.trans s5;have l:=J.at ht;have B:Paired (Zt a) n (ps++d):=nK m9 λ_ _ r=>r.mono J
   have hus5:Paired (Wv a) us (js++U):=nK w6 λ_ _ r=>r.mono J
   have p6:Paired (Zt<|mJ a p<|.lst<|n.map V.ref++[.ref g]) (n++[g]) ((ps++d)++[(L,W9 i)]):=Wz (pM B<|.cons e5 .nil) l;have j6:=xK (o:=.lst<|n.map V.ref++[.ref g]) hus5 l;have j:mJ a p (.lst<|n.map V.ref++[.ref g]) I=some (.lst<|us.map V.ref):=(Zd<|oM n1).trans (J.at hu);have k6:∀b o,b≠p->b≠I->H b=some o->mJ a p (.lst<|n.map V.ref++[.ref g]) b=some o:=λb o b1 b2 y=>(Zd b1).trans (J.at<|M b o b1 b2 y)
   have y6:Zt (mJ a p<|.lst<|n.map V.ref++[.ref g]) te x:=by
    have y:=C.mono J;unfold Zt at y ⊢;show(Zd λw=>by rw[w,l]at y;cases y).trans y
   have e6:mJ a p (.lst<|n.map V.ref++[.ref g]) p=some (.lst<|(n++[g]).map V.ref):=by rw[Zc,nj];rfl
   generalize(mJ a p<|.lst<|n.map V.ref++[.ref g])=H6 at p6 j6 j k6 y6 e6;refine mP (Z3<|rO (pv 1)<|Zi<|Zb (pv 5)<|Zb (Zi<|Zb (pv 6)<|Zb Zg Za) Za) #[.inl #[rfl,_,mO j],mQ,λt7 H7 Y n7 e7=>#[mQ,λt8 H8 e n8 e8=>#[e.at<|Y.at j,?_,#[_,_,_,rfl],λb o b1 b2 y=>?_,d++[(L,W9 i)],U++[(x,(W9 i,("a":lR)))],#[n++[g],?_,?_],#[us++[t8],?_,?_],G.more hkm hy]]]
   ·rw[mK];show Zo (by lia)
   ·show(Zd b2).trans (e.at<|Y.at<|k6 b o b1 b2 y)
   ·show(Zd n1).trans (e.at<|Y.at e6)
   ·rw[<-pr];show Wz (nK p6 λ_ _ r=>r.mono<|Y.trans e)<|e.at<|Y.at j
   ·rw[Zc,nj];rfl
   ·rw[<-pr];show xK (pM (nK j6 λ_ _ r=>r.mono<|Y.trans e)<|.cons #[te,t7,e8,y6.mono<|Y.trans e,e.at e7] .nil)<|e.at<|Y.at j
  ·rintro z H2 ⟨⟨o4,o5,o6,rfl⟩,M,d,U,N,x,G⟩;rw[mK,lrs]at G;show q H2 d U M N x G
def pJ(q:Zh):Tr:=.tup [.str q.1,.str q.2]
def Nv{H:Hp}{ts:lQ lS}{ps:lQ Zh}(h:Paired (Zt H) ts ps):Paired (Im K H 1) (ps.map pJ) (ts.map V.ref):=by
 induction h with
 | nil=>show .nil
 | cons r _ z=>show .cons (vj (mW r)<|.cons (.str _)<|.cons (.str _) .nil) z
def Zz.im{H:Hp}{l:lS}{ps:lQ Zh}(h:Zz H l ps):Im K H 2 (.lst<|ps.map pJ) (.ref l):=let⟨_,z,y⟩:=h;tS (mO z) (Nv y)
def LL{l D:lS}{xs:lQ lR}{x:lR}{s:Hp}{Q:VK}{z:St}(Y:s l=some (.lst<|xs.map V.str))(J:xs.length<=100)(g:s D=none)(q:∀H',mC s H'->Zz H' D (xs.map λe=>(x,e))->Q (.ref D) H'){fr:St->St}(U:fr z=[none,some<|.str x]){d:TE}(N:d=Pl (tY (rB 1)<|tY (rB 0) wD)) :
  qV (ub K l) fr (qI 0) zB d Q z s D:=by
 refine Y9 (xs:=xs.map V.str) (λi p H'=>(∃u:lQ lS,p=u.map V.ref/\Paired (Zt H') u ((xs.take i).map λe=>(x,e)))/\H' D=some (.lst p)/\mC s H') #[#[[],rfl,.nil],Zc,pb g] ?_ ?_ ?_
 ·rintro i p H' _ ⟨_,_,h⟩;show mO<|h.at Y
 ·rintro k v p H' c ⟨⟨u,rfl,n⟩,a,h⟩;rw[nJ]at c;obtain⟨y,M,rfl⟩:=nR.mp c;unfold W4;rw[U,N];have I:u.length<=100:=by
   have:=nH n;rw[mK,oh]at this;lia
  refine#[oW rfl,mQ,λt y j r L=>#[j.at a,by rw[mK];show Zo (by lia),#[u++[t],by rw[nj];rfl,?_],Zc,λb o e=>?_]]
  ·rw[og,M,nj];show Wz (pM (nK n λ_ _ r=>r.mono j)<|.cons L .nil)<|j.at a
  ·rw[Zd (Ze e g)];show j.at<|h.at e
 ·rintro p y ⟨⟨u,rfl,n⟩,r,o⟩;rw[mK,oJ]at n;show q y o #[u,r,n]
def Zt.offL{H:Hp}{c t:lS}{o:HO}{xs:lQ V}{q:Zh}(h:Zt H t q)(y:H c=some (.lst xs)):Zt (mJ H c o) t q:=by
 unfold Zt at h ⊢;show(Zd λz=>by rw[z,y]at h;cases h).trans h
def Zz.offL{H:Hp}{c l:lS}{o:HO}{xs:lQ V}{ps:lQ Zh}(h:Zz H l ps)(z:H c=some (.lst xs))(y:l≠c):Zz (mJ H c o) l ps:=let⟨x,u,s⟩:=h;#[x,(Zd y).trans u,Wz s z]
def Zz.erased{H:Hp}{l:lS}{ts:lQ lS}{ps:lQ Zh}(z:H l=some (.lst<|ts.map V.ref))(y:Paired (Zt H) ts ps)(k:Nat):Zz (mJ H l<|.lst<|(ts.map V.ref).eraseIdx k) l (ps.eraseIdx k):=#[ts.eraseIdx k,by rw[Zc,IT],Wz (NQ y k) z]
def QN{k n:Nat}(h:k<n):seqIndex? (k:Int) n=some k:=by
 unfold seqIndex?;have z:¬(k:Int)<0:=by lia
 simp only[z,rD];rw[mU (by simp;lia)];simp
def uW{a:Int}{n:Nat}(h:0<n):∃k:Nat,a%(n:Int)=(k:Int)/\k<n:=by
 have z:=pY a (show(n:Int)≠0 by lia);have y:=qg a (show(0:Int)<n by lia);show#[(a%(n:Int)).toNat,by lia,by lia]
def Zrx{z y:Type}{R:z->y->Prop}{l₁:lQ z}{l₂:lQ y}(h:Paired R l₁ l₂)(n:Nat):Paired R (l₁.drop n) (l₂.drop n):=by
 induction n generalizing l₁ l₂ with
 | zero=>show h
 | succ n x =>
  cases h with
  | nil=>show .nil
  | cons _ t=>show x t
def NP{l D:lS}{ts:lQ lS}{qs:lQ Zh}{keep:Zh->Bool}{w:lV V}{y:Hp}{Q:VK}{z:St}(M:y l=some (.lst<|ts.map V.ref))(d:Paired (Zt y) ts qs)(I:qs.length<=100)(c:y D=none)(q:∀H',mC y H'->Zz H' D (qs.filter keep)->Q (.ref D) H'){fr:St->St}(L:fr z=[none,w]){a:TT}(j:∀(t:lS)(x:Zh)(H':Hp)(R:Bool->Hp->Prop),mC y H'->Zt H' t x->x∈qs->R (keep x) H'->a [some (.ref t),w] H' R) :
  qV (ub K l) fr (qI 0) a (rB 0) Q z y D:=by
 have h:=nH d;refine Y9 (xs:=ts.map V.ref) (λi n H'=>(∃u:lQ lS,n=u.map V.ref/\Paired (Zt y) u ((qs.take i).filter keep))/\H' D=some (.lst n)/\mC y H') #[#[[],rfl,.nil],Zc,pb c] ?_ ?_ ?_
 ·rintro i n H' _ ⟨_,_,s⟩;show mO<|s.at M
 ·rintro k v n H' Y ⟨⟨u,rfl,p⟩,U,s⟩;rw[nJ]at Y;obtain⟨t,J,rfl⟩:=nR.mp Y;obtain⟨x,r,N⟩:=pj d J;unfold W4;rw[L];have H:u.length<=100:=by
   rw[nH p];have:=vL keep<|qs.take k;rw[oh]at this;lia
  refine#[oW rfl,j t x H' _ s (N.mono s) (pe r)<|Yh (λg=>?_) λg=>?_]
  ·refine#[U,by rw[mK];show Zo (by lia),#[u++[t],by rw[nj];rfl,?_],Zc,λb o e=>?_]
   ·rw[og,r,tP];refine pM p ?_;rw[show(some x).toList=[x]from rfl,se,mU g];show .cons N .nil
   ·rw[Zd (Ze e c)];show s.at e
  ·refine#[#[u,rfl,?_],U,s];rw[og,r,tP,show(some x).toList=[x]from rfl,se,mT g,vI,pH];show p
 ·rintro n g ⟨⟨u,rfl,p⟩,e,o⟩;rw[mK,h,oJ]at p;show q g o #[u,e,nK p λ_ _ r=>r.mono o]
inductive QT(K:lW):Sp
 | mk (cl) (cs:lQ Int):vs=[.ref cl]->SqL K H cl (cs.map V.int)->(∀c∈cs,0<=c)->cs.length<=63->(∀(t:lS)(H':Hp)(pl jl:lS)(ps:lQ Zh)(js:lQ (Zh×Zh)) (n:Nat),mC H H'->H' t=some (.tup [.ref pl,.ref jl])->Zz H' pl ps->Yp H' jl js->H pl=none->H jl=none->Net ps js []->ps.length<=39->(∀p∈ps,GR p.2 63\/∃j,j<90/\p.2=W9 j)->Q (.ref t) H')->QT K vs H Q E
inductive Ny(H:Hp)(cl pl jl:Addr)(i:Nat):St->Hp->Prop
 | mk (rl o4 o5 o6 o7 o8 o9 z9 C4 ps js Zs):mC H H'->Zz H' pl ps->Yp H' jl js->Zz H' rl Zs->Xx i (2 * i) ps js Zs->H rl=none->rl≠pl->rl≠jl->Ny H cl pl jl i [some (.ref cl),some<|.ref pl,some<|.ref jl,some<|.ref rl,o4,o5,o6,o7,o8,o9,z9,C4] H'
inductive Ki(H:Hp)(pl jl rl lf:Addr)(i:Nat)(pn:List Zh)(H':Hp):Prop
 | mk (rest' fresh' js'):mC H H'->Zz H' pl pn->Yp H' jl js'->Zz H' rl rest'->Zz H' lf fresh'->Xx (i+1) (2 * i+1) pn js' (rest'++fresh')->Ki H pl jl rl lf i pn H'
def UY:T.er.O P w mg mD 3 (QT K):=by
 refine T.er.F.okW Yj ?_;rfl'
 ·obtain⟨cl,cs,rfl,y7,N0,x,q⟩:=h;intro X D;refine mM (mY 1 Yj<|Zm Za) #[mQ,λe x s1 n1 e1=>?_];refine mM (mY 2 Yj<|Zm Za) #[mQ,λg x s2 n2 e2=>?_];refine mM (mY 3 Yj<|Zm Za) #[mQ,λrl0 H3 s3 n3 e3=>?_];have O5:=s1.trans<|s2.trans s3;have fp:H e=none:=n1;have fj:H g=none:=s1.free n2;have fr0:H rl0=none:=s1.free<|s2.free n3;have npj:e≠g:=Ze e1 n2;have nrp:rl0≠e:=oM<|Ze (s2.at e1) n3;have nrj:rl0≠g:=oM<|Ze e2 n3;have hp0:Zz H3 e []:=#[[],s3.at<|s2.at e1,.nil]
  have hj0:Yp H3 g []:=#[[],s3.at e2,.nil]
  have hr0:Zz H3 rl0 []:=#[[],e3,.nil]
  clear s1 s2 s3 n1 n2 n3 e1 e2 e3;refine mM (Yw oO rfl (xz rfl T.bS<|Zb (pv 0) Za) (rE rfl<|Zu (nZ 4 Yj)<|Zu (nZ 5 Yj) Xd) Zn) #[O5.seq y7,yi (xs:=cs.map V.int) (Ny H cl e g)
   (.mk rl0 none none none none none none none none _ _ _ O5 hp0 hj0 hr0 Xx.start fr0 nrp nrj) ?_ ?_ ?_]
  ·rintro i z H' _ ⟨_,_,_,_,_,_,_,_,_,_,_,_,sm,_⟩;show sm.seq y7
  ·rintro i v z H4 hi ⟨rl,o4,o5,o6,o7,o8,o9,z9,C4,ps,js,Zs,s4,u0,A1,P7,l,frl,d,Y⟩ tp H5 s5 n5 e5;rw[nJ]at hi;obtain⟨c,hc,rfl⟩:=nR.mp hi;have hi63:i<63:=by
    have:=(oo.mp hc).1;lia
   have hc0:0<=c:=N0 c<|pe hc;refine#[mW e5,rfl,rfl,?_];obtain⟨U,R1,hkm⟩:∃U:lR,oH [V.str "plain",.str "plain",.str "plain",.str "points",.str "points",.str "cross",.str "gate",.str "stop"] (c%8)=some (.str U)/\U∈qp:=by
    have h0:=pY c (show(8:Int)≠0 by lk);have h1:=qg c (show(0:Int)<8 by lk);generalize c%8=m at h0 h1;have:m=0\/m=1\/m=2\/m=3\/m=4\/m=5\/m=6\/m=7:=by lia
    rcases this with rfl|rfl|rfl|rfl|rfl|rfl|rfl|rfl<;>show#[_,rfl,by simp[qp]]
   obtain⟨u,J,g3,I,G,C⟩:=Ck U hkm;refine mM (mY 6 Yj<|ny (Zm<|Zb Zg<|Zb Zg<|Zb Zg<|Zb Zg<|Zb Zg<|Zb Zg<|Zb Zg<|Zb Zg Za)<|Zp Yl (pv 5) Zf) #[mQ,λlk H6 s6 n6 e6=>#[(by change(0:Int)<8;decide),.inl #[mO e6,R1,?_]]];refine mM (mY 7 Yj<|Zy (Mz T) hr<|Zb (pv 6) Za) #[U,rfl,λle u s7 n7 e7=>?_];have s47:=s5.trans<|s6.trans s7;have M3:=s4.trans s47;have nl1:e≠le:=let⟨_,y,_⟩:=u0;Ze ((s5.trans s6).at y) n7;have nl2:g≠le:=let⟨_,y,_⟩:=A1;Ze ((s5.trans s6).at y) n7;have u0:=u0.mono s47;have A1:=A1.mono s47;have P7:=P7.mono s47;obtain⟨ts,ht,m9⟩:=u0;obtain⟨rs,Q7,O6⟩:=P7;have c1:=nH m9;have c2:=nH O6;refine mM (Zv (Yf vU (Zp Wm (Zp Wm (pp T.aX<|pv 1)<|pp T.aX<|pv 3)<|pp T.aX<|pv 7) Zf<|Yn _) Zn Zk)<|.inl #[.inl<|mO ht,.inl #[.inl<|mO Q7,.inl<|.inl #[.inl<|mO e7,.inl<|Yh (λV9=>?_) λV9=>?_]]]
   ·show mP Zs9<|.mk rl _ _ _ _ _ _ _ _ ps js Zs M3 #[ts,ht,m9] A1 #[rs,Q7,O6] (l.mono (by lia)<|by lia) frl d Y
   have V9:ps.length+Zs.length+(Yr U).length<=38:=by
    have y:¬(((ts.map V.ref).length:Int)+((rs.map V.ref).length:Int)+(((Yr U).map V.str).length:Int)>38):=λy=>V9<|nS y
    rw[mK,mK,mK]at y;lia
   obtain⟨n,hn⟩:∃n,n=Yt U (tE<|c / 8) i:=#[_,rfl]
   refine mM (mY 8 Yj<|Zy (Jp T) hr<|Zb (pv 6)<|Zb (Zp Yq (pv 5) Zf)<|Zb (pv 4) Za) #[#[by lk,by lk],U,c / 8,i,rfl,g3,by lia,Int.ediv_nonneg hc0 (by lk),by lia,?_];rw[<-hn];refine mM (Z3<|rO (pv 1)<|Zi<|Zb (pv 6)<|Zb (pv 8) Za) #[.inl #[rfl,_,mO ht],mQ,λt8 H8 s8 n8 e8=>#[s8.at ht,?_,?_]]
   ·rw[mK];show Zo (by lia)
   have ok8:=l.add (c:=tE<|c / 8) (by lia) hkm V9;rw[<-hn]at ok8;obtain⟨us,hu,w6⟩:=A1.mono s8;have p9:Zz (mJ H8 e<|.lst<|ts.map V.ref++[.ref t8]) e (ps++[(U,n)]):=#[ts++[t8],by rw[Zc,nj];rfl,Wz (pM (nK m9 λ_ _ r=>r.mono s8)<|.cons e8 .nil)<|s8.at ht]
   have j9:Yp (mJ H8 e<|.lst<|ts.map V.ref++[.ref t8]) g js:=#[us,(Zd<|oM npj).trans hu,xK w6<|s8.at ht]
   have r9:Zz (mJ H8 e<|.lst<|ts.map V.ref++[.ref t8]) rl Zs:=#[rs,(Zd d).trans (s8.at Q7),Wz (nK O6 λ_ _ r=>r.mono s8)<|s8.at ht]
   have e9:mJ H8 e (.lst<|ts.map V.ref++[.ref t8]) le=_:=(Zd<|oM nl1).trans (s8.at e7);have s09:mC H (mJ H8 e<|.lst<|ts.map V.ref++[.ref t8]):=λb o y=>(Zd<|Ze y fp).trans (s8.at<|M3.at y)
   generalize(mJ H8 e<|.lst<|ts.map V.ref++[.ref t8])=H9 at p9 j9 r9 e9 s09;have O4:=l;clear m9 O6 ht Q7 hu w6 s8 s47 M3 A1 l n8 e8;refine mM (xo 9 ["_law_end","_law_name"] Yj (oR 1 [8] rfl) (Ya<|pv 7) (oA 0) Wb (Zi<|Zb (pv 1)<|Zb (pv 0) Za)) #[mO e9,λlf hlf=>?_];refine LL (xs:=Yr U) (x:=n) e9 (by lia) hlf (λu u9 f10=>?qq) ?aa ?bb
   case aa=>rfl
   case bb=>rfl
   have p10:=p9.mono u9;have j10:=j9.mono u9;have r10:=r9.mono u9;have s010:=s09.trans u9;have flf:H lf=none:=s09.free hlf;have nfp:lf≠e:=let⟨_,y,_⟩:=p9;oM (Ze y hlf);have nfj:lf≠g:=let⟨_,y,_⟩:=j9;oM (Ze y hlf);have nfr:lf≠rl:=let⟨_,y,_⟩:=r9;oM (Ze y hlf);clear p9 j9 r9 s09 e9 u9;let I3:IC:=λz H'=>z=[some (.ref cl),some<|.ref e,some<|.ref g,some<|.ref rl,some<|.int i,some<|.int c,some<|.str U,some<|.ref le,some<|.str n,some<|.ref lf,z9,C4]/\Ki H e g rl lf i (ps++[(U,n)]) H'
   refine pL I3 ?_ ?_
   ·refine pN (Zv (rH hr (pv 3)<|Zm Za) Zn Zk) #[mQ,λl0 P0 A7 u J=>.inr<|.inl #[2,.lst<|Zs.map pJ,.lst [],by lk,.inr #[_,_,rfl,rfl],Zz.im<|r10.mono A7,tS (mO J) .nil,Yh (λw9=>?_) λw9=>?_]]
    ·have w9:0<Zs.length:=by
      cases Zs with
      | nil=>simp at w9
      | cons=>simp
     obtain⟨V1,M4,hrs1⟩:=r10.mono A7;obtain⟨u,hf1,J⟩:=f10.mono A7;obtain⟨us1,hu1,hus1⟩:=j10.mono A7;have cr:=nH hrs1;have cf:=nH J;have cu:=nH hus1;rw[mK]at cf;have hjl1:=O4.jl;obtain⟨I,hk1,G⟩:=uW (a:=c / 24) (n:=(V1.map V.ref).length) (by rw[mK];lia);obtain⟨k2,V7,C⟩:=uW (a:=c / 100) (n:=(u.map V.ref).length) (by rw[mK];lia);obtain⟨ta,hta⟩:∃ta,V1[I]? =some ta:=#[_,oy (by rw[mK]at G;show G)]
     obtain⟨tb,htb⟩:∃tb,u[k2]? =some tb:=#[_,oy (by rw[mK]at C;show C)]
     obtain⟨qa,hqa,hqat⟩:=pj hrs1 hta;obtain⟨qb,hqb,hqbt⟩:=pj J htb;refine mP (Z3<|rO (pv 2)<|Zi<|Zb (yh xO AU EH IY (pv 3)<|Zb (Zp Yl (Zp Yq (pv 5) Zf)<|pp T.aX<|pv 3) Za)<|Zb (yh xO AU EH IY (pv 9)<|Zb (Zp Yl (Zp Yq (pv 5) Zf)<|pp T.aX<|pv 9) Za) Za) #[.inl #[rfl,_,mO hu1],.inl #[rfl,_,mO M4],#[by lk,by lk],.inl #[.inl<|mO M4,by lia,rl,_,_,I,.ref ta,rfl,rfl,M4,by lia,by rw[mK]at G;lia,by rw[hk1];show QN G,by rw[nJ,hta];rfl,?_]];have r12:=Zz.erased M4 hrs1 I;have f12:=Zz.offL (o:=.lst<|(V1.map V.ref).eraseIdx I) #[u,hf1,J] M4 nfr;have p12:=(p10.mono A7).offL (o:=.lst<|(V1.map V.ref).eraseIdx I) M4 (oM d);have hu12:mJ P0 rl (.lst<|(V1.map V.ref).eraseIdx I) g=_:=(Zd<|oM Y).trans hu1;have hus12:=xK (o:=.lst<|(V1.map V.ref).eraseIdx I) hus1 M4;have C6:mJ P0 rl (.lst<|(V1.map V.ref).eraseIdx I) lf=_:=(Zd nfr).trans hf1;have hfs12:=Wz (o:=.lst<|(V1.map V.ref).eraseIdx I) J M4;have a12:=hqat.offL (o:=.lst<|(V1.map V.ref).eraseIdx I) M4;have b12:=hqbt.offL (o:=.lst<|(V1.map V.ref).eraseIdx I) M4;have A2:mC H (mJ P0 rl<|.lst<|(V1.map V.ref).eraseIdx I):=λb o y=>(Zd<|Ze y frl).trans (A7.at<|s010.at y)
     generalize(mJ P0 rl<|.lst<|(V1.map V.ref).eraseIdx I)=H12 at r12 f12 p12 hu12 hus12 C6 hfs12 a12 b12 A2;refine#[.inl #[rfl,_,mO C6],#[by lk,by lk],.inl #[.inl<|mO C6,by lia,lf,_,_,k2,.ref tb,rfl,rfl,C6,by lia,by rw[mK]at C;lia,by rw[V7];show QN C,by rw[nJ,htb];rfl,?_]];have f13:=Zz.erased C6 hfs12 k2;have r13:=r12.offL (o:=.lst<|(u.map V.ref).eraseIdx k2) C6<|oM nfr;have p13:=p12.offL (o:=.lst<|(u.map V.ref).eraseIdx k2) C6<|oM nfp;have hu13:mJ H12 lf (.lst<|(u.map V.ref).eraseIdx k2) g=_:=(Zd<|oM nfj).trans hu12;have hus13:=xK (o:=.lst<|(u.map V.ref).eraseIdx k2) hus12 C6;have a13:=a12.offL (o:=.lst<|(u.map V.ref).eraseIdx k2) C6;have b13:=b12.offL (o:=.lst<|(u.map V.ref).eraseIdx k2) C6;have v6:mC H (mJ H12 lf<|.lst<|(u.map V.ref).eraseIdx k2):=λb o y=>(Zd<|Ze y flf).trans (A2.at y)
     generalize(mJ H12 lf<|.lst<|(u.map V.ref).eraseIdx k2)=H13 at f13 r13 p13 hu13 hus13 a13 b13 v6;refine#[mQ,λtj U8 j n14 gq=>#[j.at hu13,?_,?_]]
     ·rw[mK];show Zo (by lia)
     have B:=j.at hu13;have hqn:qb.1=n:=by
      rw[nJ]at hqb;obtain⟨x,_,rfl⟩:=nR.mp hqb
      rfl
     have hqo:qa.1≠qb.1:=by
      rw[hqn,hn];have h1:=Bl<|O4.net.perm.subset<|qv _<|pe hqa;show λy=>O4.new (by lia) hkm<|y ▸ h1
     refine#[rfl,.mk (Zs.eraseIdx I) _ (js++[(qa,qb)]) (λb o y=>(Zd<|Ze y fj).trans (j.at<|v6.at y)) ((p13.mono j).offL B npj) #[us1++[tj],?_,?_] ((r13.mono j).offL B Y) ((f13.mono j).offL B nfj)<|ok8.join (Ya4 hqa hqb) hqo]
     ·rw[Zc,nj];rfl
     ·show xK (pM (nK hus13 λ_ _ r=>r.mono j)<|.cons #[ta,tb,gq,a13.mono j,b13.mono j] .nil) B
    ·show#[rfl,.mk Zs _ js (s010.trans A7) (p10.mono A7) (j10.mono A7) (r10.mono A7) (f10.mono A7)<|ok8.mono (nk _)<|by lia]
   rintro z H12 ⟨rfl,⟨rest2,fresh2,js2,s012,p12,j12,⟨u,hr12,hrs2⟩,⟨u,C6,hfs2⟩,R7⟩⟩;have sm12:=R7.sum;have cr:=nH hrs2;have cf:=nH hfs2;rw[nX,nX]at sm12;refine mM (mY 3 Yj<|Zp Wm (pv 3)<|pv 9)<|.inr<|.inr #[hr12,C6,?_,λrm H13 v6 n13 iu=>?_]
   ·rw[mK,mK];show sz (by lia)
   have r13:Zz H13 rm (rest2++fresh2):=Zz.app (nK hrs2 λ_ _ r=>r.mono v6) (nK hfs2 λ_ _ r=>r.mono v6) iu;have p13:=p12.mono v6;have j13:=j12.mono v6;have s013:=s012.trans v6;have frm:H rm=none:=s012.free n13;have nmp:rm≠e:=let⟨_,y,_⟩:=p12;oM (Ze y n13);have nmj:rm≠g:=let⟨_,y,_⟩:=j12;oM (Ze y n13);clear hr12 C6 hrs2 hfs2 p12 j12 s012 v6 p10 j10 r10 f10 s010 iu;obtain⟨op,hop⟩:∃op,op=rest2++fresh2:=#[_,rfl]
   rw[<-hop]at r13 R7;have hopl:op.length<=39:=by rw[hop,nX];lia
   clear hop sm12 cr cf;obtain⟨rs,hrm,O6⟩:=r13;have crs:=nH O6;refine mM (xo 10 ["_law_end","_law_rest"] Yj (oR 1 [3] rfl) (Ya<|Xq (r:=qN K) qZ (pv 3) (Xw Zf) Wl) (oA 0) (tO<|Yf (r:=uo K) (wK hr) (qH (K:=K) rfl (pv 0) Zf) (qH (K:=K) rfl (qH (K:=K) rfl (pv 1) Zf) Zf)<|Yn _) (pv 0))<|.inr<|.inl #[mO hrm,λu U8 j n14 gq=>#[mO gq,λD hD=>?_]];rw[show(some (1:Int))=some ((1:Nat):Int)from rfl,wA,<-wE]at gq;have S8:Paired (Zt U8) rs op:=nK O6 λ_ _ r=>r.mono j
   have N:=j.at hrm;obtain⟨q0,hq0⟩:∃q0,q0=op.getD 0 ("",""):=#[_,rfl]
   refine NP (keep:=λx=>decide<|x.1≠q0.1) (w:=some<|.ref rm) gq (Zrx S8 1) (by rw[sP];lia) hD (λH15 B3 f15=>?q2) ?a2 ?b2
   case a2=>rfl
   case b2 =>
    intro t x H' R sm hx hm hR;cases S8 with
    | nil=>simp at hm
    | cons r0 _ =>
     subst hq0;refine(.inr<|.inl #[mW hx,rfl,.inl #[mO<|sm.at N,(show oH _ ((0:Nat):Int)=_ from Zq rfl),.inr<|.inl #[mW<|sm.at r0,rfl,.inl #[rfl,?_]]]]);change R _ H';simpa using hR
   obtain⟨U2,hnear⟩:∃U2,U2=(op.drop 1).filter λx=>decide (x.1≠q0.1):=#[_,rfl]
   rw[<-hnear]at f15;have p15:=(p13.mono j).mono B3;have j15:=(j13.mono j).mono B3;have M:=B3.at N;have L:Paired (Zt H15) rs op:=nK S8 λ_ _ r=>r.mono B3
   have s015:=s013.trans<|j.trans B3;clear p13 j13 s013 j B3 N S8 hrm O6 gq;refine mP (Zv (qj<|wY (rH hr (pv 10)<|Zm Za)<|yU<|oZ hr (Zp Yl (Zp Yq (pv 5) Zf) Zf) Zf) Zn Zk) #[mQ,λl0 H16 p u J=>.inr<|.inl #[2,.lst<|U2.map pJ,.lst [],by lk,.inr #[_,_,rfl,rfl],Zz.im<|f15.mono p,tS (mO J) .nil,Yh (λw9=>?_) λw9=>?_]]
   ·refine#[#[by lk,by lk],(by change(0:Int)<3;decide),.inl #[rfl,Yh (λ_=>?_) λ_=>?_]]
    ·obtain⟨ns,hnl,F9⟩:=f15.mono p;have cn:=nH F9;have hnl0:0<U2.length:=by
      cases U2 with
      | nil=>simp at w9
      | cons=>simp
     obtain⟨k3,hk3,hk3l⟩:=uW (a:=c / 1500) (n:=(ns.map V.ref).length) (by rw[mK];lia);obtain⟨to,hto⟩:∃to,ns[k3]? =some to:=#[_,oy (by rw[mK]at hk3l;show hk3l)]
     obtain⟨q3,hq3,hq3t⟩:=pj F9 hto;have hq3m:q3∈U2:=pe hq3;refine mM (mY 11 Yj<|ny (pv 10)<|Zp Yl (Zp Yq (pv 5) Zf)<|pp T.aX<|pv 10) #[#[by lk,by lk],.inl #[.inl<|mO hnl,by lia,.inl #[mO hnl,(show oH _ _=some (.ref to)from by rw[hk3];show Zq<|by rw[nJ,hto];rfl),?_]]];obtain⟨us,hu,w6⟩:=j15.mono p;have cu:=nH w6;have hju:=R7.jl;have I:=p.at M;have hrs16:Paired (Zt H16) rs op:=nK L λ_ _ r=>r.mono p
     rw[hnear]at hq3m;obtain⟨hqd,hqk⟩:=vC.mp hq3m;have hqk:q3.1≠q0.1:=pq hqk;obtain⟨t0,U3,tl,rfl,rfl,r0,hrt⟩:∃t0 U3 tl,rs=t0 ::U3/\op=q0 ::tl/\Zt H16 t0 q0/\Paired (Zt H16) U3 tl:=by
      cases hrs16 with
      | nil=>simp at hqd
      | cons r0 rt=>show#[_,_,_,rfl,by rw[hq0];rfl,by rw[hq0];show r0,rt]
     have hqd:q3∈tl:=hqd;refine mM (Z3<|rO (pv 2)<|Zi<|Zb (pv 11)<|Zb (ny (pv 3) Zf) Za) #[.inl #[rfl,_,mO hu],.inl #[mO I,(show oH _ ((0:Nat):Int)=_ from Zq rfl),mQ,λtj H17 B n17 jC=>#[B.at hu,?_,?_]]]
     ·rw[mK];show Zo (by lia)
     have J:=B.at hu;have j18:Yp (mJ H17 g<|.lst<|us.map V.ref++[.ref tj]) g (js2++[(q3,q0)]):=#[us++[tj],by rw[Zc,nj];rfl,xK (pM (nK w6 λ_ _ r=>r.mono B)<|.cons #[to,t0,jC,hq3t.mono B,r0.mono B] .nil) J]
     have p18:=((p15.mono p).mono B).offL (o:=.lst<|us.map V.ref++[.ref tj]) J npj;have G:mJ H17 g (.lst<|us.map V.ref++[.ref tj]) rm=_:=(Zd nmj).trans (B.at I);have C:=Wz (o:=.lst<|us.map V.ref++[.ref tj]) (nK hrt λ_ _ r=>r.mono B) J;have q18:=(hq3t.mono B).offL (o:=.lst<|us.map V.ref++[.ref tj]) J;have K8:mC H (mJ H17 g<|.lst<|us.map V.ref++[.ref tj]):=λb o y=>(Zd<|Ze y fj).trans (B.at<|p.at<|s015.at y)
     generalize(mJ H17 g<|.lst<|us.map V.ref++[.ref tj])=H18 at j18 p18 G C q18 K8;refine mP (mY 3 Yj<|pF ["_law_end","_law_other"] (oR 1 [11] rfl) (Ya<|Xq (r:=qN K) qZ (pv 3) (Xw Zf) Wl) (oA 0) (tO<|Yf (r:=uo K) (wK hr) (pv 0) (pv 1)<|Yn _) (pv 0))<|.inr<|.inl #[mO G,λl2 H19 Q5 n19 e19=>#[mO e19,λD2 z8=>?_]];rw[show(some (1:Int))=some ((1:Nat):Int)from rfl,wA,<-wE]at e19;have q19:=q18.mono Q5;refine NP (ts:=U3) (qs:=tl) (keep:=λx=>decide<|x≠q3) (w:=some<|.ref to) e19 (nK C λ_ _ r=>r.mono Q5) (by simp at hopl;lia) z8 (λH20 s20 f20=>?q4) ?a4 ?b4
     case a4=>rfl
     case b4 =>
      intro t x H' R sm hx hm hR;refine(.inr<|.inl #[1,pJ x,pJ q3,by lk,.inl #[_,_,rfl,rfl],vj (mW hx)<|.cons (.str _)<|.cons (.str _) .nil,vj (mW<|q19.mono sm)<|.cons (.str _)<|.cons (.str _) .nil,?_]);have:(!decide (pJ x=pJ q3))=decide (x≠q3):=by
       rw[rh];simp[pJ,Prod.ext_iff]
      rw[mU rfl,this];show hR
     have u:=Q5.trans s20;show .mk D2 _ _ _ _ _ _ _ _ _ _ _ (K8.trans u) (p18.mono u) (j18.mono u) f20 ((R7.join (Zys R7.net.ond hqd) hqk).mono (by lia) (by lia)) ((K8.trans Q5).free z8) (let⟨_,y,_⟩:=p18;oM (Ze (Q5.at y) z8)) (let⟨_,y,_⟩:=j18;oM (Ze (Q5.at y) z8))
    ·show .mk rm _ _ _ _ _ _ _ _ _ _ _ (s015.trans p) (p15.mono p) (j15.mono p) #[rs,p.at M,nK L λ_ _ r=>r.mono p] (R7.mono (by lia)<|by lia) frm nmp nmj
   ·show .mk rm _ _ _ _ _ _ _ _ _ _ _ (s015.trans p) (p15.mono p) (j15.mono p) #[rs,p.at M,nK L λ_ _ r=>r.mono p] (R7.mono (by lia)<|by lia) frm nmp nmj
  ·rintro z H4 ⟨rl,o4,o5,o6,o7,o8,o9,z9,C4,ps,js,Zs,s4,u0,A1,P7,l,frl,d,Y⟩;rw[mK]at l;have M:=l.sum;have L:=l.jl;refine mM (Z3<|Zy (Zm5 T) hr<|Zb (pv 1)<|Zb (pv 2)<|Zb (pv 3)<|Zb (Z4 (Zzf rfl) (by rfl) T.jF PyProof.Rows.boot_sum<|Zb (pv 0) Za) Za) #[cl,cs,rfl,s4.seq y7,e,g,rl,zD cs,ps,js,Zs,rfl,u0,A1,P7,npj,d,Y,by lia,by lia,by lia,λH5 J p I r n x=>?_];have u:=l.done (by lia) x;have hnl:J.length=Zs.length:=by obtain⟨G,hk1,V7,hk3,N⟩:=x;rw[hk3,mK,AB]
   refine mP (Zl<|Zi<|Zb (pv 1)<|Zb (pv 2) Za) #[mQ,λt H6 s6 n6 e6=>q t H6 e g _ _ 0 (λb o y=>s6.at<|I b o (Ze y fp) (Ze y fj)<|s4.at y) e6 (r.mono s6) (n.mono s6) fp fj u ?_ ?_]
   ·rw[nX];lia
   ·intro p C;rcases oj.mp C with y|y
    ·obtain⟨U,h1,c,k,B,j⟩:=l.nm p y;show .inl #[U,h1,c,k,by lia,j]
    ·obtain⟨G,hk1,V7,hk3,N⟩:=x;rw[hk3]at y;obtain⟨j,B,rfl⟩:=mX.mp y;show .inr #[j,by have:=yB.mp B;lia,rfl]
def rf(n k:Nat):lR:=("s":lR)++Str.ofString (toString (n:Int))++(#[(List.toArray [qG.getD (k / 26) 0])]:lR)++(#[(List.toArray [qG.getD (k%26) 0])]:lR)
def EF:∀i<26,qG.getD i 0=97+i:=by lk
def EK(n k:Nat):(rf n k).cps.toList=(("s":lR)++Str.ofString (toString (n:Int))).cps.toList++[qG.getD (k / 26) 0]++[qG.getD (k%26) 0]:=by
 unfold rf;rw[yX,yX]
def RF(q:k<600)(u:z<600)(h:rf n k=rf p z):k=z:=by
 have:=oE (λs:lR=>s.cps.toList) h;simp only[EK]at this;obtain⟨r,y⟩:=List.append_inj' this rfl;obtain⟨_,x⟩:=List.append_inj' r rfl;rw[Bj]at y x;rw[EF _ (by lia),EF _<|by lia]at y x;lia
def Aj(H:Hp)(t:lS)(q:lR×lR×lR):Prop:=H t=some (.tup [.str q.1,.str q.2.1,.str q.2.2])
def uR(H:Hp)(l:lS)(y:lQ (lR×lR×lR)):Prop:=∃z:lQ lS,H l=some (.lst<|z.map V.ref)/\Paired (Aj H) z y
def Wg(ps:lQ Zh):lQ Zh:=ps.flatMap λp=>if p.1∈[("plain":lR),"gate","stop"]then(Yr p.1).map (λx=>(p.2,x))else[]
def Ss(ps:lQ Zh)(p:Zh):Wg (ps++[p])=Wg ps++(if p.1∈[("plain":lR),"gate","stop"]then(Yr p.1).map (λx=>(p.2,x))else[]):=by
 unfold Wg;rw[xR];simp
structure sk(es:List Zh)(i:Nat)(sg:List (Str×Str×Str)):Prop where
 at_:(sg.map λq=>((q.2.1,q.2.2):Zh)).Sublist (es.take i)
 name:∀q∈sg,q.1=q.2.1\/∃n k,n<99/\k<i/\q.1=rf n k
 nd:(sg.map fst).Nodup
 len:sg.length<=40
def sk.skip(h:sk y i x):sk y (i+1) x:=by
 refine#[h.at_.trans ?_,λq u=>?_,h.nd,h.len]
 ·rw[og];show QU _ _
 ·rcases h.name q u with z|⟨n,k,a,b,c⟩
  ·show .inl z
  ·show .inr #[n,k,a,by lia,c]
def sk.add(h:sk u i x)(he:u[i]? =some e)(s:nm=e.1\/∃n,n<99/\nm=rf n i)(r:nm∉x.map fst)(l:x.length<40):sk u (i+1) (x++[(nm,e.1,e.2)]):=by
 refine#[?_,λq p=>?_,?_,by rw[nX];simp;lia]
 ·rw[og,he,nj];show List.Sublist.append h.at_<|List.Sublist.refl _
 ·rcases oj.mp p with z|z
  ·show h.skip.name q z
  ·rw[oP]at z;subst z;rcases s with y|⟨n,a,b⟩
   ·show .inl y
   ·show .inr #[n,i,a,by lia,b]
 ·rw[nj,qk];refine#[h.nd,by simp,λa o b y z=>?_];simp at y;show r (by rw[<-y,<-z];show o)
def sk.fresh(h:sk y i s)(x:i<600)(r:∀n k e,e∈y->n<99->k<600->e.1≠rf n k)(p:n<99):rf n i∉s.map fst:=λo=>by
 obtain⟨q,u,e⟩:=mX.mp o;rcases h.name q u with z|⟨l,k,a,b,c⟩
 ·have:((q.2.1,q.2.2):Zh)∈y:=uX<|h.at_.subset<|mX.mpr #[q,u,rfl];show r n i _ this p x<|z.symm.trans e
 ·have:=RF x (by lia)<|e.symm.trans c;lia
def uR.mono(e:mC H H')(h:uR H l z):uR H' l z:=let⟨y,x,u⟩:=h;#[y,e.at x,nK u λ_ _ r=>e.at r]
inductive Lu(K:lW):Sp
 | mk (pl c) (ps:lQ Zh):vs=[.ref pl,.int c]->Zz H pl ps->ps.length<=45->(∀n k e,e∈Wg ps->n<99->k<600->e.1≠rf n k)->(∀(l:lS)(H':Hp)(sg:lQ (lR×lR×lR)),mC H H'->H l=none->uR H' l sg->sk (Wg ps) (Wg ps).length sg->Q (.ref l) H')->Lu K vs H Q E
def BH(k:lR):(Yr k).length<=4:=by
 unfold Yr;split
 ·decide
 ·split
  ·decide
  ·split<;>decide
theorem Cn:∀ps:lQ Zh,(Wg ps).length<=4 * ps.length
 | []=>by simp[Wg]
 | p ::ps=>by
  have:=Cn ps;have z:=BH p.1;rw[show Wg (p ::ps)=(if p.1∈[("plain":lR),"gate","stop"]then(Yr p.1).map (λx=>((p.2,x):Zh))else[])++Wg ps from rfl,nX,pE];split
  ·rw[mK];lia
  ·simp;lia
def Jb:∀n<99,(Str.ofString<|toString ((n:Nat):Int)).length<=2:=by left
def Ydg:∀n<99,(((n:Nat):Int).natAbs).log2<1920:=by left
def Sq:T.cT.O P w mg mD 2 (Lu K):=by
 refine T.cT.F.okW Yc ?_;rfl'
 ·obtain⟨pl,c,d,rfl,⟨ts,m9,U4⟩,x,w9,q⟩:=h;intro X D;have E3:ts.length=d.length:=nH U4;refine mM (mY 2 Yc Zg) ?_;refine mM (mY 3 Yc<|Zm Za) #[mQ,λl0 x s1 u e1=>?_];let I4:IF:=λi z a=>∃le,(∃o4 B o6,z=[some (.ref pl),some<|.int c,some<|.str "abcdefghijklmnopqrstuvwxyz",some<|.ref le,o4,B,o6,none,none,none,none])/\mC H a/\Zz a le (Wg<|d.take i)
  refine mM (Yw oO rfl (Ya<|pv 0) (rE rfl<|Zu (nZ 4 Yc)<|Zu (nZ 5 Yc) Xd) Zn) #[mO<|s1.at m9,Xm (xs:=ts.map V.ref) I4 #[l0,#[none,none,none,rfl],s1,[],e1,.nil] ?_ ?_ ?_]
  ·rintro i z a _ ⟨_,_,sm,_⟩;show mO<|sm.at m9
  ·rintro i v z H2 hi ⟨le,⟨o4,B,o6,rfl⟩,I,Y,G9,U⟩;rw[nJ]at hi;obtain⟨t,g,rfl⟩:=nR.mp hi;obtain⟨p,J,rp⟩:=pj U4 g;have C3:i<ts.length:=(oo.mp g).1;have N:=Cn<|d.take i;rw[oh]at N;have P9:Y.length=(Wg<|d.take i).length:=nH U;have u:Wg (d.take<|i+1)=Wg (d.take i)++(if p.1∈[("plain":lR),"gate","stop"]then(Yr p.1).map (λx=>((p.2,x):Zh))else[]):=by
    rw[og,J];show Ss _ _
   refine#[mW<|I.at rp,rfl,rfl,?_];refine mP (Zv (xI hr (pv 4)<|Zm<|Zb Zg<|Zb Zg<|Zb Zg Za) Zn Zk) #[mQ,λlk H3 G n3 e3=>.inl #[.inl<|mO e3,rfl,rfl,?_]];rw[mT oU,show ur (.str p.1) [.str "plain",.str "gate",.str "stop"]=decide (p.1∈[("plain":lR),"gate","stop"])from wB p.1 ["plain","gate","stop"]];refine Yh (λo=>?_) λo=>#[le,#[_,_,_,rfl],I.trans G,?_]
   ·have o:=pq o;rw[mU o]at u;refine mP (mY 3 Yc<|Zp Wm (pv 3)<|pF ["_law_end","_law_name"] (oR 1 [5] rfl) (Ya<|Zy (Mz T) hr<|Zb (pv 4) Za) (oA 0) Wb (Zi<|Zb (pv 1)<|Zb (pv 0) Za)) #[p.1,rfl,λx H4 C n e=>#[mO e,λD hD=>?_]];have P6:=BH p.1;refine LL (xs:=Yr p.1) (x:=p.2) e (by lia) hD (λH5 s5 f5=>?qq) ?aa ?bb
    case aa=>rfl
    case bb=>rfl
    case qq =>
     obtain⟨vs,hv,L⟩:=f5;have J7:vs.length=(Yr p.1).length:=by rw[nH L,mK]
     have x:=G.trans<|C.trans s5;refine .inr<|.inr #[x.at G9,hv,by rw[mK,mK];show sz (by lia),λln H6 n n6 e6=>#[ln,#[_,_,_,rfl],I.trans<|x.trans n,?_]];rw[u];show#[Y++vs,by rw[e6,nj],pM (nK U λ_ _ r=>(x.trans n).at r)<|nK L λ_ _ r=>n.at r]
   ·have o:¬p.1∈[("plain":lR),"gate","stop"]:=λy=>o<|nS y
    rw[u,mT o,pH];show Zz.mono G #[Y,G9,U]
  rintro z H2 ⟨le,⟨o4,B,o6,rfl⟩,I,hE⟩;rw[mK,E3,oJ]at hE;obtain⟨Y,G9,U⟩:=hE;have N:=Cn d;have P9:Y.length=(Wg d).length:=nH U;obtain⟨es,A4⟩:∃es,es=Wg d:=#[_,rfl]
  rw[<-A4]at U P9 w9 q N;refine mM (mY 7 Yc<|Zm Za) #[mQ,λlf H3 G n3 e3=>?_];let I5:IF:=λi z a=>(∃B o6 o8 o9 z9,z=[some (.ref pl),some<|.int c,some<|.str "abcdefghijklmnopqrstuvwxyz",some<|.ref le,o4,B,o6,some<|.ref lf,o8,o9,z9])/\mC H2 a/\∃j,uR a lf j/\sk es i j
  refine mM (Yw oO rfl (xz rfl T.bS<|Zb (pv 3) Za) (rE rfl<|Zu (nZ 8 Yc)<|Zu (nZ 6 Yc) Xd) Zn) #[mO<|G.at G9,yi (xs:=Y.map V.ref) I5 #[#[_,_,none,none,none,rfl],G,[],#[[],e3,.nil],#[DK _,(λ_ y=>nomatch y),tw,sH _]] ?_ ?_ ?_]
  ·rintro i z a _ ⟨_,sm,_⟩;show mO<|sm.at G9
  ·rintro i x' z H4 hi ⟨⟨o5',o6',o8,o9,z9,rfl⟩,C,j,M,ok⟩ p H5 s5 n5 e5;rw[nJ]at hi;obtain⟨te,N4,rfl⟩:=nR.mp hi;obtain⟨e,he,re⟩:=pj U N4;have C3:i<Y.length:=(oo.mp N4).1;have L:i<600:=by lia
   refine#[mW e5,rfl,rfl,?_];have re5:Zt H5 te e:=s5.at<|C.at re;obtain⟨gs,g,J⟩:=M.mono s5;have hgl:gs.length=j.length:=nH J;have B6:=C.trans s5;refine mM (mY 9 Yc<|Xy (W0 T) hr rfl T.aj.m T.aj.F.kp T.aj.b .nil Z0<|Zb (pv 1)<|Zb (pv 8) Za) #[c,_,rfl,?_];generalize sV c ((i:Nat):Int)=dr;have skip:∃j,uR H5 lf j/\sk es (i+1) j:=#[j,#[gs,g,J],ok.skip]
   refine mP (Zv (qj<|wY (Yf vU (Zp Yl (pv 9) Zf) (Zp Yl (pv 1) Zf)<|Yn _)<|yU<|Yf xb (pp T.aX<|pv 7) Zf<|Yn _) Zn Zk) #[(by change(0:Int)<8;decide),(by change(0:Int)<7;decide),Yh (λ_=>(.inl #[.inl<|mO g,Yh (λhl=>?_) λ_=>#[#[_,_,_,_,_,rfl],B6,skip]])) λ_=>#[#[_,_,_,_,_,rfl],B6,skip]];have hl:j.length<40:=by
    have:=pq hl;rw[mK]at this;lia
   have m0:=pY (dr / 8) (show(99:Int)≠0 by lk);have m1:=qg (dr / 8) (show(0:Int)<99 by lk);obtain⟨n,hn⟩:∃n:Nat,dr / 8%99=(n:Int):=#[(dr / 8%99).toNat,by lia]
   have u:n<99:=by lia
   have O3:=Jb n u;have j7:(("s":lR)++Str.ofString (toString (n:Int))).length<=3:=by rw[pU];change 1+_<=3;lia
   have a1:oH qG ((i:Int) / 26)=some (qG.getD (i / 26) 0):=by
    have:=Bi (n:=26) (l:=qG) (i:=(i:Int) / 26) rfl (by lia) (by lia);rw[show((i:Int) / 26).toNat=i / 26 by lia]at this;show this
   have a2:oH qG ((i:Int)%26)=some (qG.getD (i%26) 0):=by
    have:=Bi (n:=26) (l:=qG) (i:=(i:Int)%26) rfl (by lia) (by lia);rw[show((i:Int)%26).toNat=i%26 by lia]at this;show this
   refine mM (mY 10 Yc<|Zp Wm (ny (pv 2)<|Zp Yq (pv 8) Zf)<|ny (pv 2)<|Zp Yl (pv 8) Zf) #[#[by lk,by lk],.inr<|.inr #[_,_,qG.getD (i / 26) 0,rfl,rfl,sz (by rw[BF];decide),by rw[Cu];show a1,(by change(0:Int)<26;decide),.inr<|.inr #[_,_,qG.getD (i%26) 0,rfl,rfl,sz (by rw[BF];decide),by rw[Cu];show a2,.inr<|.inl<|vR rfl rfl #[sz (by change 1+1<=1000;lia),?_]]]];refine mP (Z3<|rO (pv 7)<|Zi<|Zb (Zp Wm (Zp Wm Zg<|Y0 By (by rfl) T.fh wI<|Zb (Zp Yl (Zp Yq (pv 9) Zf) Zf) Za)<|pv 10)<|Zb (ny (pv 6) Zf)<|Zb (ny (pv 6) Zf) Za) #[.inl #[rfl,_,mO g],#[by lk,by lk],(by change(0:Int)<99;decide),(n:Int),?_,Ydg n u,.inr<|.inl<|vR rfl rfl #[sz (by change 1+_<=1000;lia),.inr<|.inl<|vR rfl rfl #[sz (by change _+2<=1000;lia),.inr<|.inl #[mW re5,rfl,.inr<|.inl #[mW re5,rfl,mQ,λt H7 s7 x e7=>#[s7.at g,by rw[mK];show Zo (by lia),#[_,_,_,_,_,rfl],λb o y=>?_,j++[(rf n i,e.1,e.2)],#[gs++[t],?_,?_],ok.add he (.inr #[n,u,rfl]) (ok.fresh L w9 u) hl]]]]]]
   ·change[V.int (dr / 8%99)]=[V.int (n:Int)];rw[hn]
   ·rw[Zd (Ze y n3)];show s7.at<|B6.at y
   ·rw[Zc,nj];rfl
   ·have off:∀{b:lS}{o:lQ V},H7 b=some (.tup o)->(mJ H7 lf<|.lst<|gs.map V.ref++[V.ref t]) b=some (.tup o):=λ{b o} y=>by
     rw[Zd λx=>by rw[x,s7.at g]at y;cases y];show y
    show pM (nK J λ_ _ r=>off<|s7.at r)<|.cons (off e7) .nil
  ·rintro z H4 ⟨⟨o5',o6',o8,o9,z9,rfl⟩,C,j,M,ok⟩;refine mP (Zl<|pv 7)<|q lf H4 j (I.trans C) (I.free n3) M ?_;rw[mK,P9]at ok;show ok
def vw(s:lR):Nat:=s.cps.toList.getLastD 0
def Oz{x y:lR}(h:0<y.length):vw (x++y)=vw y:=by
 unfold vw;rw[yX];have:y.cps.toList≠[]:=λz=>by
  have:y.cps.toList.length=0:=by rw[z];rfl
  rw[tV]at this;show absurd h (by change ¬0<y.cps.size;lia)
 obtain⟨u,b,e⟩:=List.eq_nil_or_concat y.cps.toList|>.resolve_left this
 rw[e];simp
def Lr:∀k<100,vw (sF k)<58:=by left
def Ud{kd:lR}{c:Int}{k:Nat}(h:k<100):vw (Yt kd c k)<58:=by
 have z:=Lr k h;have y:=BW k h;unfold Yt;split<;>rw[Oz y]<;>show z
def Zzp{j:Nat}(h:j<100):vw (W9 j)<58:=by
 unfold W9;rw[Oz (BW j h)];show Lr j h
def Zy8{n k:Nat}:97<=vw (rf n k):=by
 unfold vw;rw[EK];have:=EF (k%26) (by lia);simp only[List.getLastD_concat];lia
def Ml{n k:Nat}:2<=(rf n k).cps.toList.length:=by
 rw[EK,nX,nX];simp
def Ycx{s:lR}{n k:Nat}(h:s ="g"\/s ="h"\/vw s<58):s≠rf n k:=λz=>by
 rcases h with rfl|rfl|h
 ·have:=@Ml n k;rw[<-z]at this;show absurd this (by lk)
 ·have:=@Ml n k;rw[<-z]at this;show absurd this (by lk)
 ·have:=@Zy8 n k;rw[<-z]at this;lia
def Yal{ps:lQ Zh}{e:Zh}(h:e∈Wg ps):∃p∈ps,e.1=p.2:=by
 unfold Wg at h;obtain⟨p,z,he⟩:=uj.mp h;refine#[p,z,?_];split at he
 ·obtain⟨x,_,rfl⟩:=mX.mp he;rfl
 ·cases he
def vE(s:lR):Prop:=s ="g"\/s ="h"\/vY s 63\/∃j,j<90/\s=W9 j
def vE.sig{s:lR}{n k:Nat}(h:vE s):s≠rf n k:=by
 refine Ycx ?_;rcases h with h|h|⟨y,c,j,_,z,rfl⟩|⟨j,z,rfl⟩
 ·show .inl h
 ·show .inr<|.inl h
 ·show .inr (.inr<|Ud<|by lia)
 ·show .inr (.inr<|Zzp<|by lia)
def Dx(p:Zh):Prop:=p=((("gate":lR),("g":lR)):Zh)\/p=((("gate":lR),("h":lR)):Zh)\/vY p.2 63\/∃j,j<90/\p.2=W9 j
def Dx.nm{p:Zh}(h:Dx p):vE p.2:=by
 rcases h with rfl|rfl|h|h
 ·show .inl rfl
 ·show .inr<|.inl rfl
 ·show .inr<|.inr<|.inl h
 ·show .inr<|.inr<|.inr h
structure zN(ps:List Zh)(js:List (Zh×Zh))(sg:List (Str×Str×Str)):Prop where
 net:Net ps js []
 len:ps.length<=39
 name:∀p∈ps,Dx p
 sigs:∃N5,N5.Perm ps/\sk (Wg N5) (Wg N5).length sg
def Net.perm'(h:Net ps s [])(z:r.Perm ps)(u:y.Perm s):Net r y []:=by
 obtain⟨a,b,c,d⟩:=h;rw[pH]at a;refine#[?_,(z.map _).nodup_iff.mpr b,λj x=>c j<|u.mem_iff.mp x,λp x=>d p<|z.mem_iff.mp x];rw[pH];show((u.flatMap_right _).trans a).trans (z.flatMap_right _).symm
def Yh2(h:vY s n)(l:n<=m):vY s m:=let⟨z,c,k,a,b,e⟩:=h;#[z,c,k,a,by lia,e]
def SG(h:GR s n):vY s n:=by
 obtain⟨z,y,c,k,a,e⟩:=h;refine#[z,c,k,?_,a,e];have:∀z∈qp,96<z.cps.toList.getD 0 0/\z.cps.toList.getD 0 0<123:=by left
 show this z y
def Ybn{z y:Type}{R:z->y->Prop}{x:lQ z}{u:lQ y}(h:Paired R x u):Paired R x.reverse u.reverse:=by
 induction h with
 | nil=>show .nil
 | cons r _ s=>rw[BQ,BQ];show pM s<|.cons r .nil
theorem KZ{z y:Type}{R:z->y->Prop}:∀(n:Nat){x:lQ z}{u:lQ y},Paired R x u->Paired R (x.drop n) (u.drop n)
 | 0,_,_,h=>h
 | _+1,_,_,.nil=>.nil
 | n+1,_,_,.cons _ t=>KZ n t
theorem CI{z y:Type}{R:z->y->Prop}:∀(n:Nat){x:lQ z}{u:lQ y},Paired R x u->Paired R (x.take n) (u.take n)
 | 0,_,_,_=>.nil
 | _+1,_,_,.nil=>.nil
 | n+1,_,_,.cons r t=>.cons r<|CI n t
inductive Ma(K:lW):Sp
 | mk (cl c) (cs:lQ Int):vs=[.ref cl,.int c]->SqL K H cl (cs.map V.int)->(∀c∈cs,0<=c)->cs.length<=63->(∀(t pl jl sl:lS)(H':Hp)(ps:lQ Zh)(js:lQ (Zh×Zh)) (sg:lQ (lR×lR×lR)),mC H H'->H' t=some (.tup [.ref pl,.ref jl,.ref sl])->Zz H' pl ps->Yp H' jl js->uR H' sl sg->zN ps js sg->Q (.ref t) H')->Ma K vs H Q E
def Sv:T.dA.O P w mg mD 4 (Ma K):=by
 refine T.dA.F.okW Xl ?_;rfl'
 ·obtain⟨cl,c,cs,rfl,hS,hc0,y7,q⟩:=h;intro X D;refine mM (mY 2 Xl<|Zy (Zql T) hr<|Zb (pv 0) Za) #[cl,cs,rfl,hS,hc0,λt H1 o j x i G C M L n1 n2 net len nm=>?_];let I6:IC:=λz J=>∃t o j x i,z=[some (.ref cl),some<|.int c,some<|.ref t,none,none,none]/\mC H J/\J t=some (.tup [.ref o,.ref j])/\Zz J o x/\Yp J j i/\Net x i []/\x.length<=39/\∀p∈x,Dx p
  refine pL I6 ?_ ?_
  ·refine pN (Zv (oZ hr (Zp Yl (pv 1) Zf) Zf) Zn Zk) #[(by change(0:Int)<3;decide),.inl #[rfl,Yh (λ_=>?_) λ_=>#[t,o,j,x,i,rfl,G,C,M,L,net,by lia,λp I=>?_]]]
   ·refine mP (mY 2 Xl<|Zy (UY T) hr<|Zb (pv 0) Za) #[cl,cs,rfl,G.seq hS,hc0,y7,λt H2 o j x i _ N e2 M L _ _ net len nm=>#[t,o,j,x,i,rfl,G.trans N,e2,M,L,net,len,λp I=>?_]];rcases nm p I with y|y
    ·show .inr<|.inr<|.inl<|SG y
    ·show .inr<|.inr<|.inr y
   ·rcases nm p I with y|y|y
    ·show .inl y
    ·show .inr<|.inl y
    ·show .inr (.inr<|.inl<|Yh2 y<|by lk)
  clear C M L n1 n2 net len nm G;rintro z H1 ⟨t,o,j,x,i,rfl,G,C,M,L,net,len,nm⟩;refine mM (MV (pv 2)<|rE rfl<|Zu (nZ 3 Xl)<|Zu (nZ 4 Xl) Xd) #[mW C,rfl,rfl,?_];obtain⟨g,hu,w6⟩:=id M;have P9:g.length=x.length:=nH w6;obtain⟨B,hmx,hm1⟩:∃B:Int,(if((g.map V.ref).length:Int)>1 then((g.map V.ref).length:Int)else 1)=B/\0<B:=by
   refine(pz rfl ?_);split<;>lia
  have a0:=pY (c / 3) (show B≠0 by lia);obtain⟨u,D3⟩:∃k:Nat,c / 3%B=(k:Int):=#[(c / 3%B).toNat,by lia]
  refine mM (mY 5 Xl<|Zp Yl (Zp Yq (pv 1) Zf)<|Z4 (Lo rfl) (by rfl) T.jd QD<|Zb Zf<|Zb (pp T.aX<|pv 3) Za) #[#[by lk,by lk],.inl #[.inl<|mO hu,_,_,rfl,?_,?_]]
  ·change(0:Int)<(if((g.map V.ref).length:Int)>1 then((g.map V.ref).length:Int)else 1);rw[hmx];show hm1
  change WSs _ _ _ [some (.ref cl),some<|.int c,some<|.ref t,some<|.ref o,some<|.ref j,some<|.int<|c / 3%(if((g.map V.ref).length:Int)>1 then((g.map V.ref).length:Int)else 1)] H1;rw[hmx,D3];let I7:IC:=λz J=>∃d a,z=[some (.ref cl),some<|.int c,some<|.ref t,some<|.ref o,some<|.ref d,some<|.int (u:Int)]/\mC H1 J/\Yp J d a/\a.Perm i
  refine pL I7 ?_ ?_
  ·obtain⟨n,e,y⟩:=id L;refine pN (Zv (oZ hr (Zp Yl (Zp Yq (pv 1) Zf) Zf) Zf) Zn Zk) #[#[by lk,by lk],(by change(0:Int)<2;decide),.inl #[rfl,Yh (λ_=>?_) λ_=>#[j,i,rfl,qc _,L,qh _]]];refine mP (mY 4 Xl<|Yfe (ops:=λl r=>[l,r]) (pv 4) (Xw<|zZ An Zf) λ_ _=>by with_unfolding_all rfl) #[j,_,rfl,rfl,mO e,λl H2 N n2 e2=>#[l,i.reverse,rfl,N,#[n.reverse,by rw[e2,List.map_reverse],?_],BA _]];show Ybn<|nK y λ_ _ r=>r.mono N
  rintro z H2 ⟨d,a,rfl,N,hJ',hjp⟩;refine mP (Zl<|Zi<|Zb (Zp Wm (Xq (r:=qN K) qZ (pv 3) (Xw<|pv 5) Wl)<|Xq (r:=qN K) qZ (pv 3) Wl<|Xw<|pv 5)<|Zb (pv 4)<|Zb (Zy (Sq T) hr<|Zb (pv 3)<|Zb (Zp Yq (pv 1) Zf) Za) Za)<|.inr<|.inl #[mO<|N.at hu,λl e s3 n3 y=>(.inr<|.inl #[mO<|s3.at<|N.at hu,λlb H4 s4 n4 n=>.inr<|.inr #[s4.at y,n,?_,λlc H5 s5 n5 e5=>?_]])]
  ·rw[wA,yA,sP,oh,mK];show sz (by lia)
  have B6:=s3.trans<|s4.trans s5;have B3:=N.trans B6;refine#[#[by lk,by lk],o,_,x,rfl,M.mono B3,by lia,λn k e he _ _=>?_,λsl y sg s6 l hG ok=>#[mQ,λt' H7 s7 n7 e7=>?_]]
  ·obtain⟨p,I,C⟩:=Yal he;rw[C];show vE.sig (nm p I).nm
  rw[wA,yA,<-wE,<-tH,<-nj]at e5;have Y:=s6.trans s7;have U:(x.drop u++x.take u).Perm x:=by
   have:=vX (l₁:=x.drop u) (l₂:=x.take u);rwa[xr]at this
  refine q t' lc d sl H7 (x.drop u++x.take u) a sg (G.trans<|B3.trans Y) e7 #[g.drop u++g.take u,Y.at e5,?_] (hJ'.mono<|B6.trans Y) (hG.mono s7) #[Net.perm' net U hjp,?_,λp I=>nm p<|U.mem_iff.mp I,#[x,U.symm,ok]]
  ·have:=nK w6 λ_ _ r=>Zt.mono (B3.trans Y) r
   show pM (KZ _ this)<|CI _ this
  ·rw[U.length_eq];show len
def rZ(c:Nat):Bool:=decide (97<=c) && decide (c<=122)
def qd(c:Nat):Bool:=rZ c || (decide (48<=c) && decide (c<=57))
def Xn(s:lR):Prop:=1<=s.length/\s.length<=6/\rZ (s.cps.toList.headD 0)=true/\s.cps.toList.all qd=true
def CV:∀k<100,(sF k).cps.toList.all qd=true:=by left
def FQ:∀i<26,rZ (qG.getD i 0)=true:=by lk
def Ye2(h:rZ c=true):qd c=true:=by unfold qd;rw[h];rfl
def wz{x y:lR}(z:x.cps.toList.all qd=true)(u:y.cps.toList.all qd=true):(x++y).cps.toList.all qd=true:=by
 rw[yX,List.all_append,z,u];rfl
def wJ{x y:lR}(h:0<x.length):(x++y).cps.toList.headD 0=x.cps.toList.headD 0:=by
 rw[yX];cases e:x.cps.toList with
 | nil =>
  have:x.cps.size=0:=by rw[<-tV,e];rfl
  show absurd h (by change ¬0<x.cps.size;lia)
 | cons a l=>rfl
def Az(h:rZ c=true):(#[(List.toArray [c])]:lR).cps.toList.all qd=true:=by
 change([c]:lQ Nat).all qd=true;simp[Ye2 h]
def VH{j:Nat}(h:j<100):Xn (W9 j):=by
 have z:=CY j h;have y:=BW j h;unfold W9;refine#[?_,?_,?_,wz (by left)<|CV j h]
 ·rw[pU];lia
 ·rw[pU,show("e":lR).length=1 by left];lia
 ·rw[wJ (by left)];decide +kernel
def Ydr{n k:Nat}(y:n<99)(q:k<600):Xn (rf n k):=by
 have p:=Jb n y;have x:=FQ (k / 26) (by lia);have u:=FQ (k%26) (by lia);have z:("s":lR).length=1:=by left
 have s:0<(("s":lR)++Str.ofString (toString (n:Int))).length:=by rw[pU,z];lia
 have r:(Str.ofString<|toString (n:Int)).cps.toList.all qd=true:=CV n (by lia);unfold rf;refine#[?_,?_,?_,wz (wz (wz (by left) r)<|Az x)<|Az u]
 ·rw[pU,pU];lia
 ·rw[pU,pU,pU,z];change 1+_+1+1<=6;lia
 ·rw[wJ (by rw[pU];lia),wJ s,wJ<|by rw[z];decide];decide +kernel
def XU:Xn "g":=#[by left,by left,by left,by left]
def Yjg:Xn "h":=#[by left,by left,by left,by left]
def Hv(z:0<=i)(y:i<26):rZ (sJ i)=true:=FQ i.toNat (by lia)
def VM:∀m<3,(rW "0" m).cps.toList.all qd=true:=by left
def XV{kd:lR}{c:Int}{k:Nat}(r:96<kd.cps.toList.getD 0 0/\kd.cps.toList.getD 0 0<123)(z:k<100):Xn (Yt kd c k):=by
 have q:=yq (kind:=kd) (c:=c) z;refine#[by lia,YG z,?_,?_]
 ·unfold Yt;split
  ·rw[wJ (by change 0<1;decide)];change rZ (kd.cps.toList.getD 0 0)=true;unfold rZ;simp only[qu,wo];lia
  ·have y:=pY (c / 3) (show(26:Int)≠0 by lk);have x:=qg (c / 3) (show(0:Int)<26 by lk);rw[wJ (by rw[pU,pU];change 0<1+1+_;lia),wJ (by rw[pU];change 0<1+1;decide),wJ<|by change 0<1;decide];show Hv y x
 ·unfold Yt;split
  ·refine wz (Az ?_)<|CV k z;unfold rZ;simp only[qu,wo];lia
  ·have y:=pY (c / 3) (show(26:Int)≠0 by lk);have x:=qg (c / 3) (show(0:Int)<26 by lk);have u:=pY (c / 78) (show(26:Int)≠0 by lk);have s:=qg (c / 78) (show(0:Int)<26 by lk);have p:=pY (c / 2028) (show(3:Int)≠0 by lk);have o:=qg (c / 2028) (show(0:Int)<3 by lk);show wz (wz (wz (Az<|Hv y x)<|Az<|Hv u s)<|VM _<|by lia)<|CV k z
def vE.ok(h:vE s):Xn s:=by
 rcases h with rfl|rfl|⟨x,c,j,z,y,rfl⟩|⟨j,y,rfl⟩
 ·show XU
 ·show Yjg
 ·show XV z (by lia)
 ·show VH (by lia)
def Ij(h:e∈Wg ps):∃p∈ps,e.1=p.2/\p.1∈[("plain":lR),"gate","stop"]/\e.2∈Yr p.1:=by
 unfold Wg at h;obtain⟨p,y,he⟩:=uj.mp h
 by_cases z:p.1∈[("plain":lR),"gate","stop"]
 ·rw[mU z]at he;obtain⟨x,u,rfl⟩:=mX.mp he;show#[p,y,rfl,z,u]
 ·rw[mT z]at he;cases he
def SQ(k:lR):(Yr k).Nodup:=by
 unfold Yr;split
 ·decide
 ·split
  ·decide
  ·split<;>decide
theorem JR:∀{ps:lQ Zh},(ps.map snd).Nodup->(Wg ps).Nodup
 | [],_=>tw
 | p ::ps,h=>by
  rw[nV,pS]at h;have u:=JR h.2;change((if p.1∈[("plain":lR),"gate","stop"]then(Yr p.1).map (λx=>((p.2,x):Zh))else[])++Wg ps).Nodup;refine qk.mpr #[?_,u,λa y b s e=>?_]
  ·split
   ·show Fm _ (λa b h z=>h (Prod.mk.inj z).2)<|SQ p.1
   ·show tw
  ·subst e;obtain⟨z,r,q,_⟩:=Ij s;split at y
   ·obtain⟨x,_,rfl⟩:=mX.mp y;show h.1<|mX.mpr #[z,r,q.symm]
   ·cases y
structure yO(ps:List Zh)(sg:List (Str×Str×Str)):Prop where
 name:∀q∈sg,Xn q.1
 nd:(sg.map fst).Nodup
 one:(sg.map snd).Nodup
 at_:∀q∈sg,∃p∈ps,p.2=q.2.1/\p.1∈[("plain":Str),"gate","stop"]/\q.2.2∈Yr p.1
 len:sg.length<=40
def sk.sigs(h:sk (Wg ps) (Wg ps).length u)(s:(ps.map snd).Nodup)(nm:∀p∈ps,vE p.2)(r:ps.length<=45):yO ps u:=by
 have sub:=h.at_;rw[oJ]at sub;have o:=Cn ps;have mem:∀q∈u,((q.2.1,q.2.2):Zh)∈Wg ps:=λq y=>sub.subset<|mX.mpr #[q,y,rfl]
 refine#[λq y=>?_,h.nd,List.Nodup.sublist sub<|JR s,λq y=>?_,h.len]
 ·rcases h.name q y with z|⟨n,k,a,b,c⟩
  ·obtain⟨p,x,e,_⟩:=Ij<|mem q y;rw[z,show q.2.1=p.2 from e];show vE.ok<|nm p x
  ·rw[c];show Ydr a (by lia)
 ·obtain⟨p,x,e,k,m⟩:=Ij<|mem q y;show#[p,x,e.symm,k,m]
def yO.perm(h:yO z y)(x:z.Perm ps):yO ps y :=
 #[h.name,h.nd,h.one,λq u=>let⟨p,a,b⟩:=h.at_ q u;#[p,x.mem_iff.mp a,b],h.len]
def zN.sigsV(h:zN ps u y):yO ps y:=by
 obtain⟨x,z,ok⟩:=h.sigs;show(ok.sigs ((z.map _).nodup_iff.mpr h.net.nd) (λp x=>(h.name p<|z.mem_iff.mp x).nm) (by rw[z.length_eq];have:=h.len;lia)).perm z
inductive ww(K:lW):Sp
 | mk (x C dx nm):vs=[.ref x,.str nm]->H x=some (.ins C dx [])->pP K C->mV K C "name"->Q .non (mJ H x<|.ins C dx [("name",.str nm)])->ww K vs H Q E
def Wf:T.ao.O P w mg mD 1 (ww K):=by
 refine T.ao.F.okA ?_;rfl'
 ·obtain⟨x,C,u,nm,rfl,z,c,y,q⟩:=h;intro X D;show mP (Wr (pv 0) (pv 1) rfl) #[z,c,y,by simp,q]
def qm(H:Hp)(C x:lS)(nm:lR):Prop:=∃z,H x=some (.ins C z [("name",.str nm)])
def yI(C:lS):lQ V->Hp->VK->Prop:=λy H Q=>∃nm:lR,y=[.str nm]/\∀x z,mC H z->H x=none->qm z C x nm->Q (.ref x) z
def AG(c:pP K C)(n:mV K C "name"):∀vs H Q,yI C vs H Q->∀x z,H x=none->H z=none->z≠x->ww K (.ref x ::(vs++[])) (mJ (mJ H z<|.own x) x<|.ins C z []) (λv u=>v=.non/\Q (.ref x) u) E0:=by
 rintro vs H Q ⟨nm,rfl,q⟩ x z y s r;refine#[x,C,z,nm,rfl,Zc,c,n,rfl,q x _ (λb o e=>?_) y #[z,Zc]];rw[Zd (Ze e y),Zd<|Ze e y,Zd<|Ze e s];show e
abbrev MD(T:Tx K mg):lQ V->Hp->VK->Prop:=yI T.bP
def XY:∀vs H Q,MD T vs H Q->∀x z,H x=none->H z=none->z≠x->ww K (.ref x ::(vs++[])) (mJ (mJ H z<|.own x) x<|.ins T.bP z []) (λv y=>v=.non/\Q (.ref x) y) E0:=AG T.ez T.ff
abbrev Pk(T:Tx K mg):lQ V->Hp->VK->Prop:=yI T.bv
def Ydf:∀vs H Q,Pk T vs H Q->∀x z,H x=none->H z=none->z≠x->ww K (.ref x ::(vs++[])) (mJ (mJ H z<|.own x) x<|.ins T.bv z []) (λv y=>v=.non/\Q (.ref x) y) E0:=AG T.fG T.fH
abbrev Qp(T:Tx K mg):lQ V->Hp->VK->Prop:=yI T.bw
def WJ:∀vs H Q,Qp T vs H Q->∀x z,H x=none->H z=none->z≠x->ww K (.ref x ::(vs++[])) (mJ (mJ H z<|.own x) x<|.ins T.bw z []) (λv y=>v=.non/\Q (.ref x) y) E0:=AG T.fJ T.fK
abbrev QP(T:Tx K mg):lQ V->Hp->VK->Prop:=yI T.aE
def SD:∀vs H Q,QP T vs H Q->∀x z,H x=none->H z=none->z≠x->ww K (.ref x ::(vs++[])) (mJ (mJ H z<|.own x) x<|.ins T.aE z []) (λv y=>v=.non/\Q (.ref x) y) E0:=AG T.dB T.eF
abbrev Po(T:Tx K mg):lQ V->Hp->VK->Prop:=yI T.bQ
def Tu:∀vs H Q,Po T vs H Q->∀x z,H x=none->H z=none->z≠x->ww K (.ref x ::(vs++[])) (mJ (mJ H z<|.own x) x<|.ins T.bQ z []) (λv y=>v=.non/\Q (.ref x) y) E0:=AG T.eG T.fg
def X9(k:lR)(C:lS):Prop:=(k ="points"/\C=T.aE)\/(k ="cross"/\C=T.bQ)\/(k ="gate"/\C=T.bw)\/(k ="stop"/\C=T.bv)\/(k ="plain"/\(C=T.cQ\/C=T.bP))
inductive QW:Sp
 | mk (k nm:lR):vs=[.str k,.str nm]->k∈qp->nm.length<=6->(∀(x C:lS)(H':Hp),mC H H'->H x=none->X9 T k C->qm H' C x nm->Q (.ref x) H')->QW vs H Q E
def VO:T.eW.O P w mg mD 3 (QW T):=by
 refine T.eW.F.okA ?_;rfl'
 ·obtain⟨k,nm,rfl,l,I,q⟩:=h;intro X D;let M:IC:=λz r=>z=[some (.str k),some<|.str nm]/\r=H/\k≠ "points"
  refine pL M ?_ ?_
  ·refine pN (Zv (oZ hr (pv 0) Zg) Zn Zk)<|.inl #[rfl,Yh (λu=>?_) λu=>#[rfl,rfl,λy=>u<|by rw[y];simp]];have u:k ="points":=V.str.inj<|pq u;show mP (Zl<|wy (QP T) T.iA (Wf T) hr.m rfl T.iq T.ao.b .nil Z0 (SD T)<|Zb (pv 1) Za) #[nm,rfl,λx r p n o=>q x _ r p n (.inl #[u,rfl]) o]
  rintro z G ⟨rfl,j,i⟩;rw[j];let L:IC:=λz r=>z=[some (.str k),some<|.str nm]/\r=H/\k≠ "cross"
  refine pL L ?_ ?_
  ·refine pN (Zv (oZ hr (pv 0) Zg) Zn Zk)<|.inl #[rfl,Yh (λu=>?_) λu=>#[rfl,rfl,λy=>u<|by rw[y];simp]];have u:k ="cross":=V.str.inj<|pq u;show mP (Zl<|wy (Po T) T.iN (Wf T) hr.m rfl T.ji T.ao.b .nil Z0 (Tu T)<|Zb (pv 1) Za) #[nm,rfl,λx r p n o=>q x _ r p n (.inr<|.inl #[u,rfl]) o]
  rintro z C ⟨rfl,g,e⟩;rw[g];let d:IC:=λz r=>z=[some (.str k),some<|.str nm]/\r=H/\k≠ "gate"
  refine pL d ?_ ?_
  ·refine pN (Zv (oZ hr (pv 0) Zg) Zn Zk)<|.inl #[rfl,Yh (λu=>?_) λu=>#[rfl,rfl,λy=>u<|by rw[y];simp]];have u:k ="gate":=V.str.inj<|pq u;show mP (Zl<|wy (Qp T) T.jh (Wf T) hr.m rfl T.jb T.ao.b .nil Z0 (WJ T)<|Zb (pv 1) Za) #[nm,rfl,λx r p n o=>q x _ r p n (.inr<|.inr<|.inl #[u,rfl]) o]
  rintro z B ⟨rfl,c,a⟩;rw[c];let Y:IC:=λz r=>z=[some (.str k),some<|.str nm]/\r=H/\k≠ "stop"
  refine pL Y ?_ ?_
  ·refine pN (Zv (oZ hr (pv 0) Zg) Zn Zk)<|.inl #[rfl,Yh (λu=>?_) λu=>#[rfl,rfl,λy=>u<|by rw[y];simp]];have u:k ="stop":=V.str.inj<|pq u;show mP (Zl<|wy (Pk T) T.jg (Wf T) hr.m rfl T.ja T.ao.b .nil Z0 (Ydf T)<|Zb (pv 1) Za) #[nm,rfl,λx r p n o=>q x _ r p n (.inr<|.inr<|.inr<|.inl #[u,rfl]) o]
  rintro z H4 ⟨rfl,U,N⟩;rw[U];have J:k ="plain":=by
   unfold qp at l;simp only[nU,uI,uO]at l;rcases l with y|y|y|y|y
   ·show y
   ·show absurd y i
   ·show absurd y e
   ·show absurd y a
   ·show absurd y N
  show mP (Zl<|wy (MD T) T.iM (Wf T) hr.m rfl T.jf T.ao.b .nil Z0 (XY T)<|Zb (pv 1) Za) #[nm,rfl,λx r p n o=>q x _ r p n (.inr<|.inr<|.inr<|.inr #[J,.inr rfl]) o]
section
variable {α β κ:Type} [DecidableEq κ] {f:α->κ} {R R':α->β->V->Prop} {kvs:lQ (κ×V)}
def DP(f:α->κ)(R:α->β->V->Prop)(kvs:lQ (κ×V))(qs:lQ (α×β)):Prop:=Paired (λ(z:κ×V) (q:α×β)=>z.1=f q.1/\R q.1 q.2 z.2) kvs qs
def DP.none(h:DP f R kvs qs)(inj:∀a b,f a=f b->a=b){a:α}(n:a∉qs.map fst):Y8 kvs (f a)=none:=by
 unfold DP at h
 induction h with
 | nil=>rfl
 | cons r t y =>
  rw[nV,nU,not_or]at n;rw[wG (λz=>n.1 (inj _ _<|r.1.symm.trans z).symm)];show y n.2
def DP.get(h:DP f R kvs qs)(inj:∀a b,f a=f b->a=b)(y:(qs.map fst).Nodup){a:α}{b:β}(m:(a,b)∈qs):∃v,Y8 kvs (f a)=some v/\R a b v:=by
 unfold DP at h
 induction h with
 | nil=>cases m
 | @cons u q _ _ r t x =>
  rw[nV,pS]at y;rcases nU.mp m with z|z
  ·rw[<-z]at r;show#[_,yJ r.1,r.2]
  ·have:a≠q.1:=λe=>y.1 (by rw[<-e];show mX.mpr #[_,z,rfl])
   rw[wG (λe=>this (inj _ _<|r.1.symm.trans e).symm)];show x y.2 z
def DP.put(h:DP f R kvs qs){a:α}{b:β}(n:Y8 kvs (f a)=Option.none)(r:R a b v):DP f R (Ws kvs (f a) v) (qs++[(a,b)]):=by
 rw[On v n];show DN h #[rfl,r]
def DP.len(h:DP f R kvs qs):kvs.length=qs.length:=nH h
def DP.mapR(h:DP f R kvs qs)(m:∀a b v,R a b v->R' a b v):DP f R' kvs qs:=nK h λ_ _ z=>#[z.1,m _ _ _ z.2]
def DP.keys(h:DP f R kvs qs):kvs.map fst=qs.map λq=>f q.1:=by
 unfold DP at h
 induction h with
 | nil=>rfl
 | cons r t z=>rw[nV,nV,z,r.1]
end
def Xg(e:Zh):lQ ng:=[.inr e.1,.inr e.2]
def uC(a b:Zh)(h:Xg a=Xg b):a=b:=by
 obtain⟨z,y⟩:=a;obtain⟨z,y⟩:=b;unfold Xg at h;simp only[Bj,Sum.inr.injEq,and_true]at h;rw[h.1,h.2]
def X5(s:lR):ng:=.inr s
def wT(a b:lR)(h:X5 a=X5 b):a=b:=vQ h
def qP(ps:lQ Zh):lQ (lR×lR):=ps.map λp=>(p.2,p.1)
def qA(ps:lQ Zh):lQ (Zh×lR):=ps.flatMap λp=>(Yr p.1).map λe=>((p.2,e),p.1)
def qJ(z:lQ (Zh×Zh)):lQ (Zh×Zh):=z.flatMap λj=>[(j.1,j.2),(j.2,j.1)]
def qS(z:lQ (lR×lR×lR)):lQ (lR×Zh):=z.map λq=>(q.1,(q.2.1,q.2.2))
def qO(z:lQ (lR×lR×lR)):lQ (Zh×lR):=z.map λq=>((q.2.1,q.2.2),q.1)
def EA(ps:lQ Zh):(qP ps).map fst=ps.map snd:=by unfold qP;rw[pi];rfl
def Dq(ps:lQ Zh):(qA ps).map fst=Yu ps:=by
 unfold qA Yu;rw[List.map_flatMap];simp only[pi]
 rfl
def uw(z:lQ (Zh×Zh)):(qJ z).map fst=Xv z:=by
 unfold qJ Xv;rw[List.map_flatMap]
 rfl
def Me(z:lQ (lR×lR×lR)):(qS z).map fst=z.map fst:=by unfold qS;rw[pi];rfl
def HR(z:lQ (lR×lR×lR)):(qO z).map fst=z.map snd:=by unfold qO;rw[pi];rfl
def RP(H:Hp):lR->lR->V->Prop:=λnm k v=>∃x C,v=.ref x/\X9 T k C/\qm H C x nm
def RA(H:Hp):Zh->lR->V->Prop:=λe k v=>∃x C,v=.ref x/\X9 T k C/\qm H C x e.1
def RJ(H:Hp):Zh->Zh->V->Prop:=λ_ e v=>∃t,v=.ref t/\Zt H t e
def RS(H:Hp):lR->Zh->V->Prop:=λ_ e v=>∃t,v=.ref t/\Zt H t e
def RO:Zh->lR->V->Prop:=λ_ s v=>v=.str s
def qm.mono(e:mC H H')(h:qm H C x nm):qm H' C x nm:=let⟨y,z⟩:=h;#[y,e.at z]
def RP.mono(e:mC H H')(a b:lR)(v:V)(h:RP U H a b v):RP U H' a b v:=let⟨x,C,z,y,u⟩:=h;#[x,C,z,y,u.mono e]
def RJ.mono(e:mC H H')(a b:Zh)(v:V)(h:RJ H a b v):RJ H' a b v:=let⟨t,z,y⟩:=h;#[t,z,y.mono e]
def RS.mono(e:mC H H')(a:lR)(b:Zh)(v:V)(h:RS H a b v):RS H' a b v:=let⟨t,z,y⟩:=h;#[t,z,y.mono e]
def MA(h:Zt H t e):H t=some (.tup<|(Xg e).map kV):=h
abbrev zA:lR :="abcdefghijklmnopqrstuvwxyz"
abbrev EU:lR :="0123456789"
def Ycl:∀c,c<128->(!(Builtin.Str.occurrences zA #[(List.toArray [c])] 0 zA.length 1).isEmpty)=rZ c:=by left
def Yi3:∀c,c<128->(!(Builtin.Str.occurrences (zA++EU) #[(List.toArray [c])] 0 (zA++EU).length 1).isEmpty)=qd c:=by left
def Zyh:zA.length+EU.length<=sizeLine:=by rw[tJ];decide +kernel
def Ju(h:qd c=true):c<128:=by
 unfold qd rZ at h;simp at h;lia
def As(x:lR):Bool:=(decide (1<=x.length) && decide (x.length<=6)) && (rZ (x.cps.toList.headD 0) && x.cps.toList.all qd)
def Xn.b(h:Xn x):As x=true:=by
 obtain⟨z,y,u,s⟩:=h;unfold As;rw[nS z,nS y,u,s]
 rfl
def Xn.low(h:Xn x):∀c∈x.cps.toList,c<128:=λc z=>Ju<|wj.mp h.2.2.2 c z
def CJ(K:lW)(H:Hp)(v:V)(b:Bool):Prop:=(∃x:lR,v=.str x/\(∀c∈x.cps.toList,c<128)/\x.length<=100/\As x=b)\/(b=false/\∃t,Xp K H v t/\kitOne K t (.type "str")=some false)
def Xn.asked(h:Xn x):CJ K H (.str x) true:=.inl #[x,rfl,h.low,by have:=h.2.1;lia,h.b]
inductive Qx(K:lW):Sp
 | mk (v) (b:Bool):vs=[v]->CJ K H v b->(∀H',mC H H'->Q (.bl b) H')->Qx K vs H Q E
def Ae:T.gi.O P w mg mD 1 (Qx K):=by
 refine T.gi.F.okA ?_;rfl'
 ·obtain⟨v,b,rfl,G,q⟩:=h;intro X D;rcases G with⟨x,rfl,y,z,a⟩|⟨rfl,t,C,k⟩
  ·have B:x.cps.toList.length=x.length:=tV;refine mM (Zv (Xc<|Ym<|ro "str" T.af T.fh wI<|pv 0) Zn Zk) #[Xp.str x,.inl<|pz rfl T.jU,?_];refine mM (Zv (qj<|qr (oZ hr (pv 0) Zg)<|sv<|Yf vU (pp T.aX<|pv 0) (W1 (by rfl) T.fS)<|Yn _) Zn Zk)<|.inl #[rfl,Yh (λz=>?_) λz0=>(.inr<|.inl #[x,rfl,sz (by lia),Yh (λz=>?_) λz1=>?_])]
   ·have e:x=("":lR):=V.str.inj<|pq z;have:b=false:=by rw[<-a,e];decide +kernel
    rw[this]at q;show mP (Zl qR)<|q H<|qc _
   ·have z:(6:Int)<(x.length:Int):=pq z;have:b=false:=by
     rw[<-a];unfold As;rw[om (show ¬x.length<=6 by lia),Bool.and_false]
     rfl
    rw[this]at q;show mP (Zl qR)<|q H<|qc _
   have h6:¬(6:Int)<(x.length:Int):=λz=>z1<|nS z
   have w9:x.cps.toList≠[]:=λz=>z0 (nS (by
    have:x=("":lR):=PyProof.Rows.ext_toList (z.trans<|by left);rw[this]))
   obtain⟨c,n,l⟩:∃c n,x.cps.toList=c ::n:=by
    cases e:x.cps.toList with
    | nil=>show absurd e w9
    | cons c n=>show#[c,n,rfl]
   have Y:1<=x.length:=by rw[<-B,l,pE];lia
   refine mP (Zl<|xq (GF hr (ny (pv 0) Zf)<|EI (by rfl) T.gx)<|xZ<|Z4 (r:=LU K) (Sz rfl) (by rfl) T.jG PyProof.Rows.boot_all<|Zb (pF ["sign"] (oR 1 [] rfl) (ZO<|pv 0) (oA 0) Wb (uT (r:=Cr K) (GX hr) (pv 0) (Zp Wm (EI (by rfl) T.gx)<|EI (by rfl) T.iw)<|by with_unfolding_all rfl)) Za)<|.inr<|.inr #[x,0,c,rfl,rfl,sz (by lia),by rw[l];show Zq (j:=0) rfl,.inr<|.inr<|.inl<|vR rfl rfl ?_];rw[Ycl c (y c (by rw[l];show ph))];have u:b=(rZ c && x.cps.toList.all qd):=by
    rw[<-a];unfold As;rw[nS Y,nS (show x.length<=6 by lia),l]
    rfl
   cases M:rZ c with
   | false =>
    refine ?_;rw[u,M]at q;show q H (qc _)
   | true =>
    rw[M,Bool.true_and]at u;refine#[x,rfl,?_,λD L=>?_]
    ·rw[Array.all_eq_true'];show λc d=>nS<|y c<|zM.mpr d
    refine VS (λi g p=>g=(x.cps.toList.take i).map (λc=>V.bl<|qd c)/\p D=some (.lst g)/\mC H p) #[rfl,Zc,λJ o e=>by rw[Zd (Ze e L)];show e] ?_ ?_
    ·rintro i d g p hi ⟨rfl,U,N⟩;have I:x.cps.toList[i]? =some d:=by simpa using hi
     have Q3:d<128:=y d<|pe I;refine#[oW rfl,.inr<|.inl #[_,_,rfl,rfl,Zyh,.inr<|.inr<|.inl #[_,_,rfl,rfl,U,?_,?_]]]
     ·rw[mK,oh,tJ];lia
     ·rw[Yi3 d Q3];refine#[?_,Zc,λJ o e=>?_]
      ·rw[og,I];simp
      ·rw[Zd (Ze e L)];show N J o e
    ·rintro g p ⟨rfl,U,N⟩;refine#[D,(x.cps.toList.map qd),rfl,?_,?_]
     ·have e:(List.map qd x.cps.toList).map V.bl=List.map (λc=>V.bl<|qd c) (List.take x.cps.size x.cps.toList):=by
       rw[pi,sK<|by simp]
       rfl
      rw[e];show mO U
     ·have e:(List.map qd x.cps.toList).all id=b:=by rw[List.all_map,u];rfl
      rw[e];show q p N
  ·refine mM (Zv (Xc<|Ym<|ro "str" T.af T.fh wI<|pv 0) Zn Zk) #[C,.inl<|pz rfl k,?_];show mP (Zl qR)<|q H<|qc _
inductive IR:Sp
 | mk (s d kvs):vs=[.str s,.ref d]->Xn s->H d=some (.dK kvs)->Y8 kvs (X5 s)=none->(∀H',mC H H'->Q .non H')->IR  vs H Q E
def BD:T.aF.O P w mg mD 2 IR:=by
 refine T.aF.F.okW OV ?_;rfl'
 ·obtain⟨x,d,u,rfl,r,hd,p,q⟩:=h;intro X D;refine mM (Zv (Xc<|Ym<|Zy (Ae T) hr<|Zb (pv 0) Za) Zn Zk) #[_,true,rfl,r.asked,λo y=>(?_)];refine mP (Zv (xI hr (pv 0)<|pv 1) Zn Zk)<|.inr<|.inl #[d,_,rfl,qB (k:=X5 x)<|y.at hd,Yh (λz=>?_) λ_=>q o y];rw[p]at z;show absurd z (by lk)
def wF(k:lR):lQ lR:=if k ="points" then["left","right"]else[""]
def BN(k z:lR):lQ (lR×lR):=if k ="points" then[("stem",z)]else if k ="cross" then[("a","b"),("c","d")]else if k ="plain" then[("a","b")]else[("","a")]
def Ga(k:lR):Bool:=decide<|k∈[("plain":lR),"gate","stop"]
def ye(e:lR):lQ (lR×lR)->lR
 | [] =>""
 | (one,two) ::r=>if e=one then two else if e=two then one else ye e r
def wk(k e z:lR):lR:=if z∈wF k then ye e (BN k z)else ""
def Yho(H:Hp)(p:lS)(l:lQ (lR×lR)):Prop:=∃z:lQ lS,H p=some (.lst<|z.map V.ref)/\Paired (λa (q:lR×lR)=>H a=some (.tup [.str q.1,.str q.2])) z l
inductive vi(xs:lQ V):Sp
 | mk (v):vs=[v]->(∀p H',mC H H'->H p=none->H' p=some (.lst xs)->Q (.ref p) H')->vi xs vs H Q E
inductive yV(f:lR->lQ (lR×lR)):Sp
 | mk (v C9):vs=[v,.str C9]->(∀p H',mC H H'->Yho H' p (f C9)->Q (.ref p) H')->yV f vs H Q E
inductive At(b:Bool):Sp
 | mk (v):vs=[v]->Q (.bl b) H->At b vs H Q E
def OD:T.cx.O P w mg mD 1 (vi<|(["a","b"]:lQ lR).map V.str):=by
 refine T.cx.F.okA ?_;rfl'
 ·obtain⟨v,rfl,k⟩:=h;intro X D;show mP (Zl<|Zm<|Zb Zg<|Zb Zg Za) #[mQ,k]
def Ai:T.aL.O P w mg mD 1 (vi<|([""]:lQ lR).map V.str):=by
 refine T.aL.F.okA ?_;rfl'
 ·obtain⟨v,rfl,k⟩:=h;intro X D;show mP (Zl<|Zm<|Zb Zg Za) #[mQ,k]
def Np:T.bV.O P w mg mD 1 (yV λy=>[("a","b")]):=by
 refine T.bV.F.okA ?_;rfl'
 ·obtain⟨v,y,rfl,k⟩:=h;intro X D;show mP (Zl<|Zm<|Zb (Zi<|Zb Zg<|Zb Zg Za) Za) #[mQ,λx n u l r=>#[mQ,λq p z j o=>k q p (u.trans z) #[[x],o,.cons (z.at r) .nil]]]
def CP:T.aQ.O P w mg mD 1 (At true):=by
 refine T.aQ.F.okA ?_;rfl'
 ·obtain⟨v,rfl,k⟩:=h;intro X D;show mP (Zl qR) k
def LW:T.cy.O P w mg mD 1 (vi<|(["a"]:lQ lR).map V.str):=by
 refine T.cy.F.okA ?_;rfl'
 ·obtain⟨v,rfl,k⟩:=h;intro X D;show mP (Zl<|Zm<|Zb Zg Za) #[mQ,k]
def Kr:T.bW.O P w mg mD 1 (yV λy=>[("","a")]):=by
 refine T.bW.F.okA ?_;rfl'
 ·obtain⟨v,y,rfl,k⟩:=h;intro X D;show mP (Zl<|Zm<|Zb (Zi<|Zb Zg<|Zb Zg Za) Za) #[mQ,λx n u l r=>#[mQ,λq p z j o=>k q p (u.trans z) #[[x],o,.cons (z.at r) .nil]]]
def Uf:T.cI.O P w mg mD 1 (vi<|(["stem","left","right"]:lQ lR).map V.str):=by
 refine T.cI.F.okA ?_;rfl'
 ·obtain⟨v,rfl,k⟩:=h;intro X D;show mP (Zl<|Zm<|Zb Zg<|Zb Zg<|Zb Zg Za) #[mQ,k]
def Zlr:T.cJ.O P w mg mD 1 (vi<|(["left","right"]:lQ lR).map V.str):=by
 refine T.cJ.F.okA ?_;rfl'
 ·obtain⟨v,rfl,k⟩:=h;intro X D;show mP (Zl<|Zm<|Zb Zg<|Zb Zg Za) #[mQ,k]
def TZ:T.cA.O P w mg mD 1 (yV λz=>[("stem",z)]):=by
 refine T.cA.F.okA ?_;rfl'
 ·obtain⟨v,z,rfl,k⟩:=h;intro X D;show mP (Zl<|Zm<|Zb (Zi<|Zb Zg<|Zb (pv 1) Za) Za) #[mQ,λx n u l r=>#[mQ,λq p y j o=>k q p (u.trans y) #[[x],o,.cons (y.at r) .nil]]]
def Zkg:T.cD.O P w mg mD 1 (At false):=by
 refine T.cD.F.okA ?_;rfl'
 ·obtain⟨v,rfl,k⟩:=h;intro X D;show mP (Zl qR) k
def YQ:T.cP.O P w mg mD 1 (vi<|(["a","b","c","d"]:lQ lR).map V.str):=by
 refine T.cP.F.okA ?_;rfl'
 ·obtain⟨v,rfl,k⟩:=h;intro X D;show mP (Zl<|Zm<|Zb Zg<|Zb Zg<|Zb Zg<|Zb Zg Za) #[mQ,k]
def Uy:T.cK.O P w mg mD 1 (yV λx=>[("a","b"),("c","d")]):=by
 refine T.cK.F.okA ?_;rfl'
 ·obtain⟨v,x,rfl,k⟩:=h;intro X D;show mP (Zl<|Zm<|Zb (Zi<|Zb Zg<|Zb Zg Za)<|Zb (Zi<|Zb Zg<|Zb Zg Za) Za) #[mQ,λu i r g q=>#[mQ,λp e y d o=>#[mQ,λn l z c j=>k n l (r.trans<|y.trans z) #[[u,p],j,.cons (z.at<|y.at q)<|.cons (z.at o) .nil]]]]
def UR:T.cL.O P w mg mD 1 (At false):=by
 refine T.cL.F.okA ?_;rfl'
 ·obtain⟨v,rfl,k⟩:=h;intro X D;show mP (Zl qR) k
def X9.ends{T:Tx K mg}{k:lR}{C:lS}(h:X9 T k C):∃f fd,Xb K C "ends" f/\qx K fd ["self"] []/\∀(P:md)(w:lZ)(mD:lY)(j:Nat),1<=j->Xs P w K mg mD oN j f fd ["self"] (vi<|(Yr k).map V.str):=by
 rcases h with⟨rfl,rfl⟩|⟨rfl,rfl⟩|⟨rfl,rfl⟩|⟨rfl,rfl⟩|⟨rfl,rfl|rfl⟩
 ·show#[_,_,T.fZ,T.cI.b,λP w mD j z=>(Uf T).mono z]
 ·show#[_,_,T.gK,T.cP.b,λP w mD j z=>(YQ T).mono z]
 ·show#[_,_,T.gY,T.cy.b,λP w mD j z=>(LW T).mono z]
 ·show#[_,_,T.gW,T.cy.b,λP w mD j z=>(LW T).mono z]
 ·show#[_,_,T.gU,T.cx.b,λP w mD j z=>(OD T).mono z]
 ·show#[_,_,T.gC,T.cx.b,λP w mD j z=>(OD T).mono z]
def X9.lies{T:Tx K mg}{k:lR}{C:lS}(h:X9 T k C):∃f fd,Xb K C "lies" f/\qx K fd ["self"] []/\∀(P:md)(w:lZ)(mD:lY)(j:Nat),1<=j->Xs P w K mg mD oN j f fd ["self"] (vi<|(wF k).map V.str):=by
 rcases h with⟨rfl,rfl⟩|⟨rfl,rfl⟩|⟨rfl,rfl⟩|⟨rfl,rfl⟩|⟨rfl,rfl|rfl⟩
 ·show#[_,_,T.gc,T.cJ.b,λP w mD j z=>(Zlr T).mono z]
 ·show#[_,_,T.gL,T.aL.b,λP w mD j z=>(Ai T).mono z]
 ·show#[_,_,T.gZ,T.aL.b,λP w mD j z=>(Ai T).mono z]
 ·show#[_,_,T.gX,T.aL.b,λP w mD j z=>(Ai T).mono z]
 ·show#[_,_,T.gV,T.aL.b,λP w mD j z=>(Ai T).mono z]
 ·show#[_,_,T.gD,T.aL.b,λP w mD j z=>(Ai T).mono z]
def X9.pairs{T:Tx K mg}{k:lR}{C:lS}(h:X9 T k C):∃f fd,Xb K C "pairs" f/\qx K fd ["self","lie"] []/\∀(P:md)(w:lZ)(mD:lY)(j:Nat),1<=j->Xs P w K mg mD oN j f fd ["self","lie"] (yV<|BN k):=by
 rcases h with⟨rfl,rfl⟩|⟨rfl,rfl⟩|⟨rfl,rfl⟩|⟨rfl,rfl⟩|⟨rfl,rfl|rfl⟩
 ·show#[_,_,T.fL,T.cA.b,λP w mD j z=>(TZ T).mono z]
 ·show#[_,_,T.ge,T.cK.b,λP w mD j z=>(Uy T).mono z]
 ·show#[_,_,T.gH,T.bW.b,λP w mD j z=>(Kr T).mono z]
 ·show#[_,_,T.gE,T.bW.b,λP w mD j z=>(Kr T).mono z]
 ·show#[_,_,T.gz,T.bV.b,λP w mD j z=>(Np T).mono z]
 ·show#[_,_,T.fW,T.bV.b,λP w mD j z=>(Np T).mono z]
def X9.bears{T:Tx K mg}{k:lR}{C:lS}(h:X9 T k C):∃f fd,Xb K C "bears" f/\qx K fd ["self"] []/\∀(P:md)(w:lZ)(mD:lY)(j:Nat),1<=j->Xs P w K mg mD oN j f fd ["self"] (At<|Ga k):=by
 rcases h with⟨rfl,rfl⟩|⟨rfl,rfl⟩|⟨rfl,rfl⟩|⟨rfl,rfl⟩|⟨rfl,rfl|rfl⟩
 ·show#[_,_,T.fM,T.cD.b,λP w mD j z=>(Zkg T).mono z]
 ·show#[_,_,T.gf,T.cL.b,λP w mD j z=>(UR T).mono z]
 ·show#[_,_,T.gI,T.aQ.b,λP w mD j z=>(CP T).mono z]
 ·show#[_,_,T.gF,T.aQ.b,λP w mD j z=>(CP T).mono z]
 ·show#[_,_,T.gA,T.aQ.b,λP w mD j z=>(CP T).mono z]
 ·show#[_,_,T.fX,T.aQ.b,λP w mD j z=>(CP T).mono z]
def X9.cls{T:Tx K mg}{k:lR}{C:lS}(h:X9 T k C):pP K C/\mV K C "name"/\Xb K C "leads" T.aO.f:=by
 rcases h with⟨rfl,rfl⟩|⟨rfl,rfl⟩|⟨rfl,rfl⟩|⟨rfl,rfl⟩|⟨rfl,rfl|rfl⟩
 ·show#[T.dB,T.eF,T.fN]
 ·show#[T.eG,T.fg,T.gh]
 ·show#[T.fJ,T.fK,T.gJ]
 ·show#[T.fG,T.fH,T.gG]
 ·show#[T.gy,T.ic,T.gB]
 ·show#[T.ez,T.ff,T.fY]
def X9.stop{T:Tx K mg}{k:lR}{C x:lS}{nm:lR}{H:Hp}(h:X9 T k C)(o:qm H C x nm):∃t,Xp K H (.ref x) t/\kitOne K t (.ref T.bv)=some (decide<|k ="gate"\/k ="stop"):=by
 obtain⟨z,o⟩:=o;rcases h with⟨rfl,rfl⟩|⟨rfl,rfl⟩|⟨rfl,rfl⟩|⟨rfl,rfl⟩|⟨rfl,rfl|rfl⟩
 ·show#[_,Xp.ins o T.dB T.fU T.tG T.tK T.fV,T.iU]
 ·show#[_,Xp.ins o T.eG T.gR T.tG T.tK T.gS,T.jp]
 ·show#[_,Xp.ins o T.fJ T.io T.tG T.tK T.ip,T.jJ]
 ·show#[_,Xp.ins o T.fG T.ik T.tG T.tK T.il,T.jI]
 ·show#[_,Xp.ins o T.gy T.ii T.tG T.tK T.ij,T.jH]
 ·show#[_,Xp.ins o T.ez T.gP T.tG T.tK T.gQ,T.jk]
inductive IW:Sp
 | mk (k a C nm e l):vs=[.ref a,.str e,.str l]->X9 T k C->qm H C a nm->(∀H',mC H H'->Q (.str<|wk k e l) H')->IW vs H Q E
def Znq:T.aO.O P w mg mD 2 (IW T):=by
 refine T.aO.F.okW Hn ?_;rfl'
 ·obtain⟨k,a,C,nm,e,l,rfl,j,⟨z,Y⟩,q⟩:=h;intro X D;obtain⟨z,y,B,b1,g1⟩:=j.lies;obtain⟨z,y,m2,b2,g2⟩:=j.pairs;have U:=j.cls.1;refine mM (Zv (uZ hr (pv 2) Ah) Zn Zk)<|sU (Y1 (pv 0) U B (g1 _ _ _ 1<|by lk) hr b1 .nil Z0) #[Y,rfl,_,rfl,λp H1 o y z=>.inl #[.inl<|mO z,rfl,Wq _,?_]];rw[mU rfl,wB];refine Yh (λu=>?_) λu=>?_
  ·have u:¬l∈wF k:=by simpa using u
   refine mP (Zl Zg) ?_;have:wk k e l ="":=by unfold wk;rw[mT u]
   rw[this]at q;show q H1 o
  ·have u:l∈wF k:=by simpa using u
   refine mM (Yw oO rfl (Ya Ah) (rE rfl<|Zu (nZ 3 Hn)<|Zu (nZ 4 Hn) Xd) Zn)<|sU (Yb (pv 0) U m2 (g2 _ _ _ 1<|by lk) hr b2 .nil Z0<|Zb (pv 2) Za) #[o.at Y,rfl,_,l,rfl,λy C g e2=>?_];obtain⟨N,M,L⟩:=e2;let d:IF:=λi z n=>(∃J I,z=[some (.ref a),some<|.str e,some<|.str l,J,I])/\mC C n/\ye e ((BN k l).drop i)=wk k e l
   refine#[mO M,Xm (xs:=N.map V.ref) d ?_ ?_ ?_ ?_]
   ·refine#[#[none,none,rfl],qc _,?_];unfold wk;rw[mU u]
    rfl
   ·rintro i z n _ ⟨_,p,_⟩;show mO<|p.at M
   ·rintro i x z n G ⟨⟨J,I,rfl⟩,p,r⟩;rw[nJ]at G;obtain⟨y,c,rfl⟩:=nR.mp G;obtain⟨⟨one,two⟩,hq,ht⟩:=pj L c;rw[GP hq]at r;refine#[mW<|p.at ht,rfl,rfl,?_];refine mM (Zv (oZ hr (pv 1)<|pv 3) Zn Zk)<|.inl #[rfl,Yh (λu=>?_) λu=>?_]
    ·have u:e=one:=V.str.inj<|pq u;refine mP (Zl<|pv 4) ?_;unfold ye at r;rw[mU u]at r;rw[<-r]at q;show q _<|o.trans<|g.trans p
    ·have u:¬e=one:=λy=>u (nS<|by rw[y])
     refine mP (Zv (oZ hr (pv 1)<|pv 4) Zn Zk)<|.inl #[rfl,Yh (λP3=>?_) λP3=>?_]
     ·have P3:e=two:=V.str.inj<|pq P3;refine mP (Zl<|pv 3) ?_;unfold ye at r;rw[mT u,mU P3]at r;rw[<-r]at q;show q _<|o.trans<|g.trans p
     ·have P3:¬e=two:=λy=>P3 (nS<|by rw[y])
      unfold ye at r;rw[mT u,mT P3]at r;show#[#[_,_,rfl],p,r]
   ·rintro z n ⟨_,p,r⟩;refine mP (Zl Zg) ?_;have y:(BN k l).drop (N.map V.ref).length=[]:=by rw[mK,nH L,BI]
    rw[y]at r;rw[<-r]at q;show q _<|o.trans<|g.trans p
def _root_.L2.mC.upd0(s:mC H H')(n:H d=none):mC H (mJ H' d o):=λb u e=>by rw[Zd (Ze e n)];show s.at e
def PO(H:Hp)(x:lS)(p:Zh):Prop:=∃C,X9 T p.1 C/\qm H C x p.2
def PO.mono(e:mC H H')(h:PO U H x p):PO U H' x p:=let⟨C,z,y⟩:=h;#[C,z,y.mono e]
inductive KQ:Sp
 | mk (l) (xs:lQ lS) (ps:lQ Zh):vs=[.ref l]->H l=some (.lst<|xs.map V.ref)->Paired (PO T H) xs ps->(ps.map snd).Nodup->(∀p∈ps,Xn p.2)->ps.length<=100->(∀(d:lS)(kvs:lQ (ng×V)) (H':Hp),mC H H'->H d=none->H' d=some (.dK kvs)->DP X5 (RP T H) kvs (qP ps)->Q (.ref d) H')->KQ vs H Q E
def RX:T.cZ.O P w mg mD 3 (KQ T):=by
 refine T.cZ.F.okW Hk ?_;rfl'
 ·obtain⟨l,xs,j,rfl,N,M,nd,nm,len,q⟩:=h;intro X D;have e:=nH M;refine mM (mY 1 Hk Xz) λd H1 L J e1=>?_
  let c:IF:=λi z a=>(∃o,z=[some (.ref l),some<|.ref d,o])/\mC H a/\∃y,a d=some (.dK y)/\DP X5 (RP T H) y (qP<|j.take i)
  refine mM (Yw oO rfl (Ya<|pv 0) (nZ 2 Hk) Zn) #[mO<|L.at N,Xm (K:=K) (xs:=xs.map V.ref) c #[#[none,rfl],L,[],e1,.nil] ?_ ?_ ?_]
  ·rintro i z a _ ⟨_,u,_⟩;show mO<|u.at N
  ·rintro i v z I G ⟨⟨o,rfl⟩,u,y,hd,r⟩;rw[nJ]at G;obtain⟨x,Y,rfl⟩:=nR.mp G;obtain⟨p,g,C,n,dx,U⟩:=pj M Y;have hm:p∈j:=pe g;have C3:=(oo.mp g).1;have B:Y8 y (X5 p.2)=none:=r.none wT (by
    rw[EA,tH];show xl nd<|by rw[nJ,g];rfl)
   have hkl:y.length<=100:=by
    have:=r.len;unfold qP at this;rw[mK,oh]at this;lia
   refine mM (Z3<|Zy (BD T) hr<|Zb (Z6 (pv 2) rfl)<|Zb (pv 1) Za) #[u.at U,n.cls.1,n.cls.2.1,rfl,p.2,d,y,rfl,nm p hm,hd,B,λH3 s3=>?_];have v6:=u.trans s3;refine mP (X6 (Ys hr) (pv 1) (Z6 (pv 2) rfl) (pv 2) rfl) #[v6.at U,n.cls.1,n.cls.2.1,rfl,sQ (k:=X5 p.2) (s3.at hd) (Zo<|by lia),#[_,rfl],v6.upd0 J,_,Zc,?_];have:qP (j.take<|i+1)=qP (j.take i)++[(p.2,p.1)]:=by
    unfold qP;rw[og,g,nj]
    rfl
   rw[this];show r.put B #[x,C,rfl,n,dx,U]
  ·rintro z I ⟨⟨o,rfl⟩,u,y,hd,r⟩;rw[mK,e,oJ]at r;show mP (Zl<|pv 1)<|q d y I u J hd r
def _root_.L2.mC.frz(s:mC H y):mC (mJ H d u) (mJ y d u):=λb o e=>by
 by_cases z:b=d
 ·rw[z,Zc]at e ⊢;show e
 ·rw[Zd z]at e ⊢;show s.at e
inductive NB:Sp
 | mk (d kvs) (ps:lQ Zh):vs=[.ref d]->H d=some (.dK kvs)->DP X5 (RP T H) kvs (qP ps)->(ps.map snd).Nodup->ps.length<=100->(∀(a:lS)(ka:lQ (lQ ng×V)) (H':Hp),mC H H'->H a=none->H' a=some (.dT ka)->DP Xg (RA T H) ka (qA ps)->Q (.ref a) H')->NB vs H Q E
def JX(ps:lQ Zh):(qA ps).length<=4 * ps.length:=by
 induction ps with
 | nil=>decide
 | cons p ps z =>
  have:=BH p.1;have e:qA (p ::ps)=(Yr p.1).map (λe=>((p.2,e),p.1))++qA ps:=rfl;rw[e,nX,mK,pE];lia
def Mc{ps:lQ Zh}{i:Nat}{p:Zh}(h:ps[i]? =some p):qA (ps.take<|i+1)=qA (ps.take i)++(Yr p.1).map λe=>((p.2,e),p.1):=by
 unfold qA;rw[og,h,xR];simp
def Vi:T.de.O P w mg mD 2 (NB T):=by
 refine T.de.F.okW Wi ?_;rfl'
 ·obtain⟨d,n,L,rfl,hd,hD,nd,len,q⟩:=h;intro X D;have hkl:n.length=L.length:=by have:=hD.len;unfold qP at this;rw[mK]at this;show this
  refine mM (mY 1 Wi Nb) λa H1 s1 B e1=>?_
  have U:a≠d:=λy=>by rw[y,hd]at B;cases B
  refine mM (zx<|Yw oO rfl (wV<|pv 0) (rE rfl<|Zu (nZ 2 Wi)<|Zu (nZ 3 Wi) Xd) Zn) #[s1.at hd,λo nf=>Dr (λi z Y=>(∃o2 o3 N,z=[some (.ref d),some<|.ref a,o2,o3,N])/\mC (mJ H d<|.frz o<|.dK n) Y/\∃l,Y a=some (.dT l)/\DP Xg (RA T H) l (qA<|L.take i)) #[#[none,none,none,rfl],s1.frz,[],by rw[Zd U];show e1,.nil] ?_ ?_ ?_]
  ·rintro i z Y _ ⟨_,J,_⟩;show J.at Zc
  ·rintro i kv z H2 hi ⟨⟨o2,o3,N,rfl⟩,J,l,ha,hA⟩ tp H3 s3 n3 e3;obtain⟨⟨nm,u⟩,hq,hk,x,C,hv,hC,dx,hO⟩:=pj hD hi;have I:L[i]? =some (u,nm):=by
    unfold qP at hq;rw[nJ]at hq;obtain⟨⟨p,p2⟩,I,e⟩:=nR.mp hq;rw[I];simp only[yy]at e;rw[e.1,e.2]
   have C3:=(oo.mp I).1;have hxd:x≠d:=λy=>by rw[y,hd]at hO;cases hO
   have hOF:mJ H d (.frz o<|.dK n) x=some (.ins C dx [("name",.str nm)]):=by rw[Zd hxd];show hO
   obtain⟨p,d1,m1,b1,g1⟩:=hC.ends;have hk:kv.1=Sum.inr nm:=hk;rw[hk,hv]at e3;have hFa:mJ H d (.frz o<|.dK n) a=none:=by rw[Zd U];show B
   refine#[mW e3,rfl,rfl,?_];have G:=J.trans s3;refine mP (Yw oO rfl (Ya Ah) (nZ 4 Wi) Zn)<|sU (Y1 (pv 3) hC.cls.1 m1 (g1 _ _ _ 1<|by lk) hr b1 .nil Z0) #[G.at hOF,rfl,_,rfl,λp H4 s4 n4 e4=>#[mO e4,Xm (K:=K) (xs:=(Yr u).map V.str) (λj z Y=>(∃N,z=[some (.ref d),some<|.ref a,some<|.str nm,some<|.ref x,N])/\mC (mJ H d<|.frz o<|.dK n) Y/\Y p=some (.lst<|(Yr u).map V.str)/\∃l,Y a=some (.dT l)/\DP Xg (RA T H) l (qA (L.take i)++((Yr u).take j).map λe=>((nm,e),u))) #[#[_,rfl],G.trans s4,e4,l,s4.at<|s3.at ha,by rw[List.take_zero,uP,pH];show hA] ?_ ?_ ?_]]
   ·rintro j z Y _ ⟨_,_,y,_⟩;show mO y
   ·rintro j v z H5 hj ⟨⟨N,rfl⟩,s5,M,g,c,r⟩;rw[nJ]at hj;obtain⟨e,he,rfl⟩:=nR.mp hj;have hlen5:g.length<=500:=by
     have p:=r.len;have h2:=JX<|L.take i;have h3:=BH u;rw[nX,mK,oh]at p;rw[oh]at h2;lia
    have J6:Y8 g (Xg (nm,e))=none:=r.none uC (by
     have p:(Yu<|L.take<|i+1).Nodup:=yF (by rw[tH];show nd.sublist<|Ca _ _);rw[<-Dq,Mc I,nj]at p;rw[nj];have ed:Yr u=(Yr u).take j++(e ::(Yr u).drop (j+1)):=by rw[<-GP he,xr]
     rw[show((u,nm):Zh).1=u from rfl,ed,nj,nj,nV,nV,<-pr,qk]at p;intro m;show p.2.2 _ m _ ph rfl)
    refine mP (X6 (Ys hr) (pv 1) (Zi<|Zb (pv 2)<|Zb (pv 4) Za) (pv 3) rfl) #[mQ,λt H6 s6 n6 e6=>#[Zcp.t (k:=Xg (nm,e)) (s6.at c) e6 (Zo<|by lia),#[_,rfl],(s5.trans s6).upd0 hFa,?_,_,Zc,?_]]
    ·rw[Zd (MO M c (λy=>nomatch y))];show s6.at M
    ·have:((Yr u).take (j+1)).map (λe=>((nm,e),u))=((Yr u).take j).map (λe=>((nm,e),u))++[((nm,e),u)]:=by
      rw[og,he,nj]
      rfl
     rw[this,<-pr];show r.put J6 #[x,C,rfl,hC,dx,hO]
   ·rintro z H5 ⟨⟨N,rfl⟩,s5,M,g,c,r⟩;rw[mK,oJ]at r;refine#[#[_,_,_,rfl],s5,g,c,?_];rw[Mc I];show r
  ·rintro z H2 ⟨⟨o2,o3,N,rfl⟩,J,l,ha,hA⟩;rw[hkl,oJ]at hA;refine#[d,o,_,J.at Zc,nf,mP (Zl<|pv 1)<|q a l _ (J.thaw hd) B ?_ hA];rw[Zd U];show ha
inductive Jx:Sp
 | mk (t u v):vs=[.ref t]->H t=some (.tup [u,v])->Q (.bl true) H->Jx  vs H Q E
def KF:T.gj.O P w mg mD 1 Jx:=by
 refine T.gj.F.okA ?_;rfl'
 ·obtain⟨t,u,v,rfl,z,q⟩:=h;intro X D;show mP (Zl<|xq (ro "tuple" T.af T.ir LF<|pv 0)<|xZ<|Ab hr (pp T.aX<|pv 0) Zf) #[Xp.tup z,.inl<|pz rfl T.jX,(.inl #[.inr<|mW z,.inl #[rfl,q]])]
inductive PZ:Sp
 | mk (t d e kvs):vs=[.ref t,.ref d]->Zt H t e->H d=some (.dT kvs)->Q (.bl (Y8 kvs<|Xg e).isSome) H->PZ  vs H Q E
def yH:T.fm.O P w mg mD 2 PZ:=by
 refine T.fm.F.okA ?_;rfl'
 ·obtain⟨t,d,e,y,rfl,z,hd,q⟩:=h;intro X D;show mP (Zl<|xq (Zy (KF T) hr<|Zb (pv 0) Za)<|xq (ro "str" T.af T.fh wI<|ny (pv 0) Zf)<|xq (ro "str" T.af T.fh wI<|ny (pv 0) Zf)<|xZ<|GF hr (pv 0)<|pv 1) #[t,_,_,rfl,z,(.inr<|.inl #[mW z,Zq (j:=0) rfl,Xp.str _,.inl<|pz rfl T.jU,(.inr<|.inl #[mW z,Zq (j:=1) rfl,Xp.str _,.inl<|pz rfl T.jU,(.inr<|.inl #[d,_,rfl,Xk.t (k:=Xg e) hd z,q])])])]
inductive Kt:Sp
 | mk (t pa d a b) (e1 e2:Zh) (ka kd):vs=[.ref t,.ref pa,.ref d]->H t=some (.tup [.ref a,.ref b])->Zt H a e1->Zt H b e2->H pa=some (.dT ka)->H d=some (.dT kd)->(Y8 ka<|Xg e1).isSome=true->(Y8 ka<|Xg e2).isSome=true->Y8 kd (Xg e1)=none->Y8 kd (Xg e2)=none->e1.1≠e2.1->Q .non H->Kt  vs H Q E
def WV:T.dJ.O P w mg mD 3 Kt:=by
 refine T.dJ.F.okW Rw ?_;rfl'
 ·obtain⟨t,c,d,a,b,L,J,Y,I,rfl,u,U,N,n,hd,G,C,B,n2,ne,q⟩:=h;intro X D;refine mM (Zv (Xc<|Ym<|Zy (KF T) hr<|Zb (pv 0) Za) Zn Zk) #[t,_,_,rfl,u,?_];let l:IF:=λi z p=>(∃o,z=[some (.ref t),some<|.ref c,some<|.ref d,o])/\p=H
  refine mM (Yw oO rfl (Au<|pv 0) (nZ 3 Rw) Zn) #[mW u,MR (K:=K) (xs:=[.ref a,.ref b]) l #[#[none,rfl],rfl] ?_ ?_ ?_]
  ·rintro i z p _ ⟨_,rfl⟩;show mW u
  ·rintro i v z p r ⟨⟨o,rfl⟩,g⟩;rw[g];obtain⟨x,e,rfl,M,h1,h2⟩:∃x e,v=V.ref x/\Zt H x e/\(Y8 Y<|Xg e).isSome=true/\Y8 I (Xg e)=none:=by
    match i,r with
    | 0,r=>cases r;show#[a,L,rfl,U,G,B]
    | 1,r=>cases r;show#[b,J,rfl,N,C,n2]
   refine mM (Zv (Xc<|Ym<|Zy (yH T) hr<|Zb (pv 3)<|Zb (pv 1) Za) Zn Zk) #[x,c,e,Y,rfl,M,n,Yh (λy=>?_) λ_=>?_]
   ·rw[h1]at y;show absurd y (by lk)
   refine mP (Zv (xI hr (pv 3)<|pv 2) Zn Zk)<|.inr<|.inl #[d,_,rfl,Xk.t (k:=Xg e) hd M,Yh (λy=>?_) λ_=>#[#[_,rfl],rfl]];rw[h2]at y;show absurd y (by lk)
  ·rintro z p ⟨⟨o,rfl⟩,g⟩;rw[g];refine mP (Zv (oZ hr (ny (ny (pv 0) Zf) Zf)<|ny (ny (pv 0) Zf) Zf) Zn Zk)<|.inr<|.inl #[mW u,Zq (j:=0) rfl,.inr<|.inl #[mW U,Zq (j:=0) rfl,.inr<|.inl #[mW u,Zq (j:=1) rfl,.inr<|.inl #[mW N,Zq (j:=0) rfl,.inl #[rfl,Yh (λy=>?_) λ_=>q]]]]];show absurd (V.str.inj<|pq y) ne
inductive Jf:Sp
 | mk (jl pa) (js:lQ (Zh×Zh)) (ka:lQ (lQ ng×V)):vs=[.ref jl,.ref pa]->Yp H jl js->H pa=some (.dT ka)->(∀e∈Xv js,(Y8 ka<|Xg e).isSome=true)->ka.length=(Xv js).length->(Xv js).Nodup->(∀j∈js,j.1.1≠j.2.1)->js.length<=300->(∀(d:lS)(kj:lQ (lQ ng×V)) (H':Hp),mC H H'->H d=none->H' d=some (.dT kj)->DP Xg (RJ H) kj (qJ js)->Q (.ref d) H')->Jf  vs H Q E
def IV{z:lQ (Zh×Zh)}{i:Nat}{j:Zh×Zh}(h:z[i]? =some j):qJ (z.take<|i+1)=qJ (z.take i)++[(j.1,j.2)]++[(j.2,j.1)]:=by
 unfold qJ;rw[og,h,xR];simp
def Nh(z:lQ (Zh×Zh)):(qJ z).length=2 * z.length:=by
 induction z with
 | nil=>rfl
 | cons j z y =>
  have e:qJ (j ::z)=[(j.1,j.2),(j.2,j.1)]++qJ z:=rfl;rw[e,nX,y];simp only[pE,Fi];lia
def Zlh:T.dL.O P w mg mD 4 Jf:=by
 refine T.dL.F.okW Ix ?_;rfl'
 ·obtain⟨jl,L,p,U,rfl,hJ,g,hk,J,nd,apart,len,q⟩:=h;intro X D;obtain⟨ts,hl,m9⟩:=hJ;have E3:=nH m9;refine mM (mY 2 Ix Nb) λd H1 s1 I e1=>?_
  let G:IF:=λi z C=>(∃o,z=[some (.ref jl),some<|.ref L,some<|.ref d,o])/\mC H C/\∃x,C d=some (.dT x)/\DP Xg (RJ H) x (qJ<|p.take i)
  refine mM (Yw oO rfl (Ya<|pv 0) (nZ 3 Ix) Zn) #[mO<|s1.at hl,Xm (K:=K) (xs:=ts.map V.ref) G #[#[none,rfl],s1,[],e1,.nil] ?_ ?_ ?_]
  ·rintro i z C _ ⟨_,u,_⟩;show mO<|u.at hl
  ·rintro i v z B hi ⟨⟨o,rfl⟩,u,x,hd,n⟩;rw[nJ]at hi;obtain⟨t,hti,rfl⟩:=nR.mp hi;obtain⟨j,N,a,b,e,ha,hb⟩:=pj m9 hti;have hm:j∈p:=pe N;have C3:=(oo.mp N).1;have m1:j.1∈Xv p:=uj.mpr #[j,hm,by simp];have m2:j.2∈Xv p:=uj.mpr #[j,hm,by simp];have j7:x.length<=600:=by
    have l:=n.len;rw[Nh,oh]at l;lia
   have O2:(Xv (p.take i)++[j.1]++[j.2]).Nodup:=by
    have l:(Xv<|p.take<|i+1).Nodup:=nd.sublist (by
     have:Xv p=Xv (p.take<|i+1)++Xv (p.drop<|i+1):=by rw[<-AV,xr]
     rw[this];show QU _ _)
    rw[<-uw,IV N,nj,nj,uw]at l;show l
   have nd1:j.1∉Xv (p.take i):=λy=>(qk.mp (qk.mp O2).1).2.2 _ y _ ph rfl
   have c:j.2∉Xv (p.take i)++[j.1]:=λy=>(qk.mp O2).2.2 _ y _ ph rfl
   have v1:Y8 x (Xg j.1)=none:=n.none uC (by rw[uw];show nd1);have v2:Y8 x (Xg j.2)=none:=n.none uC (by rw[uw];show λy=>c<|xc _ y);refine mM (Z3<|Zy (WV T) hr<|Zb (pv 3)<|Zb (pv 1)<|Zb (pv 2) Za) #[t,L,d,a,b,j.1,j.2,U,x,rfl,u.at e,ha.mono u,hb.mono u,u.at g,hd,hk _ m1,hk _ m2,v1,v2,apart j hm,?_];have Y:DP Xg (RJ H) (Ws x (Xg j.1)<|.ref b) (qJ (p.take i)++[(j.1,j.2)]):=n.put v1 #[b,rfl,hb];have hl1:=CK x (Xg j.1)<|.ref b;have v3:Y8 (Ws x (Xg j.1)<|.ref b) (Xg j.2)=none:=Y.none uC (by rw[nj,uw];show c);refine mM (X6 (Ys hr) (pv 2) (ny (pv 3) Zf) (ny (pv 3) Zf) rfl)<|.inr<|.inl #[mW<|u.at e,Zq (j:=1) rfl,.inr<|.inl #[mW<|u.at e,Zq (j:=0) rfl,Zcp.t (k:=Xg j.1) hd (MA<|ha.mono u) (Zo<|by lia),?_]];have M:mC H (mJ B d<|.dT<|Ws x (Xg j.1)<|.ref b):=u.upd0 I;refine mP (X6 (Ys hr) (pv 2) (ny (pv 3) Zf) (ny (pv 3) Zf) rfl)<|.inr<|.inl #[mW<|M.at e,Zq (j:=0) rfl,.inr<|.inl #[mW<|M.at e,Zq (j:=1) rfl,Zcp.t (k:=Xg j.2) Zc (MA<|hb.mono M) (Zo<|by lia),#[_,rfl],M.upd0 I,_,Zc,?_]];rw[IV N];show Y.put v3 #[a,rfl,ha]
  ·rintro z B ⟨⟨o,rfl⟩,u,x,hd,n⟩;rw[mK,E3,oJ]at n;have j:x.length=U.length:=by
    have l:=n.len;rw[J,l,<-uw,mK]
   refine mM (Zv (Yf xb (Z4 (r:=Er) NV (by rfl) T.aX Hg<|Zb (pv 2) Za) (Z4 (r:=Er) NV (by rfl) T.aX Hg<|Zb (pv 1) Za)<|Yn _) Zn Zk) #[d,x,rfl,hd,L,U,rfl,u.at g,Yh (λy=>?_) λ_=>?_]
   ·have:(x.length:Int)<(U.length:Int):=pq y;show absurd this (by lia)
   show mP (Zl<|pv 2)<|q d x B u I hd n
inductive Pj:Sp
 | mk (t pa l x C e k nm ka) (us:lQ lS) (es):vs=[.ref t,.ref pa,.ref l]->Zt H t e->H pa=some (.dT ka)->Y8 ka (Xg e)=some (.ref x)->X9 T k C->qm H C x nm->Ga k=true->H l=some (.lst<|us.map V.ref)->Paired (Zt H) us es->e∉es->Q .non H->Pj vs H Q E
def Yde(h:pJ a=pJ b):a=b:=by
 obtain⟨z,y⟩:=a;obtain⟨z,y⟩:=b;unfold pJ at h;simp only[Tr.tup.injEq,Bj,Tr.str.injEq,and_true]at h;rw[h.1,h.2]
def RW:T.dM.O P w mg mD 3 (Pj T):=by
 refine T.dM.F.okA ?_;rfl'
 ·obtain⟨t,i,l,x,C,e,k,nm,g,d,p,rfl,r,y,o,j,⟨G,c⟩,a,Y,U,N,q⟩:=h;intro X D;obtain⟨x,G,M,L,J⟩:=j.bears;refine mM (Zv (Xc<|Ym<|Zy (yH T) hr<|Zb (pv 0)<|Zb (pv 1) Za) Zn Zk) #[t,i,e,g,rfl,r,y,Yh (λz=>?_) λ_=>?_]
  ·rw[o]at z;show absurd z (by simp)
  refine mM (Zv (Xc<|Ym Ah) Zn Zk)<|sU (Y1 (Y3 (Ys hr) (pv 1) (pv 0) λ_ _=>rfl) j.cls.1 M (J _ _ _ 2<|by lk) hr L .nil Z0) #[by rw[<-o];show Xk.t (k:=Xg e) y r,c,rfl,_,rfl,Yh (λz=>?_) λ_=>?_]
  ·rw[a]at z;show absurd z (by lk)
  refine mP (Zv (xI hr (pv 0)<|pv 2) Zn Zk)<|.inr<|.inr<|.inr #[l,1,pJ e,p.map pJ,d,rfl,mO Y,by lk,vj (n:=0) (mW r)<|.cons (.str _)<|.cons (.str _) .nil,Nv U,Yh (λz=>?_) λ_=>q];have z:pJ e∈p.map pJ:=pq z;obtain⟨x,u,I⟩:=mX.mp z;rw[Yde I]at u;show absurd u N
def Zt.offD(h:Zt H t q)(y:H c=some (.dK xs)):Zt (mJ H c o) t q:=by
 unfold Zt at h ⊢;show(Zd λz=>by rw[z,y]at h;cases h).trans h
inductive Lc:Sp
 | mk (sl pa) (ts:lQ lS) (sg:lQ (lR×lR×lR)) (ka):vs=[.ref sl,.ref pa]->H sl=some (.lst<|ts.map V.ref)->Paired (Aj H) ts sg->H pa=some (.dT ka)->(∀q∈sg,Xn q.1)->(sg.map fst).Nodup->(sg.map snd).Nodup->sg.length<=100->(∀q∈sg,∃x C k,Y8 ka (Xg (q.2.1,q.2.2))=some (.ref x)/\X9 T k C/\qm H C x q.2.1/\Ga k=true)->(∀(d:lS)(ks:lQ (ng×V)) (H':Hp),mC H H'->H d=none->H' d=some (.dK ks)->DP X5 (RS H') ks (qS sg)->Q (.ref d) H')->Lc vs H Q E
def Sd(h:DP X5 (RS H) z qs):∃us:lQ lS,z.map (λkv=>kv.2)=us.map V.ref/\Paired (Zt H) us (qs.map snd):=by
 unfold DP at h
 induction h with
 | nil=>show#[[],rfl,.nil]
 | cons r _ y =>
  obtain⟨us,x,u⟩:=y;obtain⟨_,t,s,q⟩:=r;show#[t ::us,by rw[nV,nV,x,s],.cons q u]
def Ztq:T.ft.O P w mg mD 4 (Lc T):=by
 refine T.ft.F.okW zV ?_;rfl'
 ·obtain⟨sl,pa,ts,o,ka,rfl,hl,m9,B,w4,nd,one,len,hk,q⟩:=h;intro X D;have E3:=nH m9;refine mM (mY 2 zV Xz) λd H1 s1 n1 e1=>?_
  let I16:IF:=λi z J=>(∃o3 o4 o5,z=[some (.ref sl),some<|.ref pa,some<|.ref d,o3,o4,o5])/\mC H J/\∃p,J d=some (.dK p)/\DP X5 (RS J) p (qS<|o.take i)
  refine mM (Yw oO rfl (Ya<|pv 0) (nZ 3 zV) Zn) #[mO<|s1.at hl,Xm (K:=K) (xs:=ts.map V.ref) I16 #[#[none,none,none,rfl],s1,[],e1,.nil] ?_ ?_ ?_]
  ·rintro i z J _ ⟨_,g,_⟩;show mO<|g.at hl
  ·rintro i v z H2 hi ⟨⟨o3,o4,o5,rfl⟩,g,p,hd,a⟩;rw[nJ]at hi;obtain⟨t,hti,rfl⟩:=nR.mp hi;obtain⟨⟨nm,e,Y⟩,N,I⟩:=pj m9 hti;have I:H t=some (.tup [.str nm,.str e,.str Y]):=I;have hm:((nm,e,Y):lR×lR×lR)∈o:=pe N;have C3:=(oo.mp N).1;obtain⟨x,C,k,hv,hC,hO,hb⟩:=hk _ hm;have j7:p.length<=100:=by
    have h1:=a.len;unfold qS at h1;rw[mK,oh]at h1;lia
   have hn:Y8 p (X5 nm)=none:=a.none wT (by
    rw[Me,tH];show xl nd<|by rw[nJ,N];rfl)
   have he:((e,Y):Zh)∉(qS<|o.take i).map snd:=by
    have:(qS<|o.take i).map snd=(o.map snd).take i:=by
     unfold qS;rw[pi,tH]
     rfl
    rw[this];show xl one (by rw[nJ,N];rfl)
   refine mM (mY 4 zV<|ny (pv 3) Zf)<|.inr<|.inl #[mW<|g.at I,Zq (j:=0) rfl,?_];refine mM (mY 5 zV<|Xq (r:=qN K) qZ (pv 3) (Xw Zf) Wl)<|.inl #[mW<|g.at I,(show ¬(HT.sIx 3 0 (some 1)=0/\HT.sIx 3 3 none=3) by lk),λG H3 M r e3=>?_];have v6:=g.trans M;have N4:Zt H3 G (e,Y):=e3;refine mM (Z3<|Zy (BD T) hr<|Zb (pv 4)<|Zb (pv 2) Za) #[nm,d,p,rfl,w4 _ hm,M.at hd,hn,λH4 U=>?_];have x9:=v6.trans U;have L:DP X5 (RS H4) p (qS<|o.take i):=a.mapR λ_ _ _ y=>RS.mono (M.trans U) _ _ _ y
   obtain⟨us,w6,hup⟩:=Sd L;refine mM (Z3<|Zy (RW T) hr<|Zb (pv 5)<|Zb (pv 1)<|Zb (XS rfl (by rfl) T.fP<|pv 2) Za) #[d,p,rfl,.inl<|U.at<|M.at hd,λl H5 n n5 e5=>#[G,pa,l,x,C,(e,Y),k,e,ka,us,_,rfl,(N4.mono U).mono n,(x9.trans n).at B,hv,hC,hO.mono<|x9.trans n,hb,by rw[<-w6];show e5,nK hup λ_ _ r=>r.mono n,he,?_]];have B3:=x9.trans n;have c:H5 d=some (.dK p):=n.at<|U.at<|M.at hd;refine mP (X6 (Ys hr) (pv 2) (pv 4) (pv 5) rfl) #[sQ (k:=X5 nm) c (Zo<|by lia),#[_,_,_,rfl],B3.upd0 n1,_,Zc,?_];have:qS (o.take<|i+1)=qS (o.take i)++[(nm,(e,Y))]:=by
    unfold qS;rw[og,N,nj]
    rfl
   rw[this];have D1:DP X5 (RS<|mJ H5 d<|.dK<|Ws p (X5 nm)<|.ref G) p (qS<|o.take i):=L.mapR λ_ _ _ ⟨u,z1,z2⟩=>#[u,z1,(z2.mono n).offD c]
   show D1.put hn #[G,rfl,((N4.mono U).mono n).offD c]
  ·rintro z H2 ⟨⟨o3,o4,o5,rfl⟩,g,p,hd,a⟩;rw[mK,E3,oJ]at a;show mP (Zl<|pv 2)<|q d p H2 g n1 hd a
structure Ye(T:Tx K mg)(H:Hp)(x:Addr)(ps:List Zh)(js:List (Zh×Zh))(sg:List (Str×Str×Str)):Prop where
 ex:∃(dx po jo so si:Addr)(kp ks:List (ng×V)) (kj ko:List (List ng×V)),H x=some (.ins T.aR dx [("part_of",.ref po),("joined",.ref jo),("post_of",.ref so),("signal_on",.ref si)])/\
  H po=some (.dK kp)/\DP X5 (RP T H) kp (qP ps)/\H jo=some (.dT kj)/\DP Xg (RJ H) kj (qJ js)/\H so=some (.dK ks)/\DP X5 (RS H) ks (qS sg)/\H si=some (.dT ko)/\DP Xg RO ko (qO sg)
def Ye.mono(e:mC H H')(h:Ye U H x ps z y):Ye U H' x ps z y:=by
 obtain⟨u,s,r,q,p,o,n,l,j,i,g,d,c,a,Y,Q,N,M⟩:=h.ex;show#[u,s,r,q,p,o,n,l,j,e.at i,e.at g,d.mapR<|RP.mono e,e.at c,a.mapR<|RJ.mono e,e.at Y,Q.mapR<|RS.mono e,e.at N,M]
def pV(H:Hp)(x:lS):Hp:=λb=>if b=x then none else H b
def FS :pV H x x=none:=mU rfl
def vF(h:H b=some o)(n:b≠x):pV H x b=some o:=(mT n).trans h
def su :mC (pV H x) (mJ H x o):=λb u e=>by
 unfold pV at e
 by_cases z:b=x
 ·rw[mU z]at e;cases e
 ·rw[mT z]at e;rw[Zd z];show e
def Bz(s:mC G H)(n:G x=none):mC G (pV H x):=λb u e=>vF (s.at e)<|Ze e n
structure X2(ps:List Zh)(js:List (Zh×Zh))(sg:List (Str×Str×Str)):Prop where
 net:Net ps js []
 len:ps.length<=40
 name:∀p∈ps,Xn p.2
 sigs:yO ps sg
def zN.v(h:zN ps z y):X2 ps z y:=#[h.net,by have:=h.len;lia,λp x=>(h.name p x).nm.ok,h.sigsV]
def Zu6(ps:lQ Zh):(Yu ps).length<=4 * ps.length:=by rw[<-Dq,mK];show JX ps
def _root_.YM.Net.flat(h:Net ps z []):(Xv z).Perm (Yu ps):=by
 have:=h.perm;rw[pH]at this;show this
def _root_.YM.Net.jlen(h:Net ps z [])(l:ps.length<=40):z.length<=300:=by
 have y:=h.flat.length_eq;have x:=Zu6 ps;rw[<-uw,mK,Nh]at y;lia
def Yfz(z:p∈ps)(he:e∈Yr p.1):((p.2,e),p.1)∈qA ps:=uj.mpr #[p,z,mX.mpr #[e,he,rfl]]
inductive Fw:Sp
 | mk (G x dx pl jl sl) (xs:lQ lS) (ps js sg):vs=[.ref x,.ref pl,.ref jl,.ref sl]->G x=none->mC G H->H x=some (.ins T.aR dx [])->G pl=some (.lst<|xs.map V.ref)->Paired (PO T G) xs ps->Yp G jl js->uR G sl sg->X2 ps js sg->(∀H',mC G H'->Ye T H' x ps js sg->Q .non H')->Fw vs H Q E
def Zgh:T.bH.O P w mg mD 5 (Fw T):=by
 refine T.bH.F.okW Eo ?_;rfl'
 ·obtain⟨G,x,dx,pl,jl,sl,J,ps,js,L,rfl,hGx,s0,hx,u0,hxs,A1,⟨ts,D4,m9⟩,j,q⟩:=h;intro X D;have hxl:=nH hxs;have E3:=nH m9;have ylen:=j.len;have slen:=j.sigs.len;refine mM (mY 4 Eo<|W7 (Yf yu (pv 3) tD<|Yn _) (Zm Za)<|pv 3) #[rfl,?_];refine mM (Zv (qj<|qr (Yf vU (pp T.aX<|pv 1) (W1 (by rfl) T.gN)<|Yn _)<|sv<|Yf vU (pp T.aX<|pv 4) (W1 (by rfl) T.fT)<|Yn _) Zn Zk)<|.inl #[.inl<|mO<|s0.at u0,Yh (λz=>?_) λ_=>(.inl #[.inl<|mO<|s0.at D4,Yh (λz=>?_) λ_=>?_])]
  ·have z:=pq z;rw[mK]at z;show absurd z (by lia)
  ·have z:=pq z;rw[mK]at z;show absurd z (by lia)
  refine mM (Wr (pv 0) (Zy (RX T) hr<|Zb (pv 1) Za) rfl) #[pl,J,ps,rfl,s0.at u0,nK hxs λ_ _ r=>r.mono s0,j.net.nd,j.name,by lia,λpo kp H1 s1 m1 e1 dp=>#[s1.at hx,T.ak,T.bx,by simp,?_]];have hpx:po≠x:=λz=>by rw[z,hx]at m1;cases m1
  have g1:mC G (pV H1 x):=Bz (s0.trans s1) hGx;have dp1:DP X5 (RP T<|pV H1 x) kp (qP ps):=dp.mapR λa b v ⟨y,C,I,Y,dy,z3⟩=>#[y,C,I,Y,dy,vF (s1.at z3) λz=>by rw[z,hx]at z3;cases z3]
  have ep1:pV H1 x po=some (.dK kp):=vF e1 hpx;refine mM (mY 5 Eo<|Zy (Vi T) hr<|Zb (Z6 (pv 0) rfl) Za) #[Zc,T.ak,T.bx,rfl,po,kp,ps,rfl,su.at ep1,dp1.mapR<|RP.mono su,j.net.nd,by lia,λpa ka H2 s2 l e2 da=>?_];have B:=s2.at Zc;have ep2:mC G H2:=(g1.trans su).trans s2;have kaq:∀p∈ps,∀e∈Yr p.1,∃v,Y8 ka (Xg (p.2,e))=some v/\RA T _ (p.2,e) p.1 v:=λp hp e he=>da.get uC (by rw[Dq];show yF j.net.nd)<|Yfz hp he
  refine mM (Wr (pv 0) (Zy (Zlh T) hr<|Zb (pv 2)<|Zb (pv 5) Za) rfl) #[jl,pa,js,ka,rfl,A1.mono ep2,e2,λe he=>?_,?_,?_,j.net.apart,j.net.jlen ylen,λjo kj H3 s3 m3 e3 dj=>#[s3.at B,T.ak,T.cF,(by change 1<1000;decide),?_]]
  ·have:=j.net.flat.mem_iff.mp he;obtain⟨p,hp,M⟩:=uj.mp this;obtain⟨e',l,rfl⟩:=mX.mp M;obtain⟨v,hv,_⟩:=kaq p hp e' l;rw[hv];rfl
  ·rw[j.net.flat.length_eq,<-Dq,mK];show da.len
  ·show j.net.flat.nodup_iff.mpr<|yF j.net.nd
  have hjx:jo≠x:=λz=>by rw[z,B]at m3;cases m3
  have v6:mC (pV H1 x) (pV H3 x):=Bz ((su.trans s2).trans s3) FS;have ej3:pV H3 x jo=some (.dT kj):=vF e3 hjx;have hpax:pa≠x:=λz=>by rw[z,B]at e2;cases e2
  have epa:pV H3 x pa=some (.dT ka):=vF (s3.at e2) hpax;have dj3:DP Xg (RJ<|pV H3 x) kj (qJ js):=dj.mapR λa b v ⟨u,I,Y⟩=>#[u,I,vF (s3.at Y) λz=>by rw[z]at Y;show nomatch B.symm.trans Y]
  have g3:mC G (pV H3 x):=g1.trans v6;refine mM (Wr (pv 0) (Zy (Ztq T) hr<|Zb (pv 4)<|Zb (pv 5) Za) rfl) #[sl,pa,ts,L,ka,rfl,su.at<|g3.at D4,nK m9 λ_ _ r=>(g3.trans su).at r,su.at epa,j.sigs.name,j.sigs.nd,j.sigs.one,by lia,λg hg=>?_,λU ks H4 s4 m4 e4 ds=>#[s4.at Zc,T.ak,T.bz,(by change 2<1000;decide),?_]]
  ·obtain⟨p,hp,h1,h2,h3⟩:=j.sigs.at_ g hg;obtain⟨v,hv,y,C,rfl,hC,dy,l⟩:=kaq p hp g.2.2 h3;refine#[y,C,p.1,by rw[<-h1];show hv,hC,#[dy,?_],nS h2];have M:y≠x:=λz=>by rw[z,Zc]at l;cases l
   rw[Zd M,<-h1];show s3.at<|s2.at l
  have hsx:U≠x:=λz=>by rw[z,Zc]at m4;cases m4
  have hx4:=s4.at<|Zc (H:=H3) (a:=x);have s34:mC (pV H3 x) (pV H4 x):=Bz (su.trans s4) FS;have es4:pV H4 x U=some (.dK ks):=vF e4 hsx;have ds4:DP X5 (RS<|pV H4 x) ks (qS L):=ds.mapR λa b v ⟨u,I,Y⟩=>#[u,I,vF Y λz=>by rw[z]at Y;show nomatch hx4.symm.trans Y]
  refine mP (Wr (pv 0) (Y0 (r:=Oi) (Zu1 rfl hr.units) (by rfl) T.eP zc<|Zb (Dk<|pF ["name","end"] (oR 2 [] rfl) (wV<|Z6 (pv 0) rfl) (wW (K:=K) (n:=2) rfl rfl<|Zu (oA 0)<|Zu (oA 1) Xd) Wb (Zi<|Zb (pv 1)<|Zb (pv 0) Za)) Za) rfl) #[Zc,T.ak,T.bz,rfl,su.at es4,λo nf D hD=>Ey (λi ys H'=>mC (mJ (mJ H4 x<|.ins T.aR dx [("part_of",.ref po),("joined",.ref jo),("post_of",.ref U)]) U<|.frz o<|.dK ks) H'/\H' D=some (.lst ys)/\∃d:lQ lS,ys=d.map V.ref/\Paired (λt (q:lQ ng×V)=>∃a,H' t=some (.tup [.ref a,q.2])/\H' a=some (.tup<|q.1.map kV)) d ((qO<|L.take i).map λq=>(Xg q.1,V.str q.2))) #[pb hD,Zc,[],rfl,.nil] ?_ ?_ ?_]
  ·rintro i ys H' _ ⟨z,_⟩;show z.at Zc
  ·rintro i kv ys H5 hi ⟨s5,Q0,d,rfl,N⟩ tp H6 l n6 e6;obtain⟨⟨nm,e⟩,hq,hk,t,hv,ht⟩:=pj ds4 hi;have hk:kv.1=Sum.inr nm:=hk;rw[hk,hv]at e6;have hg:L[i]? =some (nm,e.1,e.2):=by
    unfold qS at hq;rw[nJ]at hq;obtain⟨⟨g1,g2,g3⟩,hg,e'⟩:=nR.mp hq;rw[hg];simp only[yy]at e';rw[<-e'.1,<-e'.2]
   have C3:=(oo.mp hg).1;have hto:t≠U:=λz=>by rw[z]at ht;show nomatch es4.symm.trans ht
   have htF:mJ (mJ H4 x<|.ins T.aR dx [("part_of",.ref po),("joined",.ref jo),("post_of",.ref U)]) U (.frz o<|.dK ks) t=some (.tup<|(Xg e).map kV):=by
    rw[Zd hto];show su.at ht
   have htl':d.length<=100:=by
    have:=nH N;unfold qO at this;rw[mK,mK,oh]at this;lia
   refine#[mW e6,rfl,rfl,(oW rfl).trans (oW rfl),mQ,λt' H7 M n7 e7=>#[M.at<|l.at Q0,by rw[mK];show Zo (by lia),?_,Zc,d++[t'],by rw[nj];rfl,?_]]
   ·intro c u z;rw[Zd (Ze z hD)];show M.at<|l.at<|s5.at z
   ·have hD7:=M.at<|l.at Q0;have off:∀{c:lS}{J:lQ V}{u:HO},H7 c=some (.tup J)->mJ H7 D u c=some (.tup J):=λ{c J u} z=>(Zd λy=>by rw[y,hD7]at z;cases z).trans z
    have:(qO<|L.take<|i+1).map (λq=>(Xg q.1,V.str q.2))=(qO<|L.take i).map (λq=>(Xg q.1,V.str q.2))++[(Xg e,V.str nm)]:=by
     unfold qO;rw[og,hg,nj,nj]
     rfl
    rw[this];show DN (nK N λ_ _ ⟨a,I,Y⟩=>#[a,off<|M.at<|l.at I,off<|M.at<|l.at Y]) #[t,off e7,off<|M.at<|l.at<|s5.at htF]
  ·rintro ys H5 ⟨s5,Q0,d,rfl,N⟩;have hks:ks.length=L.length:=by
    have:=ds4.len;unfold qS at this;rw[mK]at this;show this
   rw[hks,oJ]at N;have M:=s5.at Zc;have off:∀{c:lS}{J:lQ V}{u:HO},H5 c=some (.tup J)->mJ H5 U u c=some (.tup J):=λ{c J u} z=>(Zd λy=>by rw[y,M]at z;cases z).trans z
   have sT:mC (mJ H4 x<|.ins T.aR dx [("part_of",.ref po),("joined",.ref jo),("post_of",.ref U)]) (mJ H5 U<|.dK ks):=s5.thaw<|su.at es4;refine#[U,o,_,M,nf,D,d,_,rfl,?_,nK N λ_ _ ⟨a,I,Y⟩=>#[a,off I,off Y],?_,λsi H8 s8 n8 e8=>#[s8.at<|sT.at Zc,T.ak,T.bK,(by change 3<1000;decide),?_]]
   ·rw[Zd λy=>by rw[y,M]at Q0;cases Q0];show Q0
   ·rw[pi];have e1:(qO L).map (fst ∘ λq=>(Xg q.1,V.str q.2))=((qO L).map fst).map Xg:=by rw[pi];rfl
    rw[e1,HR];show j.sigs.one.map Xg λa b ne z=>ne<|uC a b z
   have hix:si≠x:=λz=>by rw[z,sT.at Zc]at n8;cases n8
   have s48:mC (pV H4 x) (pV H8 x):=Bz ((su.trans sT).trans s8) FS;have ei8:pV H8 x si=some (.dT<|(qO L).map λq=>(Xg q.1,V.str q.2)):=vF e8 hix;have f4:mC (pV H4 x) (mJ H8 x<|.ins T.aR dx [("part_of",.ref po),("joined",.ref jo),("post_of",.ref U),("signal_on",.ref si)]):=s48.trans su;have f3:=s34.trans f4;have f1:=v6.trans f3;refine q _ (g1.trans f1) #[dx,po,jo,U,si,kp,ks,kj,_,Zc,f1.at ep1,dp1.mapR<|RP.mono f1,f3.at ej3,dj3.mapR<|RJ.mono f3,f4.at es4,ds4.mapR<|RS.mono f4,su.at ei8,?_];have all:∀l:lQ (Zh×lR),DP Xg RO (l.map λq=>(Xg q.1,V.str q.2)) l:=λl=>by
    induction l with
    | nil=>show .nil
    | cons p l ih=>show .cons #[rfl,rfl] ih
   show all _
def QC:lQ V->Hp->VK->Prop:=λn H Q=>∃(r q p:lS)(o:lQ lS)(z:lQ Zh)(y:lQ (Zh×Zh)) (u:lQ (lR×lR×lR)),n=[.ref r,.ref q,.ref p]/\H r=some (.lst<|o.map V.ref)/\Paired (PO T H) o z/\Yp H q y/\uR H p u/\X2 z y u/\∀x s,mC H s->H x=none->Ye T s x z y u->Q (.ref x) s
def Sb:∀vs H Q,QC T vs H Q->
  ∀x z,H x=none->H z=none->z≠x->Fw T (.ref x ::(vs++[])) (mJ (mJ H z<|.own x) x<|.ins T.aR z []) (λv r=>v=.non/\Q (.ref x) r) E0:=by
 rintro vs H Q ⟨p,n,l,j,i,h,g,rfl,d,c,a,Y,U,q⟩ x z y u M;refine#[H,x,z,p,n,l,j,i,h,g,rfl,y,λb o e=>?_,Zc,d,c,a,Y,U,λN s t=>#[rfl,q x N s y t]];rw[Zd (Ze e y),Zd<|Ze e u];show e
inductive HK:Sp
 | mk (x nm k ps js sg):vs=[.ref x,.str nm]->Ye T H x ps js sg->X2 ps js sg->((k,nm):Zh)∈ps->(∀(y C:lS)(H':Hp),mC H H'->X9 T k C->qm H' C y nm->Q (.ref y) H')->HK vs H Q E
def EN:T.bg.O P w mg mD 2 (HK T):=by
 refine T.bg.F.okA ?_;rfl'
 ·obtain⟨x,nm,k,j,U,N,rfl,i,r,p,q⟩:=h;intro X D;obtain⟨x,g,U,N,M,L,J,I,G,o,n,e,_⟩:=i.ex;have d:((nm,k):lR×lR)∈qP j:=mX.mpr #[(k,nm),p,rfl];obtain⟨v,l,y,C,rfl,c,a⟩:=e.get wT (by rw[EA];show r.net.nd) d;refine mM (Zv (qj<|qr (Xc<|Ym<|Zy (Ae T) hr<|Zb (pv 1) Za)<|sv<|uZ hr (pv 1)<|Z6 (pv 0) rfl) Zn Zk) #[_,true,rfl,(r.name _ p).asked,λY u=>(#[u.at o,T.ak,T.bx,rfl,.inr<|.inl #[g,_,rfl,qB (k:=X5 nm)<|u.at n,Yh (λz=>?_) λ_=>?_]])]
  ·rw[l]at z;show absurd z (by simp)
  show mP (Zl<|Y3 (Ys hr) (Z6 (pv 0) rfl) (pv 1) λ_ _=>rfl) #[u.at o,T.ak,T.bx,rfl,by rw[<-l];show qB (k:=X5 nm)<|u.at n,q y C Y u c<|a.mono u]
inductive PV:Sp
 | mk (x t e ps js sg):vs=[.ref x,.ref t]->Ye T H x ps js sg->X2 ps js sg->Zt H t e->((e∈Yu ps/\∀t' e',((e,e'):Zh×Zh)∈qJ js->Zt H t' e'->Q (.ref t') H)\/(e∉Yu ps/\∀t' H',mC H H'->H t'=none->Zt H' t' ("","")->Q (.ref t') H'))->PV vs H Q E
def Fh:T.aY.O P w mg mD 3 (PV T):=by
 refine T.aY.F.okA ?_;rfl'
 ·obtain⟨x,t,e,z,g,U,rfl,a,y,r,q⟩:=h;intro X D;obtain⟨z,x,d,U,N,M,L,p,J,o,I,G,n,c,_⟩:=a.ex;have Y:((qJ g).map fst).Nodup:=by rw[uw];show y.net.flat.nodup_iff.mpr<|yF y.net.nd
  rcases q with⟨l,q⟩|⟨l,q⟩
  ·have:e∈(qJ g).map fst:=by rw[uw];show y.net.flat.mem_iff.mpr l
   obtain⟨⟨x,j⟩,z,rfl⟩:=mX.mp this;obtain⟨v,u,i,rfl,U⟩:=c.get uC Y z;refine mP (Zl<|W7 (Ym<|Zy (yH T) hr<|Zb (pv 1)<|Zb (Z6 (pv 0) rfl) Za) (Y3 (Ys hr) (Z6 (pv 0) rfl) (pv 1) λ_ _=>rfl)<|Zi<|Zb Zg<|Zb Zg Za) #[o,T.ak,T.cF,rfl,t,d,_,p,rfl,r,n,?_];rw[u];show#[o,T.ak,T.cF,rfl,by rw[<-u];show Xk.t (k:=Xg x) n r,q i j z U]
  ·have u:Y8 p (Xg e)=none:=c.none uC (by rw[uw];show λz=>l<|y.net.flat.mem_iff.mp z);refine mP (Zl<|W7 (Ym<|Zy (yH T) hr<|Zb (pv 1)<|Zb (Z6 (pv 0) rfl) Za) (Y3 (Ys hr) (Z6 (pv 0) rfl) (pv 1) λ_ _=>rfl)<|Zi<|Zb Zg<|Zb Zg Za) #[o,T.ak,T.cF,rfl,t,d,_,p,rfl,r,n,?_];rw[u];show#[mQ,λi z x U j=>q i z x U j]
def Yj9(z:lQ (lR×lR×lR))(e:Zh):Bool:=decide<|e∈z.map snd
inductive IA:Sp
 | mk (x t e ps js) (sg:lQ (lR×lR×lR)):vs=[.ref x,.ref t]->Ye T H x ps js sg->X2 ps js sg->Zt H t e->(∀nm:lR,((nm,e)∈qS sg/\Xn nm/\e∈sg.map snd)\/(nm =""/\e∉sg.map snd)->Q (.str nm) H)->IA vs H Q E
def Xo:T.aw.O P w mg mD 3 (IA T):=by
 refine T.aw.F.okA ?_;rfl'
 ·obtain⟨x,t,e,z,y,i,rfl,Y,g,p,q⟩:=h;intro X D;obtain⟨z,y,x,l,d,N,M,L,u,o,_,_,_,_,_,_,n,c⟩:=Y.ex;have U:((qO i).map fst).Nodup:=by rw[HR];show g.sigs.one
  by_cases r:e∈i.map snd
  ·obtain⟨⟨nm,z,y⟩,l,rfl⟩:=mX.mp r;obtain⟨v,j,rfl⟩:=c.get uC U (a:=(z,y)) (b:=nm)<|mX.mpr #[_,l,rfl];refine mP (Zl<|W7 (Ym<|Zy (yH T) hr<|Zb (pv 1)<|Zb (Z6 (pv 0) rfl) Za) (Y3 (Ys hr) (Z6 (pv 0) rfl) (pv 1) λ_ _=>rfl) Zg) #[o,T.ak,T.bK,rfl,t,d,_,u,rfl,p,n,?_];have x:Y8 u (Xg (z,y))=some (.str nm):=j;rw[show((nm,z,y):lR×lR×lR).snd=(z,y)from rfl,x];show#[o,T.ak,T.bK,rfl,by rw[<-x];show Xk.t (k:=Xg (z,y)) n p,q nm<|.inl #[mX.mpr #[_,l,rfl],g.sigs.name _ l,r]]
  ·have j:Y8 u (Xg e)=none:=c.none uC (by rw[HR];show r);refine mP (Zl<|W7 (Ym<|Zy (yH T) hr<|Zb (pv 1)<|Zb (Z6 (pv 0) rfl) Za) (Y3 (Ys hr) (Z6 (pv 0) rfl) (pv 1) λ_ _=>rfl) Zg) #[o,T.ak,T.bK,rfl,t,d,_,u,rfl,p,n,?_];rw[j];show(q _<|.inr #[rfl,r])
abbrev S4:=lR×lR×lR×lR
def sy(H:Hp)(t:lS)(q:S4):Prop:=H t=some (.tup [.str q.1,.str q.2.1,.str q.2.2.1,.str q.2.2.2])
def sy.mono(e:mC H H')(h:sy H t q):sy H' t q:=e.at h
inductive Iz:Sp
 | mk (t) (q:S4):vs=[.ref t]->sy H t q->(∀t' H',mC H H'->H t'=none->Zt H' t' (q.1,q.2.2.1)->Q (.ref t') H')->Iz  vs H Q E
def Gm:T.ef.O P w mg mD 1 Iz:=by
 refine T.ef.F.okA ?_;rfl'
 ·obtain⟨t,y,rfl,z,q⟩:=h;intro X D;show mP (Zl<|Zi<|Zb (ny (pv 0) Zf)<|Zb (ny (pv 0) Zf) Za)<|.inr<|.inl #[mW z,Zq (j:=0) rfl,.inr<|.inl #[mW z,Zq (j:=2) rfl,mQ,q]]
def AH(z:lQ (lR×lR×lR))(q:S4):Bool:=decide (q.2.2.1 ="") || decide (((q.1,q.2.2.1):Zh)∈z.map snd)
inductive Ku:Sp
 | mk (x t q ps js sg):vs=[.ref x,.ref t]->Ye T H x ps js sg->X2 ps js sg->sy H t q->(∀H',mC H H'->Q (.bl<|AH sg q) H')->Ku vs H Q E
def zw(h:Xn s):s≠ "":=λz=>by
 have:=h.1;rw[z]at this;show absurd this (by lk)
def ML:T.ei.O P w mg mD 4 (Ku T):=by
 refine T.ei.F.okA ?_;rfl'
 ·obtain⟨x,t,u,g,d,p,rfl,n,c,l,q⟩:=h;intro X D;obtain⟨y,_,_,_,_,_,_,_,_,a,_⟩:=n.ex;refine mP (Zl<|TM (Ab hr (ny (pv 1) Zf) Zg)<|xZ<|Pw hr (Yb (pv 0) T.ak T.aW (Xo T) hr.m T.aw.b .nil Z0<|Zb (Zy (Gm T) hr<|Zb (pv 1) Za) Za) Zg)<|.inr<|.inl #[mW l,Zq (j:=2) rfl,.inl #[rfl,Yh (λz=>?_) λz=>?_]]
  ·have z:u.2.2.1 ="":=V.str.inj<|pq z;have e:AH p u=true:=by unfold AH;rw[nS z];rfl
   rw[e]at q;show q H<|qc _
  ·have z:¬u.2.2.1 ="":=λy=>z (nS<|by rw[y])
   refine#[a,rfl,t,u,rfl,l,λY U i M N=>#[x,Y,_,g,d,p,rfl,n.mono i,c,N,λnm r=>.inl #[rfl,?_]]];have e:AH p u=!decide (V.str nm=V.str ""):=by
    unfold AH;rw[om z];rcases r with⟨_,r,o⟩|⟨r,o⟩
    ·rw[nS o,om λy=>zw r<|V.str.inj y];rfl
    ·rw[om o,r];rfl
   rw[<-e];show q U i
inductive MW:Sp
 | mk (x) (ps:lQ Zh) (js sg):vs=[.ref x]->Ye T H x ps js sg->X2 ps js sg->(∀ss:lQ lR,ss.Perm (ps.map snd)->PyProof.Rows.sortedS ss=true->pD H (.lst<|ss.map V.str) Q)->MW vs H Q E
def Py:T.bN.O P w mg mD 1 (MW T):=by
 refine T.bN.F.okA ?_;rfl'
 ·obtain⟨x,z,i,g,rfl,y,u,q⟩:=h;intro X D;obtain⟨x,p,i,g,e,o,d,c,a,n,l,j,_⟩:=y.ex;refine mP (Zl<|Z4 (r:=Bq) (Gv rfl) (by rfl) T.cH vG<|Zb (Z6 (pv 0) rfl) Za) #[n,T.ak,T.bx,rfl,p,o,z.map snd,rfl,.inl l,?_,by rw[mK];have:=u.len;lia,q];have:=oE (List.map kV) j.keys;rw[pi,pi]at this;refine Eq.trans this ?_;rw[<-EA,pi]
  rfl
def X9.gate{T:Tx K mg}{k:lR}{C x:lS}{nm:lR}{H:Hp}(h:X9 T k C)(o:qm H C x nm):∃t,Xp K H (.ref x) t/\kitOne K t (.ref T.bw)=some (decide<|k ="gate"):=by
 obtain⟨z,o⟩:=o;rcases h with⟨rfl,rfl⟩|⟨rfl,rfl⟩|⟨rfl,rfl⟩|⟨rfl,rfl⟩|⟨rfl,rfl|rfl⟩
 ·show#[_,Xp.ins o T.dB T.fU T.tG T.tK T.fV,T.iV]
 ·show#[_,Xp.ins o T.eG T.gR T.tG T.tK T.gS,T.jt]
 ·show#[_,Xp.ins o T.fJ T.io T.tG T.tK T.ip,T.jM]
 ·show#[_,Xp.ins o T.fG T.ik T.tG T.tK T.il,T.jL]
 ·show#[_,Xp.ins o T.gy T.ii T.tG T.tK T.ij,T.jK]
 ·show#[_,Xp.ins o T.ez T.gP T.tG T.tK T.gQ,T.jq]
def X9.pts{T:Tx K mg}{k:lR}{C x:lS}{nm:lR}{H:Hp}(h:X9 T k C)(o:qm H C x nm):∃t,Xp K H (.ref x) t/\kitOne K t (.ref T.aE)=some (decide<|k ="points"):=by
 obtain⟨z,o⟩:=o;rcases h with⟨rfl,rfl⟩|⟨rfl,rfl⟩|⟨rfl,rfl⟩|⟨rfl,rfl⟩|⟨rfl,rfl|rfl⟩
 ·show#[_,Xp.ins o T.dB T.fU T.tG T.tK T.fV,T.iW]
 ·show#[_,Xp.ins o T.eG T.gR T.tG T.tK T.gS,T.jv]
 ·show#[_,Xp.ins o T.fJ T.io T.tG T.tK T.ip,T.jP]
 ·show#[_,Xp.ins o T.fG T.ik T.tG T.tK T.il,T.jO]
 ·show#[_,Xp.ins o T.gy T.ii T.tG T.tK T.ij,T.jN]
 ·show#[_,Xp.ins o T.ez T.gP T.tG T.tK T.gQ,T.ju]
def wu(ps:lQ Zh)(kd:lR)(ss:lQ lR):lQ lR:=ss.filter λn=>decide<|((kd,n):Zh)∈ps
def VG{ps:lQ Zh}(h:(ps.map snd).Nodup){a b:Zh}(x:a∈ps)(u:b∈ps)(e:a.2=b.2):a=b:=by
 induction ps with
 | nil=>cases x
 | cons p r s =>
  rw[nV,pS]at h;rcases nU.mp x with rfl|y
  ·rcases nU.mp u with rfl|z
   ·rfl
   ·show absurd (mX.mpr #[b,z,e.symm]) h.1
  ·rcases nU.mp u with rfl|z
   ·show absurd (mX.mpr #[a,y,e]) h.1
   ·show s h.2 y z
def Zsp{ps:lQ Zh}{kd n:lR}{ss:lQ lR}{j:Nat}(h:ss[j]? =some n):wu ps kd (ss.take<|j+1)=wu ps kd (ss.take j)++if((kd,n):Zh)∈ps then[n]else[]:=by
 unfold wu;rw[og,h,tP,show(some n).toList=[n]from rfl,se]
 by_cases z:((kd,n):Zh)∈ps
 ·rw[mU (nS z),mU z,vI]
 ·rw[mT (by simpa using z),mT z,vI]
def He(ps:lQ Zh)(kd:lR)(ss:lQ lR):(wu ps kd ss).length<=ss.length:=vL _ _
def KB{T:Tx K mg}{N x l D:lS}{kd:lR}{ss:lQ lR}{ps:lQ Zh}{g:lQ (Zh×Zh)}{d:lQ (lR×lR×lR)}{s:Hp}{Q:VK}{z:St}{E:XK}
  (hk:∀{k:lR}{C y:lS}{nm:lR}{H:Hp},X9 T k C->qm H C y nm->∃t,Xp K H (.ref y) t/\kitOne K t (.ref N)=some (decide<|k=kd))
  (M:Ye T s x ps g d) (c:X2 ps g d) (L:ss.Perm (ps.map snd)) (hl:s l=some (.lst<|ss.map V.str)) (J:s D=none)
  (q:∀H',mC s H'->H' D=some (.lst<|(wu ps kd ss).map V.str)->Q (.ref D) H') {fr:St->St} (A3:fr z=[none,some<|.ref x]) :
  qV (ub K l) fr (qI 0) (tB<|yx (yk K)<|tY (GO T.aR "named" (HK T) [] E (rB 1) (tY (rB 0) wD))<|tY (tC<|.ref N) wD) (rB 0) Q z s D:=by
 obtain⟨u,o,n,j,h,e,a,Y,U,h1,_⟩:=M.ex;have hn:ss.length<=40:=by rw[L.length_eq,mK];show c.len
 refine Y9 (xs:=ss.map V.str) (λi p H'=>p=(wu ps kd<|ss.take i).map V.str/\H' D=some (.lst p)/\mC s H') #[rfl,Zc,pb J] ?_ ?_ ?_
 ·rintro i p H' _ ⟨_,_,r⟩;show mO<|r.at hl
 ·rintro j v p H' I ⟨rfl,A0,r⟩;rw[nJ]at I;obtain⟨n,G,rfl⟩:=nR.mp I;obtain⟨⟨k,B⟩,a,rfl⟩:=mX.mp<|L.mem_iff.mp<|pe G;unfold W4;rw[A3];refine#[oW rfl,r.at h1,rfl,x,B,k,ps,g,d,rfl,M.mono r,c,a,λy C u Y hC hO=>?_];obtain⟨t,ht,h⟩:=hk hC hO;have hd:decide (k=kd)=decide (((kd,B):Zh)∈ps):=by
   refine CD.mpr #[λe=>e ▸ a,λe=>?_];show oE fst<|VG c.net.nd a e rfl
  rw[hd]at h;refine#[ht,.inr #[_,rfl,h],?_];have A:=Y.at A0;rw[Zsp G];refine Yh (λU=>?_) λU=>?_
  ·rw[mU (pq U)];refine#[A,?_,?_,Zc,λb o e=>?_]
   ·rw[mK];have:=He ps kd<|ss.take j;rw[oh]at this;show Zo (by lia)
   ·rw[nj];rfl
   ·rw[Zd (Ze e J)];show Y.at<|r.at e
  ·rw[mT (λu=>U<|nS u),pH];show#[rfl,A,r.trans Y]
 ·rintro p o ⟨rfl,u,n⟩;rw[mK,oJ]at u;show q o n u
def Lz(h:PyProof.Rows.sortedS l=true)(f:lR->Bool):PyProof.Rows.sortedS (l.filter f)=true:=by
 refine PyProof.Rows.sortedS_of_pairwise _<|JH f ?_;cases l with
 | nil=>show .nil
 | cons x r=>show Hy h
inductive Hz(kd:lR):Sp
 | mk (x ps js sg):vs=[.ref x]->Ye T H x ps js sg->X2 ps js sg->(∀gs:lQ lR,(gs.Nodup/\PyProof.Rows.sortedS gs=true)->(∀n,n∈gs↔((kd,n):Zh)∈ps)->gs.length<=40->pD H (.lst<|gs.map V.str) Q)->Hz kd vs H Q E
def Mv(h:ss.Perm (ps.map snd))(n:lR):n∈wu ps kd ss↔((kd,n):Zh)∈ps:=by
 unfold wu;rw[vC];show#[λz=>pq z.2,λz=>#[h.mem_iff.mpr<|mX.mpr #[_,z,rfl],nS z]]
def MH:T.fw.O P w mg mD 3 (Hz T "gate"):=by
 refine T.fw.F.okA ?_;rfl'
 ·obtain⟨x,o,i,g,rfl,u,z,q⟩:=h;intro X D;obtain⟨p,n,l,j,a,Y,U,N,M,e,_⟩:=u.ex;refine mP (Zl<|pF ["name","tracks"] (oR 1 [0] rfl) (Ya<|Y1 (pv 0) T.ak T.dC (Py T) hr.m T.bN.b .nil Z0) (oA 0) (tO<|Ym<|Z4 (r:=yk K) Cm (by rfl) T.af rP<|Zb (Yb (pv 1) T.ak T.cR (EN T) hr.m T.bg.b .nil Z0<|Zb (pv 0) Za)<|Zb (X7 (v:=.ref T.bw) (by rfl) T.jb rfl) Za) (pv 0)) #[e,rfl,x,o,i,g,rfl,u,z,λd y c l N p M n=>#[mO n,λD j=>KB X9.gate (u.mono p) z y n j (λa Y U=>q _ ?_ (Mv y) ?_ D a (p.trans Y) (p.free j) U) rfl]]
  ·show#[(y.nodup_iff.mpr z.net.nd).filter _,Lz c _]
  ·have:=He o "gate" d;rw[y.length_eq,mK]at this;show ow this z.len
def Kj:T.eQ.O P w mg mD 3 (Hz T "points"):=by
 refine T.eQ.F.okA ?_;rfl'
 ·obtain⟨x,o,i,g,rfl,u,z,q⟩:=h;intro X D;obtain⟨p,n,l,j,a,Y,U,N,M,e,_⟩:=u.ex;refine mP (Zl<|pF ["name","tracks"] (oR 1 [0] rfl) (Ya<|Y1 (pv 0) T.ak T.dC (Py T) hr.m T.bN.b .nil Z0) (oA 0) (tO<|Ym<|Z4 (r:=yk K) Cm (by rfl) T.af rP<|Zb (Yb (pv 1) T.ak T.cR (EN T) hr.m T.bg.b .nil Z0<|Zb (pv 0) Za)<|Zb (X7 (v:=.ref T.aE) (by rfl) T.iq rfl) Za) (pv 0)) #[e,rfl,x,o,i,g,rfl,u,z,λd y c l N p M n=>#[mO n,λD j=>KB X9.pts (u.mono p) z y n j (λa Y U=>q _ ?_ (Mv y) ?_ D a (p.trans Y) (p.free j) U) rfl]]
  ·show#[(y.nodup_iff.mpr z.net.nd).filter _,Lz c _]
  ·have:=He o "points" d;rw[y.length_eq,mK]at this;show ow this z.len
def UD{z y x:Type}{F:z->y->Prop}{G:z->x->Prop}{g:y->x}{l:lQ z}{m:lQ y}(h:Paired F l m)(k:∀a b,F a b->G a (g b)):Paired G l (m.map g):=by
 induction h with
 | nil=>show .nil
 | cons r t u=>show .cons (k _ _ r) u
def QL{z y:Type}{f:z->y}(u:∀a b,f a=f b->a=b){l:lQ z}(h:l.Nodup):(l.map f).Nodup:=List.pairwise_map.mpr<|h.imp λx e=>x<|u _ _ e
def BJ(l:lQ (lR×lR)):lQ (ng×V):=l.map λp=>(X5 p.1,V.str p.2)
inductive NG:Sp
 | mk (x ps js sg):vs=[.ref x]->Ye T H x ps js sg->X2 ps js sg->(∀gs:lQ lR,(gs.Nodup/\PyProof.Rows.sortedS gs=true)->(∀n,n∈gs↔(("points",n):Zh)∈ps)->gs.length<=40->pD H (.dK<|BJ<|gs.map λn=>(n,"left")) Q)->NG vs H Q E
def SZ:T.df.O P w mg mD 4 (NG T):=by
 refine T.df.F.okA ?_;rfl'
 ·obtain⟨x,C,B,sg,rfl,tr,yv,q⟩:=h;intro X D;refine mP (Zl<|Y0 (r:=DO) (Ir rfl) (by rfl) T.eP zc<|Zb (pF ["points"] (oR 1 [] rfl) (Ya<|Zy (Kj T) hr<|Zb (pv 0) Za) (oA 0) Wb (Zi<|Zb (pv 0)<|Zb Zg Za)) Za) #[x,C,B,sg,rfl,tr,yv,λY N hm hn l z M y L=>#[mO L,λD J=>Y9 (xs:=Y.map V.str) (λi g c=>(∃u:lQ lS,g=u.map V.ref/\Paired (Zt c) u ((Y.take i).map λn=>(n,"left")))/\c D=some (.lst g)/\mC z c) #[#[[],rfl,.nil],Zc,pb J] ?_ ?_ ?_]]
  ·rintro i g c _ ⟨_,_,U⟩;show mO<|U.at L
  ·rintro j v g c d ⟨⟨u,rfl,a⟩,I,U⟩;rw[nJ]at d;obtain⟨n,hy,rfl⟩:=nR.mp d;have hl:=nH a;rw[mK,oh]at hl;unfold W4;refine#[oW rfl,mQ,λt G l z e2=>#[l.at I,?_,#[u++[t],?_,?_],Zc,λb o e=>?_]]
   ·rw[mK];show Zo (by lia)
   ·rw[nj];rfl
   ·rw[og,hy,nj];have off:∀{b:lS}{p:Zh},Zt G b p->Zt (mJ G D<|.lst<|u.map V.ref++[V.ref t]) b p:=λ{b p} z=>by
     unfold Zt at z ⊢;rw[Zd λy=>by rw[y,l.at I]at z;cases z];show z
    show pM (nK a λ_ _ r=>off<|r.mono l)<|.cons (off e2) .nil
   ·rw[Zd (Ze e J)];show l.at<|U.at e
  ·rintro g e ⟨⟨u,rfl,a⟩,y,z⟩;rw[mK,oJ]at a;refine#[D,u,BJ<|Y.map λn=>(n,"left"),rfl,y,?_,?_,λd p o l j=>q Y N hm hn d p (M.trans<|z.trans o) (M.free<|z.free l) j]
   ·unfold BJ;show UD a λ_ _ r=>r
   ·unfold BJ;rw[pi,pi];show QL wT N.1
inductive Ii(kd:lR):Sp
 | mk (x g ps js sg):vs=[.ref x,.str g]->Ye T H x ps js sg->X2 ps js sg->((kd,g):Zh)∈ps->(∀H',mC H H'->Q .non H')->Ii kd vs H Q E
def II:T.aG.O P w mg mD 4 (Ii T "gate"):=by
 refine T.aG.F.okW MJ ?_;rfl'
 ·obtain⟨x,g,z,y,u,rfl,r,p,o,q⟩:=h;intro X D;refine mP (Zv (uZ hr (pv 1)<|Zy (MH T) hr<|Zb (pv 0) Za) Zn Zk) #[x,z,y,u,rfl,r,p,λd c n a l j i Y e=>.inl #[.inl<|mO e,rfl,Wq _,?_]];rw[mU rfl,wB,nS<|(n g).mpr o];show(q j i)
inductive Lj:Sp
 | mk (n:Nat):vs=[.int (n:Int)]->1<=n->n<=4->Q .non H->Lj  vs H Q E
def QE:T.ay.O P w mg mD 1 Lj:=by
 refine T.ay.F.okW MK ?_;rfl'
 ·obtain⟨n,rfl,y,x,q⟩:=h;intro X D;refine mP (Zv (qj<|qr (Xc<|Ym<|ro "int" T.af T.fi vZ<|pv 0)<|qr (Ym<|ro "bool" T.af T.fQ Am<|pv 0)<|sv<|Xc<|zm sw sw Zf (pv 0)<|W1 (by rfl) T.bA) Zn Zk) #[Xp.int _,.inl<|pz rfl T.jY,#[Xp.int _,.inl<|pz rfl T.jZ,?_]];dsimp only[oB];rw[mT oU];refine Yh (λ_=>?_) λz=>absurd (nS (show(1:Int)<=n by lia)) z;refine Yh (λz=>?_) λ_=>q;have z:(!decide ((n:Int)<=4))=true:=z;rw[nS (show(n:Int)<=4 by lia)]at z;cases z
def Qj(v:V)(S:lR->Prop):Prop:=sX v=true/\∀z:lQ lR,(∀n∈z,S n)->ur v (z.map V.str)=false
def Qs(v:V):Prop:=(∃i:Int,v=.int i/\¬(1<=i/\i<=4))\/(∃b,v=.bl b)\/v=.non\/∃s,v=.str s
inductive GH:Sp
 | mk (v d kvs):vs=[v,.ref d]->H d=some (.dK kvs)->(CJ K H v false\/∃nm:lR,v=.str nm/\Xn nm/\(Y8 kvs<|X5 nm).isSome=true)->(∀H',mC H H'->E (.ref T.au) none H')->GH vs H Q E
def Vm:Xs P w K mg mD (ol P w) 2 T.aF.f T.aF.fd ["name","known"] (GH T):=by
 refine T.aF.F.okX OV ?_;rfl'
 ·obtain⟨v,d,x,rfl,hd,u,q⟩:=h;intro X D;rcases u with r|⟨nm,rfl,p,o⟩
  ·show mM (Zv (Xc<|Ym<|Zy (Ae T) hr<|Zb (pv 0) Za) Zn Zk) #[_,false,rfl,r,λy z=>((mP (Ww T.gw tF rfl<|Zb Zg Za) #[mQ,q y z]))]
  ·refine mM (Zv (Xc<|Ym<|Zy (Ae T) hr<|Zb (pv 0) Za) Zn Zk) #[_,true,rfl,p.asked,λy z=>(?_)];refine mP (Zv (xI hr (pv 0)<|pv 1) Zn Zk)<|.inr<|.inl #[d,_,rfl,qB (k:=X5 nm)<|z.at hd,?_];rw[o];show(mP (Ww T.gw tF rfl<|Zb Zg Za) #[mQ,q y z])
def ZI(h:2<=k:=by lk):Xs P w K mg mD (ol P w) k T.aF.f T.aF.fd ["name","known"] (GH T):=(Vm T).mono h
inductive Ej(kd:lR)(c:lS):Sp
 | mk (x v ps js sg):vs=[.ref x,v]->Ye T H x ps js sg->X2 ps js sg->Qj v (λn=>((kd,n):Zh)∈ps)->(∀H',mC H H'->E (.ref c) none H')->Ej kd c vs H Q E
def Zkq:Xs P w K mg mD (ol P w) 4 T.aG.f T.aG.fd ["tracks","gate"] (Ej T "gate" T.bo):=by
 refine T.aG.F.okX MJ ?_;rfl'
 ·obtain⟨x,v,u,r,p,rfl,o,j,y,q⟩:=h;intro X D;refine mP (Zv (uZ hr (pv 1)<|Zy (MH T) hr<|Zb (pv 0) Za) Zn Zk) #[x,u,r,p,rfl,o,j,λi n g c l e d a z=>.inl #[.inl<|mO z,y.1,Wq _,?_]];rw[mU rfl,y.2 i λn z=>(g n).mp z];show(mP (Ww T.hW tF rfl<|Zb Zg Za) #[mQ,q e d])
def WO(h:4<=k:=by lk):Xs P w K mg mD (ol P w) k T.aG.f T.aG.fd ["tracks","gate"] (Ej T "gate" T.bo):=(Zkq T).mono h
inductive EV:Sp
 | mk (v):vs=[v]->Qs v->E (.ref T.bi) none H->EV vs H Q E
def Sx:Xs P w K mg mD (ol P w) 1 T.ay.f T.ay.fd ["long"] (EV T):=by
 refine T.ay.F.okX MK ?_;rfl'
 ·obtain⟨v,rfl,x,q⟩:=h;intro X D;rcases x with⟨i,rfl,u⟩|⟨b,rfl⟩|rfl|⟨t,rfl⟩
  ·refine mP (Zv (qj<|qr (Xc<|Ym<|ro "int" T.af T.fi vZ<|pv 0)<|qr (Ym<|ro "bool" T.af T.fQ Am<|pv 0)<|sv<|Xc<|zm sw sw Zf (pv 0)<|W1 (by rfl) T.bA) Zn Zk) #[Xp.int _,.inl<|pz rfl T.jY,#[Xp.int _,.inl<|pz rfl T.jZ,(Yh (λy=>?_) λy=>?_)]];rotate_left
   ·show((mP (Ww T.cU tF rfl<|Zb Zg Za) #[mQ,q]))
   have y:1<=i:=pq y;dsimp only[tC,vf,oI];rw[show decide (i<=4)=false from om λz=>u #[y,z]];show(mP (Ww T.cU tF rfl<|Zb Zg Za) #[mQ,q])
  ·show mP (Zv (qj<|qr (Xc<|Ym<|ro "int" T.af T.fi vZ<|pv 0)<|qr (Ym<|ro "bool" T.af T.fQ Am<|pv 0)<|sv<|Xc<|zm sw sw Zf (pv 0)<|W1 (by rfl) T.bA) Zn Zk) #[Xp.bl _,.inl<|pz rfl T.ke,#[Xp.bl _,.inl<|pz rfl T.kf,(mP (Ww T.cU tF rfl<|Zb Zg Za) #[mQ,q])]]
  ·show mP (Zv (qj<|qr (Xc<|Ym<|ro "int" T.af T.fi vZ<|pv 0)<|qr (Ym<|ro "bool" T.af T.fQ Am<|pv 0)<|sv<|Xc<|zm sw sw Zf (pv 0)<|W1 (by rfl) T.bA) Zn Zk) #[Xp.non,.inl<|pz rfl T.kg,(mP (Ww T.cU tF rfl<|Zb Zg Za) #[mQ,q])]
  ·show mP (Zv (qj<|qr (Xc<|Ym<|ro "int" T.af T.fi vZ<|pv 0)<|qr (Ym<|ro "bool" T.af T.fQ Am<|pv 0)<|sv<|Xc<|zm sw sw Zf (pv 0)<|W1 (by rfl) T.bA) Zn Zk) #[Xp.str _,.inl<|pz rfl T.kh,(mP (Ww T.cU tF rfl<|Zb Zg Za) #[mQ,q])]
def SU(h:1<=k:=by lk):Xs P w K mg mD (ol P w) k T.ay.f T.ay.fd ["long"] (EV T):=(Sx T).mono h
def Re(H:Hp)(t:lS)(part:lR)(q:lR×lR×lR):Prop:=H t=some (.tup [.str part,.str q.1,.str q.2.1,.str q.2.2])
def Bd(z:lQ Bool)(len j:Nat):Prop:=j<z.length/\z.getD j true=false/\true∈z.drop (j+len)
abbrev Zr:=lR×(lR×lR×lR)
def Zx{z:Type}(f:z->V)(y:lQ (lR×z)):lQ (ng×V):=y.map λq=>(Sum.inr q.1,f q.2)
theorem Wc{z:Type}{f:z->V}:∀{x:lQ (lR×z)}{q:lR×z},(x.map fst).Nodup->q∈x->Y8 (Zx f x) (Sum.inr q.1)=some (f q.2)
 | [],_,_,h=>by simp at h
 | r ::x,q,u,h=>by
  rw[show Zx f (r ::x)=(Sum.inr r.1,f r.2) ::Zx f x from rfl];rw[nV,pS]at u;rcases nU.mp h with e|e
  ·rw[e];show yJ rfl
  ·rw[wG λy=>u.1 (by rw[vQ y];show mX.mpr #[q,e,rfl])];show Wc u.2 e
theorem X4{z:Type}{f:z->V}:∀{u:lQ (lR×z)}{x:lR},x∉u.map fst->Y8 (Zx f u) (Sum.inr x)=none
 | [],_,_=>rfl
 | r ::u,x,h=>by
  rw[show Zx f (r ::u)=(Sum.inr r.1,f r.2) ::Zx f u from rfl];rw[nV,nU,not_or]at h;rw[wG λy=>h.1 (vQ y).symm];show X4 h.2
def GE{z:Type}{f:z->V}{y:lQ (lR×z)}{v:z}(h:x∉y.map fst):Ws (Zx f y) (Sum.inr x) (f v)=Zx f (y++[(x,v)]):=by
 rw[On _ (X4 h)];simp[Zx]
def sr(H:Hp)(ts:lQ lS)(ss:lQ Zr):Prop:=Paired (λt (q:Zr)=>Re H t q.1 q.2) ts ss
def Yi(H:Hp)(l:lS)(ss:lQ Zr):Prop:=∃z,H l=some (.lst<|z.map V.ref)/\sr H z ss
def sr.mono(e:mC H H')(h:sr H ts ss):sr H' ts ss:=nK h λ_ _ r=>e.at r
def Yi.mono(e:mC H H')(h:Yi H l ss):Yi H' l ss:=let⟨z,y,x⟩:=h;#[z,e.at y,x.mono e]
def sr.off(h:sr H ts ss)(y:∀xs,H c≠some (.tup xs)):sr (mJ H c o) ts ss :=
 nK h λt q r=>by
  unfold Re at r ⊢;rw[Zd λz=>y _<|z ▸ r];show r
def Yi.off(h:Yi H l ss)(z:l≠c)(y:∀xs,H c≠some (.tup xs)):Yi (mJ H c o) l ss:=by
 obtain⟨x,u,s⟩:=h;show#[x,by rw[Zd z];show u,s.off y]
def xh(q:Zr):Tr:=.tup [.str q.1,.str q.2.1,.str q.2.2.1,.str q.2.2.2]
def sr.im(h:sr H ts ss):Paired (Im K H 1) (ss.map xh) (ts.map V.ref):=by
 induction h with
 | nil=>show .nil
 | cons r _ z=>show .cons (vj (mW r)<|.cons (.str _)<|.cons (.str _)<|.cons (.str _)<|.cons (.str _) .nil) z
def Yi.im(h:Yi H l ss):Im K H 2 (.lst<|ss.map xh) (.ref l):=let⟨_,z,y⟩:=h;tS (mO z) y.im
def Yo(H:Hp)(d:lS)(z:lQ (lR×lS))(val:lR->lQ Zr):Prop:=H d=some (.dK<|Zx V.ref z)/\∀e∈z,Yi H e.2<|val e.1
def Yo.mono{val:lR->lQ Zr}(e:mC H H')(h:Yo H d z val):Yo H' d z val:=#[e.at h.1,λx y=>(h.2 x y).mono e]
def Kn(e:mC H H')(h:Xk H a y o):Xk H' a y o:=by
 rcases h with⟨z,k,x,u,s⟩|⟨z,k,b,x,u,s,r⟩
 ·show .inl #[z,k,e.rd x,u,s]
 ·show .inr #[z,k,b,e.rd x,u,e.at s,r]
def Yiy(u:PI X y l a)(r:PI X y l b):PI X y l (λz H R=>a z H R\/b z H R):=λx s z H R I h=>h.elim (u x s z H R I)<|r x s z H R I
def xN(H:Hp)(l:lS)(ss:lQ Zr):Prop:=∃z:lQ lS,(H l=some (.lst<|z.map V.ref)\/H l=some (.tup<|z.map V.ref))/\sr H z ss
def xN.mono(e:mC H H')(h:xN H l ss):xN H' l ss:=let⟨z,y,x⟩:=h;#[z,y.imp e.at e.at,x.mono e]
def Yi.seq(h:Yi H l ss):xN H l ss:=let⟨z,y,x⟩:=h;#[z,.inl y,x]
def KH{fr:St->St}(r:sr s ts ss)(a:ss.length<=100)(n:s D=none)(q:∀H',mC s H'->H' D=some (.lst<|(ss.map fst).map V.str)->Q (.ref D) H')(j:fr z=[none])
  (C:∀Pv:Nat->lQ V->Hp->Prop,Pv 0 [] (mJ s D<|.lst [])->(∀i u H,Pv i u H->mC s H)->(∀i x u H,(ts.map V.ref)[i]? =some x->Pv i u H->W4 fr (qI 0) zB (qQ (zf K) (rB 0)<|tC<|.int 0) z D x u H (Pv<|i+1))->(∀u H,Pv (ts.map V.ref).length u H->Q (.ref D) H)->qV J fr (qI 0) zB (qQ (zf K) (rB 0)<|tC<|.int 0) Q z s D):qV J fr (qI 0) zB (qQ (zf K) (rB 0)<|tC<|.int 0) Q z s D:=by
 refine C (λi u H'=>u=((ss.map fst).map V.str).take i/\H' D=some (.lst u)/\mC s H') #[rfl,Zc,pb n] (λ_ _ _ p=>p.2.2) ?_ ?_
 ·rintro k v u H' p ⟨rfl,h,l⟩;rw[nJ]at p;obtain⟨t,g,rfl⟩:=nR.mp p;obtain⟨y,d,c⟩:=pj r g;unfold W4;rw[j];refine#[oW rfl,.inr<|.inl #[mW<|l.at c,rfl,h,?_,?_,Zc,λb o e=>?_]]
  ·rw[oh,mK,mK];show Zo (by lia)
  ·rw[og,nJ,nJ,d];rfl
  ·rw[Zd (Ze e n)];show l.at e
 ·rintro u y ⟨rfl,p,o⟩;refine q y o ?_;rw[p,mK,nH r,sK (by rw[mK,mK];show nk _)]
inductive Pr:Sp
 | mk (l) (ss:lQ Zr):vs=[.ref l]->xN H l ss->ss.length<=100->(∀p H',mC H H'->H p=none->H' p=some (.lst<|(ss.map fst).map V.str)->Q (.ref p) H')->Pr  vs H Q E
def DY:T.fz.O P w mg mD 1 Pr:=by
 refine T.fz.F.okA ?_;rfl'
 ·obtain⟨l,z,rfl,y,j,q⟩:=h;intro X D;obtain⟨z,y,g⟩:=y;refine mP (Zl<|pF ["step"] (oR 1 [] rfl) (Yiy (Ya<|pv 0)<|Au<|pv 0) (oA 0) Wb (qH (K:=K) rfl (pv 0) Zf))<|y.imp (λe=>#[mO e,λD z=>KH g j z (λx u r=>q D x u z r) rfl λPv o n=>Y9 Pv o λi l H _ p=>mO<|(n i l H p).at e]) λe=>#[mW e,λD z=>KH g j z (λx u r=>q D x u z r) rfl λPv o n=>Ge Pv o λi l H _ p=>mW<|(n i l H p).at e]
def Hi(z:lQ lR)(val:lR->lQ Zr)(x r:lR):Prop:=(∃t∈z,x∈(val t).map fst/\r=t)\/((∀t∈z,x∉(val t).map fst)/\r ="")
inductive PN:Sp
 | mk (d x) (es:lQ (lR×lS)) (val:lR->lQ Zr):vs=[.ref d,.str x]->Yo H d es val->(es.map fst).Nodup->es.length<=100->(∀t,(val t).length<=100)->(∀r H',mC H H'->Hi (es.map fst) val x r->Q (.str r) H')->PN  vs H Q E
def IP:T.gT.O P w mg mD 2 PN:=by
 refine T.gT.F.okW EZ ?_;rfl'
 ·obtain⟨d,x,u,val,rfl,⟨hd,U⟩,y,r,G,q⟩:=h;intro X D;refine mM (zx<|Yw oO rfl (wV<|pv 0) (rE rfl<|Zu (nZ 2 EZ)<|Zu (nZ 3 EZ) Xd) Zn) #[hd,λo N=>Dr (λi z M=>(∃g c,z=[some (.ref d),some<|.str x,g,c])/\mC (mJ H d<|.frz o<|.dK<|Zx V.ref u) M/\∀t∈(u.map fst).take i,x∉(val t).map fst) #[#[none,none,rfl],qc _,by simp] ?_ ?_ ?_]
  ·rintro i z M _ ⟨_,y,_⟩;show y.at Zc
  ·rintro i kv z C L ⟨⟨g,c,rfl⟩,n,j⟩ tp B J n3 e3;rw[show Zx V.ref u=u.map λq=>(Sum.inr q.1,V.ref q.2)from rfl,nJ]at L;obtain⟨e,he,rfl⟩:=nR.mp L;have a:e∈u:=pe he;have V2:(u.map fst)[i]? =some e.1:=by rw[nJ,he];rfl
   have Y:e.2≠d:=λy=>by
    obtain⟨l,I,_⟩:=U e a;rw[y,hd]at I;cases I
   have N3:Yi B e.2 (val e.1):=((U e a).off (o:=.frz o<|.dK<|Zx V.ref u) Y λl y=>by rw[hd]at y;cases y).mono (n.trans J);refine#[mW e3,rfl,rfl,?_];refine mP (Zv (xI hr (pv 1)<|Zy (DY T) hr<|Zb (pv 3) Za) Zn Zk) #[e.2,val e.1,rfl,N3.seq,G e.1,λpf H4 s4 n4 l=>.inl #[.inl<|mO l,rfl,Wq _,?_]];have r:=n.trans<|J.trans s4;rw[mT oU,wB];refine Yh (λp=>?_) λp=>?_
   ·have p:x∈(val e.1).map fst:=pq p;show mP (Zl<|pv 2) #[d,o,_,r.at Zc,N,q e.1 _ (yr hd r)<|.inl #[e.1,mX.mpr #[e,a,rfl],p,rfl]]
   ·have p:x∉(val e.1).map fst:=λy=>p<|nS y
    refine#[#[_,_,rfl],r,λt l=>?_];rw[og,V2,oj]at l;rcases l with y|y
    ·show j t y
    ·simp at y;rw[y];show p
  ·rintro z C ⟨⟨g,c,rfl⟩,n,j⟩;rw[show(Zx V.ref u).length=(u.map fst).length by rw[mK];show mK ..,oJ]at j;show#[d,o,_,n.at Zc,N,mP (Zl Zg)<|q "" _ (yr hd n)<|.inr #[j,rfl]]
def Yo.read{val:lR->lQ Zr}(h:Yo H d y val)(p:(y.map fst).Nodup)(u:mC (mJ H d<|.frz o<|.dK<|Zx V.ref y) s)(he:e∈y):Yi s e.2 (val e.1)/\Xk s d (.str e.1) (some<|.ref e.2):=by
 obtain⟨hd,r⟩:=h;have x:e.2≠d:=λz=>by
  obtain⟨n,q,_⟩:=r e he;rw[z,hd]at q;cases q
 refine#[((r e he).off (o:=.frz o<|.dK<|Zx V.ref y) x λn z=>by rw[hd]at z;cases z).mono u,?_];rw[<-Wc p he];show .inl #[_,Sum.inr e.1,.inr #[o,u.at Zc],rfl,rfl]
def Dm{z:lQ (lR×lS)}{i:Nat}{kv:ng×V}(y:(Zx V.ref z)[i]? =some kv):∃e∈z,z[i]? =some e/\(z.map fst)[i]? =some e.1/\kv=(Sum.inr e.1,V.ref e.2):=by
 rw[show Zx V.ref z=z.map λq=>(Sum.inr q.1,V.ref q.2)from rfl,nJ]at y;obtain⟨e,he,rfl⟩:=nR.mp y;show#[e,pe he,he,by rw[nJ,he];rfl,rfl]
def Bf{z:Type}{f:z->V}(y:lQ (lR×z)):(Zx f y).length=(y.map fst).length:=by rw[mK];show mK ..
def VW:T.aK.O P w mg mD 1 (wH T.aS "part"):=by
 refine T.aK.F.okA ?_;rfl'
 ·obtain⟨e,t,v,rfl,he,q⟩:=h;intro X D;show mP (Gc (pv 0) (pv 1) rfl) #[e,T.aS,T.ap,t,rfl,he,T.dG.cls,T.dG.sa,T.dG.na,q]
def De(h:1<=k:=by lk):T.aK.O P w mg mD k (wH T.aS "part"):=(VW T).mono h
def Aq(z:lR->Prop)(xs:lQ lR)(i:Nat):Prop:=∀j y,j<i->xs[j]? =some y->y∉xs.take j/\¬z y
def Lb(z:lR->Prop)(xs:lQ lR)(x:lR):Prop:=∃i,xs[i]? =some x/\(x∈xs.take i\/z x)/\Aq z xs i
def uB(z:lQ lR)(val:lR->lQ Zr)(x:lR):Prop:=∃t∈z,x∈(val t).map fst
inductive KC(C:lS):Sp
 | mk (d p) (es:lQ (lR×lS)) (val:lR->lQ Zr) (ss:lQ Zr):vs=[.ref d,.ref p]->Yo H d es val->(es.map fst).Nodup->es.length<=100->(∀t,(val t).length<=100)->(∀t∈es.map fst,t≠ "")->xN H p ss->ss.length<=100->(∀H',mC H H'->Aq (uB (es.map fst) val) (ss.map fst) ss.length->Q .non H')->(∀dx H' x,mC H H'->H dx=none->Lb (uB (es.map fst) val) (ss.map fst) x->H' dx=some (.xd [("part",.str x)])->E (.ref C) (some dx) H')->KC C vs H Q E
def Nt{u:lQ lR}{val:lR->lQ Zr}{x r:lR}(q:∀t∈u,t≠ "")(h:Hi u val x r):(r≠ "")↔uB u val x:=by
 rcases h with⟨t,y,s,rfl⟩|⟨p,rfl⟩
 ·show#[λ_=>#[r,y,s],λ_=>q r y]
 ·show#[λz=>absurd rfl z,λ⟨t,y,s⟩=>absurd s<|p t y]
def Zlw:Xs P w K mg mD (ol P w) 3 T.bF.f T.bF.fd ["paths","steps"] (KC T.aS):=by
 refine T.bF.F.okX Hm ?_;rfl'
 ·obtain⟨d,p,C,val,n,rfl,U4,hfd,P6,J7,w9,hp,D4,q,qE⟩:=h;intro X D;refine mM (mY 2 Hm<|Zm Za) #[mQ,λa x s1 n1 e1=>?_];refine mM (Yw PassesOwn.leaving rfl (Ya<|Zy (DY T) hr<|Zb (pv 1) Za) (nZ 3 Hm) Zn) #[p,n,rfl,hp.mono s1,D4,λpf r x n2 u=>#[mO u,Xm (xs:=(n.map fst).map V.str) (λi z c=>(∃o3,z=[some (.ref d),some<|.ref p,some<|.ref a,o3])/\mC H c/\c pf=some (.lst<|(n.map fst).map V.str)/\c a=some (.lst<|((n.map fst).take i).map V.str)/\Aq (uB (C.map fst) val) (n.map fst) i)
   #[#[none,rfl],s1.trans x,u,x.at e1,λj y h=>absurd h<|vT _] ?_ ?_ ?_]]
  ·rintro i z c _ ⟨_,_,e,_⟩;show mO e
  ·rintro i v z U hi ⟨⟨o3,rfl⟩,Y,e3,l,N⟩;rw[nJ]at hi;obtain⟨y,B,rfl⟩:=nR.mp hi;have C3:i<(n.map fst).length:=(oo.mp B).1;rw[mK]at C3;have npa:pf≠a:=λx=>by
    rw[x]at n2;rw[e1]at n2;cases n2
   let I17:IC:=λe c=>e=[some (.ref d),some<|.ref p,some<|.ref a,some<|.str y]/\mC U c/\y∉(n.map fst).take i/\¬uB (C.map fst) val y
   refine pL I17 ?_ ?_
   ·refine pN (Zv (qj<|qr (xI hr (pv 3)<|pv 2)<|sv<|rH hr (Zy (IP T) hr<|Zb (pv 0)<|Zb (pv 3) Za) Zg) Zn Zk)<|.inl #[.inl<|mO l,rfl,Wq _,?_];rw[mT oU,wB];have M:∀g,mC U g->(y∈(n.map fst).take i\/uB (C.map fst) val y)->∀L,g L=none->E (.ref T.aS) (some L) (mJ g L<|.xd [("part",.str y)]):=λg u o L hn=>qE L _ y ((Y.trans u).trans (pb hn)) ((Y.trans u).free hn) #[i,B,o,N] Zc
    refine Yh (λJ=>?_) λJ=>?_
    ·show mP (yS T.dG T.cz (De T) T.aK.b hr rfl T.hU<|Zb (pv 3) Za)<|pz rfl<|M U (qc _)<|.inl<|pq J
    ·have J:y∉(n.map fst).take i:=λx=>J<|nS x
     refine#[d,y,C,val,rfl,U4.mono Y,hfd,P6,J7,λr g u hh=>.inl #[rfl,Yh (λo=>?_) λo=>?_]]
     ·have o:r≠ "":=λx=>by rw[x]at o;simp at o
      show mP (yS T.dG T.cz (De T) T.aK.b hr rfl T.hU<|Zb (pv 3) Za)<|pz rfl<|M g u<|.inr<|(Nt w9 hh).mp o
     ·refine#[rfl,u,J,λx=>o ?_];have:=(Nt w9 hh).mpr x;simp[this]
   rintro e g ⟨rfl,u,I,G⟩;refine mP (Z3<|rO (pv 2)<|pv 3) #[.inl #[rfl,_,mO<|u.at l],u.at l,?_,#[_,rfl],λb o x=>?_,?_,?_,?_]
   ·rw[mK,oh];show Zo (by lia)
   ·rw[Zd (Ze x n1)];show u.at<|Y.at x
   ·rw[Zd npa];show u.at e3
   ·rw[Zc,og,B,nj]
    rfl
   ·intro j x o r;rcases xw j i with h|h
    ·show N j x h r
    ·have:j=i:=by lia
     subst this;rw[B]at r;cases r;show#[I,G]
  ·rintro z U ⟨_,Y,_,_,N⟩;rw[mK,mK]at N;show WSs.nil<|q U Y N
def Wu(y:lQ lR)(val:lR->lQ Zr)(z:lR)(ss:lQ Zr):lR->lQ Zr:=open Classical in λt=>if t=z then(if z∈y then val z else[])++ss else val t
def Gk(z:lQ lR)(y:lR):lQ lR:=open Classical in if y∈z then z else z++[y]
def uS(y:lQ (lR×lS))(z:lR)(l:lS):lQ (lR×lS):=open Classical in if z∈y.map fst then y.map (λq=>if q.1=z then(z,l)else q)else y++[(z,l)]
def Zz8(u:lQ (lR×lS))(x:lR)(l:lS):(uS u x l).map fst=Gk (u.map fst) x:=by
 unfold uS Gk
 by_cases z:x∈u.map fst
 ·rw[mU z,mU z,pi];refine Ao λq _=>?_
  by_cases y:q.1=x
  ·simp[y]
  ·simp[y]
 ·rw[mT z,mT z,nj]
  rfl
def Yag(u:lQ (lR×lS))(y:lR)(l:lS):Ws (Zx V.ref u) (Sum.inr y) (.ref l)=Zx V.ref (uS u y l):=by
 unfold uS
 by_cases z:y∈u.map fst
 ·rw[mU z];have x:((Zx V.ref u).any λs=>decide<|s.1=Sum.inr y)=true:=by
   obtain⟨q,r,rfl⟩:=mX.mp z;show List.any_eq_true.mpr #[(Sum.inr q.1,V.ref q.2),mX.mpr #[q,r,rfl],by simp]
  unfold Ws;rw[mU x];unfold Zx;rw[pi,pi];refine Ao λq _=>?_
  by_cases h:q.1=y
  ·simp[h]
  ·have:¬(Sum.inr q.1:ng)=Sum.inr y:=λz=>h<|vQ z
   simp[h,this]
 ·rw[mT z];show GE z
def OK(h:e∈uS u x l):e=(x,l)\/(e∈u/\e.1≠x):=by
 unfold uS at h
 by_cases z:x∈u.map fst
 ·rw[mU z]at h;obtain⟨q,s,rfl⟩:=mX.mp h
  by_cases y:q.1=x
  ·show .inl<|mU y
  ·rw[mT y];show .inr #[s,y]
 ·rw[mT z]at h;rcases oj.mp h with y|y
  ·show .inr #[y,λw=>z<|w ▸ mX.mpr #[e,y,rfl]]
  ·show .inl<|oP.mp y
def Tk(h:(u.map fst).Nodup)(p:(u.map snd).Nodup)(s:l∉u.map snd):((uS u o l).map snd).Nodup:=by
 unfold uS
 by_cases z:o∈u.map fst
 ·rw[mU z];clear z
  induction u with
  | nil=>show tw
  | cons q u i =>
   rw[nV,pS]at h p;rw[nV,nU,not_or]at s;rw[nV,nV,pS];refine#[λg=>?_,i h.2 p.2 s.2];obtain⟨e,he,x⟩:=mX.mp g;obtain⟨r,j,rfl⟩:=mX.mp he
   by_cases y:q.1=o
   ·rw[mU y]at x;have n:r.1≠o:=λw=>h.1 (by rw[y,<-w];show mX.mpr #[r,j,rfl])
    rw[mT n]at x;show s.2<|mX.mpr #[r,j,x]
   ·rw[mT y]at x
    by_cases n:r.1=o
    ·rw[mU n]at x;show s.1 x
    ·rw[mT n]at x;show p.1<|mX.mpr #[r,j,x]
 ·rw[mT z,nj,qk];show#[p,by simp,λa x b r=>by rw[List.map_singleton,oP]at r;rw[r];intro y;rw[y]at x;show s x]
def Yo.put{val:lR->lQ Zr}(h:Yo H d u val)(e:mC H H')(o:Yi H' l ((if x∈u.map fst then val x else[])++ss)) :
  Yo (mJ H' d<|.dK<|Ws (Zx V.ref u) (Sum.inr x)<|.ref l) d (uS u x l) (Wu (u.map fst) val x ss):=by
 have s:=e.at h.1;have off:∀{c:lS}{r:lQ Zr},Yi H' c r->Yi (mJ H' d<|.dK<|Ws (Zx V.ref u) (Sum.inr x)<|.ref l) c r:=λ{c r} z=>z.off (λy=>by obtain⟨_,p,_⟩:=z;rw[y,s]at p;cases p) λg y=>by rw[s]at y;cases y
 refine#[by rw[Zc,Yag],λq n=>?_];rcases OK n with rfl|⟨j,i⟩
 ·have:Wu (u.map fst) val x ss x=(if x∈u.map fst then val x else[])++ss:=by unfold Wu;rw[mU rfl]
  change Yi _ l (Wu (u.map fst) val x ss x);rw[this];show off o
 ·have:Wu (u.map fst) val x ss q.1=val q.1:=by unfold Wu;rw[mT i]
  rw[this];show off<|(h.2 q j).mono e
structure Nd(H Hf:Hp)(D:Addr)(names:List Str)(val:Str->List Zr)(i:Nat)(ys:List V)(H':Hp):Prop where
 same:mC Hf H'
 at':H' D=some (.lst ys)
 all:∃(tps:List Addr)(g8:List (Str×Addr)),ys=tps.map V.ref/\g8.map fst=names.take i/\(g8.map snd).Nodup/\(∀e∈g8,H e.2=none/\e.2≠D/\Yi H' e.2 (val e.1))/\Paired (λt (q:ng×V)=>H' t=some (.tup [kV q.1,q.2])) tps (Zx V.ref g8)
inductive Qh(C:lS):Sp
 | mk (d p tr) (es:lQ (lR×lS)) (val:lR->lQ Zr) (ss:lQ Zr):vs=[.ref d,.str tr,.ref p]->Yo H d es val->(es.map fst).Nodup->es.length<=100->(∀t,(val t).length<=100)->(∀t∈es.map fst,t≠ "")->xN H p ss->ss.length<=100->(∀d' H' g8,Aq (uB (es.map fst) val) (ss.map fst) ss.length->mC H H'->H d'=none->Yo H' d' g8 (Wu (es.map fst) val tr ss)->g8.map fst=Gk (es.map fst) tr->(g8.map snd).Nodup->(∀e∈g8,H e.2=none)->Q (.ref d') H')->(∀dx H' x,mC H H'->H dx=none->Lb (uB (es.map fst) val) (ss.map fst) x->H' dx=some (.xd [("part",.str x)])->E (.ref C) (some dx) H')->Qh C vs H Q E
def JI:Xs P w K mg mD (ol P w) 4 T.ci.f T.ci.fd ["paths","train","steps"] (Qh T.aS):=by
 refine T.ci.F.okX Ru ?_;rfl'
 ·obtain⟨d,p,Y,C,val,ss,rfl,U4,hfd,P6,J7,w9,hp,D4,q,qE⟩:=h;intro X D;refine mM (Z3<|Xy (Zlw T) hr.m rfl T.bF.m T.bF.F.kp T.bF.b .nil wS<|Zb (pv 0)<|Zb (pv 2) Za) #[d,p,C,val,ss,rfl,U4,hfd,P6,J7,w9,hp,D4,λH1 s1 hg=>?_,qE];have U:=U4.mono s1;refine mM (mY 3 Ru<|Y0 (r:=DO) (Ir rfl) (by rfl) T.eP zc<|Zb (Dk<|pF ["name","path"] (oR 2 [] rfl) (wV<|pv 0) (wW (K:=K) (n:=2) rfl rfl<|Zu (oA 0)<|Zu (oA 1) Xd) Wb (Zi<|Zb (pv 0)<|Zb (Y0 (r:=AZ K) DB (by rfl) T.fP Ak<|Zb (pv 1) Za) Za)) Za) #[U.1,λo nf D hD=>Ey (Nd H1 (mJ H1 d<|.frz o<|.dK<|Zx V.ref C) D (C.map fst) val) ?_ ?_ ?_ ?_]
  ·refine#[pb hD,Zc,[],[],rfl,rfl,tw,by simp,.nil]
  ·rintro i ys H' _ b;show b.same.at Zc
  ·rintro i kv ys H2 hi b tp H3 N n3 B;obtain⟨e,R8,he,V2,rfl⟩:=Dm hi;obtain⟨N3,_⟩:=U.read hfd (b.same.trans N) R8;obtain⟨ts,m9,y9⟩:=id N3;obtain⟨tps,j,rfl,A4,N6,p0,hpr⟩:=b.all;have hD1:H1 D=none:=by
    by_cases z:D=d
    ·rw[z,Zc]at hD;cases hD
    ·rw[Zd z]at hD;show hD
   have C3:i<C.length:=(oo.mp he).1;have hel':j.length=i:=by
    have:=oE List.length A4;rw[mK,oh,mK]at this;lia
   have E3:tps.length=i:=by
    have:=nH hpr;rw[show(Zx V.ref j).length=j.length from mK ..]at this;lia
   have a:∀{c:lS}{H':Hp},mC (mJ H1 d<|.frz o<|.dK<|Zx V.ref C) H'->H' c=none->H1 c=none:=λ{c H'} sm z=>by
    have:=sm.free z
    by_cases y:c=d
    ·rw[y,Zc]at this;cases this
    ·rw[Zd y]at this;show this
   refine#[mW B,rfl,rfl,(oW rfl).trans (oW rfl),.inl<|mO m9,λl H4 x n4 e4=>#[mQ,λt H5 g n5 e5=>#[g.at<|x.at<|N.at b.at',?_,?_,Zc,tps++[t],j++[(e.1,l)],?_,?_,?_,?_,?_]]]
   ·rw[mK];show Zo (by lia)
   ·intro c u z;rw[Zd (Ze z hD)];show g.at<|x.at<|N.at<|b.same.at z
   ·rw[nj];rfl
   ·rw[nj,A4,og,V2];rfl
   ·rw[nj,qk];refine#[N6,by simp,?_];rintro c I c' J rfl;simp at J;obtain⟨M,G,hb⟩:=mX.mp I;obtain⟨_,h1,_⟩:=(p0 M G).2.2;rw[hb,J,N.free n4]at h1;cases h1
   ·have L:=N.trans<|x.trans g;have offD:∀{c:lS}{xs:lQ Zr}{I:HO},c≠D->Yi H5 c xs->Yi (mJ H5 D I) c xs:=λ{c xs I} nc z=>z.off nc λws y=>by rw[L.at b.at']at y;cases y
    intro M G;rcases oj.mp G with z|z
    ·obtain⟨h0,J,h1⟩:=p0 M z;show#[h0,J,offD J<|h1.mono L]
    ·simp at z;subst z;have J:l≠D:=λy=>by
      have:=N.at b.at';rw[<-y,n4]at this;cases this
     show#[a b.same<|N.free n4,J,offD J #[ts,g.at e4,y9.mono<|x.trans g]]
   ·have L:=N.trans<|x.trans g;have J:∀{c:lS}{xs:lQ V},H5 c=some (.tup xs)->c≠D:=λ{c xs} z y=>by
     rw[y,L.at b.at']at z;cases z
    rw[show Zx V.ref (j++[(e.1,l)])=Zx V.ref j++[(Sum.inr e.1,V.ref l)]from nj ..];refine pM (nK hpr λt q z=>?_)<|.cons ?_ .nil
    ·have I:=L.at z;rw[Zd (J I)];show I
    ·rw[Zd (J e5)];show e5
  ·rintro ys H2 b;have hDd:D≠d:=λz=>by rw[z,Zc]at hD;cases hD
   obtain⟨tps,j,rfl,A4,N6,p0,hpr⟩:=b.all;rw[Bf,oJ]at A4;have st:mC H1 (mJ H2 d<|.dK<|Zx V.ref C):=yr U.1 b.same;have hfz:=b.same.at (show(mJ H1 d<|.frz o<|.dK<|Zx V.ref C) d=some (.frz o<|.dK<|Zx V.ref C)from Zc);have L:(j.map fst).Nodup:=A4 ▸ hfd;have hel':j.length=C.length:=by
    have:=oE List.length A4;rw[mK,mK]at this;show this
   refine#[d,o,_,hfz,nf,D,tps,Zx V.ref j,rfl,by rw[Zd hDd];show b.at',nK hpr λt q z=>?_,?_,λd' H3 N n3 B=>?_]
   ·rw[Zd λy=>by rw[y,hfz]at z;cases z];show z
   ·have:(Zx V.ref j).map fst=(j.map fst).map Sum.inr:=by
     unfold Zx;rw[pi,pi]
     rfl
    rw[this];show Fm _ (λa b h z=>h<|vQ z) L
   have v6:=st.trans N;have J:Yo H3 d' j val:=by
    refine#[B,λq hq=>?_];obtain⟨_,_,h1⟩:=p0 q hq;refine(h1.off (λy=>?_) λxs y=>?_).mono N
    ·obtain⟨_,h2,_⟩:=h1;rw[y,hfz]at h2;cases h2
    ·rw[hfz]at y;cases y
   obtain⟨us,w6,huv⟩:=hp.mono<|s1.trans v6;have P9:us.length=ss.length:=nH huv;have hdn:H d'=none:=s1.free<|st.free n3;have fin:∀(l:lS)(H6:Hp),mC H3 H6->H3 l=none->Yi H6 l ((if Y∈j.map fst then val Y else[])++ss)->WSs (oS (ol P w) P w K mg mD ["paths","train","steps","told"] "longer" (Zj BL) T.ci.f d6 A mB s H E) [((Y7 BL).getD 3 (.Pass #[0,0,0,0]))] {nx:=λ_ H'=>Q .non H',rt:=Q} [some (.ref d),some<|.str Y,some<|.ref p,some<|.ref d'] (mJ H6 d'<|.dK<|Ws (Zx V.ref j) (Sum.inr Y)<|.ref l):=by
    intro l H6 I n6 hl;have O9:=J.put I hl;rw[A4]at O9;refine mP (Zl<|pv 3)<|q d' _ (uS j Y l) hg ?_ hdn O9 ?_ ?_ ?_
    ·intro c u z;rw[Zd (Ze z hdn)];show I.at<|v6.at<|s1.at z
    ·rw[Zz8,A4]
    ·refine Tk L N6 λz=>?_
     obtain⟨M,G,rfl⟩:=mX.mp z;obtain⟨_,h2,_⟩:=J.2 M G;rw[n6]at h2;cases h2
    ·intro M G;rcases OK G with rfl|⟨a,_⟩
     ·show s1.free<|v6.free n6
     ·show s1.free (p0 M a).1
   have sml:(Zx V.ref j).length<=1000:=by rw[show(Zx V.ref j).length=j.length from mK ..];lia
   by_cases V0:Y∈j.map fst
   ·obtain⟨M,G,hqe⟩:=mX.mp V0;obtain⟨vs,K2,a⟩:=J.2 M G;rw[hqe]at a;have hvn:vs.length=(val Y).length:=nH a;have V9:Xk H3 d' (.str Y) (some<|.ref M.2):=by
     rw[<-hqe,<-Wc L G];show qB (k:=Sum.inr M.1) B
    refine mM (X6 (Ys hr) (pv 3) (pv 1) (Zp Wm (yn (Ys hr) (pv 3) (pv 1) (Zm Za) #[rfl,rfl,rfl,rfl])<|Y0 (r:=AZ K) DB (by rfl) T.fP Ak<|Zb (pv 2) Za) rfl) #[d',rfl,.inl #[_,.inl B],mQ,λl0 H4 x n4 e4=>#[_,Kn x V9,w6.imp (λe=>mO<|x.at e) λe=>mW<|x.at e,λl1 H5 g n5 e5=>.inr<|.inr #[g.at<|x.at K2,e5,?_,λl2 H6 I n6 e6=>#[sQ (k:=Sum.inr Y) (I.at<|g.at<|x.at B)<|Zo sml,fin l2 H6 (x.trans<|g.trans I) (x.free<|g.free n6) ?_]]]]
    ·rw[mK,mK];show sz (by have:=J7 Y;lia)
    ·rw[mU V0];refine#[vs++us,by rw[e6,nj],?_];show pM (a.mono<|x.trans<|g.trans I)<|huv.mono<|x.trans<|g.trans I
   ·have V9:Xk H3 d' (.str Y) none:=by
     rw[<-X4 (f:=V.ref) V0];show qB (k:=Sum.inr Y) B
    refine mM (X6 (Ys hr) (pv 3) (pv 1) (Zp Wm (yn (Ys hr) (pv 3) (pv 1) (Zm Za) #[rfl,rfl,rfl,rfl])<|Y0 (r:=AZ K) DB (by rfl) T.fP Ak<|Zb (pv 2) Za) rfl) #[d',rfl,.inl #[_,.inl B],mQ,λl0 H4 x n4 e4=>#[_,Kn x V9,w6.imp (λe=>mO<|x.at e) λe=>mW<|x.at e,λl1 H5 g n5 e5=>.inr<|.inr #[g.at e4,e5,?_,λl2 H6 I n6 e6=>#[sQ (k:=Sum.inr Y) (I.at<|g.at<|x.at B)<|Zo sml,fin l2 H6 (x.trans<|g.trans I) (x.free<|g.free n6) ?_]]]]
    ·rw[mK];show sz (by simp;lia)
    ·rw[mT V0];show#[us,by rw[e6];simp,huv.mono<|x.trans<|g.trans I]
structure Gd where
 lies:List (Str×Str)
 stiff:List (Str×Bool)
 val:Str->List Zr
 told:List (Str×Bool)
structure xg(H:Hp)(dl ds dp dt:Addr)(es:List (Str×Addr))(g:Gd):Prop where
 lies:H dl=some (.dK<|Zx V.str g.lies)
 stiff:H ds=some (.dK<|Zx V.bl g.stiff)
 paths:Yo H dp es g.val
 told:H dt=some (.dK<|Zx V.bl g.told)
def xg.mono(e:mC H H')(h:xg H dl ds z y x g):xg H' dl ds z y x g:=#[e.at h.lies,e.at h.stiff,h.paths.mono e,e.at h.told]
def xF{z:Type}{f:z->V}(s:lQ (lR×z))(x:lR):Y8 (Zx f s) (Sum.inr x)=(s.lookup x).map f:=by
 induction s with
 | nil=>rfl
 | cons r s q =>
  rw[show Zx f (r ::s)=(Sum.inr r.1,f r.2) ::Zx f s from rfl]
  by_cases y:r.1=x
  ·subst y;rw[yJ rfl,pI,we]
   rfl
  ·rw[wG λu=>y<|vQ u,q,pI];have:(x ==r.1)=false:=by rw[qt];show λu=>y u.symm
   rw[this]
def OJ(H:Hp)(x dl ds z y:lS):Prop:=∃u,H x=some (.ins T.cM u [("lie_of",.ref dl),("stiff_ones",.ref ds),("path_of",.ref z),("told",.ref y)])
inductive Eg(K:lW):Sp
 | mk (x C dx u1 u2 u3 u4):vs=[.ref x,u1,u2,u3,u4]->H x=some (.ins C dx [])->pP K C->mV K C "lie_of"->mV K C "stiff_ones"->mV K C "path_of"->mV K C "told"->Q .non (mJ H x<|.ins C dx [("lie_of",u1),("stiff_ones",u2),("path_of",u3),("told",u4)])->Eg K vs H Q E
def YI:T.bI.O P w mg mD 1 (Eg K):=by
 refine T.bI.F.okA ?_;rfl'
 ·obtain⟨x,C,p,o,n,l,j,rfl,z,c,y,u,r,q,k⟩:=h;intro X D;refine mM (Wr (pv 0) (pv 1) rfl) #[z,c,y,by simp,?_];refine mM (Wr (pv 0) (pv 2) rfl) #[Zc,c,u,by change 1<1000;decide,?_];refine mM (Wr (pv 0) (pv 3) rfl) #[Zc,c,r,by change 2<1000;decide,?_];refine mP (Wr (pv 0) (pv 4) rfl) #[Zc,c,q,by change 3<1000;decide,?_];rw[Fg,Fg,Fg];show k
def Rs:lQ V->Hp->VK->Prop:=λr H Q=>∃dl y u s,r=[.ref dl,.ref y,.ref u,.ref s]/\∀x z,mC H z->H x=none->OJ T z x dl y u s->Q (.ref x) z
def WA:∀vs H Q,Rs T vs H Q->
  ∀x z,H x=none->H z=none->z≠x->Eg K (.ref x ::(vs++[])) (mJ (mJ H z<|.own x) x<|.ins T.cM z []) (λv s=>v=.non/\Q (.ref x) s) E0:=by
 rintro vs H Q ⟨dl,p,o,n,rfl,h⟩ x z y r l;refine#[x,T.cM,z,_,_,_,_,rfl,Zc,T.dD,T.dE,T.cS,T.dq,T.eI,rfl,h x _ (λb o e=>?_) y #[z,Zc]];have u:b≠x:=Ze e y;have q:b≠z:=Ze e r;rw[Zd u,Zd u,Zd q];show e
def AR(H:Hp)(v:V)(a:lV (lR×lR)):Prop:=match a with|none=>v=.non|some z=>∃p,v=.ref p/\H p=some (.tup [.str z.1,.str z.2])
def uM(P:md)(w:lZ)(K:lW)(mg:lR->lV lT)(mD:lY)(k:Nat)(H:Hp)(f x:lS)(a:lV (lR×lR)):Prop :=
 ∀z,mC H z->wa z f/\∀Q:VK,(∀v y,mC z y->AR y v a->Q v y)->Iy P w K mg mD k f z [.ref x] Q
def uM.up(h:uM P w K mg mD k H f x a)(l:k<=j):uM P w K mg mD j H f x a:=λz y=>#[(h z y).1,λQ q A u s r p=>(h z y).2 Q q A u s r (p.mono l)]
def Yo.soft{val:lR->lQ Zr}(z:∀b o,H b=some o->BM o->H' b=some o)(h:Yo H d y val):Yo H' d y val :=
 #[z _ _ h.1 trivial,λe he=>let⟨x,u,s⟩:=h.2 e he;#[x,z _ _ u trivial,nK s λ_ _ r=>z _ _ r trivial]]
def xg.soft(z:∀b o,H b=some o->BM o->H' b=some o)(h:xg H dl ds y x u g):xg H' dl ds y x u g :=
 #[z _ _ h.lies trivial,z _ _ h.stiff trivial,h.paths.soft z,z _ _ h.told trivial]
structure sR(T:Tx K mg)(H:Hp)(gr:Addr)(es:List (Str×Addr))(g:Gd)(dl ds dp dt:Addr):Prop where
 at_:OJ T H gr dl ds dp dt
 four:xg H dl ds dp dt es g
 vl:∀t,(g.val t).length<=100
 st:∀q∈g.stiff,q.2=true
 fd:(es.map fst).Nodup
 el:es.length<=100
 ne:∀e∈es,e.1≠ ""
def sR.mono(e:mC H H')(h:sR U H z y g dl ds x u):sR U H' z y g dl ds x u:=#[h.at_.imp λ_ q=>e.at q,h.four.mono e,h.vl,h.st,h.fd,h.el,h.ne]
def sR.soft(z:∀b o,H b=some o->BM o->H' b=some o)(h:sR U H y x g dl ds u s):sR U H' y x g dl ds u s:=#[h.at_.imp λ_ q=>z _ _ q trivial,h.four.soft z,h.vl,h.st,h.fd,h.el,h.ne]
open Classical in
def ua(z:lQ lR)(g:Gd)(x:lR):lV (lR×lR):=if ∃t∈z,x∈(g.val t).map fst then some (("held":lR),x)else none
def Wx(g:Gd)(x:lR):lV (lR×lR):=if(g.told.lookup x).getD false=true then some (("taken":lR),x)else none
def xW(H:Hp)(f:lS)(x:lR):Prop:=∃c,Clo H T.bT f (~~~"rule_held") (Bc<|pc X3) (zp<|pc X3) (vz<|pc X3) [("part",c)]/\CellAt H c (.str x)
def yC(H:Hp)(f:lS)(x:lR):Prop:=∃c,Clo H T.bq f (~~~"rule_taken") (Bc<|pc Xr) (zp<|pc Xr) (vz<|pc Xr) [("part",c)]/\CellAt H c (.str x)
def xW.mono(e:mC H H')(h:xW U H f x):xW U H' f x:=let⟨c,z,y⟩:=h;#[c,z.mono e,y.mono e]
def yC.mono(e:mC H H')(h:yC U H f x):yC U H' f x:=let⟨c,z,y⟩:=h;#[c,z.mono e,y.mono e]
inductive Cw(R:Hp->lS->lR->Prop):Sp
 | mk (x):vs=[.str x]->rj T H->(∀f H',mC H H'->H f=none->R H' f x->Q (.ref f) H')->Cw R vs H Q E
def Ek:T.dv.O P w mg mD 1 (Cw T<|xW T):=by
 refine T.dv.F.okM T.eK Ux (λz H Q E h=>?_) λy A u s H z Q E r h=>?_
 ·obtain⟨x,rfl,_⟩:=h
  rfl
 ·obtain⟨x,rfl,y,q⟩:=h;show uG.last #[rfl,y.rule_held,_,rfl,λu s r p o n=>q u s r p #[_,o,(n 0 "part" (.str x) _ rfl rfl rfl rfl).2]]
def EL:T.cV.O P w mg mD 1 (Cw T<|yC T):=by
 refine T.cV.F.okM T.dW Uh (λz H Q E h=>?_) λy A u s H z Q E r h=>?_
 ·obtain⟨x,rfl,_⟩:=h
  rfl
 ·obtain⟨x,rfl,y,q⟩:=h;show uG.last #[rfl,y.rule_taken,_,rfl,λu s r p o n=>q u s r p #[_,o,(n 0 "part" (.str x) _ rfl rfl rfl rfl).2]]
def Pu{u:lQ lR}{g:Gd}{x r:lR}(q:∀t∈u,t≠ "")(p:Hi u g.val x r):(r≠ "")↔∃t∈u,x∈(g.val t).map fst:=by
 rcases p with⟨t,y,s,rfl⟩|⟨o,rfl⟩
 ·show#[λ_=>#[_,y,s],λ_=>q _ y]
 ·show#[λz=>absurd rfl z,λ⟨t,y,s⟩=>absurd s<|o t y]
def GA{H:Hp}{f Y dl ds U D:lS}{x:lR}{j:lQ (lR×lS)}{g:Gd}(R:xW T H f x)(G:sR T H Y j g dl ds U D):uM P w K mg mD 4 H f Y (ua (j.map fst) g x):=by
 intro C N;obtain⟨c,M,B⟩:=R.mono N;have L:rG C (vz<|pc X3) [("part",c)] ["part"] [.str x]:=#[.cons #[rfl,c,rfl,B] .nil,by simp,by simp,by simp]
 refine#[M.fn,λQ q=>?_];refine BZ (g :="ground") M L (λ_ _ _ _=>rfl) rfl (by lk) (by left) (by left) rfl rfl rfl λd6 A mB s J=>?_
 have u:=(G.mono N).soft λb o e n=>L.soft e n
 obtain⟨z,hg⟩:=u.at_;refine sU (W7 (rH J (Zy (IP T) J<|Zb (Z6 (pv 0) rfl)<|Zb (pv 1) Za) Zg) (Zi<|Zb Zg<|Zb (pv 1) Za) tD) #[hg,T.dD,T.dq,rfl,U,x,j,g.val,rfl,u.four.paths,u.fd,u.el,u.vl,λr z I l=>.inl #[rfl,Yh (λy=>?_) λy=>?_]]
 ·have y:r≠ "":=by simpa using y
  have i:=(Pu (λt h=>by obtain⟨e,he,rfl⟩:=mX.mp h;show G.ne e he) l).mp y;refine#[mQ,λp H3 z n3 Q=>#[I.trans z,λd E a=>q _ d a ?_]];unfold ua;rw[mU i];show#[p,rfl,E.at Q]
 ·have y:¬r≠ "":=by simpa using y
  have i:=λz=>y<|(Pu (λt h=>by obtain⟨e,he,rfl⟩:=mX.mp h;show G.ne e he) l).mpr z
  refine#[I,λd E a=>q _ d a ?_];unfold ua;rw[mT i];show rfl
def Ev(R:yC T H f x)(G:sR T H h J g dl ds I d):uM P w K mg mD 4 H f h (Wx g x):=by
 intro a l;obtain⟨c,j,Y⟩:=R.mono l;have L:rG a (vz<|pc Xr) [("part",c)] ["part"] [.str x]:=#[.cons #[rfl,c,rfl,Y] .nil,by simp,by simp,by simp]
 refine#[j.fn,λQ q=>?_];refine BZ (g :="ground") j L (λ_ _ _ _=>rfl) rfl (by lk) (by left) (by left) rfl rfl rfl λE A D s U=>?_
 have z:=(G.mono l).soft λb o e n=>L.soft e n
 obtain⟨p,N⟩:=z.at_;refine sU (W7 (Ym<|yn (Ys U) (Z6 (pv 0) rfl) (pv 1) qR #[rfl,rfl,rfl,rfl]) (Zi<|Zb Zg<|Zb (pv 1) Za) tD) #[N,T.dD,T.eI,rfl,d,rfl,.inl #[_,.inl z.four.told],_,qB (k:=Sum.inr x) z.four.told,?_];rw[xF];have e:(Option.map V.bl<|g.told.lookup x).getD (V.bl false)=V.bl ((g.told.lookup x).getD false):=by cases g.told.lookup x<;>rfl
 rw[e];refine(Yh (λy=>?_) λy=>?_)
 ·refine#[mQ,λp C Q B M=>#[Q,λu i r=>q _ u r ?_]];unfold Wx;rw[mU y];show#[p,rfl,i.at M]
 ·refine#[qc _,λu i r=>q _ u r ?_];unfold Wx;rw[mT y];show rfl
def uN:lQ (lV<|lR×lR)->lV (lR×lR)
 | []=>none
 | some z ::_=>some z
 | none ::r=>uN r
theorem Gi:∀{l:lQ (lV<|lR×lR)},(∀a∈l,a=none)->uN l=none
 | [],_=>rfl
 | a ::r,h=>by
  have:a=none:=h a<|ph ..;subst this;show Gi (l:=r) λb z=>h b<|pG _ z
theorem Na:∀{l:lQ (lV<|lR×lR)}{i:Nat}{z:lR×lR},l[i]? =some (some z)->(∀a∈l.take i,a=none)->uN l=some z
 | [],_,_,h,_=>by simp at h
 | a ::r,0,z,h,_=>by
  have:a=some z:=by simpa using h
  subst this
  rfl
 | a ::r,i+1,z,h,n=>by
  have:a=none:=n a (by simp);subst this;show Na (l:=r) (i:=i) (by simpa using h) λb y=>n b (by rw[Ox];show pG _ y)
inductive Lk(P:md)(w:lZ)(K:lW)(mg:lR->lV lT)(mD:lY):Sp
 | mk (l gr) (fs:lQ lS) (ans):vs=[.ref l,.ref gr]->SqL K H l (fs.map V.ref)->Paired (λf a=>uM P w K mg mD 5 H f gr a) fs ans->(∀v H',mC H H'->AR H' v (uN ans)->Q v H')->Lk P w K mg mD vs H Q E
def HX:T.gm.O P w mg mD 6 (Lk P w K mg mD):=by
 refine T.gm.F.okW Gy ?_;rfl'
 ·obtain⟨l,G,fs,ans,rfl,d,c,q⟩:=h;intro X D;have C:fs.length=ans.length:=nH c;let r:IF:=λi z Y=>(∃o n,z=[some (.ref l),some<|.ref G,o,n])/\mC H Y/\∀a∈ans.take i,a=none
  refine mM (Yw oO rfl (Ya<|pv 0) (nZ 2 Gy) Zn) #[d,Xm (xs:=fs.map V.ref) r #[#[none,none,rfl],qc _,by simp] ?_ ?_ ?_]
  ·rintro i z Y _ ⟨_,y,_⟩;show y.seq d
  ·rintro i v z U N ⟨⟨o,n,rfl⟩,x,u⟩;rw[nJ]at N;obtain⟨f,B,rfl⟩:=nR.mp N;obtain⟨a,M,an⟩:=pj c B;obtain⟨L,run⟩:=an U x;refine mM (mY 3 Gy<|NU (k:=5) hr (pv 2)<|Zb (pv 1) Za) #[f,rfl,L,L,run _ λv H2 J j=>?_];refine mP (Zv (Yf Yco (pv 3) tD<|Yn _) Zn Zk) #[rfl,Yh (λg=>?_) λg=>?_]
   ·refine mP (Zl<|pv 3)<|q v H2 (x.trans J) ?_;cases a with
    | none=>cases(show v=.non from j);simp at g
    | some y=>rw[Na M u];show j
   ·refine#[#[_,_,rfl],x.trans J,λb I=>?_];rw[og,M,oj]at I;rcases I with y|y
    ·show u b y
    ·simp at y;rw[y];cases a with
     | none=>rfl
     | some y=>obtain⟨p,e,_⟩:=j;subst e;simp at g
  ·rintro z U ⟨⟨o,n,rfl⟩,x,u⟩;rw[mK,C,oJ]at u;show mP (Zl tD) (q _ _ x<|by rw[Gi u];rfl)
def tZ:lQ lR:=["","a","b","c","d","stem","left","right"]
def ut(ns:lQ lR)(q:S4):Prop:=q.1∈ns/\q.2.1∈tZ/\q.2.2.1∈tZ/\q.2.2.2∈tZ
def Ygj:∀k∈qp,∀z∈Yr k,∀y∈wF k,z∈tZ/\wk k z y∈tZ/\y∈tZ:=by left
def Le(k:lR):(wF k).length<=2:=by unfold wF;split<;>decide
inductive oY(ns:List Str)(H:Hp):List Addr->List S4->Prop
 | mk (h:Paired (sy H) us qs) (o:∀q∈qs,ut ns q):oY ns H us qs
def oY.mono(e:mC H H')(h:oY ns H us qs):oY ns H' us qs:=let⟨h,o⟩:=h;#[nK h λ_ _ r=>r.mono e,o]
def oY.nil:oY ns H [] []:=#[.nil,(λ_ z=>nomatch z)]
def oY.len(h:oY ns H us qs):us.length=qs.length:=let⟨h,_⟩:=h;nH h
def oY.snoc(h:oY ns H us qs)(r:sy H u q)(o:ut ns q):oY ns H (us++[u]) (qs++[q]):=by
 obtain⟨h,k⟩:=h;refine#[pM h<|.cons r .nil,λp y=>?_];rcases oj.mp y with z|z
 ·show k p z
 ·rw[oP.mp z];show o
def oY.get(h:oY ns H us qs){i:Nat}{u:lS}(e:us[i]? =some u):∃q,qs[i]? =some q/\sy H u q/\ut ns q:=by
 obtain⟨h,k⟩:=h;obtain⟨q,z,r⟩:=pj h e;show#[q,z,r,k q<|pe z]
def oY.off(h:oY ns H us qs)(y:H c=some (.lst xs)):oY ns (mJ H c o) us qs:=by
 obtain⟨h,k⟩:=h;show#[nK h λt q (r:H t=_)=>show mJ H c o t=_ from(Zd λz=>by rw[z,y]at r;cases r).trans r,k]
def Bp(ns:lQ lR)(H:Hp)(l:lS)(n:Nat):Prop:=∃z y,H l=some (.lst<|z.map V.ref)/\oY ns H z y/\y.length<=n
def Bp.none(h:H l=some (.lst [])):Bp ns H l n:=#[[],[],h,.nil,sH _]
inductive Lw:Sp
 | mk (x t) (e:Zh) (ps js sg):vs=[.ref x,.ref t]->Ye T H x ps js sg->X2 ps js sg->Zt H t e->(∀l H',mC H H'->H l=none->Bp (ps.map snd) H' l 2->Q (.ref l) H')->Lw vs H Q E
def Vn(h:e∈Yu ps):∃k,((k,e.1):Zh)∈ps/\e.2∈Yr k:=by
 obtain⟨p,z,y⟩:=uj.mp h;obtain⟨x,u,rfl⟩:=mX.mp y;show#[p.1,z,u]
def CB(h:Zt H' u e):Im K H' 1 (pJ e) (.ref u):=vj (n:=0) (mW h)<|.cons (.str _)<|.cons (.str _) .nil
def Znp:T.ee.O P w mg mD 4 (Lw T):=by
 refine T.ee.F.okW AN ?_;rfl'
 ·obtain⟨x,t,⟨nm,Y⟩,N,js,sg,rfl,tr,yv,ht,q⟩:=h;intro X D;obtain⟨y,_,_,_,_,_,_,_,_,h1,_⟩:=tr.ex;have imN:∀e:Hp,Im K e 1 (pJ ("","")) (.ref T.dH):=λe=>vj (n:=0) (T.iL e)<|.cons (.str _)<|.cons (.str _) .nil
  by_cases hm:((nm,Y):Zh)∈Yu N
  ·obtain⟨k,hk,S7⟩:=Vn hm;have R1:=yv.net.kind _ hk;refine mM (Zv (oZ hr (Yb (pv 0) T.ak T.cN (Fh T) hr.m T.aY.b .nil Z0<|Zb (pv 1) Za)<|X7 (v:=.ref T.dH) (by rfl) T.ib rfl) Zn Zk) #[h1,rfl,x,t,(nm,Y),N,js,sg,rfl,tr,yv,ht,.inl #[hm,λt' u p g=>.inr<|.inl #[1,pJ u,pJ ("",""),by lk,.inl #[_,_,rfl,rfl],CB g,imN _,Yh (λz=>?_) λ_=>?_]]]
   ·show mP (Zl<|Zm Za) #[mQ,λl H2 M n2 e2=>q l H2 M n2<|.none e2]
   refine mM (mY 2 AN<|ny (pv 1) Zf)<|.inr<|.inl #[mW ht,Zq (j:=0) rfl,?_];refine mM (mY 3 AN<|ny (pv 1) Zf)<|.inr<|.inl #[mW ht,Zq (j:=1) rfl,?_];refine mM (mY 4 AN<|Yb (pv 0) T.ak T.cR (EN T) hr.m T.bg.b .nil Z0<|Zb (pv 2) Za) #[h1,rfl,x,nm,k,N,js,sg,rfl,tr,yv,hk,λy C H1 s1 hC hO=>?_];obtain⟨dy,hy⟩:=id hO;obtain⟨u,p,m1,b1,g1⟩:=hC.lies;refine mM (xo 5 ["lie","name","entry","part"] AN (oR 1 [2,3,4] rfl) (Ya Ah) (oA 0) Wb (Zi<|Zb (pv 1)<|Zb (pv 2)<|Zb (Yb (pv 3) hC.cls.1 hC.cls.2.2 (Znq T) hr.m T.aO.b .nil Z0<|Zb (pv 2)<|Zb (pv 0) Za)<|Zb (pv 0) Za))<|sU (Y1 (pv 4) hC.cls.1 m1 (g1 _ _ _ 3<|by lk) hr b1 .nil Z0) #[hy,rfl,_,rfl,λp H2 M n2 e2=>#[mO e2,λD hD=>Y9 (K:=K) (xs:=(wF k).map V.str) (λi c e=>(∃us qs,c=us.map V.ref/\oY (N.map snd) e us qs/\qs.length=i)/\e D=some (.lst c)/\mC H2 e) #[#[[],[],rfl,.nil,rfl],Zc,pb hD] ?_ ?_ ?_]]
   ·rintro i c e _ ⟨_,_,sm⟩;show mO<|sm.at e2
   ·rintro i v c e I ⟨⟨us,qs,rfl,w6,hl⟩,a,sm⟩;rw[nJ]at I;obtain⟨p,u,rfl⟩:=nR.mp I;have C3:=(oo.mp u).1;have h2:=Le k;have P9:=w6.len;have g:=sm.at<|M.at hy;have lo:=Ygj k R1 Y S7 p<|pe u;refine#[oW rfl,g,rfl,k,y,C,nm,Y,p,rfl,hC,#[dy,g],λL J=>#[mQ,λU G d n4 B=>#[d.at<|J.at a,by rw[mK];show Zo (by lia),#[us++[U],qs++[(nm,Y,wk k Y p,p)],by rw[nj];rfl,?_,by rw[nX,hl];rfl],Zc,?_]]]
    ·show(((w6.mono J).mono d).snoc (q:=(nm,Y,wk k Y p,p)) B #[mX.mpr #[_,hk,rfl],lo.1,lo.2.1,lo.2.2]).off (d.at<|J.at a)
    ·intro b o z;rw[Zd (Ze z hD)];show d.at<|J.at<|sm.at z
   ·rintro c L ⟨⟨us,qs,rfl,w6,hl⟩,hD3,J⟩;have hO3:qm L C y nm:=(hO.mono M).mono J;have h2:=Le k;have P9:=w6.len;rw[mK]at hl;refine mP (Zl<|Z4 (r:=EW K) (Ob hr.units) (by rfl) T.cH vG<|Zb (pF ["step","part"] (oR 1 [4] rfl) (Ya<|pv 5) (oA 0) (tO<|qj<|qr (Yf (r:=uo K) (wK hr) (qH (K:=K) rfl (pv 0) Zf) Zg<|Yn _)<|sv<|Ym<|Z4 (r:=yk K) Cm (by rfl) T.af rP<|Zb (pv 1)<|Zb (X7 (v:=.ref T.bv) (by rfl) T.ja rfl) Za) (pv 0)) Za) #[mO hD3,λB z8=>Y9 (K:=K) (xs:=us.map V.ref) (λi c e=>(∃vs ws,c=vs.map V.ref/\oY (N.map snd) L vs ws/\ws.length<=i)/\e B=some (.lst c)/\mC L e) #[#[[],[],rfl,.nil,nk _],Zc,pb z8] ?_ ?_ ?_]
    ·rintro i c e _ ⟨_,_,sm⟩;show mO<|sm.at hD3
    ·rintro i v c G I ⟨⟨vs,ws,rfl,K2,hl4⟩,U,d⟩;rw[nJ]at I;obtain⟨a,hti,rfl⟩:=nR.mp I;obtain⟨q4,hq4,ht4,ok4⟩:=w6.get hti;have C3:=(oo.mp hti).1;obtain⟨ty,hty,hkit⟩:=hC.stop<|hO3.mono d;have J7:=K2.len;have yes:G B=some (.lst<|vs.map V.ref)/\(vs.map V.ref).length<sizeLine/\(∃p u,vs.map V.ref++[.ref a]=p.map V.ref/\oY (N.map snd) L p u/\u.length<=i+1)/\mJ G B (.lst<|vs.map V.ref++[.ref a]) B=some (.lst<|vs.map V.ref++[.ref a])/\mC L (mJ G B<|.lst<|vs.map V.ref++[.ref a]) :=
      #[U,by rw[mK];show Zo (by lia),#[vs++[a],ws++[q4],by rw[nj];rfl,K2.snoc ht4 ok4,by rw[nX];show xT hl4],Zc,λb o z=>by rw[Zd (Ze z z8)];show d.at z]
     have no:(∃p u,vs.map V.ref=p.map V.ref/\oY (N.map snd) L p u/\u.length<=i+1)/\G B=some (.lst<|vs.map V.ref)/\mC L G:=#[#[vs,ws,rfl,K2,by lia],U,d]
     refine#[oW rfl,.inr<|.inl #[mW<|d.at ht4,Zq (j:=2) rfl,.inl #[rfl,Yh (λ_=>yes) λ_=>#[hty,.inr #[_,rfl,hkit],?_]]]]
     by_cases g:k ="gate"\/k ="stop"
     ·rw[nS g];show yes
     ·rw[om g];show no
    ·rintro c G ⟨⟨vs,ws,rfl,K2,hl4⟩,U,d⟩;rw[mK]at hl4;have p:=K2.mono d;refine#[B,vs,rfl,mO U,λa ha=>?_,λg hp l H5 s5 n5 e5=>q l H5 (s1.trans<|M.trans<|J.trans<|d.trans s5) (s1.free<|M.free<|J.free<|d.free n5) ?_]
     ·obtain⟨i,I⟩:=Ag ha;obtain⟨q4,_,a,_⟩:=p.get I;show#[q4.1,[q4.2.1,q4.2.2.1,q4.2.2.2],a]
     ·obtain⟨hv,ok⟩:=p.mono s5;obtain⟨u,a,p2⟩:=Gb hp hv;show#[g,u,e5,#[p2,λq hq=>ok q<|a.mem_iff.mp hq],by rw[a.length_eq];lia]
  ·refine mM (Zv (oZ hr (Yb (pv 0) T.ak T.cN (Fh T) hr.m T.aY.b .nil Z0<|Zb (pv 1) Za)<|X7 (v:=.ref T.dH) (by rfl) T.ib rfl) Zn Zk) #[h1,rfl,x,t,(nm,Y),N,js,sg,rfl,tr,yv,ht,.inr #[hm,λt' H1 s1 u y=>.inr<|.inl #[1,pJ ("",""),pJ ("",""),by lk,.inl #[_,_,rfl,rfl],CB y,imN _,Yh (λ_=>?_) λz=>absurd (nS rfl) z]]];show mP (Zl<|Zm Za) #[mQ,λl H2 M n2 e2=>q l H2 (s1.trans M) (s1.free n2)<|.none e2]
inductive Kl:Sp
 | mk (x ps js sg):vs=[.ref x]->Ye T H x ps js sg->X2 ps js sg->(∀l ts sg' H',mC H H'->H l=none->H' l=some (.lst<|ts.map V.ref)->Paired (Aj H') ts sg'->sg'.Perm sg->Q (.ref l) H')->Kl vs H Q E
def VQ:T.bX.O P w mg mD 1 (Kl T):=by
 refine T.bX.F.okA ?_;rfl'
 ·obtain⟨x,u,l,C,rfl,tr,yv,q⟩:=h;intro X D;obtain⟨x,u,l,p,g,e,N,a,ko,h1,_,_,_,_,h6,h7,_⟩:=tr.ex;have hks:N.length=C.length:=by rw[h7.len];show mK ..
  have D4:=yv.sigs.len;refine mP (Zl<|Z4 (r:=EW K) (Ob hr.units) (by rfl) T.cH vG<|Zb (Dk<|pF ["name","end"] (oR 2 [] rfl) (wV<|Z6 (pv 0) rfl) (wW (K:=K) (n:=2) rfl rfl<|Zu (oA 0)<|Zu (oA 1) Xd) Wb (Zi<|Zb (pv 0)<|Zb (qH (K:=K) rfl (pv 1) Zf)<|Zb (qH (K:=K) rfl (pv 1) Zf) Za)) Za) #[h1,T.ak,T.bz,rfl,h6,λo nf D B=>Ey (λi L H'=>mC (mJ H p<|.frz o<|.dK N) H'/\H' D=some (.lst L)/\∃d:lQ lS,L=d.map V.ref/\Paired (Aj H') d (C.take i)) #[pb B,Zc,[],rfl,.nil] ?_ ?_ ?_]
  ·rintro i L H' _ ⟨z,_⟩;show z.at Zc
  ·rintro i kv L J hi ⟨M,z8,d,rfl,I⟩ tp H3 Y n3 e3;obtain⟨⟨nm,e⟩,g,a,t,hv,ht⟩:=pj h7 hi;have a:kv.1=Sum.inr nm:=a;rw[a,hv]at e3;have G:C[i]? =some (nm,e.1,e.2):=by
    unfold qS at g;rw[nJ]at g;obtain⟨⟨g1,g2,g3⟩,G,e'⟩:=nR.mp g;rw[G];simp only[yy]at e';rw[<-e'.1,<-e'.2]
   have hto:t≠p:=λz=>by rw[z]at ht;show nomatch h6.symm.trans ht
   have htF:mJ H p (.frz o<|.dK N) t=some (.tup [.str e.1,.str e.2]):=by
    rw[Zd hto];show ht
   have E3:d.length<=40:=by
    rw[nH I,oh];lia
   have x:=mW (K:=K)<|Y.at<|M.at htF;refine#[mW e3,rfl,rfl,(oW rfl).trans (oW rfl),.inr<|.inl #[x,Zq (j:=0) rfl,.inr<|.inl #[x,Zq (j:=1) rfl,mQ,λt' H4 l n4 e4=>#[l.at<|Y.at z8,by rw[mK];show Zo (by lia),?_,Zc,d++[t'],by rw[nj];rfl,?_]]]]
   ·intro c u z;rw[Zd (Ze z B)];show l.at<|Y.at<|M.at z
   ·have hD4:=l.at<|Y.at z8;have off:∀{c:lS}{U:lQ V}{u:HO},H4 c=some (.tup U)->mJ H4 D u c=some (.tup U):=λ{c U u} z=>(Zd λy=>by rw[y,hD4]at z;cases z).trans z
    rw[og,G];show pM (nK I λ_ _ z=>off<|l.at<|Y.at z)<|.cons (off e4) .nil
  ·rintro L J ⟨M,z8,d,rfl,I⟩;rw[hks,oJ]at I;have e:mC H (mJ J p<|.dK N):=yr h6 M;have u:D≠p:=λz=>by rw[z,Zc]at B;cases B
   have off:∀{c:lS}{U:lQ V},J c=some (.tup U)->mJ J p (.dK N) c=some (.tup U):=λ{c U} z=>(Zd λy=>by rw[y,M.at Zc]at z;cases z).trans z
   have x:Paired (Aj<|mJ J p<|.dK N) d C:=nK I λ_ _ z=>off z
   refine#[p,o,_,M.at Zc,nf,D,d,rfl,mO (by rw[Zd u];show z8),λa ha=>?_,λE7 hp l H3 Y n3 e3=>?_]
   ·obtain⟨i,hi⟩:=Ag ha;obtain⟨g,_,G⟩:=pj x hi;show#[g.1,[g.2.1,g.2.2],G]
   ·obtain⟨g,a,p2⟩:=Gb hp x;show q l E7 g H3 (e.trans Y) (e.free n3) e3 (nK p2 λ_ _ z=>Y.at z) a
inductive MT:Sp
 | mk (x) (g:lR×Zh) (ps js) (sg:lQ (lR×lR×lR)):vs=[.ref x,.str g.1]->Ye T H x ps js sg->X2 ps js sg->(g:lR×lR×lR)∈sg->(∀(t:lS)(H':Hp),mC H H'->Zt H' t g.2->Q (.ref t) H')->MT vs H Q E
def Ro:T.bu.O P w mg mD 2 (MT T):=by
 refine T.bu.F.okA ?_;rfl'
 ·obtain⟨x,⟨nm,e⟩,U,N,n,rfl,l,u,r,q⟩:=h;intro X D;obtain⟨x,U,N,j,M,L,i,J,I,p,_,_,_,_,o,g,_⟩:=l.ex;have d:((nm,e):lR×Zh)∈qS n:=mX.mpr #[(nm,e),r,rfl];obtain⟨v,c,t,rfl,a⟩:=g.get wT (by rw[Me];show u.sigs.nd) d;have y:Y8 i (X5 nm)=some (.ref t):=c;refine mM (Zv (qj<|qr (Xc<|Ym<|Zy (Ae T) hr<|Zb (pv 1) Za)<|sv<|uZ hr (pv 1)<|Z6 (pv 0) rfl) Zn Zk) #[_,true,rfl,(u.sigs.name _ r).asked,λY z=>#[z.at p,T.ak,T.bz,rfl,.inr<|.inl #[j,_,rfl,qB (k:=X5 nm)<|z.at o,?_]]];rw[y];show mP (Zl<|Y3 (Ys hr) (Z6 (pv 0) rfl) (pv 1) λ_ _=>rfl) #[z.at p,T.ak,T.bz,rfl,rM.mk (v:=.ref t) (by rw[<-y];show qB (k:=X5 nm)<|z.at o)<|q t Y z<|a.mono z]
def pZ(ns:lQ lR)(H:Hp)(t:lS)(sig:lR)(qs:lQ S4):Prop:=∃z,H t=some (.tup<|.str sig ::z.map V.ref)/\oY ns H z qs
def pZ.mono(e:mC H H')(h:pZ ns H t sig qs):pZ ns H' t sig qs:=let⟨z,y,x⟩:=h;#[z,e.at y,x.mono e]
def pZ.off(h:pZ ns H t sig qs)(x:H c=some (.lst xs)):pZ ns (mJ H c o) t sig qs:=by
 obtain⟨u,y,s⟩:=h;show#[u,(Zd λz=>by rw[z,x]at y;cases y).trans y,s.off x]
inductive Kc:Sp
 | mk (x t) (g:lR×Zh) (qs ps js) (sg:lQ (lR×lR×lR)):vs=[.ref x,.ref t]->Ye T H x ps js sg->X2 ps js sg->(g:lR×lR×lR)∈sg->pZ (ps.map snd) H t g.1 qs->qs.length<=100->(∀l H',mC H H'->H l=none->Bp (ps.map snd) H' l 2->(12<=qs.length->H' l=some (.lst []))->Q (.ref l) H')->Kc vs H Q E
def Ybz{Q:lS->Hp->Prop}{u:lS->Prop}(r:∀t',Q t' H->u t')(h:∀t' y H',mC H H'->Zt H' t' y->Q t' H'):(e∈Yu ps/\∀t' y,((e,y):Zh×Zh)∈qJ q->Zt H t' y->u t')\/(e∉Yu ps/\∀t' H',mC H H'->H t'=none->Zt H' t' ("","")->Q t' H'):=by
 by_cases z:e∈Yu ps
 ·show .inl #[z,λt' y _ x=>r t'<|h t' y H (qc _) x]
 ·show .inr #[z,λt' H' s _ x=>h t' _ H' s x]
def TW(n:Nat):wm (n+1) (-1)=some n:=by
 unfold wm;rw[mT (by lk)];simp
 constructor<;>lia
def Cp{z:Type}(xs:lQ z)(x:z):oH (xs++[x]) (-1)=some x:=by
 unfold oH;rw[nX,DM,TW];simp
def KW:T.fA.O P w mg mD 5 (Kc T):=by
 refine T.fA.F.okW DX ?_;rfl'
 ·obtain⟨x,t,⟨sig,e⟩,qs,ps,js,sg,rfl,tr,yv,hg,⟨g,ht,w6⟩,l,q⟩:=h;intro X D;have P9:=w6.len;obtain⟨l,_,_,_,_,_,_,_,_,h1,_⟩:=tr.ex;have G:((V.str sig ::g.map V.ref).length:Int)=((qs.length+1:Nat):Int):=by rw[pE,mK,P9]
  refine mM (Zv (Yf vU (pp T.aX<|pv 1) (W1 (by rfl) T.gO)<|Yn _) Zn Zk)<|.inl #[.inr<|mW ht,Yh (λy=>?_) λy=>?_]
  ·show mP (Zl<|Zm Za) #[mQ,λl H1 J n1 e1=>q l H1 J n1 (.none e1) λ_=>e1]
  have y:qs.length<12:=by
   rcases xw qs.length 12 with p|p
   ·show p
   ·show absurd (nS<|by rw[G];lia) y
  refine mM (mY 2 DX<|Yb (pv 0) T.ak T.dm (Ro T) hr.m T.bu.b .nil Z0<|Zb (ny (pv 1) Zf) Za) #[h1,rfl,.inr<|.inl #[mW ht,Zq (j:=0) rfl,x,(sig,e),ps,js,sg,rfl,tr,yv,hg,λtp H1 J hp=>?_]];have U:=J.at ht;let I19:IC:=λz d=>∃tl e',z=[some (.ref x),some<|.ref t,some<|.ref tp,some<|.ref tl,none]/\mC H1 d/\Zt d tl e'
  refine pL I19 ?_ ?_
  ·refine pN (mY 3 DX<|W7 (oZ hr (pp T.aX<|pv 1) Zf) (pv 2)<|Zy (Gm T) hr<|Zb (ny (pv 1)<|zZ An Zf) Za)<|.inl #[.inr<|mW U,.inl #[rfl,Yh (λp=>?_) λp=>?_]]
   ·show#[tp,e,rfl,qc _,hp]
   ·have p:0<g.length:=by
     rcases Nat.eq_zero_or_pos g.length with v|v
     ·show absurd (nS<|by rw[G,<-P9,v];rfl) p
     ·show v
    obtain⟨C,c,rfl⟩:∃C c,g=C++[c]:=#[g.dropLast,g.getLast<|List.ne_nil_of_length_pos p,(Cd _).symm]
    obtain⟨qq,_,I,_⟩:=(w6.mono J).get (i:=C.length) (u:=c) (by simp);have la:oH (V.str sig ::(C++[c]).map V.ref) (-1)=some (.ref c):=by
     rw[nj,<-List.cons_append];show Cp _ _
    show .inr<|.inl #[mW U,la,c,qq,rfl,I,λl H3 B n3 e3=>#[l,_,rfl,B,e3]]
  rintro z H2 ⟨tl,e',rfl,s2,hl⟩;have ht2:=s2.at U;have hus2:=(w6.mono J).mono s2;refine mM (mY 4 DX<|Zp Wm (Zm<|Zb (ny (pv 2) Zf) Za)<|pF ["step"] (oR 1 [] rfl) (Au<|Xq (r:=qN K) qZ (pv 1) (Xw Zf) Wl) (oA 0) Wb (qH (K:=K) rfl (pv 0) Zf))<|.inr<|.inl #[mW<|s2.at hp,Zq (j:=0) rfl,mQ,λla H3 B n3 e3=>.inl #[mW<|B.at ht2,?_,λt4 H4 s4 l N=>#[mW N,λD hD=>?_]]]
  ·rintro⟨p,_⟩;have:HT.sIx (V.str sig ::g.map V.ref).length 0 (some 1)=1:=by
    unfold HT.sIx;simp
   rw[this]at p;cases p
  have N:H4 t4=some (.tup<|g.map V.ref):=by
   have N:H4 t4=some (.tup<|qi (V.str sig ::g.map V.ref) (some ((1:Nat):Int)) none):=N;rw[wA]at N;show N
  refine Ge (K:=K) (xs:=g.map V.ref) (λi n d=>n=((qs.take i).map fst).map V.str/\d D=some (.lst n)/\mC H4 d) #[rfl,Zc,pb hD] ?_ ?_ ?_
  ·rintro i n d _ ⟨_,_,sm⟩;show mW<|sm.at N
  ·rintro i v n H5 hi ⟨rfl,Q0,s5⟩;rw[nJ]at hi;obtain⟨c,a,rfl⟩:=nR.mp hi;obtain⟨qq,l,I,_⟩:=hus2.get a;have r5:=I.mono<|B.trans<|s4.trans s5;refine#[oW rfl,.inr<|.inl #[mW r5,Zq (j:=0) rfl,Q0,by rw[mK,mK,oh];show Zo (by lia),?_,Zc,λb o p=>?_]]
   ·rw[og,l,nj,nj];rfl
   ·rw[Zd (Ze p hD)];show s5.at p
  rintro n H5 ⟨rfl,Q0,s5⟩;refine .inr<|.inr #[(s4.trans s5).at e3,Q0,by rw[mK,mK,oh];show sz (by change 1+_<=_;lia),λl H6 s6 n6 e6=>?_];have s26:=B.trans<|s4.trans<|s5.trans s6;have F4:=J.trans<|s2.trans s26;refine mP (Zl<|pF ["step","passed"] (oR 1 [4] rfl) (Ya<|Zy (Znp T) hr<|Zb (pv 0)<|Zb (Yb (pv 0) T.ak T.cN (Fh T) hr.m T.aY.b .nil Z0<|Zb (pv 3) Za) Za) (oA 0) (tO<|Yf (r:=Iq K) (Ow hr) (qH (K:=K) rfl (pv 0) Zf) (pv 1)<|by with_unfolding_all rfl) (pv 0)) #[F4.at h1,rfl,x,tl,e',ps,js,sg,rfl,tr.mono F4,yv,hl.mono s26,Ybz (λ_ y=>y) λt7 e7 H7 s7 p7=>#[x,t7,e7,ps,js,sg,rfl,tr.mono<|F4.trans s7,yv,p7,λl8 l s8 n8 ⟨vs,C,h8,K2,Q6⟩=>#[mO h8,λD2 z8=>Y9 (K:=K) (xs:=vs.map V.ref) (λi n d=>(∃M bs,n=M.map V.ref/\oY (ps.map snd) l M bs/\bs.length<=i)/\d D2=some (.lst n)/\mC l d) #[#[[],[],rfl,.nil,nk _],Zc,pb z8] ?_ ?_ ?_]]]
  ·rintro i n d _ ⟨_,_,sm⟩;show mO<|sm.at h8
  ·rintro i v n H9 hi ⟨⟨M,bs,rfl,has,hb⟩,Y,L⟩;rw[nJ]at hi;obtain⟨c,a,rfl⟩:=nR.mp hi;obtain⟨qq,_,I,ok⟩:=K2.get a;have l:=has.len;have J7:=K2.len;have C3:=(oo.mp a).1;refine#[oW rfl,.inr<|.inl #[mW<|I.mono L,Zq (j:=0) rfl,.inl #[.inl<|mO<|(s7.trans<|s8.trans L).at e6,rfl,Wq _,Yh (λ_=>?_) λ_=>?_]]]
   ·show#[Y,by rw[mK];show Zo (by lia),#[M++[c],bs++[qq],by rw[nj];rfl,has.snoc I ok,by rw[nX];show xT hb],Zc,λb o p=>by rw[Zd (Ze p z8)];show L.at p]
   ·show#[#[M,bs,rfl,has,by lia],Y,L]
  ·rintro n H9 ⟨⟨M,bs,rfl,has,hb⟩,Y,L⟩;rw[mK]at hb;have J7:=K2.len;show q D2 H9 (F4.trans<|s7.trans<|s8.trans L) (F4.free<|s7.free<|s8.free z8) #[M,bs,Y,has.mono L,by lia] λp=>absurd p (by lia)
def wt(ss:lQ S4):Nat:=3 ^ (14-ss.length)
theorem MC:∀bs:lQ (lQ S4),bs.length<=(bs.map wt).sum
 | []=>nk _
 | b ::bs=>by
  have:=MC bs;have:1<=wt b:=Nat.one_le_pow _ _ (by lk);change bs.length+1<=wt b+(bs.map wt).sum;lia
def qD(ns:lQ lR)(H:Hp)(l:lS)(sig:lR)(y:lQ (lQ S4)):Prop:=∃z:lQ lS,H l=some (.lst<|z.map V.ref)/\Paired (λt x=>pZ ns H t sig x) z y
def qD.mono(e:mC H H')(h:qD ns H l sig z):qD ns H' l sig z:=let⟨y,x,u⟩:=h;#[y,e.at x,nK u λ_ _ r=>r.mono e]
def qD.off(h:qD ns H l sig z)(y:H c=some (.lst xs))(n:l≠c):qD ns (mJ H c o) l sig z:=let⟨x,u,s⟩:=h;#[x,(Zd n).trans u,nK s λ_ _ r=>r.off y]
def qD.add(z:H l=some (.lst<|ts.map V.ref))(h:Paired (λt ss=>pZ ns H t sig ss) ts y)(r:pZ ns H t sig ss):qD ns (mJ H l<|.lst<|ts.map V.ref++[.ref t]) l sig (y++[ss]) :=
 #[ts++[t],by rw[Zc,nj];rfl,pM (nK h λ_ _ r=>r.off z)<|.cons (r.off z) .nil]
def xB(r:lQ S4):Prop:=r≠[]/\r.length<=12
inductive LN:Sp
 | mk (x) (g:lR×Zh) (ps js) (sg:lQ (lR×lR×lR)):vs=[.ref x,.str g.1]->Ye T H x ps js sg->X2 ps js sg->(g:lR×lR×lR)∈sg->(∀l rs H',mC H H'->H l=none->qD (ps.map snd) H' l g.1 rs->rs.length<=4782969->(∀r∈rs,xB r)->Q (.ref l) H')->LN vs H Q E
inductive GN(ns:List Str)(H:Hp)(x lf lb:Addr)(sig:Str)(p:Nat->Prop):Nat->St->Hp->Prop
 | mk (rs bs o4 o5):mC H H'->qD ns H' lf sig rs->qD ns H' lb sig bs->rs.length+(bs.map wt).sum<=4782969->(∀b∈bs,b.length<=12)->(∀r∈rs,xB r)->p (bs.map wt).sum->GN ns H x lf lb sig p (bs.map wt).sum [some (.ref x),some<|.str sig,some<|.ref lf,some<|.ref lb,o4,o5] H'
inductive MG(ns:List Str)(H:Hp)(x lf lb ta l6:Addr)(sig:Str)(vs:List Addr)(ws ah:List S4)(m1 m2:Nat):St->Hp->Prop
 | mk (rs bs o5):(bs.map wt).sum<=m1->rs.length+(bs.map wt).sum<=m2->mC H H'->H' l6=some (.lst<|vs.map V.ref)->oY ns H' vs ws->pZ ns H' ta sig ah->qD ns H' lf sig rs->qD ns H' lb sig bs->(∀b∈bs,b.length<=12)->(∀r∈rs,xB r)->MG ns H x lf lb ta l6 sig vs ws ah m1 m2 [some (.ref x),some<|.str sig,some<|.ref lf,some<|.ref lb,some<|.ref ta,o5] H'
def RE:T.dN.O P w mg mD 6 (LN T):=by
 refine T.dN.F.okW Wy ?_;rfl'
 ·obtain⟨x,⟨sig,e⟩,M,js,sg,rfl,tr,yv,hg,q⟩:=h;intro X D;refine mM (mY 2 Wy<|Zm Za) #[mQ,λlf u s1 n1 e1=>?_];refine mM (mY 3 Wy<|Zm<|Zb (Zi<|Zb (pv 1) Za) Za) #[mQ,λt2 u s2 p e2=>#[mQ,λd n s3 n3 e3=>?_]];have nfb:lf≠d:=λy=>by rw[y]at e1;rw[s2.at e1]at n3;cases n3
  have nlb:H d=none:=s1.free<|s2.free n3;have O5:=s1.trans<|s2.trans s3;let I20:IC:=λz H'=>(∃o3 o4 o5,z=[some (.ref x),some<|.str sig,some<|.ref lf,o3,o4,o5])/\mC H H'/\∃rs,qD (M.map snd) H' lf sig rs/\rs.length<=4782969/\∀r∈rs,xB r
  refine pL I20 ?_ ?_
  ·refine pN (Zzs oO (HW (pv 3) λ_=>rfl) Zn) #[GN (M.map snd) H x lf d sig λ_=>True,#[_,.mk [] [[]] none none O5 #[[],s3.at<|s2.at e1,.nil] #[[t2],e3,.cons #[[],s3.at e2,.nil] .nil] (by left) (λb hb=>by rw[oP.mp hb];show sH _) (λ_ y=>nomatch y) trivial],?_];rintro n z H4 ⟨rs,bs,o4,o5,s4,O6,⟨ts,c,m9⟩,hsum,j7,L,_⟩;have E3:=nH m9;refine#[!(ts.map V.ref).isEmpty,.inl #[_,mO c,rfl],?_];refine Yh (λy=>?_) λy=>#[#[_,_,_,rfl],s4,rs,O6,by lia,L];have y:0<ts.length:=by
    cases ts with
    | nil=>show absurd y (by lk)
    | cons a as=>show Nat.succ_pos _
   obtain⟨j,hta⟩:∃j,ts[ts.length-1]? =some j:=#[_,oy<|by lia]
   obtain⟨p,hah,ra⟩:=pj m9 hta;obtain⟨g,rfl⟩:=Lp.mp (show ts.getLast? =some j by rw[Qv];show hta);obtain⟨b1,rfl⟩:=Lp.mp (show bs.getLast? =some p by rw[Qv,<-E3];show hah);rw[nj,GL]at hsum;have hal:p.length<=12:=j7 p<|qv _ ph;have hlen1:∀b∈b1,b.length<=12:=λb hb=>j7 b<|xc _ hb
   obtain⟨B,hB⟩:∃B,B=3 ^ (13-p.length):=#[_,rfl]
   have hB1:1<=B:=by rw[hB];show Nat.one_le_pow _ _ (by lk)
   have hwt:(List.map wt [p]).sum=3 * B:=by
    change wt p+0=_;unfold wt;rw[hB,DA,show 14-p.length=(13-p.length)+1 by lia,Nat.pow_succ,Nat.mul_comm]
   rw[hwt]at hsum;refine#[λu H'=>∃n,GN (M.map snd) H x lf d sig (λn=>n<=(b1.map wt).sum+2 * B) n u H',λu H' ⟨n,h⟩=>?_,?_]
   ·obtain⟨U3,J,u,l,g1,g2,N,g4,g5,g6,g7⟩:=h;show#[_,by rw[nj,GL,hwt];lia,.mk U3 J u l g1 g2 N g4 g5 g6 trivial]
   refine mM (mY 4 Wy<|SC xO AU EH Ug<|pv 3) #[.inl #[rfl,_,mO c],d,_,.ref j,rfl,rfl,c,?_,?_]
   ·rw[nj,nX,mK];change(g.map V.ref++[V.ref j])[g.length+1-1]? =_;rw[Nat.add_sub_cancel,yM (by rw[mK];show nk _),mK,GY]
    rfl
   have el:mJ H4 d (.lst ((g++[j]).map V.ref).dropLast) d=some (.lst<|g.map V.ref):=by rw[Zc,nj];show oE (λl=>some<|HO.lst l)<|List.dropLast_concat
   have hts':Paired (λt ss=>pZ (M.map snd) H4 t sig ss) g b1:=by
    have:=CI g.length m9;rwa[List.take_left,show g.length=b1.length by have:=E3;rw[nX,nX]at this;simpa using this,List.take_left]at this
   have Y:=O6.off (o:=.lst ((g++[j]).map V.ref).dropLast) c nfb;have ra5:=ra.off (o:=.lst ((g++[j]).map V.ref).dropLast) c;have U:qD (M.map snd) (mJ H4 d<|.lst ((g++[j]).map V.ref).dropLast) d sig b1:=#[g,el,nK hts' λ_ _ r=>r.off c]
   have s5:mC H (mJ H4 d<|.lst ((g++[j]).map V.ref).dropLast):=s4.upd0 nlb;generalize mJ H4 d (.lst ((g++[j]).map V.ref).dropLast)=H5 at Y ra5 U s5;refine mP (Yw oO rfl (Ya<|Zy (KW T) hr<|Zb (pv 0)<|Zb (pv 4) Za) (nZ 5 Wy) Zn) #[x,j,(sig,e),p,M,js,sg,rfl,tr.mono s5,yv,hg,ra5,by lia,λl6 l u n6 ⟨vs,ws,h6,K2,N⟩ h12=>#[mO h6,Xm (K:=K) (xs:=vs.map V.ref) (λi=>MG (M.map snd) H x lf d j l6 sig vs ws p ((b1.map wt).sum+i * B)<|rs.length+(b1.map wt).sum+i * B) (.mk rs b1 o5 (by lia) (by lia) (s5.trans u) h6 K2 (ra5.mono u) (Y.mono u) (U.mono u) hlen1 L) ?_ ?_ ?_]]
   ·rintro i z H' _ ⟨_,_,_,_,_,_,h,_⟩;show mO h
   ·rintro i v z H7 hi ⟨U3,J,o5',w1,w2,s7,h7,I,G,C,hb7,hl7,ho7⟩;rw[nJ]at hi;obtain⟨tq,htq,rfl⟩:=nR.mp hi;obtain⟨qq,_,rq,okq⟩:=I.get htq;have C3:=(oo.mp htq).1;have J7:=K2.len;have hah12:p.length<12:=by
     rcases xw p.length 12 with u|u
     ·show u
     ·have:=h12 u;rw[h6]at this;cases vs with
      | nil=>show absurd C3 (vT _)
      | cons a as=>cases this
    have hwn:wt (p++[qq])=B:=by
     unfold wt;rw[hB,nX];change 3 ^ (14-(p.length+1))=_;rw[show 14-(p.length+1)=13-p.length by lia]
    have nl6:l6≠lf/\l6≠d:=#[λv=>(let⟨_,k,_⟩:=Y;nomatch (v ▸ n6).symm.trans k),λv=>(let⟨_,k,_⟩:=U;nomatch (v ▸ n6).symm.trans k)]
    have iB:(i+1) * B=i * B+B:=by rw[Nat.add_mul,Nat.one_mul]
    have sB:i * B<=1 * B:=Rg _ (by lia);have al:(p++[qq]).length<=12:=by rw[nX];show hah12
    have tup:∀{H8:Hp},mC H7 H8->∀{t8:lS},H8 t8=some (.tup [.ref tq])->∀{Q':VK},(∀t9 H9,mC H8 H9->pZ (M.map snd) H9 t9 sig (p++[qq])->Q' (.ref t9) H9)->Jd K (.ref j) (.ref t8) H8 Q':=λ{H8} s8 {t8} e8 {Q'} k=>by
     obtain⟨ws,g1,g2⟩:=G.mono s8;have hwl:=g2.len;refine#[j,t8,_,_,rfl,rfl,mW g1,mW e8,by simp,by simp,by rw[pE,mK,hwl];show sz (by change _+1+1<=_;lia),λt9 H9 l n9 e9=>k t9 H9 l #[ws++[tq],?_,(g2.mono l).snoc ((rq.mono s8).mono l) okq]];rw[e9,nj];rfl
    refine mP (Zv (Ym<|Zy (ML T) hr<|Zb (pv 0)<|Zb (pv 5) Za) Zn Zn) #[x,tq,qq,M,js,sg,rfl,tr.mono s7,yv,rq,λH8 s8=>Yh (λ_=>?_) λ_=>?_]
    ·obtain⟨fs,f1,f2⟩:=C.mono s8;refine mP (Z3<|rO (pv 2)<|Zp KS (pv 4)<|Zi<|Zb (pv 5) Za) #[.inl #[rfl,_,mO f1],mQ,λt8 H9 l n9 e9=>tup (s8.trans l) e9 λt9 K1 u9 r10=>#[(l.trans u9).at f1,?_,?_]]
     ·have O3:=nH f2;rw[mK,tJ,O3];lia
     have N:=s8.trans<|l.trans u9;have fe:=(l.trans u9).at f1;refine .mk (U3++[p++[qq]]) J (some<|.ref tq) (by lia) (by rw[nX];change _+1+_<=_;lia) ((s7.trans N).upd0 n1) ((Zd nl6.1).trans (N.at h7)) ((I.mono N).off fe) ((G.mono N).off fe) (qD.add fe (nK f2 λ_ _ r=>r.mono<|l.trans u9) r10) ((hb7.mono N).off fe nfb.symm) hl7 λr Q7=>?_
     rcases oj.mp Q7 with v|v
     ·show ho7 r v
     ·rw[oP.mp v];show#[by simp,al]
    ·obtain⟨fs,f1,f2⟩:=hb7.mono s8;refine mP (Z3<|rO (pv 3)<|Zp KS (pv 4)<|Zi<|Zb (pv 5) Za) #[.inl #[rfl,_,mO f1],mQ,λt8 H9 l n9 e9=>tup (s8.trans l) e9 λt9 K1 u9 r10=>#[(l.trans u9).at f1,?_,?_]]
     ·have O3:=nH f2;have:=MC J;rw[mK,tJ,O3];lia
     have N:=s8.trans<|l.trans u9;have fe:=(l.trans u9).at f1;have hsm:((J++[p++[qq]]).map wt).sum=(J.map wt).sum+B:=by rw[nj,GL];change _+(wt (p++[qq])+0)=_;rw[hwn,DA]
     refine .mk U3 (J++[p++[qq]]) (some<|.ref tq) (by lia) (by lia) ((s7.trans N).upd0 nlb) ((Zd nl6.2).trans (N.at h7)) ((I.mono N).off fe) ((G.mono N).off fe) ((C.mono N).off fe nfb) (qD.add fe (nK f2 λ_ _ r=>r.mono<|l.trans u9) r10) (λb hb=>?_) ho7;rcases oj.mp hb with v|v
     ·show hl7 b v
     ·rw[oP.mp v];show al
   ·rintro z H7 ⟨U3,J,o5',w1,w2,s7,h7,I,G,C,hb7,hl7,ho7⟩;have J7:=K2.len;rw[mK]at w1 w2;have sB:vs.length * B<=2 * B:=Rg _ (by lia);show#[_,.mk U3 J _ _ s7 C hb7 (by lia) hl7 ho7<|by lia]
  rintro z H4 ⟨⟨o3,o4,o5,rfl⟩,s4,rs,⟨ts,h1,h2⟩,P7,L⟩;refine mP (Zl<|Z4 (r:=OB K) (Zuo hr.units) (by rfl) T.cH vG<|Zb (pv 2) Za) #[lf,ts,rfl,mO h1,λt ht=>?_,λE7 U7 l5 H5 s5 n5 e5=>?_]
  ·obtain⟨i,hi⟩:=Ag ht;obtain⟨ss,_,g,n,l⟩:=pj h2 hi;refine#[sig,g,n,λu c=>?_];obtain⟨j,a⟩:=Ag c;obtain⟨p,_,Y,_⟩:=l.get a;show#[[p.1,p.2.1,p.2.2.1,p.2.2.2],Y]
  ·obtain⟨U3,u,p⟩:=Gb U7 h2;show q l5 U3 H5 (s4.trans s5) (s4.free n5) #[E7,e5,nK p λ_ _ r=>r.mono s5] (by rw[u.length_eq];show P7) λr Q7=>L r<|u.mem_iff.mp Q7
inductive OU:Sp
 | mk (x a) (g:lR×Zh) (qs ps js) (sg:lQ (lR×lR×lR)):vs=[.ref x,.ref a]->Ye T H x ps js sg->X2 ps js sg->(g:lR×lR×lR)∈sg->pZ (ps.map snd) H a g.1 qs->xB qs->(∀b H',mC H H'->Q (.bl b) H')->OU vs H Q E
def sy.im(h:sy H t q):Im K H 1 (xh q) (.ref t):=vj (n:=0) (mW h)<|.cons (.str _)<|.cons (.str _)<|.cons (.str _)<|.cons (.str _) .nil
def oY.im(h:oY ns H us qs):Paired (Im K H 1) (qs.map xh) (us.map V.ref):=by
 obtain⟨h,o⟩:=h;clear o
 induction h with
 | nil=>show .nil
 | cons r _ z=>show .cons (sy.im r) z
def Ztn:T.fE.O P w mg mD 6 (OU T):=by
 refine T.fE.F.okW Jo ?_;rfl'
 ·obtain⟨x,a,⟨sig,e⟩,qs,B,js,sg,rfl,L,J,hg,⟨d,c,w6⟩,⟨l,p⟩,q⟩:=h;intro X D;obtain⟨p,_,_,_,_,_,_,_,_,hx,_⟩:=L.ex;have c:H a=some (.tup<|V.str sig ::d.map V.ref):=c;have P9:=w6.len;have j7:(V.str sig ::d.map V.ref).length=qs.length+1:=by rw[pE,mK,P9]
  refine mM (Zv (qj<|qr (Xc<|Ym<|ro "tuple" T.af T.ir LF<|pv 1)<|sv<|Yf xb (pp T.aX<|pv 1) Zf<|Yn _) Zn Zk) #[Xp.tup c,.inl<|pz rfl T.jX,(.inl #[.inr<|mW c,Yh (λ_=>mP (Zl qR)<|q _ _<|qc _) λ_=>?_])];refine mM (Zv (uZ hr (ny (pv 1) Zf)<|pF ["signal"] (oR 1 [] rfl) (Ya<|Y1 (pv 0) T.ak T.eM (VQ T) hr.m T.bX.b .nil Z0) (oA 0) Wb (qH (K:=K) rfl (pv 0) Zf)) Zn Zk)<|.inr<|.inl #[mW c,Zq (j:=0) rfl,hx,rfl,x,B,js,sg,rfl,L,J,λl ts p H1 s1 n1 e1 r1 p1=>#[mO e1,λD hD=>Y9 (K:=K) (xs:=ts.map V.ref) (λi M U=>M=((p.take i).map fst).map V.str/\U D=some (.lst M)/\mC H1 U) #[rfl,Zc,pb hD] ?_ ?_ ?_]]
  ·rintro i M U _ ⟨_,_,sm⟩;show mO<|sm.at e1
  ·rintro i v M H2 I ⟨rfl,z8,G⟩;rw[nJ]at I;obtain⟨tg,p,rfl⟩:=nR.mp I;obtain⟨gg,l,rg⟩:=pj r1 p;have D4:=J.sigs.len;have u0:=p1.length_eq;refine#[oW rfl,.inr<|.inl #[mW<|G.at rg,Zq (j:=0) rfl,z8,by rw[mK,mK,oh];show Zo (by lia),?_,Zc,λb o y=>?_]]
   ·rw[og,l,nj,nj];rfl
   ·rw[Zd (Ze y hD)];show G.at y
  rintro M H2 ⟨rfl,z8,G⟩;have A2:=s1.trans G;refine .inl #[.inl<|mO z8,rfl,Wq _,Yh (λ_=>mP (Zl qR)<|q _ _ A2) λ_=>?_];refine mM (Yw oO rfl (Dv rfl T.dI<|Zb Zf<|Zb (pp T.aX<|pv 1) Za) (nZ 2 Jo) Zn)<|.inl #[.inr<|mW<|A2.at c,1,_,rfl,#[by lk,by lk,by lia,by lia],?_];rw[show(((V.str sig ::d.map V.ref).length:Int)-1).toNat=d.length by rw[j7,P9];lia];let I21:IF:=λi z U=>(∃o,z=[some (.ref x),some<|.ref a,o])/\mC H U
  refine yD (n:=d.length) I21 #[#[none,rfl],A2] ?_ λz U ⟨⟨o,e⟩,sm⟩=>by
   subst e;show mP (Zl qR)<|q _ _ sm
  rintro i z H3 I ⟨⟨o,rfl⟩,N⟩;obtain⟨u,hu⟩:∃u,d[i]? =some u:=#[_,oy I]
  obtain⟨r,l,hq,p⟩:=w6.get hu;have Y:(1+(i:Nat):Int)=((i+1:Nat):Int):=by lia
  have av:oH (V.str sig ::d.map V.ref) (1+(i:Nat):Int)=some (.ref u):=by
   rw[Y];refine Zq ?_;change(d.map V.ref)[i]? =_;rw[nJ,hu];rfl
  refine mM (Zv (uZ hr (ny (pv 1)<|pv 2)<|Zy (KW T) hr<|Zb (pv 0)<|Zb (Xq (r:=qN K) qZ (pv 1) Wl<|Xw<|pv 2) Za) Zn Zk)<|.inr<|.inl #[mW<|N.at c,av,.inl #[mW<|N.at c,?_,λp H4 C n4 e4=>#[x,p,(sig,e),qs.take i,B,js,sg,rfl,L.mono<|N.trans C,J,hg,#[d.take i,?_,?_],?_,λl H5 s5 n5 ⟨vs,ws,e5,r5,hw5⟩ _=>.inr<|.inr #[l,1,xh r,ws.map xh,vs,rfl,mO e5,by lk,sy.im<|hq.mono<|N.trans<|C.trans s5,r5.im,?_]]]]
  ·rintro⟨_,y⟩;rw[Y,HT.sIx_nat]at y;have y:min (i+1) (V.str sig ::d.map V.ref).length=(V.str sig ::d.map V.ref).length:=y;rw[j7]at y;lia
  ·rw[Y,yA]at e4;rw[e4,tH];rfl
  ·obtain⟨h,o⟩:=w6.mono<|N.trans C;show#[CI i h,λp l=>o p<|uX l]
  ·rw[oh];lia
  have g:=N.trans<|C.trans s5;refine Yh (λ_=>mP (Zl qR)<|q _ _ g) λ_=>?_;refine mP (Zv (Ym<|Zy (ML T) hr<|Zb (pv 0)<|Zb (ny (pv 1)<|pv 2) Za) Zn Zk)<|.inr<|.inl #[mW<|g.at c,av,x,u,r,B,js,sg,rfl,L.mono g,J,hq.mono g,λH6 s6=>Yh (λ_=>?_) λ_=>#[#[_,rfl],g.trans s6]];show mP (Zl<|Ab hr (pv 2)<|Zp vM (pp T.aX<|pv 1) Zf)<|.inl #[.inr<|mW<|(g.trans s6).at c,.inl #[rfl,q _ H6<|g.trans s6]]
def Gr(x:V)(xs:lQ V):qi (x ::xs) (some 1) none=xs:=by
 rw[show(1:Int)=((1:Nat):Int)from rfl,wA]
 rfl
def HJ(x:V)(xs:lQ V):¬(HT.sIx (x ::xs).length 0 (some 1)=0/\HT.sIx (x ::xs).length (x ::xs).length none=(x ::xs).length):=by
 rintro⟨h,_⟩;rw[show(1:Int)=((1:Nat):Int)from rfl,HT.sIx_nat]at h;rw[pE]at h;lia
def pC{z:Type}(y:lQ (lR×z))(x:lR)(v:z):lQ (lR×z):=open Classical in if x∈y.map fst then y.map (λq=>if q.1=x then(x,v)else q)else y++[(x,v)]
def xf{z:Type}{f:z->V}(s:lQ (lR×z))(x:lR)(v:z):Ws (Zx f s) (Sum.inr x) (f v)=Zx f (pC s x v):=by
 unfold pC
 by_cases y:x∈s.map fst
 ·rw[mU y];have u:((Zx f s).any λr=>decide<|r.1=Sum.inr x)=true:=by
   obtain⟨q,p,rfl⟩:=mX.mp y;show List.any_eq_true.mpr #[(Sum.inr q.1,f q.2),mX.mpr #[q,p,rfl],by simp]
  unfold Ws;rw[mU u];unfold Zx;rw[pi,pi];refine Ao λq _=>?_
  by_cases h:q.1=x
  ·simp[h]
  ·have:¬(Sum.inr q.1:ng)=Sum.inr x:=λy=>h<|vQ y
   simp[h,this]
 ·rw[mT y];show GE y
def DJ{z:Type}(s:lQ (lR×z))(x:lR)(v:z):(pC s x v).map fst=if x∈s.map fst then s.map fst else s.map fst++[x]:=by
 unfold pC
 by_cases y:x∈s.map fst
 ·rw[mU y,mU y,pi];refine Ao λq _=>?_
  by_cases u:q.1=x
  ·simp[u]
  ·simp[u]
 ·rw[mT y,mT y,nj]
  rfl
def DD{z:Type}{s:lQ (lR×z)}{v:z}(h:(s.map fst).Nodup):((pC s x v).map fst).Nodup:=by
 rw[DJ]
 by_cases y:x∈s.map fst
 ·rw[mU y];show h
 ·rw[mT y,qk];show#[h,by simp,λa r b q=>by rw[oP]at q;rw[q];intro u;rw[u]at r;show y r]
def GV{z:Type}(u:lQ (lR×z))(x:lR)(v:z):(pC u x v).length<=u.length+1:=by
 unfold pC
 by_cases y:x∈u.map fst
 ·rw[mU y,mK];lia
 ·rw[mT y,nX];simp
def tN(z:lQ (lR×lR)):lQ Zr->lQ (lR×lR)
 | []=>z
 | s ::y=>tN (if s.2.2.2 ="" then z else pC z s.1 s.2.2.2) y
def TY:∀{y:lQ (lR×lR)},(y.map fst).Nodup->((tN y ss).map fst).Nodup:=by
 induction ss with
 | nil=>show λh=>h
 | cons r ss x =>
  intro y h;refine x ?_
  by_cases z:r.2.2.2 =""
  ·rw[mU z];show h
  ·rw[mT z];show DD h
def Pb{z:Type}{P:lR×z->Prop}{s:lQ (lR×z)}{v:z}(h:∀p∈s,P p)(k:P (x,v)):∀p∈pC s x v,P p:=λp u=>by
 unfold pC at u;split at u
 ·obtain⟨q,y,rfl⟩:=mX.mp u;split
  ·show k
  ·show h q y
 ·rcases oj.mp u with y|y
  ·show h p y
  ·rw[oP.mp y];show k
theorem NI{P:lR×lR->Prop}:∀{ss:lQ Zr}{z:lQ (lR×lR)},(∀p∈z,P p)->(∀s∈ss,P (s.1,s.2.2.2))->∀p∈tN z ss,P p
 | [],_,h,_=>h
 | s ::ss,z,h,k=>by
  change ∀p∈tN (if s.2.2.2 ="" then z else pC z s.1 s.2.2.2) ss,P p;refine NI ?_ λq y=>k q<|pG _ y
  split
  ·show h
  ·show Pb h<|k s ph
theorem xD:∀{l m:lQ lR},l.Nodup->(∀x∈l,x∈m)->l.length<=m.length
 | [],_,_,_=>sH _
 | a ::l,m,y,h=>by
  rw[pS]at y;have u:=h a ph;have:=xD (m:=m.erase a) y.2 λx s=>(List.mem_erase_of_ne (λz:x=a=>y.1<|z ▸ s)).mpr (h x<|pG _ s)
  rw[List.length_erase_of_mem u]at this;have:=List.length_pos_of_mem u;rw[pE];lia
def AR.mono(e:mC H H')(h:AR H v a):AR H' v a:=by
 cases a with
 | none=>show h
 | some z=>obtain⟨p,y,x⟩:=h;show#[p,y,e.at x]
def AK(g:Gd)(x:lR):lV (lR×lR):=if(g.stiff.lookup x).getD false=true then some (("stiff":lR),x)else none
def xC(H:Hp)(f:lS)(x:lR):Prop:=∃c,Clo H T.ba f (~~~"rule_stiff") (Bc<|pc Yy) (zp<|pc Yy) (vz<|pc Yy) [("part",c)]/\CellAt H c (.str x)
def xC.mono(e:mC H H')(h:xC U H f x):xC U H' f x:=let⟨c,z,y⟩:=h;#[c,z.mono e,y.mono e]
def Vf:T.cW.O P w mg mD 1 (Cw T<|xC T):=by
 refine T.cW.F.okM T.dX Zn4 (λz H Q E h=>?_) λy A u s H z Q E r h=>?_
 ·obtain⟨x,rfl,_⟩:=h
  rfl
 ·obtain⟨x,rfl,y,q⟩:=h;show uG.last #[rfl,y.rule_stiff,_,rfl,λu s r p o n=>q u s r p #[_,o,(n 0 "part" (.str x) _ rfl rfl rfl rfl).2]]
def WN(R:xC T H f x)(G:sR T H h M g dl ds J I):uM P w K mg mD 4 H f h (AK g x):=by
 intro d l;obtain⟨c,j,a⟩:=R.mono l;have L:rG d (vz<|pc Yy) [("part",c)] ["part"] [.str x]:=#[.cons #[rfl,c,rfl,a] .nil,by simp,by simp,by simp]
 refine#[j.fn,λQ q=>?_];refine BZ (g :="ground") j L (λ_ _ _ _=>rfl) rfl (by lk) (by left) (by left) rfl rfl rfl λE A D s Y=>?_
 have z:=(G.mono l).soft λb o e n=>L.soft e n
 obtain⟨p,U⟩:=z.at_;refine sU (W7 (Ym<|yn (Ys Y) (Z6 (pv 0) rfl) (pv 1) qR #[rfl,rfl,rfl,rfl]) (Zi<|Zb Zg<|Zb (pv 1) Za) tD) #[U,T.dD,T.cS,rfl,ds,rfl,.inl #[_,.inl z.four.stiff],_,qB (k:=Sum.inr x) z.four.stiff,?_];rw[xF];have e:(Option.map V.bl<|g.stiff.lookup x).getD (V.bl false)=V.bl ((g.stiff.lookup x).getD false):=by cases g.stiff.lookup x<;>rfl
 rw[e];refine(Yh (λy=>?_) λy=>?_)
 ·refine#[mQ,λp C Q B N=>#[Q,λu i r=>q _ u r ?_]];unfold AK;rw[mU y];show#[p,rfl,i.at N]
 ·refine#[qc _,λu i r=>q _ u r ?_];unfold AK;rw[mT y];show rfl
def yz(H H':Hp):Prop:=∀b o,H b=some o->(∀z,o≠.lst z)->H' b=some o
def _root_.L2.mC.fix(e:mC H H'):yz H H':=λb _ h _=>e b _ h
def _root_.L2.Clo.fix(e:yz H H')(h:Clo H Pt x q u s r y):Clo H' Pt x q u s r y:=by
 obtain⟨p,o,c,n,l,j,i,g,d,a,Y,U,Q⟩:=h;show#[p,o,c,n,l,j,i,e _ _ g (λ_ z=>nomatch z),e _ _ d (λ_ z=>nomatch z),a,Y,e _ _ U (λ_ z=>nomatch z),Q]
def _root_.L2.CellAt.fix(e:yz H H')(h:CellAt H c v):CellAt H' c v:=by
 obtain⟨o,u,y,x⟩:=h;show#[o,u,e _ _ y (λ_ z=>nomatch z),x]
def Yj3(H:Hp)(f:lS)(x:lR)(c:lS):Prop:=Clo H T.ba f (~~~"rule_stiff") (Bc<|pc Yy) (zp<|pc Yy) (vz<|pc Yy) [("part",c)]/\CellAt H c (.str x)
def Ea(H:Hp)(f:lS)(x l:lR):Prop:=∃(z y u fs s:lS),Clo H T.bU f (~~~"rule_lies") (Bc<|pc X1) (zp<|pc X1) (vz<|pc X1) [("stiff",u),("part",z),("lie",y)]/\
 CellAt H z (.str x)/\CellAt H y (.str l)/\CellAt H u (.ref fs)/\[u,z,y].Nodup/\Yj3 T H fs x s/\s∉[u,z,y]
inductive Rl where|held (x:Str)|taken (x:Str)|lies (x l:Str)
def vH(H:Hp)(f:lS):Rl->Prop
 | .held x=>xW T H f x
 | .taken x=>yC T H f x
 | .lies x l=>Ea T H f x l
def vH.fix(e:yz H H')(h:vH U H f r):vH U H' f r:=by
 cases r with
 | held x=>obtain⟨c,z,y⟩:=h;show#[c,z.fix e,y.fix e]
 | taken x=>obtain⟨c,z,y⟩:=h;show#[c,z.fix e,y.fix e]
 | lies x l=>obtain⟨u,s,q,fs,p,z,y,o,n,j,⟨i,g⟩,d⟩:=h;show#[u,s,q,fs,p,z.fix e,y.fix e,o.fix e,n.fix e,j,#[i.fix e,g.fix e],d]
def nd3(n:Nat):[n+1+1+1,n+1,n+1+1].Nodup:=by
 rw[pS,pS];refine#[?_,?_,by simp]<;>simp only[nU,uI,uO,Be]<;>lia
def Yh8:Sp:=λy H Q _=>∃x l:lR,y=[.str x,.str l]/\rj T H/\∀f z,mC H z->H f=none->Ea T z f x l->Q (.ref f) z
def Zrm:T.dw.O P w mg mD 2 (Yh8 T):=by
 refine T.dw.F.okM T.eL JK (λe H Q E h=>?_) λz A y s H e Q E d h=>?_
 ·obtain⟨x,l,rfl,_⟩:=h
  rfl
 ·obtain⟨x,l,rfl,j,q⟩:=h;refine uG.step (λz s=>∃f,z=[some (.str x),some<|.str l,some<|.ref f]/\mC H s/\xC T s f x) (pN (mY 2 JK<|Zy (Vf T) d<|Zb (pv 0) Za) #[x,rfl,j,λf c y i u=>#[f,rfl,y,u]]) ?_;rintro z c ⟨f,rfl,y,a,Y,g⟩;refine uG.last #[rfl,(j.mono y).rule_lies,_,rfl,λu s r o U p=>q u s (y.trans r) (y.free o) ?_];obtain⟨i,N⟩:=p 0 "part" (.str x) _ rfl rfl rfl rfl;obtain⟨M,L⟩:=p 1 "lie" (.str l) _ rfl rfl rfl rfl;obtain⟨J,I⟩:=p 2 "stiff" (.ref f) _ rfl rfl rfl rfl;obtain⟨o,u,n,_⟩:=id g;have G:=Ze n i;have D:=Ze n M;have C:=Ze n J;refine#[_,_,_,f,a,U,N,L,I,?_,#[Y.mono r,CellAt.mono r g],?_]
  ·show nd3 _
  ·simp only[nU,uI,uO,not_or,Be];show#[C,G,D]
def wC(g:Gd)(x l:lR):lV (lR×lR):=if(g.lies.lookup x).getD ""=l then none else AK g x
def Zy5(R:Ea T H f x l)(G:sR T H gr es g dl ds dp dt):uM P w K mg mD 5 H f gr (wC g x l):=by
 intro I j;obtain⟨h,d,a,fs,c',Y,U,N,M,nd,⟨E,D⟩,C⟩:=R
 replace Y:=Y.mono j
 replace U:=U.mono j
 replace N:=N.mono j
 replace M:=M.mono j
 replace E:=E.mono j
 replace D:=D.mono j
 have L:rG I (vz<|pc X1) [("stiff",a),("part",h),("lie",d)] ["lie","stiff","part"] [.str l,.ref fs,.str x]:=#[.cons #[rfl,d,rfl,N]<|.cons #[rfl,a,rfl,M]<|.cons #[rfl,h,rfl,U] .nil,by simp,by change(["stiff","part","lie"]:lQ lR).Nodup;decide,nd]
 have isC:∀b∈[a,h,d],∃o u,I b=some (Fz o)/\o.data=.cell (some u):=by
  intro b hb;simp only[nU,uI,uO,Be]at hb;rcases hb with rfl|rfl|rfl
  ·obtain⟨o,u,z,r,_⟩:=M;show#[o,u,z,r]
  ·obtain⟨o,u,z,r,_⟩:=U;show#[o,u,z,r]
  ·obtain⟨o,u,z,r,_⟩:=N;show#[o,u,z,r]
 refine#[Y.fn,λQ q=>?_];refine BZ (g :="ground") Y L (λ_ _ _ _=>rfl) rfl (by lk) (by left) (by left) rfl rfl rfl λd6 A mB s B=>?_
 have J:=(G.mono j).soft λb o e n=>L.soft e n
 have RS:xC T (offL I [("stiff",a),("part",h),("lie",d)]) fs x:=by
  refine#[c',?_,?_]
  ·obtain⟨pm,B5,c,oc,vs,tt,Pn,z,r,z3,z4,z5,z6⟩:=E;refine#[pm,B5,c,oc,vs,tt,Pn,?_,?_,z3,z4,?_,z6]
   ·rw[ug]
    ·show z
    ·intro y;obtain⟨o,u,p,Q⟩:=isC _ y;rw[z]at p;cases p;cases Q
   ·rw[ug]
    ·show r
    ·intro y;obtain⟨o,u,p,Q⟩:=isC _ y;rw[r]at p;cases p
   ·rw[ug]
    ·show z5
    ·intro y;obtain⟨o,u,p,Q⟩:=isC _ y;rw[z5]at p;cases p
  ·obtain⟨o,u,z,r⟩:=D;show#[o,u,by rw[ug C];show z,r]
 have AS:=WN (P:=P) (w:=w) (mD:=mD) T RS J;obtain⟨y,hg⟩:=J.at_;refine sU (W7 (oZ B (yn (Ys B) (Z6 (pv 0) rfl) (pv 3) Zg #[rfl,rfl,rfl,rfl])<|pv 1) tD<|NU (k:=4) B (pv 2)<|Zb (pv 0) Za) #[hg,T.dD,T.dE,rfl,dl,rfl,.inl #[_,.inl J.four.lies],_,qB (k:=Sum.inr x) J.four.lies,?_];rw[xF];have e:(Option.map V.str<|g.lies.lookup x).getD (V.str "")=V.str ((g.lies.lookup x).getD ""):=by cases g.lies.lookup x<;>rfl
 rw[e];refine(.inl #[rfl,Yh (λi=>?_) λi=>?_])
 ·have i:(g.lies.lookup x).getD ""=l:=by simpa using i
  refine#[qc _,λH4 s4 s5=>q _ H4 s5 ?_];unfold wC;rw[mU i];show rfl
 ·have i:¬(g.lies.lookup x).getD ""=l:=by simpa using i
  obtain⟨y,run⟩:=AS _<|qc _;refine#[fs,rfl,y,y,run _ λv Q p c=>#[p,λH4 s4 s5=>q _ H4 s5 ?_]];unfold wC;rw[mT i];show c.mono s4
def sj:lQ Zr->lQ Rl
 | []=>[]
 | s ::z=>(if s.2.2.2 ="" then[.held s.1,.taken s.1]else[.held s.1,.taken s.1,.lies s.1 s.2.2.2])++sj z
theorem Mr:∀(ss:lQ Zr)(s:Zr),sj (ss++[s])=sj ss++(if s.2.2.2 ="" then[.held s.1,.taken s.1]else[.held s.1,.taken s.1,.lies s.1 s.2.2.2])
 | [],s=>by change _++[]=[]++_;rw[pH,FI]
 | r ::ss,s=>by
  change _++sj (ss++[s])=(_++sj ss)++_;rw[Mr ss s,pr]
theorem Jc:∀ss:lQ Zr,(sj ss).length<=3 * ss.length
 | []=>nk _
 | s ::ss=>by
  have:=Jc ss;change(_++sj ss).length<=_;rw[nX,pE];split<;>simp<;>lia
def yT(z:lQ lR)(g:Gd):Rl->lV (lR×lR)
 | .held x=>ua z g x
 | .taken x=>Wx g x
 | .lies x l=>wC g x l
def Yfu(R:vH T H f r)(G:sR T H z y g dl ds u s):uM P w K mg mD 5 H f z (yT (y.map fst) g r):=by
 cases r with
 | held x=>show(GA T R G).up (by lk)
 | taken x=>show(Ev T R G).up (by lk)
 | lies x l=>show Zy5 T R G
def tL(H:Hp)(fs:lQ lS)(z:lQ Rl):Prop:=Paired (λf r=>vH T H f r) fs z
def tL.fix(e:yz H H')(h:tL U H fs z):tL U H' fs z:=nK h λ_ _ r=>r.fix e
def tL.ans{T:Tx K mg}{H:Hp}{fs:lQ lS}{z:lQ Rl}{y dl ds u s:lS}{x:lQ (lR×lS)}{g:Gd}(h:tL T H fs z)(G:sR T H y x g dl ds u s):Paired (λf a=>uM P w K mg mD 5 H f y a) fs (z.map<|yT (x.map fst) g):=by
 unfold tL at h
 induction h with
 | nil=>show .nil
 | cons r _ q=>show .cons (Yfu T r G) q
inductive OZ:Sp
 | mk (r) (ns:lQ lR) (sig:lR) (ss:lQ S4):vs=[.ref r]->rj T H->pZ ns H r sig ss->ss.length<=100->(∀(l:lS)(fs:lQ lS)(H':Hp),mC H H'->H l=none->H' l=some (.lst<|fs.map V.ref)->tL T H' fs (sj ss)->Q (.ref l) H')->OZ vs H Q E
def SO:T.fF.O P w mg mD 3 (OZ T):=by
 refine T.fF.F.okW Fo ?_;rfl'
 ·obtain⟨r,ns,x,j,rfl,ht,⟨d,Q7,y9⟩,u,q⟩:=h;intro X D;refine mM (mY 1 Fo<|Zm Za) #[mQ,λl x s1 n1 e1=>?_];refine mM (Yw oO rfl (Au<|Xq (r:=qN K) qZ (pv 0) (Xw Zf) Wl) (nZ 2 Fo) Zn)<|.inl #[mW<|s1.at Q7,HJ _ _,λp x s2 n2 e2=>?_];rw[Gr]at e2;have J:=y9.mono<|s1.trans s2;have E3:d.length=j.length:=y9.len;have npl:p≠l:=λy=>by rw[y,e1]at n2;cases n2
  let I22:IF:=λi z L=>(∃o2,z=[some (.ref r),some<|.ref l,o2])/\mC H L/\L p=some (.tup<|d.map V.ref)/\oY ns L d j/\∃fs,L l=some (.lst<|fs.map V.ref)/\tL T L fs (sj<|j.take i)
  refine#[mW e2,MR (xs:=d.map V.ref) I22 #[#[none,rfl],s1.trans s2,e2,J,[],s2.at e1,.nil] ?_ ?_ ?_]
  ·rintro i z L _ ⟨_,_,e,_⟩;show mW e
  ·rintro i v z H3 hi ⟨⟨o2,rfl⟩,s3,e3,c,fs,I,G⟩;rw[nJ]at hi;obtain⟨t,U,rfl⟩:=nR.mp hi;obtain⟨st,hs,rt,_⟩:=c.get U;have C3:i<j.length:=(oo.mp hs).1;have O3:fs.length<=300:=by
    have h1:=Jc<|j.take i;have h2:=nH G;rw[oh]at h1;lia
   have tk:sj (j.take<|i+1)=sj (j.take i)++(if st.2.2.2 ="" then[.held st.1,.taken st.1]else[.held st.1,.taken st.1,.lies st.1 st.2.2.2]):=by rw[og,hs];show Mr _ _
   have put:∀{N g:Hp}{f:lS}{e:lQ lS}{rs:lQ Rl}{r':Rl},mC H N->N p=some (.tup<|d.map V.ref)->oY ns N d j->N l=some (.lst<|e.map V.ref)->tL T N e rs->mC N g->vH T g f r'->
     mC H (mJ g l<|.lst<|e.map V.ref++[.ref f])/\mJ g l (.lst<|e.map V.ref++[.ref f]) p=some (.tup<|d.map V.ref)/\oY ns (mJ g l<|.lst<|e.map V.ref++[.ref f]) d j/\mJ g l (.lst<|e.map V.ref++[.ref f]) l=some (.lst<|(e++[f]).map V.ref)/\tL T (mJ g l<|.lst<|e.map V.ref++[.ref f]) (e++[f]) (rs++[r']):=by
    intro N g f e rs r' C a2 B a a5 u b2;have nt:∀xs,g l≠some (.tup xs):=λxs y=>by rw[u.at a]at y;cases y
    have fx:yz g (mJ g l<|.lst<|e.map V.ref++[.ref f]):=λb o y n=>(Zd λx=>by rw[x,u.at a]at y;cases y;show n _ rfl).trans y
    refine#[λb o y=>?_,?_,(B.mono u).off (u.at a),by rw[Zc,nj];rfl,pM (tL.fix fx<|a5.fix u.fix)<|.cons (b2.fix fx) .nil]
    ·rw[Zd (Ze y n1)];show u.at<|C.at y
    ·rw[Zd npl];show u.at a2
   refine mM (Z3<|rO (pv 1)<|Zy (Ek T) hr<|Zb (ny (pv 2) Zf) Za) #[.inl #[rfl,_,mO I],.inr<|.inl #[mW rt,rfl,st.1,rfl,ht.mono s3,λf1 H4 s4 x r4=>#[s4.at I,by rw[mK];show Zo (by lia),?_]]];obtain⟨C,a2,B,a,a5⟩:=put s3 e3 c I G s4 (show vH T H4 f1 (.held st.1)from r4);have t5:rj T (mJ H4 l<|.lst<|fs.map V.ref++[.ref f1]):=ht.mono C;generalize mJ H4 l (.lst<|fs.map V.ref++[.ref f1])=H5 at C a2 B a a5 t5;obtain⟨B2,M7,rt5,_⟩:=B.get U;rw[hs]at M7;cases M7;refine mM (Z3<|rO (pv 1)<|Zy (EL T) hr<|Zb (ny (pv 2) Zf) Za) #[.inl #[rfl,_,mO a],.inr<|.inl #[mW rt5,rfl,st.1,rfl,t5,λf2 H6 s6 x r6=>#[s6.at a,by rw[mK];show Zo (by rw[nX];simp;lia),?_]]];obtain⟨u,b2,b3,b4,b5⟩:=put C a2 B a a5 s6 (show vH T H6 f2 (.taken st.1)from r6);have t7:rj T (mJ H6 l<|.lst<|(fs++[f1]).map V.ref++[.ref f2]):=ht.mono u;generalize mJ H6 l (.lst<|(fs++[f1]).map V.ref++[.ref f2])=H7 at u b2 b3 b4 b5 t7;obtain⟨B2,M7,M,_⟩:=b3.get U;rw[hs]at M7;cases M7;rw[pr (sj<|j.take i)]at b5;refine mP (Zv (rH hr (ny (pv 2) Zf) Zg) Zn Zk)<|.inr<|.inl #[mW M,rfl,.inl #[rfl,Yh (λY=>?_) λY=>?_]]
   ·have Y:st.2.2.2≠ "":=λy=>by rw[y]at Y;simp at Y
    refine mP (Z3<|rO (pv 1)<|Zy (Zrm T) hr<|Zb (ny (pv 2) Zf)<|Zb (ny (pv 2) Zf) Za) #[.inl #[rfl,_,mO b4],.inr<|.inl #[mW M,rfl,.inr<|.inl #[mW M,rfl,st.1,st.2.2.2,rfl,t7,λf3 H8 x n8 r8=>#[x.at b4,by rw[mK];show Zo (by rw[nX,nX];simp;lia),?_]]]];obtain⟨c1,c2,c3,c4,c5⟩:=put u b2 b3 b4 b5 x (show vH T H8 f3 (.lies st.1 st.2.2.2)from r8);refine#[#[_,rfl],c1,c2,c3,_,c4,?_];rw[tk,mT Y];rw[pr (sj<|j.take i)]at c5;show c5
   ·have Y:st.2.2.2 ="":=Et λy=>Y (by simp[y])
    refine#[#[_,rfl],u,b2,b3,_,b4,?_];rw[tk,mU Y];show b5
  ·rintro z H3 ⟨⟨o2,rfl⟩,s3,_,_,fs,I,G⟩;rw[mK,E3,oJ]at G;show mP (Zl<|pv 1)<|q l fs H3 s3 n1 I G
def rR(ss:lQ Zr):lQ (lR×lR):=(ss.filter λs:Zr=>decide<|s.2.2.2≠("":lR)).map λs=>(s.1,s.2.2.2)
def JM(ss:lQ Zr):(rR ss).length<=ss.length:=by unfold rR;rw[mK];show vL ..
def yG(H:Hp)(tps:lQ lS)(z:lQ (lR×lR)):Prop:=Paired (λt (q:lR×lR)=>H t=some (.tup [.str q.1,.str q.2])) tps z
def yG.mono(e:mC H H')(h:yG H tps z):yG H' tps z:=nK h λ_ _ r=>e.at r
inductive Nr:Sp
 | mk (r) (ns:lQ lR) (sig:lR) (ss:lQ S4):vs=[.ref r]->pZ ns H r sig ss->ss.length<=100->(∀(l:lS)(tps:lQ lS)(H':Hp),mC H H'->H l=none->H' l=some (.lst<|tps.map V.ref)->yG H' tps (rR ss)->Q (.ref l) H')->Nr vs H Q E
def Zuu:T.gk.O P w mg mD 1 Nr:=by
 refine T.gk.F.okA ?_;rfl'
 ·obtain⟨r,z,y,d,rfl,⟨J,B,I⟩,x,q⟩:=h;intro X D;refine mP (Zl<|pF ["step"] (oR 1 [] rfl) (Au<|Xq (r:=qN K) qZ (pv 0) (Xw Zf) Wl) (oA 0) (tO<|Yf (r:=uo K) (wK hr) (qH (K:=K) rfl (pv 0) Zf) Zg<|Yn _) (Zi<|Zb (qH (K:=K) rfl (pv 0) Zf)<|Zb (qH (K:=K) rfl (pv 0) Zf) Za))<|.inl #[mW B,HJ _ _,λp H1 a z Y=>#[mW Y,λD U=>?_]];rw[Gr]at Y;have T5:=I.mono a;have E3:J.length=d.length:=I.len;refine Ge (xs:=J.map V.ref) (λi n g=>(∃u,n=u.map V.ref/\yG g u (rR<|d.take i))/\g D=some (.lst n)/\mC H1 g) #[#[[],rfl,.nil],Zc,pb U] ?_ ?_ ?_
  ·rintro i n g _ ⟨_,_,l⟩;show mW<|l.at Y
  ·rintro k v n g G ⟨⟨u,rfl,j⟩,N,l⟩;rw[nJ]at G;obtain⟨t,ht,rfl⟩:=nR.mp G;obtain⟨st,C,M,_⟩:=T5.get ht;have j7:u.length<=100:=by
    rw[nH j];have:=JM<|d.take k;rw[oh]at this;lia
   refine#[oW rfl,.inr<|.inl #[mW<|l.at M,rfl,.inl #[rfl,Yh (λr=>?_) λr=>?_]]]
   ·have r:st.2.2.2≠ "":=λz=>by rw[z]at r;simp at r
    refine(.inr<|.inl #[mW<|l.at M,rfl,.inr<|.inl #[mW<|l.at M,rfl,mQ,λx L p y e2=>#[p.at N,by rw[mK];show Zo (by lia),#[u++[x],by rw[nj];rfl,?_],Zc,λb o e=>?_]]])
    ·have x:∀n,L D≠some (.tup n):=λn z=>by rw[p.at N]at z;cases z
     have off:∀{c:lS}{n:lQ V}{o:HO},L c=some (.tup n)->mJ L D o c=some (.tup n):=λ{c n o} z=>by rw[Zd (show c≠D from λy=>x n (by rw[<-y];show z))];show z
     rw[og,C];unfold rR;rw[tP,nj,show(some st).toList=[st]from rfl,se,mU<|nS r];show pM (nK (j.mono p) λ_ _ z=>off z)<|.cons (off e2) .nil
    ·rw[Zd (Ze e U)];show p.at<|l.at e
   ·have r:st.2.2.2 ="":=Et λz=>r (by simp[z])
    refine#[#[u,rfl,?_],N,l];rw[og,C];unfold rR;rw[tP,nj,show(some st).toList=[st]from rfl,se,mT (by simp[r]),vI,uP,pH];show j
  ·rintro n z ⟨⟨u,rfl,j⟩,y,x⟩;rw[mK,E3,oJ]at j;show q D u z (a.trans x) (a.free U) y j
theorem GK:∀(ss:lQ Zr)(y:lQ (lR×lR)),yW (Zx V.str y) ((rR ss).map λq=>(Sum.inr q.1,V.str q.2))=Zx V.str (tN y ss)
 | [],_=>rfl
 | s ::ss,y=>by
  by_cases z:s.2.2.2 =""
  ·rw[show rR (s ::ss)=rR ss by unfold rR;rw[se,mT<|by simp[z]],show tN y (s ::ss)=tN y ss by change tN (if s.2.2.2 ="" then y else _) ss=_;rw[mU z]];show GK ss y
  ·rw[show rR (s ::ss)=(s.1,s.2.2.2) ::rR ss by unfold rR;rw[se,mU<|by simp[z]];rfl,show tN y (s ::ss)=tN (pC y s.1 s.2.2.2) ss by change tN (if s.2.2.2 ="" then y else _) ss=_;rw[mT z]];change yW (Ws (Zx V.str y) (Sum.inr s.1)<|V.str s.2.2.2) _=_;rw[xf];show GK ss _
def SI:∀{tps:lQ lS}{z:lQ (lR×lR)},yG H tps z->Paired (λt (q:ng×V)=>H t=some (.tup [kV q.1,q.2])) tps (z.map λq=>(Sum.inr q.1,V.str q.2)):=by
 intro tps z h
 induction h with
 | nil=>show .nil
 | cons r _ y=>show .cons r y
inductive La:Sp
 | mk (d r) (ls:lQ (lR×lR)) (ns:lQ lR) (sig:lR) (ss:lQ S4):vs=[.ref d,.ref r]->H d=some (.dK<|Zx V.str ls)->(ls.map fst).Nodup->ls.length<=100->pZ ns H r sig ss->ss.length<=100->(∀(d':lS)(H':Hp),mC H H'->H d'=none->H' d'=some (.dK<|Zx V.str<|tN ls ss)->Q (.ref d') H')->La vs H Q E
def UK:T.iz.O P w mg mD 2 La:=by
 refine T.iz.F.okW Nj ?_;rfl'
 ·obtain⟨d,r,p,c,a,y,rfl,hd,o,u,x,Y,q⟩:=h;intro X D;refine mM (mY 2 Nj<|Y0 (r:=EX) PR (by rfl) T.eP zc<|Zb (pv 0) Za) #[.inl hd,λn u j i g=>?_];refine mM (Z3<|Ybv rfl (pv 2) (Zy (Zuu T) hr<|Zb (pv 1) Za) #[rfl,rfl,rfl,rfl]) #[n,rfl,.inl #[_,.inl g],r,c,a,y,rfl,x.mono j,Y,λl u d e N o U=>#[l,u,_,(rR y).map λq=>(Sum.inr q.1,V.str q.2),rfl,e.at g,o,?_,?_,?_]]
  ·show SI U
  ·have:=JM y;rw[mK,show(Zx V.str p).length=p.length from mK ..];show pA (Zo<|by lia)
  refine mP (Zl<|pv 2) (q n _ (λb o z=>?_) i<|by rw[Zc,GK]);rw[Zd (Ze z i)];show e.at<|j.at z
def DV:("":lR)∈tZ/\("a":lR)∈tZ/\("left":lR)∈tZ:=by left
set_option genInjectivity false in
set_option genSizeOf false in
structure pQ where
 dx:Addr
 ld:Addr
 sd:Addr
 nd:Addr
 pd:Addr
 es:List (Str×Addr)
 st:List (Str×Bool)
 ns:List Str
def pW(z:lQ (lR×Nat)):lQ (ng×V):=Zx (λn:Nat=>V.int (n:Int)) z
def xX(ad:pQ)(z:lS):HO:=.ins T.aH ad.dx [("tracks",.ref z),("lie_of",.ref ad.ld),("stiff_ones",.ref ad.sd),("length_of",.ref ad.nd),("path_of",.ref ad.pd)]
structure KX(H0:Hp)(ad:pQ)(lw:List (Str×Str))(val:Str->List Zr):Prop where
 s0:H0 ad.sd=none
 sl:ad.sd≠ad.ld
 nok:ad.ns.length<=40/\∀n∈ad.ns,Xn n
 sok:(ad.st.map fst).Nodup/\∀p∈ad.st,p.1∈ad.ns/\p.2=true
 lok:(lw.map fst).Nodup/\∀p∈lw,p.1∈ad.ns/\p.2∈tZ
 pok:∀t,(∀q∈val t,ut ad.ns q)/\((val t).map fst).Nodup
 pdj:∀t∈ad.es.map fst,∀u∈ad.es.map fst,t≠u->∀q∈val t,∀r∈val u,q.1≠r.1
structure nM(T:Tx K mg)(H0 H:Hp)(F:Addr->Prop)(x tr:Addr)(ad:pQ)(lw:List (Str×Str))(val:Str->List Zr)(ln:List (Str×Nat)):Prop where
 obj:H x=some (xX T ad tr)
 lies:H ad.ld=some (.dK<|Zx V.str lw)
 sti:H ad.sd=some (.dK<|Zx V.bl ad.st)
 lens:H ad.nd=some (.dK<|pW ln)
 pth:Yo H ad.pd ad.es val
 nm:ad.es.map fst=ln.map fst
 lnd:(ln.map fst).Nodup
 len:ln.length<=10
 vl:∀t,(val t).length<=100
 ok:∀p∈ln,Xn p.1
 fx:F x
 fn:F ad.nd
 fp:F ad.pd
 ne:ad.nd≠ad.pd
 nl:¬F ad.ld
 ns:¬F ad.sd
 ni:∀e∈ad.es,¬F e.2
 free:∀b,F b->H0 b=none
 same:mC H0 H
 live:∀b,F b->∃o,H b=some o/\∀xs,o≠.tup xs
 kx:KX H0 ad lw val
def nM.mono{F:lS->Prop}{val:lR->lQ Zr}(e:mC H H')(h:nM U y H F x u ad s val r):nM U y H' F x u ad s val r :=
 #[e.at h.obj,e.at h.lies,e.at h.sti,e.at h.lens,h.pth.mono e,h.nm,h.lnd,h.len,h.vl,h.ok,h.fx,h.fn,h.fp,h.ne,h.nl,h.ns,h.ni,h.free,h.same.trans e,(λb f=>let⟨o,z,n⟩:=h.live b f;#[o,e.at z,n]),h.kx]
inductive GW:Sp
 | mk (H0 x dx tr ps js sg):vs=[.ref x,.ref tr]->H0 x=none->mC H0 H->H x=some (.ins T.aH dx [])->Ye T H0 tr ps js sg->X2 ps js sg->(∀(H':Hp)(F:lS->Prop)(ad:pQ)(lw:lQ (lR×lR)),ad.ns=ps.map snd->lw.length<=100->nM T H0 H' F x tr ad lw (λ_=>[]) []->Q .non H')->GW vs H Q E
def RY:T.bJ.O P w mg mD 5 (GW T):=by
 refine T.bJ.F.okA ?_;rfl'
 ·obtain⟨j,x,dx,d,ps,js,sg,rfl,h0,sm,hx,ht,B,q⟩:=h;intro X D;have up:∀{Y:Hp}{o:HO},mC j Y->mC j (mJ Y x o):=λs b o e=>by rw[Zd (Ze e h0)];show s.at e
  refine mM (Wr (pv 0) (pv 1) rfl) #[hx,T.ae,T.aI,by simp,?_];refine mM (Wr (pv 0) (Zy (SZ T) hr<|Zb (pv 1) Za) rfl) #[d,ps,js,sg,rfl,ht.mono<|up sm,B,λgs gnd hg hl ld Y s1 n1 U=>SF.mk (fs:=[("tracks",.ref d)]) (s1.at Zc) T.ae T.bR (by simp) ?_];have m1:mC j Y:=(up sm).trans s1;refine mM (Wr (pv 0) Xz rfl) λN H2 c M e2=>SF.mk (fs:=[("tracks",.ref d),("lie_of",.ref ld)]) (c.at Zc) T.ae T.bn (by simp) ?_
  have m2:mC j H2:=(up m1).trans c;refine mM (Wr (pv 0) Xz rfl) λL H3 i J e3=>SF.mk (fs:=[("tracks",.ref d),("lie_of",.ref ld),("stiff_ones",.ref N)]) (i.at Zc) T.ae T.bM (by simp) ?_
  have m3:mC j H3:=(up m2).trans i;refine mP (Wr (pv 0) Xz rfl) λpd H4 a g e4=>SF.mk (fs:=[("tracks",.ref d),("lie_of",.ref ld),("stiff_ones",.ref N),("length_of",.ref L)]) (a.at Zc) T.ae T.am (by simp) ?_
  have m4:mC j H4:=(up m3).trans a;have I:∀{G:Hp}{b:lS}{o:HO},mJ G x o b=none->b≠x:=λh z=>by rw[z,Zc]at h;cases h
  have y:∀{G G':Hp}{b:lS}{o u:HO},G b=some u->b≠x->mC (mJ G x o) G'->G' b=some u:=λh n s=>s.at (by rw[Zd n];show h)
  have r:=I n1;have l:=I M;have C:=I J;have px:=I g;have l4:=y (y (y U r c) r i) r a;have d4:=y (y e2 l i) l a;have k4:=y e3 C a;refine q _ (λb=>b=x\/b=L\/b=pd) #[dx,ld,N,L,pd,[],[],ps.map snd] (gs.map λn=>(n,("left":lR))) rfl (by rw[mK];lia) #[Zc,by rw[Zd r];show l4,by rw[Zd l];show d4,by rw[Zd C];show k4,#[by rw[Zd px];show e4,λ_ z=>nomatch z],rfl,.nil,sH _,λ_=>sH _,(λ_ z=>nomatch z),.inl rfl,.inr<|.inl rfl,.inr<|.inr rfl,λz=>?_,?_,?_,(λ_ z=>nomatch z),?_,up m4,?_,#[(up m1).free M,?_,#[by rw[mK];show B.len,λn hn=>?_],#[.nil,(λ_ z=>nomatch z)],#[?_,λp hp=>?_],(λ_=>#[(λ_ z=>nomatch z),.nil]),(λ_ z=>nomatch z)]]
  ·have z:L=pd:=z;rw[<-z,Zd C,e3]at g;cases g
  ·rintro(z|z|z)
   ·show r z
   ·have:=J;rw[<-z,Zd r,y U r c]at this;cases this
   ·have:=g;rw[<-z,Zd r,y (y U r c) r i]at this;cases this
  ·rintro(z|z|z)
   ·show l z
   ·have:=J;rw[<-z,Zd l,e2]at this;cases this
   ·have:=g;rw[<-z,Zd l,y e2 l i]at this;cases this
  ·rintro b (rfl|rfl|rfl)
   ·show h0
   ·show(up m2).free J
   ·show(up m3).free g
  ·rintro b (rfl|rfl|rfl)
   ·show#[_,Zc,λ_ z=>nomatch z]
   ·show#[.dK _,by rw[Zd C];show k4,λ_ z=>nomatch z]
   ·show#[.dK _,by rw[Zd px];show e4,λ_ z=>nomatch z]
  ·intro z;have z:N=ld:=z;rw[z,Zd r,U]at M;cases M
  ·obtain⟨p,hp,rfl⟩:=mX.mp hn;show B.name p hp
  ·rw[pi,show((λx:lR×lR=>x.1) ∘ λn:lR=>(n,("left":lR)))=id from rfl,GJ];show gnd.1
  ·obtain⟨n,hn,rfl⟩:=mX.mp hp;show#[mX.mpr #[_,(hg n).mp hn,rfl],DV.2.2]
def Jg:lQ V->Hp->VK->Prop:=λp H Q=>∃(z:lS)(y:lQ Zh)(u:lQ (Zh×Zh)) (s:lQ (lR×lR×lR)),p=[.ref z]/\Ye T H z y u s/\X2 y u s/\
 ∀(x:lS)(r:Hp)(F:lS->Prop)(ad:pQ)(q:lQ (lR×lR)),H x=none->ad.ns=y.map snd->q.length<=100->nM T H r F x z ad q (λ_=>[]) []->Q (.ref x) r
def YE:∀vs H Q,Jg T vs H Q->
  ∀x z,H x=none->H z=none->z≠x->GW T (.ref x ::(vs++[])) (mJ (mJ H z<|.own x) x<|.ins T.aH z []) (λv s=>v=.non/\Q (.ref x) s) E0:=by
 rintro vs H Q ⟨r,p,n,l,rfl,j,i,q⟩ x z y u Y;refine#[H,x,z,r,p,n,l,rfl,y,λb o e=>?_,Zc,j,i,λg F ad d c a h=>#[rfl,q x g F ad d y c a h]];rw[Zd (Ze e y),Zd<|Ze e u];show e
inductive QR:Sp
 | mk (H0) (F:lS->Prop) (x tr ad lw) (val:lR->lQ Zr) (ln:lQ (lR×Nat)):vs=[.ref x]->nM T H0 H F x tr ad lw val ln->(∀ss:lQ lR,ss.Perm (ln.map fst)->PyProof.Rows.sortedS ss=true->pD H (.lst<|ss.map V.str) Q)->QR vs H Q E
def Jj{z:Type}{f:z->V}(l:lQ (lR×z)):((Zx f l).map λp=>kV p.1)=(l.map fst).map V.str:=by
 rw[show Zx f l=l.map λq=>(Sum.inr q.1,f q.2)from rfl,pi,pi]
 rfl
def Y2:T.aq.O P w mg mD 1 (QR T):=by
 refine T.aq.F.okA ?_;rfl'
 ·obtain⟨u,F,x,p,ad,o,val,y,rfl,z,q⟩:=h;intro X D;have n:=z.len;refine mP (Zl<|Z4 (r:=Bq) (Gv rfl) (by rfl) T.cH vG<|Zb (Z6 (pv 0) rfl) Za) #[z.obj,T.ae,T.am,rfl,ad.pd,_,y.map fst,rfl,.inl z.pth.1,?_,by rw[mK];lia,q];have:=Jj (f:=V.ref) ad.es;rw[z.nm]at this;show this
inductive Nu:Sp
 | mk (H0) (F:lS->Prop) (x tr ad lw) (val:lR->lQ Zr) (ln:lQ (lR×Nat)) (nm):vs=[.ref x,.str nm]->nM T H0 H F x tr ad lw val ln->nm∈ln.map fst->(∀H',mC H H'->Q .non H')->Nu vs H Q E
def W6:T.az.O P w mg mD 2 (Nu T):=by
 refine T.az.F.okA ?_;rfl'
 ·obtain⟨y,F,x,u,ad,r,val,p,nm,rfl,z,o,q⟩:=h;intro X D;refine mP (Zv (uZ hr (pv 1)<|Y1 (pv 0) T.ae T.aM (Y2 T) hr.m T.aq.b .nil Z0) Zn Zk) #[z.obj,rfl,y,F,x,u,ad,r,val,p,rfl,z,λe n d l j i c g=>.inl #[.inl<|mO g,rfl,Wq _,?_]];rw[mU rfl,wB,nS<|n.mem_iff.mpr o];show(q j i)
def nM.get{T:Tx K mg}{u H:Hp}{F:lS->Prop}{x s:lS}{ad:pQ}{r:lQ (lR×lR)}{val:lR->lQ Zr}{z:lQ (lR×Nat)}{nm:lR}(h:nM T u H F x s ad r val z)(y:nm∈z.map fst):∃l,(nm,l)∈ad.es/\Y8 (Zx V.ref ad.es) (X5 nm)=some (.ref l)/\Yi H l (val nm):=by
 rw[<-h.nm]at y;obtain⟨⟨n,l⟩,he,rfl⟩:=mX.mp y;have q:(ad.es.map fst).Nodup:=by rw[h.nm];show h.lnd
 show#[l,he,Wc q he,h.pth.2 _ he]
inductive Ko:Sp
 | mk (H0) (F:lS->Prop) (x tr ad lw) (val:lR->lQ Zr) (ln:lQ (lR×Nat)) (nm):vs=[.ref x,.str nm]->nM T H0 H F x tr ad lw val ln->nm∈ln.map fst->(∀l H',mC H H'->H l=none->Yi H' l (val nm)->Q (.ref l) H')->Ko vs H Q E
def Xi:T.aD.O P w mg mD 3 (Ko T):=by
 refine T.aD.F.okA ?_;rfl'
 ·obtain⟨n,F,x,j,ad,i,val,g,nm,rfl,z,p,q⟩:=h;intro X D;refine mM (Z3<|Yb (pv 0) T.ae T.cp (W6 T) hr.m T.az.b .nil Z0<|Zb (pv 1) Za) #[z.obj,rfl,n,F,x,j,ad,i,val,g,nm,rfl,z,p,λo y=>?_];have u:=z.mono y;obtain⟨l,he,e,d,c,a⟩:=u.get p;show mP (Zl<|Y0 (r:=AZ K) DB (by rfl) T.fP Ak<|Zb (Y3 (Ys hr) (Z6 (pv 0) rfl) (pv 1) λ_ _=>rfl) Za) #[u.obj,T.ae,T.am,rfl,by rw[<-e];show qB (k:=X5 nm) u.pth.1,.inl<|mO c,λl Y o U N=>q l Y (y.trans o) (y.free U) #[d,N,a.mono o]]
inductive Om:Sp
 | mk (H0) (F:lS->Prop) (x tr ad lw) (val:lR->lQ Zr) (ln) (p:lR×Nat):vs=[.ref x,.str p.1]->nM T H0 H F x tr ad lw val ln->p∈ln->(∀H',mC H H'->Q (.int (p.2:Int)) H')->Om vs H Q E
def W2:T.aT.O P w mg mD 3 (Om T):=by
 refine T.aT.F.okA ?_;rfl'
 ·obtain⟨n,F,x,l,ad,j,val,y,p,rfl,z,u,q⟩:=h;intro X D;refine mM (Z3<|Yb (pv 0) T.ae T.cp (W6 T) hr.m T.az.b .nil Z0<|Zb (pv 1) Za) #[z.obj,rfl,n,F,x,l,ad,j,val,y,p.1,rfl,z,mX.mpr #[p,u,rfl],λi r=>?_];have o:=z.mono r;have g:Y8 (pW y) (X5 p.1)=some (.int (p.2:Int)):=Wc z.lnd u;show mP (Zl<|Y3 (Ys hr) (Z6 (pv 0) rfl) (pv 1) λ_ _=>rfl) #[o.obj,T.ae,T.bM,rfl,rM.mk (v:=.int (p.2:Int)) (by rw[<-g];show qB (k:=X5 p.1) o.lens)<|q i r]
inductive JD:Sp
 | mk (H0) (F:lS->Prop) (x tr dt) (ad:pQ) (lw) (val:lR->lQ Zr) (ln td):vs=[.ref x,.ref dt]->nM T H0 H F x tr ad lw val ln->H dt=some (.dK<|Zx V.bl td)->(∀g H',mC H H'->H g=none->sR T H' g ad.es #[lw,ad.st,val,td] ad.ld ad.sd ad.pd dt->Q (.ref g) H')->JD vs H Q E
def GQ:T.aZ.O P w mg mD 3 (JD T):=by
 refine T.aZ.F.okA ?_;rfl'
 ·obtain⟨z,F,x,o,u,ad,n,val,r,l,rfl,y,hd,q⟩:=h;intro X D;refine mP (Zl<|wy (Rs T) T.iD (YI T) hr.m rfl T.iP T.bI.b .nil Z0 (WA T)<|Zb (Z6 (pv 0) rfl)<|Zb (Z6 (pv 0) rfl)<|Zb (Z6 (pv 0) rfl)<|Zb (pv 1) Za) #[y.obj,T.ae,T.bR,rfl,y.obj,T.ae,T.bn,rfl,y.obj,T.ae,T.am,rfl,ad.ld,ad.sd,ad.pd,u,rfl,λg o x n l=>q g o x n #[l,#[x.at y.lies,x.at y.sti,y.pth.mono x,x.at hd],y.vl,(λp z=>(y.kx.sok.2 p z).2),by rw[y.nm];show y.lnd,?_,λe he=>?_]]
  ·have:=oE List.length y.nm;rw[mK,mK]at this;have:=y.len;lia
  ·obtain⟨p,z,x⟩:=mX.mp (show e.1∈r.map fst by rw[<-y.nm];show mX.mpr #[e,he,rfl]);rw[<-x];show zw<|y.ok p z
inductive Qa:Sp
 | mk (H0) (F:lS->Prop) (x tr ad lw) (val:lR->lQ Zr) (ln:lQ (lR×Nat)):vs=[.ref x]->nM T H0 H F x tr ad lw val ln->(∀ss D g8 H',ss.Perm (ln.map fst)->PyProof.Rows.sortedS ss=true->mC H H'->H D=none->Yo H' D g8 val->g8.map fst=ss->(∀e∈g8,H e.2=none)->Q (.ref D) H')->Qa vs H Q E
def Zka:T.cE.O P w mg mD 4 (Qa T):=by
 refine T.cE.F.okA ?_;rfl'
 ·obtain⟨H0,F,x,tr,ad,lw,val,ln,rfl,a,q⟩:=h;intro X D;have hl:=a.len;refine mP (Zl<|Y0 (r:=DO) (Ir rfl) (by rfl) T.eP zc<|Zb (pF ["train","self"] (oR 1 [0] rfl) (Ya<|Y1 (pv 0) T.ae T.aM (Y2 T) hr.m T.aq.b .nil Z0) (oA 0) Wb (Zi<|Zb (pv 0)<|Zb (Yb (pv 1) T.ae T.aV (Xi T) hr.m T.aD.b .nil Z0<|Zb (pv 0) Za) Za)) Za) #[a.obj,rfl,H0,F,x,tr,ad,lw,val,ln,rfl,a,λY N hs l z M y e1=>#[mO e1,λD hD=>Y9 (xs:=Y.map V.str) (Nd z z D Y val) #[pb hD,Zc,[],[],rfl,rfl,tw,by simp,.nil] ?_ ?_ ?_]]
  ·rintro i ys z _ b;show mO<|b.same.at e1
  ·rintro i v ys H2 hi b;rw[nJ]at hi;obtain⟨n,C,rfl⟩:=nR.mp hi;obtain⟨o,p,rfl,g,N6,U,j⟩:=b.all;have C3:i<Y.length:=(oo.mp C).1;have D4:Y.length<=10:=by rw[N.length_eq,mK];show hl
   have hel':p.length=i:=by
    have:=oE List.length g;rw[mK,oh]at this;lia
   have E3:o.length=i:=by
    have:=nH j;rw[show(Zx V.ref p).length=p.length from mK ..]at this;lia
   have Q6:=a.mono<|M.trans b.same;unfold W4;refine#[oW rfl,Q6.obj,rfl,H0,F,x,tr,ad,lw,val,ln,n,rfl,Q6,N.mem_iff.mp<|pe C,λL u J I p4=>#[mQ,λt B e n5 e5=>#[e.at<|J.at b.at',?_,?_,Zc,o++[t],p++[(n,L)],?_,?_,?_,?_,?_]]]
   ·rw[mK];show Zo (by lia)
   ·intro c u z;rw[Zd (Ze z hD)];show e.at<|J.at<|b.same.at z
   ·rw[nj];rfl
   ·rw[nj,g,og,C];rfl
   ·rw[nj,qk];refine#[N6,by simp,?_];rintro c hc c' u rfl;simp at u;obtain⟨q5,S9,hb⟩:=mX.mp hc;obtain⟨_,G,_⟩:=(U q5 S9).2.2;rw[hb,u,I]at G;cases G
   ·have d:=J.trans e;have offD:∀{c:lS}{l:lQ Zr}{o':HO},c≠D->Yi B c l->Yi (mJ B D o') c l:=λ{c l o'} nc z=>z.off nc λws y=>by rw[d.at b.at']at y;cases y
    intro q5 S9;rcases oj.mp S9 with z|z
    ·obtain⟨h0,u,G⟩:=U q5 z;show#[h0,u,offD u<|G.mono d]
    ·simp at z;subst z;have u:L≠D:=λy=>by rw[y,b.at']at I;cases I
     show#[b.same.free I,u,offD u<|p4.mono e]
   ·have d:=J.trans e;have u:∀{c:lS}{l:lQ V},B c=some (.tup l)->c≠D:=λ{c l} z y=>by
     rw[y,d.at b.at']at z;cases z
    rw[show Zx V.ref (p++[(n,L)])=Zx V.ref p++[(Sum.inr n,V.ref L)]from nj ..];refine pM (nK j λt q z=>?_)<|.cons ?_ .nil
    ·have z5:=d.at z;rw[Zd (u z5)];show z5
    ·rw[Zd (u e5)];show e5
  ·rintro ys H2 b;obtain⟨o,p,rfl,g,N6,U,j⟩:=b.all;rw[mK,oJ]at g;refine#[D,o,Zx V.ref p,rfl,b.at',j,?_,λd y z u n=>q Y d p y N hs (M.trans<|b.same.trans z) (M.free<|b.same.free u) #[n,λe he=>(U e he).2.2.mono z] g λe he=>M.free (U e he).1];rw[show(Zx V.ref p).map fst=(p.map fst).map Sum.inr from by rw[show Zx V.ref p=p.map λq=>(Sum.inr q.1,V.ref q.2)from rfl,pi,pi];rfl,g];show QL wT<|N.nodup_iff.mpr a.lnd
def VT:T.bt.O P w mg mD 1 (wH T.bd "part"):=by
 refine T.bt.F.okA ?_;rfl'
 ·obtain⟨e,t,v,rfl,he,q⟩:=h;intro X D;show mP (Gc (pv 0) (pv 1) rfl) #[e,T.bd,T.ap,t,rfl,he,T.fR.cls,T.fR.sa,T.fR.na,q]
def Zki(h:1<=k:=by lk):T.bt.O P w mg mD k (wH T.bd "part"):=(VT T).mono h
inductive Lm:Sp
 | mk  :vs=[.non]->Q .non H->Lm  vs H Q E
def YZ:T.ag.O P w mg mD 1 Lm:=by
 refine T.ag.F.okW Ie ?_;rfl'
 ·obtain⟨rfl,q⟩:=h;intro X D;show mM (Zv (Yf yu (pv 0) tD<|Yn _) Zn Zk) #[rfl,mP OR q]
inductive Ew:Sp
 | mk (t) (b:Bool) (p):vs=[.ref t]->H t=some (.tup [.str (if b then "held" else "taken"),.str p])->(∀dx H',mC H H'->H dx=none->H' dx=some (.xd [("part",.str p)])->E (.ref<|if b then T.aS else T.bd) (some dx) H')->Ew vs H Q E
def Sc:Xs P w K mg mD (ol P w) 3 T.ag.f T.ag.fd ["told"] (Ew T):=by
 refine T.ag.F.okX Ie ?_;rfl'
 ·obtain⟨t,b,p,rfl,z,q⟩:=h;intro X D;refine mM (Zv (Yf yu (pv 0) tD<|Yn _) Zn Zk) #[rfl,?_];cases b with
  | true=>show mM (Zv (oZ hr (ny (pv 0) Zf) Zg) Zn Zk) (.inr<|.inl #[mW z,Zq (j:=0) rfl,.inl #[rfl,oB.t (by left)<|mP (yS T.dG T.cz (De T) T.aK.b hr rfl T.hU<|Zb (ny (pv 0) Zf) Za)<|.inr<|.inl #[mW z,Zq (j:=1) rfl,_,rfl,λx y=>q x _ (pb y) y Zc]]])
  | false =>
   refine mM (Zv (oZ hr (ny (pv 0) Zf) Zg) Zn Zk)<|.inr<|.inl #[mW z,Zq (j:=0) rfl,.inl #[rfl,oB.f (by left) ?_]];show mM (Zv (oZ hr (ny (pv 0) Zf) Zg) Zn Zk)<|.inr<|.inl #[mW z,Zq (j:=0) rfl,.inl #[rfl,oB.t (by left)<|mP (yS T.fR T.cz (Zki T) T.bt.b hr rfl T.jc<|Zb (ny (pv 0) Zf) Za)<|.inr<|.inl #[mW z,Zq (j:=1) rfl,_,rfl,λx y=>q x _ (pb y) y Zc]]]
def RQ(h:3<=k:=by lk):Xs P w K mg mD (ol P w) k T.ag.f T.ag.fd ["told"] (Ew T):=(Sc T).mono h
def yc(F:lS->Prop)(H H':Hp):Prop:=∀b o,¬F b->H b=some o->H' b=some o
def Kh{F:lS->Prop}(s:mC H H'):yc F H H':=λ_ _ _ e=>s.at e
def Yo.offC{val:lR->lQ Zr}(h:Yo H d x val)(hd:d≠c)(he:∀e∈x,e.2≠c)(s:H c=some u)(r:∀xs,u≠.tup xs):Yo (mJ H c o) d x val :=
 #[by rw[Zd hd];show h.1,λe z=>(h.2 e z).off (he e z) λxs y=>r xs<|oK<|s.symm.trans y]
def Kx{z:Type}{f:z->V}{l:lQ (lR×z)}{a:z}(h:n∉l.map fst):Ws (Zx f l) (X5 n) (f a)=Zx f (l++[(n,a)]):=by
 unfold Ws;rw[Df,show Y8 (Zx f l) (X5 n)=none from X4 h,show Zx f (l++[(n,a)])=Zx f l++[(X5 n,f a)]from nj ..]
 rfl
def VR{z:Type}{f:z->V}{l:lQ (lR×z)}:vt (Zx f l) (X5 n)=Zx f (l.filter λp=>decide<|p.1≠n):=by
 unfold vt;rw[show Zx f l=l.map λq=>(Sum.inr q.1,f q.2)from rfl,List.filter_map];refine oE (List.map _)<|List.filter_congr λp _=>?_;change decide (¬X5 p.1=X5 n)=decide (p.1≠n);show CD.mpr<|not_congr #[λy=>wT _ _ y,λy=>by rw[y]]
section
variable {U:Tx K mg} {F:lS->Prop} {val:lR->lQ Zr}
def nM.xn(h:nM U y H F x u ad s val r):x≠ad.nd:=λz=>by have:=h.obj;rw[z,h.lens]at this;cases this
def nM.xp(h:nM U y H F x u ad s val r):x≠ad.pd:=λz=>by have:=h.obj;rw[z,h.pth.1]at this;cases this
def nM.neF(h:nM U y H F x u ad s val r)(z:H b=none):¬F b:=λf=>by
 obtain⟨o,e,_⟩:=h.live b f;rw[z]at e;cases e
def nM.move{vl:lR->lQ Zr}(s:nM U G H F x c ad E val D)(a:mC H i)(hd:H d=none)(h:Yo i d l vl)(C:l.map fst=ln'.map fst)(Y:∀e∈l,H e.2=none)(B:(ln'.map fst).Nodup)(A:ln'.length<=10)(Q:∀p∈ln',Xn p.1)(hv:∀t,(vl t).length<=100)(N:∀t,(∀q∈vl t,ut ad.ns q)/\((vl t).map fst).Nodup)(M:∀t∈l.map fst,∀u∈l.map fst,t≠u->∀q∈vl t,∀r∈vl u,q.1≠r.1) :
  nM U G (mJ (mJ i x<|xX U #[ad.dx,ad.ld,ad.sd,ad.nd,d,l,ad.st,ad.ns] c) ad.nd<|.dK<|pW ln') (λb=>F b\/b=d) x c #[ad.dx,ad.ld,ad.sd,ad.nd,d,l,ad.st,ad.ns] E vl ln':=by
 have g:=s.mono a;have fr:∀{b:lS},H b=none->b≠x/\b≠ad.nd:=λ{b} z=>#[λy=>s.neF z<|y ▸ s.fx,λy=>s.neF z<|y ▸ s.fn]
 have J:∀{b:lS},¬F b->b≠x/\b≠ad.nd:=λ{b} z=>#[λy=>z<|y ▸ s.fx,λy=>z<|y ▸ s.fn]
 have j:∀{b:lS}{o u v:HO},(b≠x/\b≠ad.nd)->i b=some o->mJ (mJ i x u) ad.nd v b=some o:=λz e=>by rw[Zd z.2,Zd z.1];show e
 have L:mJ i x (xX U #[ad.dx,ad.ld,ad.sd,ad.nd,d,l,ad.st,ad.ns] c) ad.nd=some (.dK<|pW D):=by rw[Zd s.xn.symm];show g.lens
 refine#[by rw[Zd s.xn,Zc],j (J s.nl) g.lies,j (J s.ns) g.sti,Zc,(h.offC (fr hd).1 (λe he=>(fr<|Y e he).1) g.obj (λ_ z=>nomatch z)).offC (fr hd).2 (λe he=>(fr<|Y e he).2) L (λ_ z=>nomatch z),C,B,A,hv,Q,.inl s.fx,.inl s.fn,.inr rfl,(fr hd).2.symm,?_,?_,λe he=>?_,?_,λb o e=>?_,λb f=>?_,#[s.kx.s0,s.kx.sl,s.kx.nok,s.kx.sok,s.kx.lok,N,M]]
 ·rintro(z|z)
  ·show s.nl z
  ·have:=s.lies;rw[show ad.ld=d from z,hd]at this;cases this
 ·rintro(z|z)
  ·show s.ns z
  ·have:=s.sti;rw[show ad.sd=d from z,hd]at this;cases this
 ·rintro(z|z)
  ·show s.neF (Y e he) z
  ·obtain⟨ts,I,_⟩:=h.2 e he;rw[z,h.1]at I;cases I
 ·rintro b (z|z)
  ·show s.free b z
  ·rw[z];show s.same.free hd
 ·have n:=s.free x s.fx;have I:=s.free ad.nd s.fn;show j #[Ze e n,Ze e I]<|a.at<|s.same.at e
 ·by_cases y:b=ad.nd
  ·show#[.dK _,by rw[y];show Zc,λ_ z=>nomatch z]
  rw[Zd y]
  by_cases I:b=x
  ·show#[.ins _ _ _,by rw[I];show Zc,λ_ z=>nomatch z]
  rw[Zd I];rcases f with f|f
  ·obtain⟨o,e,n⟩:=s.live b f;show#[o,a.at e,n]
  ·show#[.dK _,by rw[f];show h.1,λ_ z=>nomatch z]
def Tp(h:H c=some o):mJ H c o=H:=by
 funext b
 by_cases z:b=c
 ·rw[z,Zc,h]
 ·rw[Zd z]
end
def pQ.on(H:Hp)(ad z:pQ):Prop:=z.ld=ad.ld/\z.sd=ad.sd/\z.st=ad.st/\z.ns=ad.ns/\∀e∈z.es,e∈ad.es\/H e.2=none
def Zyt:sM (ol X.prog X.w) X E0:=λ_ _ _ _ _ _ _ h=>by
 obtain⟨_,_,_,_,_,_,_,_,_,_,h⟩:=h;show h.elim
def XE(H:Hp)(c:lS)(x:lV lR)(E:XK):Prop:=(x=none->∀z,mC H z->E (.ref c) none z)/\∀p,x=some p->∀y z,mC H z->H y=none->z y=some (.xd [("part",.str p)])->E (.ref c) (some y) z
def XE.mono(s:mC H u)(h:XE H c r E):XE u c r E:=#[λz y x=>h.1 z y<|s.trans x,λp z q y x n e=>h.2 p z q y (s.trans x) (s.free n) e]
def Di(z:lQ (lR×Nat))(val:lR->lQ Zr)(g:lR):Prop:=∃t∈z.map fst,g∈(val t).map fst
def Vj(H:Hp)(val:lR->lQ Zr)(y:lQ (lR×Nat))(s:lQ (lR×Bool))(ps:lQ Zh)(x:lQ (lR×lR×lR))(v vl u:V)(c:lS)(z:lV lR):Prop :=
 (c=T.au/\z=none/\(CJ K H v false\/∃nm:lR,v=.str nm/\Xn nm/\nm∈y.map fst))\/
 ∃nm:lR,v=.str nm/\Xn nm/\nm∉y.map fst/\((c=T.bo/\z=none/\Qj u (λn=>(("gate",n):Zh)∈ps))\/
  ∃g:lR,u=.str g/\(("gate",g):Zh)∈ps/\((c=T.bo/\z=none/\((g,"a"):Zh)∉x.map snd)\/((g,"a"):Zh)∈x.map snd/\((c=T.bi/\z=none/\Qs vl)\/
   ∃n:Nat,vl=.int (n:Int)/\1<=n/\n<=4/\z=some g/\((c=T.aS/\Di y val g)\/(c=T.bd/\¬Di y val g/\(s.lookup g).getD false=true)))))
structure Yhf(val:Str->List Zr)(ln:List (Str×Nat))(td:List (Str×Bool))(ps:List Zh)(sg:List (Str×Str×Str))(nm g:Str)(n:Nat):Prop where
 nv:Xn nm
 new:nm∉ln.map fst
 gt:(("gate",g):Zh)∈ps
 sg:((g,"a"):Zh)∈sg.map snd
 n1:1<=n
 n4:n<=4
 nh:¬Di ln val g
 nt:(td.lookup g).getD false=false
 ll:ln.length<10
def OW(s:X2 ps r y)(h:((nm,e)∈qS y/\Xn nm/\e∈y.map snd)\/(nm =""/\e∉y.map snd)):decide (V.str nm=V.str "")=!decide (e∈y.map snd):=by
 rcases h with⟨_,x,u⟩|⟨x,u⟩
 ·rw[nS u,om λz=>zw x<|V.str.inj z];rfl
 ·rw[x,nS rfl,om u];rfl
inductive EM:Sp
 | mk (H0) (F:lS->Prop) (x tr dt) (ad:pQ) (lw) (val:lR->lQ Zr) (ln:lQ (lR×Nat)) (td ps js sg nm g) (n:Nat):vs=[.ref x,.str nm,.int (n:Int),.str g,.ref dt]->nM T H0 H F x tr ad lw val ln->ad.ns=ps.map snd->Ye T H0 tr ps js sg->X2 ps js sg->rj T H0->H dt=some (.dK<|Zx V.bl td)->¬F dt->Yhf val ln td ps sg nm g n->(∀(H':Hp)(F':lS->Prop)(D8:pQ),(∀b,F b->F' b)->(∀b,F' b->F b\/H b=none)->yc F H H'->nM T H0 H' F' x tr D8 lw (Wu (ln.map fst) val nm [(g,"","a","")]) (ln++[(nm,n)])->ad.on H D8->Q .non H')->EM vs H Q E
def uE(z:lQ (lR×Nat))(g:Gd)(x:lR):lQ (lV<|lR×lR):=[ua (z.map fst) g x,Wx g x]
def Ti:T.aB.O P w mg mD 7 (EM T):=by
 refine T.aB.F.okW Md ?_;rfl'
 ·obtain⟨H0,F,x,tr,dt,ad,lw,val,d,td,ps,js,sg,nm,g,n,rfl,l,F9,c,yv,tb,hd,u,j,q⟩:=h;intro X D;have w4:nm∉ad.es.map fst:=by rw[l.nm];show j.new
  obtain⟨u,r,o,i,e,L,ks,kj,ko,h1,_⟩:=(c.mono l.same).ex;refine mM (Z3<|Zy (BD T) hr<|Zb (pv 1)<|Zb (Z6 (pv 0) rfl) Za) #[l.obj,T.ae,T.am,rfl,nm,ad.pd,_,rfl,j.nv,l.pth.1,X4 w4,λu s1=>?_];have y8:=l.mono s1;refine mM (Z3<|Zy (II T) hr<|Zb (Z6 (pv 0) rfl)<|Zb (pv 3) Za) #[y8.obj,T.ae,T.aI,rfl,tr,g,ps,js,sg,rfl,c.mono y8.same,yv,j.gt,λu s2=>?_];have Q6:=y8.mono s2;refine mM (Zv (oZ hr (Yb (Z6 (pv 0) rfl) T.ak T.aW (Xo T) hr.m T.aw.b .nil Z0<|Zb (Zi<|Zb (pv 3)<|Zb Zg Za) Za) Zg) Zn Zk) #[Q6.obj,T.ae,T.aI,rfl,(s1.trans s2).at h1,rfl,mQ,λt r s3 o u=>#[tr,t,(g,"a"),ps,js,sg,rfl,c.mono<|Q6.same.trans s3,yv,u,λi hs=>.inl #[rfl,?_]]];rw[OW yv hs,nS j.sg];refine ?_;have T0:=Q6.mono s3;have v6:=s1.trans<|s2.trans s3;refine mM (Z3<|Zy (QE T) hr<|Zb (pv 2) Za) #[n,rfl,j.n1,j.n4,?_];have C:=tb.mono T0.same;refine mM (Z3<|Zy (YZ T) hr<|Zb (Zy (HX T) hr<|Zb (Zm<|Zb (Zy (Ek T) hr<|Zb (pv 3) Za)<|Zb (Zy (EL T) hr<|Zb (pv 3) Za) Za)<|Zb (Yb (pv 0) T.ae T.cO (GQ T) hr.m T.aZ.b .nil Z0<|Zb (pv 4) Za) Za) Za) #[g,rfl,C,λu L B n4 R4=>#[g,rfl,C.mono B,λr H5 s5 n5 R5=>#[mQ,λo H6 I n6 i=>#[(B.trans<|s5.trans I).at T0.obj,rfl,H0,F,x,tr,dt,ad,lw,val,d,td,rfl,T0.mono<|B.trans<|s5.trans I,(v6.trans<|B.trans<|s5.trans I).at hd,λe H7 s7 n7 G7=>#[o,e,[u,r],uE d #[lw,[],val,td] g,rfl,mO<|s7.at i,?_,λv8 H8 s8 wd=>?_]]]]]
  ·unfold uE;rw[<-l.nm];show .cons ((GA T (R4.mono<|s5.trans<|I.trans s7) G7).up (by lk))<|.cons ((Ev T (R5.mono<|I.trans s7) G7).up (by lk)) .nil
  have hn:uN (uE d #[lw,[],val,td] g)=none:=Gi λa N=>by
   unfold uE at N;rcases nU.mp N with rfl|N
   ·show mT j.nh
   ·rw[oP.mp N];unfold Wx;rw[mT (by rw[show((#[lw,[],val,td]:Gd).told.lookup g).getD false=false from j.nt];decide)]
  rw[hn]at wd;obtain rfl:v8=.non:=wd;refine#[rfl,?_];have Y:=B.trans<|s5.trans<|I.trans<|s7.trans s8;have M:=T0.mono Y;have nlen:ad.es.length<=100:=by
   have:=oE List.length l.nm;rw[mK,mK]at this;have:=l.len;lia
  refine mM (Wr (pv 0) (Xy (JI T) hr.m rfl T.ci.m T.ci.F.kp T.ci.b .nil Zyt<|Zb (Z6 (pv 0) rfl)<|Zb (pv 1)<|Zb (Zm<|Zb (Zi<|Zb (pv 3)<|Zb Zg<|Zb Zg<|Zb Zg Za) Za) Za) rfl) #[M.obj,T.ae,T.am,rfl,mQ,λu L s9 n9 r=>#[mQ,λo HA G nA i=>#[ad.pd,o,nm,ad.es,val,[(g,"","a","")],rfl,M.pth.mono<|s9.trans G,by rw[l.nm];show l.lnd,nlen,l.vl,?_,#[[u],.inl i,.cons (G.at r) .nil],by simp,λd' e g8 gt sB nB pB eB Ax fB=>#[(s9.trans<|G.trans sB).at M.obj,T.ae,T.am,(by change 5<1000;decide),?_],λdx e y sB nB fb eB=>?_]]]
  ·intro t c;rw[l.nm]at c;obtain⟨p,hp,rfl⟩:=mX.mp c;show zw<|l.ok p hp
  ·have i:=v6.trans<|Y.trans<|s9.trans<|G.trans sB;have fB':∀e∈g8,H e.2=none:=λe he=>(v6.trans<|Y.trans<|s9.trans G).free (fB e he)
   have B4:H d'=none:=(v6.trans<|Y.trans<|s9.trans G).free nB;have A4:g8.map fst=d.map fst++[nm]:=by
    rw[eB,l.nm];show mT j.new
   have hL:Wu (ad.es.map fst) val nm [(g,"","a","")]=Wu (d.map fst) val nm [(g,"","a","")]:=by rw[l.nm]
   rw[hL]at pB;have xn:=l.xn;refine mP (X6 (Ys hr) (Z6 (pv 0) rfl) (pv 1) (pv 2) rfl) #[Zc,T.ae,T.bM,rfl,sQ (k:=X5 nm) (by rw[Zd xn.symm];show i.at l.lens) ?_,?_]
   ·rw[show(pW d).length=d.length from mK ..];show Zo (by have:=l.len;lia)
   rw[show pW d=Zx (λn:Nat=>V.int (n:Int)) d from rfl,Kx (f:=λn:Nat=>V.int (n:Int)) j.new];refine q _ (λb=>F b\/b=d') #[ad.dx,ad.ld,ad.sd,ad.nd,d',g8,ad.st,ad.ns] (λ_ z=>.inl z) (λb z=>z.imp id λy=>by rw[y];show B4) (λb o nb e=>?_) (l.move (ln':=d++[(nm,n)]) i B4 pB (by rw[A4,nj];rfl) fB' ?_ (by rw[nX];show j.ll) (λp hp=>?_) (λt=>?_) (λt=>#[λq' D9=>?_,?_]) ?_) #[rfl,rfl,rfl,rfl,λe he=>.inr<|fB' e he]
   ·rw[Zd (λz=>nb (by rw[z];show l.fn)),Zd (λz=>nb (by rw[z];show l.fx))];show i.at e
   ·rw[nj,qk];show#[l.lnd,List.pairwise_singleton _ _,λa N b hb e=>by rw[e,oP.mp hb]at N;show j.new N]
   ·rcases oj.mp hp with z|z
    ·show l.ok p z
    ·rw[oP.mp z];show j.nv
   ·unfold Wu;split
    ·rw[mT j.new];simp
    ·show l.vl t
   ·unfold Wu at D9;split at D9
    ·rw[mT j.new]at D9;rw[oP.mp D9];show#[by rw[F9];show mX.mpr #[_,j.gt,rfl],DV.1,DV.2.1,DV.1]
    ·show(l.kx.pok t).1 q' D9
   ·unfold Wu;split
    ·rw[mT j.new];simp
    ·show(l.kx.pok t).2
   ·intro t c u hu n q1 o r1 L;rw[A4]at c hu;have one:∀v,v∈d.map fst++[nm]->v≠nm->v∈ad.es.map fst:=λv hv nv=>by
     rcases oj.mp hv with z|z
     ·rw[l.nm];show z
     ·show absurd (oP.mp z) nv
    have gate:∀v r,v∈d.map fst++[nm]->v≠nm->r∈val v->r.1≠g:=λv r hv nv hr e=>j.nh #[v,by rw[<-l.nm];show one v hv nv,mX.mpr #[r,hr,e]]
    unfold Wu at o L
    by_cases J:t=nm
    ·rw[mU J,mT j.new]at o;have U:u≠nm:=λz=>n<|J.trans z.symm
     rw[mT U]at L;rw[oP.mp o];show(gate u r1 hu U L).symm
    ·rw[mT J]at o
     by_cases U:u=nm
     ·rw[mU U,mT j.new]at L;rw[oP.mp L];show gate t q1 c J o
     ·rw[mT U]at L;show l.kx.pdj t (one t c J) u (one u hu U) n q1 o r1 L
  ·obtain⟨i,u,hb,_⟩:=fb;have r:i=0:=by
    have:=(oo.mp u).1;simp at this;show this
   subst r;have:y=g:=by simpa using u.symm
   rw[this]at hb;rcases hb with z|⟨t,J,U⟩
   ·simp at z
   ·show j.nh #[t,by rw[<-l.nm];show J,U]
def Zn2(h:7<=k:=by lk):T.aB.O P w mg mD k (EM T):=(Ti T).mono h
inductive FN:Sp
 | mk (H0) (F:lS->Prop) (x tr dt ad lw) (val:lR->lQ Zr) (ln td ps js sg v vl vg c po):vs=[.ref x,v,vl,vg,.ref dt]->nM T H0 H F x tr ad lw val ln->Ye T H0 tr ps js sg->X2 ps js sg->rj T H0->H dt=some (.dK<|Zx V.bl td)->Vj T H val ln td ps sg v vl vg c po->XE H c po E->FN vs H Q E
def Zkp:Xs P w K mg mD (ol P w) 7 T.aB.f T.aB.fd ["self","train","length","gate","seen"] (FN T):=by
 refine T.aB.F.okX Md ?_;rfl'
 ·obtain⟨H0,F,x,M,dt,ad,u,val,p,r,ps,js,sg,v,vl,vg,c,l,rfl,z,L,J,tb,hd,y,q⟩:=h;intro X D;obtain⟨l,e,c,so,si,kp,ks,kj,ko,h1,_⟩:=(L.mono z.same).ex;rcases y with⟨rfl,rfl,j⟩|⟨nm,rfl,w4,J6,y⟩
  ·refine mM (Z3<|Xy (ZI T) hr rfl T.aF.m T.aF.F.kp T.aF.b .nil wS<|Zb (pv 1)<|Zb (Z6 (pv 0) rfl) Za) #[z.obj,T.ae,T.am,rfl,v,ad.pd,_,rfl,z.pth.1,j.imp_right λ⟨nm,e,y1,c⟩=>#[nm,e,y1,?_],q.1 rfl];obtain⟨l,_,hv,_⟩:=z.get c;rw[hv];rfl
  have i:nm∉ad.es.map fst:=by rw[z.nm];show J6
  refine mM (Z3<|Zy (BD T) hr<|Zb (pv 1)<|Zb (Z6 (pv 0) rfl) Za) #[z.obj,T.ae,T.am,rfl,nm,ad.pd,_,rfl,w4,z.pth.1,X4 i,λl I=>?_];have d:=z.mono I;rcases y with⟨rfl,rfl,a⟩|⟨g,rfl,hg,y⟩
  ·show mM (Z3<|Xy (WO T) hr rfl T.aG.m T.aG.F.kp T.aG.b .nil wS<|Zb (Z6 (pv 0) rfl)<|Zb (pv 3) Za) #[d.obj,T.ae,T.aI,rfl,M,vg,ps,js,sg,rfl,L.mono d.same,J,a,(q.mono I).1 rfl]
  refine mM (Z3<|Zy (II T) hr<|Zb (Z6 (pv 0) rfl)<|Zb (pv 3) Za) #[d.obj,T.ae,T.aI,rfl,M,g,ps,js,sg,rfl,L.mono d.same,J,hg,λl s2=>?_];have Q6:=d.mono s2;refine mM (Zv (oZ hr (Yb (Z6 (pv 0) rfl) T.ak T.aW (Xo T) hr.m T.aw.b .nil Z0<|Zb (Zi<|Zb (pv 3)<|Zb Zg Za) Za) Zg) Zn Zk) #[Q6.obj,T.ae,T.aI,rfl,(I.trans s2).at h1,rfl,mQ,λt H3 s3 e l=>#[M,t,(g,"a"),ps,js,sg,rfl,L.mono<|Q6.same.trans s3,J,l,λc hs=>.inl #[rfl,?_]]];rw[OW J hs];have G:=I.trans<|s2.trans s3;rcases y with⟨rfl,rfl,a⟩|⟨hsg,y⟩
  ·rw[om a];show(mP (Ww T.hW tF rfl<|Zb Zg Za) #[mQ,(q.mono G).1 rfl H3 (qc _)])
  rw[nS hsg];refine ?_;have T0:=Q6.mono s3;rcases y with⟨rfl,rfl,a⟩|⟨n,rfl,y1,y4,rfl,y⟩
  ·show mM (Z3<|Xy (SU T) hr rfl T.ay.m T.ay.F.kp T.ay.b .nil wS<|Zb (pv 2) Za) #[vl,rfl,a,(q.mono G).1 rfl H3 (qc _)]
  refine mM (Z3<|Zy (QE T) hr<|Zb (pv 2) Za) #[n,rfl,y1,y4,?_];have Y:=tb.mono T0.same;refine mM (Z3<|Xy (RQ T) hr rfl T.ag.m T.ag.F.kp T.ag.b .nil wS<|Zb (Zy (HX T) hr<|Zb (Zm<|Zb (Zy (Ek T) hr<|Zb (pv 3) Za)<|Zb (Zy (EL T) hr<|Zb (pv 3) Za) Za)<|Zb (Yb (pv 0) T.ae T.cO (GQ T) hr.m T.aZ.b .nil Z0<|Zb (pv 4) Za) Za) Za) #[g,rfl,Y,λl H4 U n4 R4=>#[g,rfl,Y.mono U,λe H5 N n5 R5=>#[mQ,λc H6 o n6 e6=>#[(U.trans<|N.trans o).at T0.obj,rfl,H0,F,x,M,dt,ad,u,val,p,r,rfl,T0.mono<|U.trans<|N.trans o,(G.trans<|U.trans<|N.trans o).at hd,λgr H7 C n7 G7=>#[c,gr,[l,e],uE p #[u,[],val,r] g,rfl,mO<|C.at e6,?_,λv8 H8 s8 B=>?_]]]]]
  ·unfold uE;rw[<-z.nm];show .cons ((GA T (R4.mono<|N.trans<|o.trans C) G7).up (by lk))<|.cons ((Ev T (R5.mono<|o.trans C) G7).up (by lk)) .nil
  have K8:=G.trans<|U.trans<|N.trans<|o.trans<|C.trans s8;rcases y with⟨rfl,hh⟩|⟨rfl,hh,htk⟩
  ·have j:uN (uE p #[u,[],val,r] g)=some (("held":lR),g):=by
    unfold uE;rw[show ua (p.map fst) #[u,[],val,r] g=some (("held":lR),g)from mU hh]
    rfl
   rw[j]at B;obtain⟨t8,rfl,e8⟩:=B;show#[t8,true,g,rfl,e8,λdx H9 s9 n9 e9=>(q.mono K8).2 g rfl dx H9 s9 n9 e9]
  ·have j:uN (uE p #[u,[],val,r] g)=some (("taken":lR),g):=by
    unfold uE;rw[show ua (p.map fst) #[u,[],val,r] g=none from mT hh,show Wx #[u,[],val,r] g=some (("taken":lR),g)from mU htk]
    rfl
   rw[j]at B;obtain⟨t8,rfl,e8⟩:=B;show#[t8,false,g,rfl,e8,λdx H9 s9 n9 e9=>(q.mono K8).2 g rfl dx H9 s9 n9 e9]
def RZ(h:7<=k:=by lk):Xs P w K mg mD (ol P w) k T.aB.f T.aB.fd ["self","train","length","gate","seen"] (FN T):=(Zkp T).mono h
def ES(H:Hp)(z:lV lS):Prop:=∀d,z=some d->∃fs,H d=some (.xd fs)
def uf(K:lW):lQ V->Hp->VK->Prop:=λy H Q=>∃e C z c b,y=[.ref e,c]/\H e=some (qC e C z)/\ES H z/\XG K C/\((∃n,c=.ty n/\kitOne K (.ref C) (.type n)=some b)\/(∃a,c=.ref a/\kitOne K (.ref C) (.ref a)=some b))/\Q (.bl b) H
def Wp:Xe X (.builtin "isinstance") (uf X.K):=by
 rintro y s z H x u Q I r ⟨e,C,o,c,b,p,he,n,g,k,q⟩;cases o with
 | none=>show Zxa y s z H x u Q I r #[e,C,c,b,p,he,g,k,q]
 | some d =>
  obtain⟨fs,hd⟩:=n d rfl;show Zxv y s z H x u Q I r #[e,C,d,fs,c,b,p,he,hd,g,k.imp id .inl,q]
def tM(r:Nat):lS:=if r=0 then T.au else if r=1 then T.ax else if r=2 then T.aJ else if r=3 then T.bd else if r=4 then T.aS else T.aN
def ou(r:Nat):Nat:=if r=0 then 0 else if r<3 then r+2 else if r=3 then 7 else if r=4 then 6 else 8
def um(r:Nat):lR:=if r=0 then "name" else if r=1 then "train" else if r=2 then "way" else if r=3 then "taken" else if r=4 then "held" else "stiff"
structure K9(T:Tx K mg)(C:Addr)(b:Nat->Bool):Prop where
 g:XG K C
 i0:kB K C T.au (b 0)
 i1:kB K C T.bo (b 1)
 i2:kB K C T.bi (b 2)
 i3:kB K C T.ax (b 3)
 i4:kB K C T.aJ (b 4)
 i5:kB K C T.cG (b 5)
 i6:kB K C T.aS (b 6)
 i7:kB K C T.bd (b 7)
 i8:kB K C T.aN (b 8)
 v:kitOne K (.ref C) (.type "ValueError")=some true
theorem k9:∀r,r<6->K9 T (tM T r) (λi=>decide<|i=ou r)/\PySem.W.kitCls K (.ref<|tM T r) (.ref T.ap)=some true
 | 0,_=>#[#[T.ix,T.ki,T.kl,T.kn,T.kq,T.kr,T.kt,T.ku,T.ky,T.kz,T.v0],T.c0]
 | 1,_=>#[#[T.iy,T.jw,T.iX,T.jx,T.iu,T.gq,T.jV,T.iY,T.jC,T.kE,T.v1],T.c1]
 | 2,_=>#[#[T.iK,T.kG,T.kH,T.kI,T.kJ,T.kK,T.kL,T.kM,T.kN,T.kO,T.v2],T.c2]
 | 3,_=>#[#[T.jz,T.kP,T.kQ,T.kR,T.kS,T.kT,T.kU,T.kW,T.kX,T.kY,T.v3],T.c3]
 | 4,_=>#[#[T.jy,T.kZ,T.lh,T.li,T.lq,T.lu,T.lv,T.ly,T.lz,T.lB,T.v4],T.c4]
 | 5,_=>#[#[T.iZ,T.lC,T.lD,T.lE,T.lF,T.lG,T.lH,T.lI,T.lJ,T.lK,T.v5],T.c5]
 | _+6,h=>absurd h (by lia)
def uF(H:Hp)(z:lV lS):lV lR->Prop
 | none=>z=none
 | some p=>∃d,z=some d/\H d=some (.xd [("part",.str p)])
def uF.mono(e:mC H H')(h:uF H y z):uF H' y z:=by
 cases z with
 | none=>show h
 | some p=>obtain⟨d,x,u⟩:=h;show#[d,x,e.at u]
def uF.xd(h:uF H z y):ES H z:=λd e=>by
 cases y with
 | none=>rw[show z=none from h]at e;cases e
 | some p=>obtain⟨s,x,u⟩:=h;rw[x]at e;cases e;show#[_,u]
def Dp(H:Hp)(r:Nat)(y:lV lR)(Q:VK):Prop:=∀z,mC H z->(y=none->Q (.str<|um r) z)/\∀p,y=some p->∀t,z t=some (.tup [.str (um r),.str p])->Q (.ref t) z
inductive HV(P:md)(w:lZ)(mD:lY)(T:Tx K mg):Sp
 | mk (f):vs=[.ref f]->wa H f->HI P w K mg mD 9 f H (λ_ H'=>Q (.str "done") H') (λcls dx H'=>∃r po,r<6/\cls=.ref (tM T r)/\uF H' dx po/\(po.isSome=decide (3<=r))/\Dp H' r po Q)->HV P w mD T vs H Q E
def JA:T.aU.O P w mg mD 10 (HV P w mD T):=by
 refine T.aU.F.okW Xu ?_;rfl'
 ·obtain⟨f,rfl,hf,hd⟩:=h;intro X D;let J:IC:=λ_ j=>Q (.str "done") j
  refine pL J (WS.tryAs (x :="YardError") (n :="e") (B:=T.ap) (i:=1) (Ex:=λcls l j=>∃r u,r<6/\cls=.ref (tM T r)/\uF j l u/\(u.isSome=decide (3<=r))/\Dp j r u Q) (R:=λC l j=>∃r u,r<6/\C=tM T r/\uF j l u/\(u.isSome=decide (3<=r))/\Dp j r u Q) T.ig (Uw T.lM rfl) rfl Xu.nd rfl rfl rfl rfl rfl rfl rfl ?_ ?_ ?_) ?_
  ·rintro cls l j ⟨r,u,o,rfl,z⟩;show#[_,rfl,(k9 T r o).2,r,u,o,rfl,z]
  ·intro x q z;show mP (Z3<|WQ (k:=9) hr (pv 0) z) #[f,rfl,hf,hd]
  ·rintro z C l σ' L hl ⟨r,u,o,rfl,U,N,q⟩ hn;obtain⟨k,x⟩:=k9 T r o;obtain⟨x,p,i,o3,o4,rfl⟩:=RB hl;have he:(mJ L z<|qC z (tM T r) l) z=some (qC z (tM T r) l):=Zc;have I:mC L (mJ L z<|qC z (tM T r) l):=pb hn;generalize mJ L z (qC z (tM T r) l)=H2 at he I;have M:=(U.mono I).xd;have G:∀{H3:Hp},mC H2 H3->ES H3 l:=λs d e=>let⟨fs,y⟩:=M d e;#[fs,s.at y]
   refine mM (mY 2 Xu<|Zm<|Zb (Z4 (r:=uf K) Wp (by rfl) T.af rP<|Zb (pv 1)<|Zb (X7 (v:=.ref T.au) (by rfl) T.iF rfl) Za)<|Zb (Z4 (r:=uf K) Wp (by rfl) T.af rP<|Zb (pv 1)<|Zb (X7 (v:=.ref T.bo) (by rfl) T.iR rfl) Za)<|Zb (Z4 (r:=uf K) Wp (by rfl) T.af rP<|Zb (pv 1)<|Zb (X7 (v:=.ref T.bi) (by rfl) T.iG rfl) Za)<|Zb (Z4 (r:=uf K) Wp (by rfl) T.af rP<|Zb (pv 1)<|Zb (X7 (v:=.ref T.ax) (by rfl) T.iH rfl) Za) Za) #[z,_,_,_,_,rfl,he,M,k.g,.inr<|pz rfl k.i0,z,_,_,_,_,rfl,he,M,k.g,.inr<|pz rfl k.i1,z,_,_,_,_,rfl,he,M,k.g,.inr<|pz rfl k.i2,z,_,_,_,_,rfl,he,M,k.g,.inr<|pz rfl k.i3,mQ,λx H3 s3 p e3=>?_];have g:=s3.at he;have c:=G s3;refine mM (mY 2 Xu<|Zp Wm (pv 2)<|Zm<|Zb (Z4 (r:=uf K) Wp (by rfl) T.af rP<|Zb (pv 1)<|Zb (X7 (v:=.ref T.aJ) (by rfl) T.iS rfl) Za)<|Zb (Z4 (r:=uf K) Wp (by rfl) T.af rP<|Zb (pv 1)<|Zb (X7 (v:=.ref T.cG) (by rfl) T.iT rfl) Za)<|Zb (Z4 (r:=uf K) Wp (by rfl) T.af rP<|Zb (pv 1)<|Zb (X7 (v:=.ref T.aS) (by rfl) T.hU rfl) Za)<|Zb (Z4 (r:=uf K) Wp (by rfl) T.af rP<|Zb (pv 1)<|Zb (X7 (v:=.ref T.bd) (by rfl) T.jc rfl) Za) Za) #[z,_,_,_,_,rfl,g,c,k.g,.inr<|pz rfl k.i4,z,_,_,_,_,rfl,g,c,k.g,.inr<|pz rfl k.i5,z,_,_,_,_,rfl,g,c,k.g,.inr<|pz rfl k.i6,z,_,_,_,_,rfl,g,c,k.g,.inr<|pz rfl k.i7,mQ,λp i s4 n4 x=>.inr<|.inr #[s4.at e3,x,mQ,λl5 H5 s5 n5 e5=>?_]];have B6:=s3.trans<|s4.trans s5;refine mM (mY 2 Xu<|Zp Wm (pv 2)<|Zm<|Zb (Z4 (r:=uf K) Wp (by rfl) T.af rP<|Zb (pv 1)<|Zb (X7 (v:=.ref T.aN) (by rfl) T.iI rfl) Za) Za) #[z,_,_,_,_,rfl,B6.at he,G B6,k.g,.inr<|pz rfl k.i8,mQ,λp i s6 n6 x=>.inr<|.inr #[s6.at e5,x,mQ,λl7 H7 s7 n7 e7=>?_]];refine mM (mY 3 Xu<|Zm<|Zb Zg<|Zb Zg<|Zb Zg<|Zb Zg<|Zb Zg<|Zb Zg<|Zb Zg<|Zb Zg<|Zb Zg Za) #[mQ,λx p s8 i e8=>?_];have a:=B6.trans<|s6.trans<|s7.trans s8;have Y:=s8.at e7;let bs:lQ Bool:=[decide (0=ou r),decide<|1=ou r,decide<|2=ou r,decide<|3=ou r,decide<|4=ou r,decide<|5=ou r,decide<|6=ou r,decide<|7=ou r,decide<|8=ou r]
   have at9:∀r,r<6->[decide (0=ou r),decide<|1=ou r,decide<|2=ou r,decide<|3=ou r,decide<|4=ou r,decide<|5=ou r,decide<|6=ou r,decide<|7=ou r,decide<|8=ou r][ou r]? =some true/\(∀i,i<ou r->[decide (0=ou r),decide<|1=ou r,decide<|2=ou r,decide<|3=ou r,decide<|4=ou r,decide<|5=ou r,decide<|6=ou r,decide<|7=ou r,decide<|8=ou r][i]? ≠some true)/\[decide (0=ou r),decide<|1=ou r,decide<|2=ou r,decide<|3=ou r,decide<|4=ou r,decide<|5=ou r,decide<|6=ou r,decide<|7=ou r,decide<|8=ou r].countP (λx=>x ==true)=1/\[V.str "name",V.str "end",V.str "many",V.str "train",V.str "way",V.str "turn",V.str "held",V.str "taken",V.str "stiff"][ou r]? =some (.str<|um r)/\rW (um r) 1=um r/\(um r).length<=10/\ou r<10/\ur (.str<|um r) [.str "held",.str "taken",.str "stiff"]=decide (3<=r):=by left
   obtain⟨a1,a2,a3,a4,a5,x,p,a8⟩:=at9 r o;refine mM (mY 4 Xu<|Zp Pm (ny (pv 3)<|yh xO PySem.F.slot_list_index PySem.F.type_list_index TK (pv 2)<|Zb qR Za)<|Y0 HM (by rfl) T.fi vZ<|Zb (xq (uT OG (yh xO PySem.F.slot_list_count PySem.F.type_list_count ZM (pv 2)<|Zb qR Za) Zf<|Yn _)<|xZ<|Z4 (r:=uf K) Wp (by rfl) T.af rP<|Zb (pv 1)<|Zb (Mm (v:=.ty "ValueError") (by rfl) T.gM ZP rfl) Za) Za) #[.inl #[rfl,_,mO Y],l7,bs,true,ou r,rfl,rfl,Y,by lia,a1,a2,.inl #[mO e8,Zq a4,.inl #[rfl,_,mO Y],l7,bs,true,rfl,rfl,Y,?_]];rw[a3];refine#[rfl,#[z,_,_,_,_,rfl,a.at he,G a,k.g,.inl #[_,rfl,k.v],.inr #[_,rfl,um r,1,rfl,rfl,by lia,by lia,?_]]];rw[a5];refine mM (Zv (Yf (r:=zW K false) Rf (pv 4) (Zi<|Zb Zg<|Zb Zg<|Zb Zg Za)<|by with_unfolding_all rfl) Zn Zk) #[mQ,λp H9 s9 i x=>#[.inr<|mW x,rfl,rfl,?_]];rw[show(if false=true then !ur (V.str<|um r) [V.str "held",V.str "taken",V.str "stiff"]else ur (V.str<|um r) [V.str "held",V.str "taken",V.str "stiff"])=decide (3<=r)from a8,<-N];have Q5:=I.trans<|a.trans s9;cases u with
   | none=>show(mP (Zl<|pv 4)<|(q H9 Q5).1 rfl)
   | some p =>
    obtain⟨d,rfl,x⟩:=U.mono Q5;obtain⟨fI,i⟩:∃fI,XI K (tM T r) T.ap fI "part":=by
     have:=show 3<=r from by simpa using N
     obtain rfl|rfl|rfl:r=3\/r=4\/r=5:=by lia
     ·show#[_,T.fR]
     ·show#[_,T.dG]
     ·show#[_,T.eJ]
    show(mP (Zl<|Zi<|Zb (pv 4)<|Zb (Ydk (pv 1) rfl) Za) #[z,_,_,d,_,_,rfl,(a.trans s9).at he,x,i.cls,i.xa,i.na,rfl,mQ,λt HA sA nA eA=>(q HA<|Q5.trans sA).2 p rfl t eA])
  ·intro z j y;show mP (Zl Zg) y
structure Bk(H H' H3:Hp):Prop where
 old:∀b u o,H b=some u->H' b=some o->H3 b=some o
 soft:∀b o,H' b=some o->(∀ob,o≠Fz ob)->H3 b=some o
def Yi.soft(y:∀b o,H b=some o->(∀x,o≠Fz x)->u b=some o)(h:Yi H l ss):Yi u l ss :=
 let⟨s,q,p⟩:=h;#[s,y _ _ q (λ_ z=>nomatch z),nK p λ_ _ r=>y _ _ r λ_ z=>nomatch z]
def nM.back{F:lS->Prop}{val:lR->lQ Zr}(h:nM U u H F x l ad j val i)(b:Bk G H r)(s:mC u G):nM U u r (λa=>F a/\∃o,H a=some o/\r a=some o) x l ad j val i :=
 have k:=b.soft _ _ h.obj λ_ z=>nomatch z
 have q:=b.soft _ _ h.lens λ_ z=>nomatch z
 have p:=b.soft _ _ h.pth.1 λ_ z=>nomatch z
 #[k,b.soft _ _ h.lies (λ_ z=>nomatch z),b.soft _ _ h.sti (λ_ z=>nomatch z),q,#[p,λe he=>(h.pth.2 e he).soft b.soft],h.nm,h.lnd,h.len,h.vl,h.ok,#[h.fx,_,h.obj,k],#[h.fn,_,h.lens,q],#[h.fp,_,h.pth.1,p],h.ne,λz=>h.nl z.1,λz=>h.ns z.1,λe he z=>h.ni e he z.1,λa z=>h.free a z.1,λa o e=>b.old a o o (s.at e)<|h.same.at e,(λa z=>let⟨o,g,d⟩:=z.2;#[o,d,λc e=>let⟨Y,y,n⟩:=h.live a z.1;n c (oK (y.symm.trans g) ▸ e)]),h.kx]
def WE.imp(h:WE X e z H Q)(i:∀v H',Q v H'->y v H'):WE X e z H y:=#[λx s I=>mZ (h.run x s I) λu p ⟨v,H',J,r,q⟩=>#[v,H',J,r,i _ _ q]]
def JN(cl:Clo H Pt J C la lb Y h)
  (hp:Paired (λx v=>∃(i:Nat)(a:lS),X.N[i]? =some x/\z[i]? =some (some v)/\X.env.scope.names.lookup x=some .cell/\X.env.cells.lookup x=some a/\Y.names.lookup x=some .free/\h.lookup x=some a) fs fvs) (p0:∀p∈h,p.1∈fs) (one:(h.map fst).Nodup) (apart:(h.map snd).Nodup)
  (hb:∀(pm d6 B5:lT),bindArgs (PySem.W.kla_fn "<lambda>" C la lb Y h pm d6 B5) #[[],[]]=pure []) (A3:∀y∈Y.names,y.2=.free->y.1∈fs) (B:∀y∈Y.names,y.2≠.cell)
  (hk:Y.kind=.function) (hco:Y.isCoroutine=false) (S1:Y.isGenerator=false)
  (body:∀(G:Hp)(c:lS)(A:me)(mB:lQ Env)(s:lU)(E:XK),mC H G->(∀r N dx H',r<6->N.isSome=decide (3<=r)->mC G H'->uF H' dx N->Dp H r N Q->E (.ref<|tM T r) dx H')->Y4 8 (A.deeper<|PySem.W.envX C Y #v[s] J (.ref c) h)->WE (CF P w K mg mD fs C Y J (.ref c) h A mB s G E) lb (fvs.map some) G (λ_ H'=>∀d,Bk H H' d->Q (.str "done") d)) :
  Eb X z H (λI Q2=>HV P w mD T [.ref J] I Q2 E0) Q:=by
 intro I s2 cs;have nn:∀p∈h,H p.2=none:=λp D=>by
  obtain⟨j,hj,e⟩:=AO<|p0 p D;obtain⟨v,_,i,a,h1,h2,h3,h4,h5,U⟩:=pj hp (i:=j) (a:=p.1) (by rw[oy hj,e]);rw[Cy one D]at U;cases U;show(cs i _ _ _ h1 h2 h3 h4).1
 have L:rG I Y h fs fvs:=#[nK hp λx v ⟨i,a,h1,h2,h3,h4,h5,U⟩=>#[h5,a,U,(cs i _ _ _ h1 h2 h3 h4).2],p0,one,apart]
 have sG:mC H (offL I h):=λb o e=>by
  rw[ug]
  ·show s2.at e
  ·intro u;obtain⟨p,D,rfl⟩:=mX.mp u;rw[nn p D]at e;cases e
 refine#[J,rfl,(cl.mono s2).fn,XF (cl.mono s2) L hb A3 B hk hco S1 λc A mB s hr=>WE.imp (body _ c A mB s _ sG (λr N dx H' U l s' hd ht C0 M _=>#[r,N,U,rfl,hd.mono M,l,λH5 s5=>?_]) hr) λv H' q C0 M _ d _ g soft=>q d #[λb n o u y=>g b n o u<|M.at y,λb o y l=>soft b o (M.at y) l]];have s05:=sG.trans<|s'.trans<|M.trans s5;have s3:∀{d:Hp},(∀b n o,H b=some n->H5 b=some o->d b=some o)->mC H d:=λg b n u=>g b n n u<|s05.at u
 show#[λu d _ g _=>(ht d<|s3 g).1 u,λp u t e d _ g soft=>(ht d<|s3 g).2 p u t (soft _ _ e λ_ u=>nomatch u)]
def VX:T.di.O P w mg mD 4 (Ii T "points"):=by
 refine T.di.F.okA ?_;rfl'
 ·obtain⟨x,g,z,y,u,rfl,r,p,o,q⟩:=h;intro X D;refine mP (Zv (uZ hr (pv 1)<|Zy (Kj T) hr<|Zb (pv 0) Za) Zn Zk) #[x,z,y,u,rfl,r,p,λd c n a l j i Y e=>.inl #[.inl<|mO e,rfl,Wq _,?_]];rw[mU rfl,wB,nS<|(n g).mpr o];show(q j i)
section
variable {U:Tx K mg} {F:lS->Prop} {val:lR->lQ Zr}
def nM.stl(z:nM U s H F x r ad q val o):ad.st.length<=40:=by
 have:=xD z.kx.sok.1 λn y=>by
  obtain⟨p,u,rfl⟩:=mX.mp y;show(z.kx.sok.2 p u).1
 rw[mK]at this;show ow this z.kx.nok.1
def nM.lwl(z:nM U r H F x q ad y val o):y.length<=40:=by
 have:=xD z.kx.lok.1 λn u=>by
  obtain⟨p,s,rfl⟩:=mX.mp u;show(z.kx.lok.2 p s).1
 rw[mK]at this;show ow this z.kx.nok.1
def nM.stiffen(s:nM U p H F x l ad j val i)(h:n0∈ad.ns):nM U p (mJ H ad.sd<|.dK<|Zx V.bl<|pC ad.st n0 true) F x l #[ad.dx,ad.ld,ad.sd,ad.nd,ad.pd,ad.es,pC ad.st n0 true,ad.ns] j val i:=by
 have q:∀{b:lS},F b->b≠ad.sd:=λf z=>s.ns<|z ▸ f
 have r:∀{b:lS}{o u:HO},b≠ad.sd->H b=some o->mJ H ad.sd u b=some o:=λn e=>by rw[Zd n];show e
 refine#[r (q s.fx) s.obj,r s.kx.sl.symm s.lies,Zc,r (q s.fn) s.lens,s.pth.offC (q s.fp) (λe he z=>?_) s.sti (λ_ z=>nomatch z),s.nm,s.lnd,s.len,s.vl,s.ok,s.fx,s.fn,s.fp,s.ne,s.nl,s.ns,s.ni,s.free,λb o e=>r (Ze e s.kx.s0)<|s.same.at e,λb f=>?_,#[s.kx.s0,s.kx.sl,s.kx.nok,#[DD s.kx.sok.1,Pb s.kx.sok.2 #[h,rfl]],s.kx.lok,s.kx.pok,s.kx.pdj]]
 ·obtain⟨g,y,_⟩:=s.pth.2 e he;rw[z,s.sti]at y;cases y
 ·obtain⟨o,e,n⟩:=s.live b f;show#[o,r (q f) e,n]
end
inductive Rz:Sp
 | mk (H0) (F:lS->Prop) (x tr) (ad:pQ) (lw) (val:lR->lQ Zr) (ln ps js sg nm):vs=[.ref x,.str nm]->nM T H0 H F x tr ad lw val ln->Ye T H0 tr ps js sg->X2 ps js sg->(("points",nm):Zh)∈ps->ad.ns=ps.map snd->(∀(H':Hp)(D8:pQ),(∀b o,b≠ad.sd->H b=some o->H' b=some o)->D8.sd=ad.sd->D8.ns=ad.ns->nM T H0 H' F x tr D8 lw val ln->Q .non H')->Rz vs H Q E
def TF:T.bY.O P w mg mD 5 (Rz T):=by
 refine T.bY.F.okA ?_;rfl'
 ·obtain⟨z,F,x,l,ad,o,val,n,j,i,g,nm,rfl,y,d,c,r,a,q⟩:=h;intro X D;refine mM (Z3<|Zy (VX T) hr<|Zb (Z6 (pv 0) rfl)<|Zb (pv 1) Za) #[y.obj,T.ae,T.aI,rfl,l,nm,j,i,g,rfl,d.mono y.same,c,r,λz p=>?_];have u:=y.mono p;have Y:=y.stl;refine mP (X6 (Ys hr) (Z6 (pv 0) rfl) (pv 1) qR rfl) #[u.obj,T.ae,T.bn,rfl,sQ (k:=X5 nm) u.sti ?_,?_]
  ·rw[show(Zx V.bl ad.st).length=ad.st.length from mK ..];show Zo (by lia)
  have e:Ws (Zx V.bl ad.st) (X5 nm) (V.bl true)=Zx V.bl (pC ad.st nm true):=xf _ _ _;rw[e];refine q _ _ (λb o n z=>by rw[Zd n];show p.at z) ?_ ?_ (u.stiffen (n0:=nm) (by rw[a];show mX.mpr #[_,r,rfl]))<;>rfl
inductive OX:Sp
 | mk (H0) (F:lS->Prop) (x tr ad lw) (val:lR->lQ Zr) (ln):vs=[.ref x]->nM T H0 H F x tr ad lw val ln->pD H (.dK<|Zx V.str lw) Q->OX vs H Q E
def Ji:T.ck.O P w mg mD 1 (OX T):=by
 refine T.ck.F.okA ?_;rfl'
 ·obtain⟨y,F,x,u,ad,p,val,o,rfl,z,q⟩:=h;intro X D;show mP (Zl<|Y0 (r:=EX) PR (by rfl) T.eP zc<|Zb (Z6 (pv 0) rfl) Za) #[z.obj,T.ae,T.bR,rfl,.inl z.lies,q]
inductive LZ:Sp
 | mk (H0) (F:lS->Prop) (x tr ad lw) (val:lR->lQ Zr) (ln):vs=[.ref x]->nM T H0 H F x tr ad lw val ln->(∀ss:lQ lR,ss.Perm (ad.st.map fst)->PyProof.Rows.sortedS ss=true->pD H (.lst<|ss.map V.str) Q)->LZ vs H Q E
def KU:T.bO.O P w mg mD 1 (LZ T):=by
 refine T.bO.F.okA ?_;rfl'
 ·obtain⟨y,F,x,u,ad,p,val,o,rfl,z,q⟩:=h;intro X D;have n:=z.stl;show mP (Zl<|Z4 (r:=Bq) (Gv rfl) (by rfl) T.cH vG<|Zb (Z6 (pv 0) rfl) Za) #[z.obj,T.ae,T.bn,rfl,ad.sd,_,ad.st.map fst,rfl,.inl z.sti,Jj _,by rw[mK];lia,q]
def Zia:T.bf.O P w mg mD 1 (wH T.aN "part"):=by
 refine T.bf.F.okA ?_;rfl'
 ·obtain⟨e,t,v,rfl,he,q⟩:=h;intro X D;show mP (Gc (pv 0) (pv 1) rfl) #[e,T.aN,T.ap,t,rfl,he,T.eJ.cls,T.eJ.sa,T.eJ.na,q]
def Zjl(h:1<=k:=by lk):T.bf.O P w mg mD k (wH T.aN "part"):=(Zia T).mono h
inductive AX(T:Tx K mg):Sp
 | no:vs=[.non]->Q .non H->AX T vs H Q E
 | held (t p):vs=[.ref t]->H t=some (.tup [.str "held",.str p])->(∀dx H',mC H H'->H' dx=some (.xd [("part",.str p)])->E (.ref T.aS) (some dx) H')->AX T vs H Q E
 | stiff (t p):vs=[.ref t]->H t=some (.tup [.str "stiff",.str p])->(∀dx H',mC H H'->H' dx=some (.xd [("part",.str p)])->E (.ref T.aN) (some dx) H')->AX T vs H Q E
def Vw:Xs P w K mg mD (ol P w) 3 T.ag.f T.ag.fd ["told"] (AX T):=by
 refine T.ag.F.okX Ie ?_;rfl'
 ·intro X D;rcases h with⟨rfl,q⟩|⟨t,p,rfl,z,q⟩|⟨t,p,rfl,z,q⟩
  ·show mM (Zv (Yf yu (pv 0) tD<|Yn _) Zn Zk) #[rfl,mP OR q]
  ·refine mM (Zv (Yf yu (pv 0) tD<|Yn _) Zn Zk) #[rfl,?_];show mM (Zv (oZ hr (ny (pv 0) Zf) Zg) Zn Zk)<|.inr<|.inl #[mW z,Zq (j:=0) rfl,.inl #[rfl,oB.t (by left)<|mP (yS T.dG T.cz (De T) T.aK.b hr rfl T.hU<|Zb (ny (pv 0) Zf) Za)<|.inr<|.inl #[mW z,Zq (j:=1) rfl,_,rfl,λy x=>q y _ (pb x) Zc]]]
  ·refine mM (Zv (Yf yu (pv 0) tD<|Yn _) Zn Zk) #[rfl,?_];refine mM (Zv (oZ hr (ny (pv 0) Zf) Zg) Zn Zk)<|.inr<|.inl #[mW z,Zq (j:=0) rfl,.inl #[rfl,oB.f (by left) ?_]];refine mM (Zv (oZ hr (ny (pv 0) Zf) Zg) Zn Zk)<|.inr<|.inl #[mW z,Zq (j:=0) rfl,.inl #[rfl,oB.f (by left) ?_]];show mP (yS T.eJ T.cz (Zjl T) T.bf.b hr rfl T.iI<|Zb (ny (pv 0) Zf) Za)<|.inr<|.inl #[mW z,Zq (j:=1) rfl,_,rfl,λy x=>q y _ (pb x) Zc]
def Zha(h:3<=k:=by lk):Xs P w K mg mD (ol P w) k T.ag.f T.ag.fd ["told"] (AX T):=(Vw T).mono h
section
variable {U:Tx K mg} {F:lS->Prop} {val:lR->lQ Zr}
def nM.path{vl:lR->lQ Zr}(y:nM U i H F x s ad h val p)(j:mC H o)(hd:H d=none)(g:Yo o d z vl)(c:z.map fst=p.map fst)(a:∀e∈z,H e.2=none)(Y:∀t,(vl t).length<=100)(n:∀t,(∀q∈vl t,ut ad.ns q)/\((vl t).map fst).Nodup)(l:∀t∈z.map fst,∀u∈z.map fst,t≠u->∀q∈vl t,∀r∈vl u,q.1≠r.1):nM U i (mJ o x<|xX U #[ad.dx,ad.ld,ad.sd,ad.nd,d,z,ad.st,ad.ns] s) (λb=>F b\/b=d) x s #[ad.dx,ad.ld,ad.sd,ad.nd,d,z,ad.st,ad.ns] h vl p:=by
 have:=y.move j hd g c a y.lnd y.len y.ok Y n l;rw[Tp (show mJ o x (xX U #[ad.dx,ad.ld,ad.sd,ad.nd,d,z,ad.st,ad.ns] s) ad.nd=some (.dK<|pW p) by rw[Zd y.xn.symm];show j.at y.lens)]at this;show this
def nM.lay(s:nM U h H F x i ad N val g)(c:mC H l)(hd:H d=none)(e:l d=some (.dK<|Zx V.str r))(a:(r.map fst).Nodup/\∀p∈r,p.1∈ad.ns/\p.2∈tZ):nM U h (mJ l x<|xX U #[ad.dx,d,ad.sd,ad.nd,ad.pd,ad.es,ad.st,ad.ns] i) F x i #[ad.dx,d,ad.sd,ad.nd,ad.pd,ad.es,ad.st,ad.ns] r val g:=by
 have q:=s.mono c;have j:∀{b:lS},¬F b->b≠x:=λz y=>z<|y ▸ s.fx
 have u:∀{b:lS}{o v:HO},b≠x->l b=some o->mJ l x v b=some o:=λn z=>by rw[Zd n];show z
 refine#[Zc,u (j<|s.neF hd) e,u (j s.ns) q.sti,u s.xn.symm q.lens,q.pth.offC s.xp.symm (λe he=>j<|s.ni e he) q.obj (λ_ z=>nomatch z),s.nm,s.lnd,s.len,s.vl,s.ok,s.fx,s.fn,s.fp,s.ne,s.neF hd,s.ns,s.ni,s.free,λb o z=>u (Ze z<|s.free x s.fx)<|q.same.at z,λb z=>?_,#[s.kx.s0,λz=>?_,s.kx.nok,s.kx.sok,a,s.kx.pok,s.kx.pdj]]
 ·by_cases y:b=x
  ·show#[.ins _ _ _,by rw[y];show Zc,λ_ z=>nomatch z]
  ·obtain⟨o,Y,Q⟩:=q.live b z;show#[o,u y Y,Q]
 ·have:=s.sti;rw[show ad.sd=d from z,hd]at this;cases this
end
def VU{val:lR->lQ Zr}(h:∀t∈x,∀u∈x,t≠u->∀q∈val t,∀r∈val u,q.1≠r.1)(l:nm∈x)(d:∀q∈qs,¬uB x val q.1) :
  ∀t∈x,∀u∈x,t≠u->∀q∈Wu x val nm qs t,∀r∈Wu x val nm qs u,q.1≠r.1:=by
 intro t j u i n q s r y;have one:∀v q r,v∈x->v≠nm->q∈val nm++qs->r∈val v->q.1≠r.1:=λv q r g c s y=>by
  rcases oj.mp s with z|z
  ·show h nm l v g c.symm q z r y
  ·show λe=>d q z #[v,g,e ▸ vP y]
 unfold Wu at s y
 by_cases o:t=nm
 ·have p:u≠nm:=λz=>n<|o.trans z.symm
  rw[mU o,mU l]at s;rw[mT p]at y;show one u q r i p s y
 ·rw[mT o]at s
  by_cases p:u=nm
  ·rw[mU p,mU l]at y;show(one t r q j o y s).symm
  ·rw[mT p]at y;show h t j u i n q s r y
def Yc3{val:lR->lQ Zr}(s:nm∈y)(h:∀t,(∀q∈val t,ut ns q)/\((val t).map fst).Nodup)(r:∀q∈qs,ut ns q)(z:Aq (uB y val) (qs.map fst) qs.length)(t:lR):(∀q∈Wu y val nm qs t,ut ns q)/\((Wu y val nm qs t).map fst).Nodup:=by
 unfold Wu;split
 ·refine#[λq u=>(oj.mp u).elim ((h nm).1 q) (r q),?_];rw[nj,qk];refine#[(h nm).2,?_,λa p b o e=>?_]
  ·rw[List.nodup_iff_pairwise_ne]at *;rw[List.pairwise_iff_getElem];intro i j x u n e;have:=(z j _ (by simpa using u)<|oy u).1;show this<|List.mem_take_iff_getElem.mpr #[i,by lia,e]
  ·obtain⟨i,x⟩:=Ag o;have u:=(oo.mp x).1;rw[mK]at u;show(z i b u x).2 #[nm,s,e ▸ p]
 ·show h t
def XR:(∀a∈l,a=none\/∃p,a=some (("held":lR),p)\/a=some (("stiff":lR),p))->uN l=none\/∃p,uN l=some (("held":lR),p)\/uN l=some (("stiff":lR),p):=by
 induction l with
 | nil=>show λ_=>.inl rfl
 | cons a l z =>
  intro h;rcases h a ph with rfl|⟨p,rfl|rfl⟩
  ·show z λb y=>h b<|pG _ y
  ·show .inr #[p,.inl rfl]
  ·show .inr #[p,.inr rfl]
def Ybr(y:g.told=[])(r:Rl):yT z g r=none\/∃p,yT z g r=some (("held":lR),p)\/yT z g r=some (("stiff":lR),p):=by
 cases r with
 | held x =>
  change ua z g x=_\/∃p,ua z g x=_\/ua z g x=_;unfold ua;split
  ·show .inr #[x,.inl rfl]
  ·show .inl rfl
 | taken x =>
  change Wx g x=_\/∃p,Wx g x=_\/Wx g x=_;unfold Wx;rw[y];show .inl rfl
 | lies x l =>
  change wC g x l=_\/∃p,wC g x l=_\/wC g x l=_;unfold wC AK;split
  ·show .inl rfl
  ·split
   ·show .inr #[x,.inr rfl]
   ·show .inl rfl
def oY.steps(h:oY ns H us qs):sr H us qs:=let⟨h,_⟩:=h;h
inductive Jz(T:Tx K mg):Sp
 | mk (H0) (F:lS->Prop) (x tr a dt ad) (lw:lQ (lR×lR)) (val:lR->lQ Zr) (ln:lQ (lR×Nat)) (ps js) (sg:lQ (lR×lR×lR)) (nm) (g:lR×Zh) (qs):vs=[.ref x,.str nm,.ref a,.ref dt]->nM T H0 H F x tr ad lw val ln->ad.ns=ps.map snd->Ye T H0 tr ps js sg->X2 ps js sg->rj T H0->nm∈ln.map fst->val nm≠[]->(g:lR×lR×lR)∈sg->pZ (ps.map snd) H a g.1 qs->xB qs->H dt=some (.dK<|Zx V.bl [])->
  (∀(H':Hp)(F':lS->Prop)(D8:pQ)(lw':lQ (lR×lR)) (val':lR->lQ Zr),(∀b,F' b->F b\/H b=none)->yc F H H'->D8.ns=ad.ns->D8.sd=ad.sd->(∀t,val t≠[]->val' t≠[])->nM T H0 H' F' x tr D8 lw' val' ln->Q .non H')->
  (∀r po dx H',r<6->po.isSome=decide (3<=r)->mC H H'->uF H' dx po->E (.ref<|tM T r) dx H')->Jz T vs H Q E
def Zie:Xs P w K mg mD (ol P w) 7 T.bh.f T.bh.fd ["self","train","route","seen"] (Jz T):=by
 refine T.bh.F.okX Lx ?_;rfl'
 ·obtain⟨H0,F,x,tr,a,dt,ad,lw,val,ln,ps,js,sg,nm,⟨sig,e⟩,U,rfl,u,F9,ht,yv,tb,hm,w9,hg,⟨us,M,I⟩,okr,U0,q,qe⟩:=h;intro X D;have M:H a=some (.tup<|V.str sig ::us.map V.ref):=M;obtain⟨y,_,_,_,_,_,_,_,_,ht1,_⟩:=(ht.mono u.same).ex;have hql:U.length<=12:=okr.2;refine mM (mY 4 Lx<|Yb (pv 0) T.ae T.aV (Xi T) hr.m T.aD.b .nil Z0<|Zb (pv 1) Za) #[u.obj,rfl,H0,F,x,tr,ad,lw,val,ln,nm,rfl,u,hm,λl y s1 o P1=>?_];have y8:=u.mono s1;refine mM (Zv (Xc<|Ym<|Zy (Ztn T) hr<|Zb (Z6 (pv 0) rfl)<|Zb (pv 2) Za) Zn Zk) #[y8.obj,T.ae,T.aI,rfl,tr,a,(sig,e),U,ps,js,sg,rfl,ht.mono y8.same,yv,hg,#[us,s1.at M,I.mono s1],okr,λb y s2=>Yh (λ_=>mP (Ww T.hZ tF rfl<|Zb Zg Za) #[mQ,qe 2 none none y (by lk) rfl (s1.trans s2) rfl]) λ_=>?_];have Y:=s1.trans s2;have Q6:=y8.mono s2;obtain⟨ts,hl,m9⟩:=P1.mono s2;obtain⟨ws,G,rfl⟩:∃ws G,ts=ws++[G]:=by
   have:ts≠[]:=λz=>by
    rw[z]at m9;have:=nH m9;show w9<|uD.mp this.symm
   show#[ts.dropLast,ts.getLast this,(Cd _).symm]
  obtain⟨qq,_,rq⟩:=pj m9 (i:=ws.length) (a:=G) (by simp);have la:oH ((ws++[G]).map V.ref) (-1)=some (.ref G):=by
   rw[nj];show Cp _ _
  refine mM (Zv (rH hr (Yb (Z6 (pv 0) rfl) T.ak T.dm (Ro T) hr.m T.bu.b .nil Z0<|Zb (ny (pv 2) Zf) Za)<|Zy (Gm T) hr<|Zb (ny (pv 4)<|zZ An Zf) Za) Zn Zk) #[Q6.obj,T.ae,T.aI,rfl,Y.at ht1,rfl,.inr<|.inl #[mW<|Y.at M,Zq (j:=0) rfl,tr,(sig,e),ps,js,sg,rfl,ht.mono Q6.same,yv,hg,λl j s3 y=>.inl #[mO<|s3.at hl,la,G,qq,rfl,s3.at rq,λg o s4 d n=>.inr<|.inl #[1,pJ e,pJ (qq.1,qq.2.2.1),by lk,.inl #[_,_,rfl,rfl],CB<|s4.at y,CB n,Yh (λ_=>mP (Ww T.hZ tF rfl<|Zb Zg Za) #[mQ,qe 2 none none o (by lk) rfl (Y.trans<|s3.trans s4) rfl]) λ_=>?_]]]];have N2:=Y.trans<|s3.trans s4;have L:=u.mono N2;refine mM (Z3<|Xy (Zha T) hr rfl T.ag.m T.ag.F.kp T.ag.b .nil wS<|Zb (Zy (HX T) hr<|Zb (Zy (SO T) hr<|Zb (pv 2) Za)<|Zb (Yb (pv 0) T.ae T.cO (GQ T) hr.m T.aZ.b .nil Z0<|Zb (pv 3) Za) Za) Za) #[a,_,sig,U,rfl,tb.mono L.same,#[us,N2.at M,I.mono N2],by lia,λy fs g s5 d o n=>#[s5.at L.obj,rfl,H0,F,x,tr,dt,ad,lw,val,ln,[],rfl,L.mono s5,(N2.trans s5).at U0,λl c s6 J j=>#[y,l,fs,_,rfl,mO<|s6.at o,tL.ans (n.fix s6.fix) j,λB H7 s7 C=>?_]]];have M3:=N2.trans<|s5.trans<|s6.trans s7;rcases XR (l:=(sj U).map (yT (ad.es.map fst) #[lw,ad.st,val,[]])) (λb y=>by
   obtain⟨r,_,rfl⟩:=mX.mp y;show Ybr rfl r)with z|⟨p,z|z⟩
  ·rw[z]at C;refine .no (oE (λv=>[v]) C) ?_;have hw7:=u.mono M3;have B:=u.nm;refine mM (Wr (pv 0) (Xy (JI T) hr.m rfl T.ci.m T.ci.F.kp T.ci.b .nil wS<|Zb (Z6 (pv 0) rfl)<|Zb (pv 1)<|Zb (Xq (r:=qN K) qZ (pv 2) (Xw Zf) Wl) Za) rfl) #[hw7.obj,T.ae,T.am,rfl,.inl #[mW<|M3.at M,HJ _ _,λp8 H8 s8 j e8=>?_]];rw[Gr]at e8;have l:=M3.trans s8;have hw8:=u.mono l;refine#[ad.pd,p8,nm,ad.es,val,U,rfl,hw8.pth,by rw[B];show u.lnd,?_,u.vl,λt M8=>?_,#[us,.inr e8,(I.mono l).steps],by lia,λd' H9 g8 d s9 n9 pB eB _ fB=>?_,λN H9 y s9 n9 _ j=>qe 4 (some y) (some N) H9 (by lk) rfl (l.trans s9) #[N,rfl,j]]
   ·have:=oE List.length B;rw[mK,mK]at this;have:=u.len;lia
   ·rw[B]at M8;obtain⟨j,U7,rfl⟩:=mX.mp M8;show zw<|u.ok j U7
   rw[B]at eB d;have A4:g8.map fst=ln.map fst:=by rw[eB];show mU hm
   have J:=Yc3 (ns:=ad.ns) hm u.kx.pok (by rw[F9];intro q' D9;obtain⟨_,o⟩:=I;show o q' D9) d;rw[B]at pB;have g:=l.trans s9;have n09:H d'=none:=l.free n9;have J7:∀t,(Wu (ln.map fst) val nm U t).length<=100:=λt=>by
    have:=xD (J t).2 λn hn=>by
     obtain⟨q',D9,rfl⟩:=mX.mp hn;show((J t).1 q' D9).1
    rw[mK]at this;have:=u.kx.nok.1;lia
   have k1:=u.path g n09 pB A4 (λe' j=>l.free<|fB e' j) J7 J (by
    rw[A4];refine VU (by rw[<-B];show u.kx.pdj) hm λq hq=>?_
    obtain⟨j,hj⟩:=zi.mp hq;show(d j q.1 (by first|show(oo.mp hj).1|(rw[mK];show(oo.mp hj).1))<|by rw[nJ,hj];rfl).2)
   have rtx:∀{o:HO},pZ (ps.map snd) (mJ H9 x o) a sig U:=λ{o}=>by
    have n:∀{c:lS}{xs:lQ V},H9 c=some (.tup xs)->mJ H9 x o c=some (.tup xs):=λ{c xs} z=>(Zd λy=>by rw[y,g.at u.obj]at z;cases z).trans z
    obtain⟨U7,ok'⟩:=I.mono g;show#[us,n<|g.at M,nK U7 λ_ _ r=>n r,ok']
   refine SF.mk (g.at u.obj) T.ae T.am (by change 5<1000;decide) ?_;have hlw:=u.lwl;refine mP (Wr (pv 0) (Zy (UK T) hr<|Zb (Z6 (pv 0) rfl)<|Zb (pv 2) Za) rfl) #[Zc,T.ae,T.bR,rfl,ad.ld,a,lw,_,sig,U,rfl,k1.lies,u.kx.lok.1,by lia,rtx,by lia,λj HC sC nC eC=>SF.mk (sC.at Zc) T.ae T.bR (by change 5<1000;decide) ?_];have k2:=k1.lay sC nC eC #[TY u.kx.lok.1,NI u.kx.lok.2 λq' D9=>by
    obtain⟨_,o⟩:=I;have:=o q' D9;show#[by rw[F9];show this.1,this.2.2.2]]
   refine q _ _ _ _ _ ?_ (λb o nb z=>?_) ?_ ?_ (λt M8=>?_) k2
   ·show λb z=>z.imp id λy=>by rw[y];show n09
   ·have j:b≠x:=λy=>nb<|y ▸ u.fx
    rw[Zd j];show sC.at (by rw[Zd j];show g.at z)
   ·rfl
   ·rfl
   ·unfold Wu;split
    ·show λz=>w9 (OL.mp z).1
    ·show M8
  ·rw[z]at C;obtain⟨t,rfl,wt⟩:=C;show .held t p rfl wt λN H8 s8 e8=>qe 4 (some p) (some N) H8 (by lk) rfl (M3.trans s8) #[N,rfl,e8]
  ·rw[z]at C;obtain⟨t,rfl,wt⟩:=C;show .stiff t p rfl wt λN H8 s8 e8=>qe 5 (some p) (some N) H8 (by lk) rfl (M3.trans s8) #[N,rfl,e8]
def EB(e:mC H H')(h:Rp H d v):Rp H' d v:=Rp.rec (motive_1:=λd v _=>Rp H' d v) (motive_2:=λx u _=>rC H' x u) (λx=>.str x) (λb=>.bl b) (λi=>.int i) (λz _ y=>.lst (e.at z) y) (λz _ y=>.tup (e.at z) y) (λz _ y=>.dk (e.at z) y) .nil (λ_ _ a b=>.cons a b) h
def Wa(n k:Nat)(d:PyData):Prop:=d.showable=true/\d.leavesShort 8=true/\d.depth<=k/\d.weight<=n
def Wa.shown(h:Wa n k d)(z:n<=100000):d.shown.length<=sizeLine:=by
 have:=PyData.shown_le 8 (by lk) d h.2.1;have:=h.2.2.2;have e:sizeLine=16777216:=rfl;lia
def Wa.str(z:x.cps.toList.all qd=true)(y:x.length<=6):Wa 6 0 (.str x):=by
 refine#[by simp[PyData.showable],?_,by simp[PyData.depth],by simp only[PyData.weight];show y];simp only[PyData.leavesShort,wj,wo];show λc u=>tW (Ju<|wj.mp z c u) (by lk)
theorem Wa.all:∀{ds:lQ PyData},(∀d∈ds,Wa n k d)->PyData.showableAll ds=true/\PyData.leavesShortAll 8 ds=true/\PyData.depthAll ds<=k/\PyData.weightAll ds<=(n+1) * ds.length
 | [],_=>#[by simp[PyData.showableAll],by simp[PyData.leavesShortAll],by simp[PyData.depthAll],by simp[PyData.weightAll]]
 | d ::ds,h=>by
  obtain⟨z,y,r,q⟩:=h d ph;obtain⟨x,u,r,q⟩:=Wa.all λc s=>h c<|pG _ s
  refine#[by simp[PyData.showableAll,z,x],by simp[PyData.leavesShortAll,y,u],by simp only[PyData.depthAll];lia,?_];simp only[PyData.weightAll,pE,Nat.mul_add];lia
def Wa.list(h:∀d∈ds,Wa n k d)(z:ds.length<=m):Wa ((n+1) * m) (k+1) (.list ds):=by
 obtain⟨y,x,s,u⟩:=Wa.all h;show#[by simp only[PyData.showable];show y,by simp only[PyData.leavesShort];show x,by simp only[PyData.depth];lia,by simp only[PyData.weight];show ow u<|Nat.mul_le_mul_left _ z]
def Wa.up(h:Wa n k d)(z:n<=m)(y:k<=j):Wa m j d:=#[h.1,h.2.1,ow h.2.2.1 y,ow h.2.2.2 z]
def d4(q:Zr):PyData:=.tuple [.str q.1,.str q.2.1,.str q.2.2.1,.str q.2.2.2]
def Zy7{x:lR}(z:Xn x):Wa 6 0 (.str x):=.str z.2.2.2 z.2.1
def Zvm{ss:lQ lR}{m:Nat}(h:∀x∈ss,Xn x)(z:ss.length<=m):Wa (7 * m) 1 (.list<|ss.map PyData.str):=Wa.list (n:=6) (k:=0) (λd hd=>by
 obtain⟨x,y,rfl⟩:=mX.mp hd;show Zy7<|h x y) (by rw[mK];show z)
def IU{ss:lQ lR}(h:H l=some (.lst<|ss.map V.str)):Rp H (.list<|ss.map PyData.str) (.ref l):=by
 refine .lst h ?_;clear h
 induction ss with
 | nil=>show .nil
 | cons x ss z=>show .cons (.str x) z
open Classical in
def uv(Z:lS->Prop)(H:Hp):Hp:=λb=>if Z b then none else H b
def Ho{Z:lS->Prop}(e:H b=some o)(n:¬Z b):uv Z H b=some o:=(mT n).trans e
def Ip{Z:lS->Prop}(e:uv Z H b=some o):H b=some o/\¬Z b:=by
 unfold uv at e
 by_cases z:Z b
 ·rw[mU z]at e;cases e
 ·rw[mT z]at e;show#[e,z]
def KD{Z x:lS->Prop}(k:∀b o,H b=some o->¬Z b->H' b=some o)(z:∀b,x b->Z b\/H b=none):mC (uv Z H) (uv x H'):=λb o e=>by
 obtain⟨u,s⟩:=Ip e;refine Ho (k b o u s) λy=>?_
 rcases z b y with w|w
 ·show s w
 ·rw[u]at w;cases w
def Af(H:Hp)(Z:lS->Prop)(y:lS)(n:Nat):Prop:=∃z:lQ lS,H y=some (.lst<|z.map V.ref)/\z.length<=n/\∀u∈z,∃(l:lS)(d:PyData),uv Z H u=some (.tup [.ref l,.str d.shown])/\Rp (uv Z H) d (.ref l)/\Wa 24000 3 d
def Af.on{Z x:lS->Prop}(h:Af H Z y n)(k:∀b o,H b=some o->¬Z b->H' b=some o)(z:∀b,x b->Z b\/H b=none)(e:H' y=H y):Af H' x y n:=by
 obtain⟨r,q,p,j⟩:=h;have s:=KD k z;refine#[r,e.trans q,p,λu i=>?_];obtain⟨l,d,g,c,a⟩:=j u i;show#[l,d,s.at g,EB s c,a]
def HQ(sn:lR)(qs:lQ S4):Tr:=.tup<|.str sn ::qs.map xh
def pZ.im(h:pZ ns H t sn qs):Im K H 2 (HQ sn qs) (.ref t):=by
 obtain⟨x,z,y⟩:=h;show vj (n:=1) (mW z)<|.cons (.str _) y.im
def Ygx(h:Paired (λt ss=>pZ ns H t sn ss) ts z):Paired (Im K H 2) (z.map<|HQ sn) (ts.map V.ref):=by
 induction h with
 | nil=>show .nil
 | cons r _ y=>show .cons r.im y
inductive JS(T:Tx K mg):Sp
 | mk (H0) (F:lS->Prop) (x tr dt ad) (lw:lQ (lR×lR)) (val:lR->lQ Zr) (ln:lQ (lR×Nat)) (ps js) (sg:lQ (lR×lR×lR)) (nm) (cell:Int):vs=[.ref x,.ref tr,.str nm,.int cell,.ref dt]->nM T H0 H F x tr ad lw val ln->ad.ns=ps.map snd->Ye T H0 tr ps js sg->X2 ps js sg->rj T H0->nm∈ln.map fst->val nm≠[]->H dt=some (.dK<|Zx V.bl [])->
  (∀v (H':Hp) (F':lS->Prop) (D8:pQ) (lw':lQ (lR×lR)) (val':lR->lQ Zr),(∀b,F' b->F b\/H b=none)->yc F H H'->D8.ns=ad.ns->D8.sd=ad.sd->(∀t,val t≠[]->val' t≠[])->nM T H0 H' F' x tr D8 lw' val' ln->Q v H')->JS T vs H Q E
def Ztt:T.dZ.O P w mg mD 11 (JS T):=by
 refine T.dZ.F.okL T.fk yE λcdc A mB s H vs Q E hL I h=>?_
 ·obtain⟨H0,F,x,tr,dt,ad,lw,val,ln,ps,js,sg,nm,cell,rfl,Y,F9,ht,yv,tb,hm,w9,U0,q⟩:=h;intro X D;obtain⟨o,_,_,_,_,_,_,_,_,ht1,_⟩:=(ht.mono Y.same).ex;refine mM (mY 5 yE<|ny (Yb (pv 0) T.ae T.aV (Xi T) I.m T.aD.b .nil Z0<|Zb (pv 2) Za)<|zZ An Zf) #[Y.obj,rfl,H0,F,x,tr,ad,lw,val,ln,nm,rfl,Y,hm,λl H1 s1 o ⟨ts,hl,m9⟩=>?_];obtain⟨ws,tq,rfl⟩:∃ws tq,ts=ws++[tq]:=by
   have:ts≠[]:=λy=>by
    rw[y]at m9;show w9<|uD.mp (nH m9).symm
   show#[ts.dropLast,ts.getLast this,(Cd _).symm]
  obtain⟨N,_,rq⟩:=pj m9 (i:=ws.length) (a:=tq) (by simp);have rq:sy H1 tq N:=rq;have la:oH ((ws++[tq]).map V.ref) (-1)=some (.ref tq):=by
   rw[nj];show Cp _ _
  refine .inl #[mO hl,la,?_];refine mM (mY 6 yE<|Yb (pv 1) T.ak T.aW (Xo T) I.m T.aw.b .nil Z0<|Zb (Zi<|Zb (ny (pv 5) Zf)<|Zb (ny (pv 5) Zf) Za) Za) #[s1.at ht1,rfl,.inr<|.inl #[mW rq,Zq (j:=0) rfl,.inr<|.inl #[mW rq,Zq (j:=2) rfl,mQ,λo g s2 c l=>#[tr,o,(N.1,N.2.2.1),ps,js,sg,rfl,ht.mono (Y.mono<|s1.trans s2).same,yv,l,λM hn=>?_]]]];refine mM (mY 7 yE<|Zm Za) #[mQ,λl3 o s3 l e3=>?_];have O5:=s1.trans<|s2.trans s3;have T0:=Y.mono O5;let I24:IC:=λz H'=>∃(l4:lS)(C:lQ (lQ S4)),z=[some (.ref x),some<|.ref tr,some<|.str nm,some<|.int cell,some<|.ref dt,some<|.ref tq,some<|.str M,some<|.ref l4,none]/\mC H H'/\qD (ps.map snd) H' l4 M C/\(∀r∈C,xB r)/\(C≠[]->∃e:Zh,((M,e):lR×lR×lR)∈sg)
  refine pL I24 (pN (Zv (rH I (pv 6) Zg) Zn Zk)<|.inl #[rfl,Yh (λy=>?_) λ_=>#[l3,[],rfl,O5,#[[],e3,.nil],(λ_ y=>nomatch y),λy=>absurd rfl y]]) ?_
  ·have y:M≠ "":=λu=>by
    rw[u]at y;show absurd y (by left)
   rcases hn with⟨o,_,_⟩|⟨o,_⟩
   ·obtain⟨g,hg,l⟩:=mX.mp o;have hg:((M,(N.1,N.2.2.1)):lR×lR×lR)∈sg:=(show g=(M,N.1,N.2.2.1)from l) ▸ hg;show mP (mY 7 yE<|Zy (RE T) I<|Zb (pv 1)<|Zb (pv 6) Za) #[tr,(M,(N.1,N.2.2.1)),ps,js,sg,rfl,ht.mono T0.same,yv,hg,λl4 C H4 s4 c r4 G ok=>#[l4,C,rfl,O5.trans s4,r4,ok,λ_=>#[_,hg]]]
   ·show absurd o y
  rintro z H4 ⟨l4,C,rfl,s4,⟨us,e4,r4⟩,okr,hsg⟩;have P9:=nH r4;refine mM (Zv (oZ I (pv 7)<|Zm Za) Zn Zk) #[mQ,λc G B n5 l=>.inr<|.inl #[3,.lst<|C.map<|HQ M,.lst [],by lk,.inr #[_,_,rfl,rfl],tS (mO<|B.at e4)<|Ygx<|nK r4 λ_ _ r=>r.mono B,tS (mO l) .nil,Yh (λy=>mP (Zl<|Zi<|Zb Zg<|Zb Zg Za) #[mQ,λt6 g o _ _=>q _ g F ad lw val (λb y=>.inl y) (Kh<|s4.trans<|B.trans o) rfl rfl (λ_ y=>y)<|Y.mono<|s4.trans<|B.trans o]) λy=>?_]];have O6:C≠[]:=λu=>y (by rw[u];show nS rfl)
  obtain⟨e,hg⟩:=hsg O6;have s05:=s4.trans B;have hw5:=Y.mono s05;have M5:0<us.length:=by rw[P9];show Fx λu=>O6<|uD.mp u
  obtain⟨j,hj,A1⟩:=uW (a:=cell) (n:=us.length) M5;obtain⟨p,hu⟩:∃p,us[j]? =some p:=#[_,oy A1]
  obtain⟨qs,hqs,ru⟩:=pj r4 hu;refine mM (mY 8 yE<|ny (pv 7)<|Zp Yl (pv 3)<|pp T.aX<|pv 7)<|.inl #[.inl<|mO<|B.at e4,(by rw[mK];change(0:Int)<_;lia),.inl #[mO<|B.at e4,(show oH _ (cell%(((us.map V.ref).length:Nat):Int))=some (.ref p)from by rw[mK,hj];show Zq<|by rw[nJ,hu];rfl),?_]];have tb5:=tb.mono hw5.same;refine mP (Zl<|Zi<|Zb (pv 8)<|Zb (Mq (JA T) I.m (λ_=>rfl) rfl T.aU.m T.aU.F.kp T.aU.b<|Zb (PP (Pt:=T.cw) rfl hL) Za) Za) #[_,tb5._law_led,ph,λl g s7 n7 o=>JN T o (fs:=["_law_keeper","_law_name","_law_way","_law_seen"]) (fvs:=[.ref x,.str nm,.ref p,.ref dt]) (.cons #[0,_,rfl,rfl,rfl,rfl,rfl,rfl]<|.cons #[2,_,rfl,rfl,rfl,rfl,rfl,rfl]<|.cons #[8,_,rfl,rfl,rfl,rfl,rfl,rfl]<|.cons #[4,_,rfl,rfl,rfl,rfl,rfl,rfl] .nil) ?_ ?_ ?_ (λ_ _ _=>rfl) (by left) (by left) rfl rfl rfl λG c A mB s E sG qe I=>sU (Yb (pv 0) T.ae T.eN (Zie T) I.m T.bh.b .nil Qr<|Zb (pv 1)<|Zb (pv 2)<|Zb (pv 3) Za) ?_]
  ·simp
  ·simp;decide +kernel
  ·simp;lia
  have M3:=s05.trans s7;have L:=M3.trans sG;have hwG:=Y.mono L;refine#[hwG.obj,rfl,H0,F,x,tr,p,dt,ad,lw,val,ln,ps,js,sg,nm,(M,e),qs,rfl,hwG,F9,ht,yv,tb,hm,w9,hg,ru.mono<|B.trans<|s7.trans sG,okr _<|pe hqs,L.at U0,λc F8 ad8 lw8 val8 f8 off8 ns8 sd8 ne8 k8 H9 bk=>#[mQ,λd U J _ _=>?_],λr G dx c o l s8 g=>qe r G dx c o l s8 g λH9 s9=>?_]
  ·have k9:=(k8.back bk<|Y.same.trans M3).mono J;refine q _ U _ ad8 lw8 val8 (λb y=>?_) (λb o l y=>?_) ns8 sd8 ne8 k9
   ·rcases f8 b y.1 with u|u
    ·show .inl u
    ·show .inr<|L.free u
   ·show J.at<|bk.old _ _ _ (M3.at y)<|off8 _ _ l<|L.at y
  ·have fin:∀d U,mC H9 U->Q (.ref d) U:=λd U J=>q _ U F ad lw val (λb y=>.inl y) (Kh<|M3.trans<|s9.trans J) rfl rfl (λ_ y=>y)<|Y.mono<|M3.trans<|s9.trans J
   show#[λ_=>#[mQ,λd U J _ _=>fin d U J],λo _ t _=>#[mQ,λd U J _ _=>fin d U J]]
def qm.offL(h:qm H C x nm)(y:H c=some (.lst xs)):qm (mJ H c o) C x nm:=by
 obtain⟨u,h⟩:=h;show#[u,(Zd λz=>by rw[z,y]at h;cases h).trans h]
def Jr(H:Hp)(t:lS)(ps:lQ Zh)(u:lQ (Zh×Zh))(s:lQ (lR×lR×lR)):Prop:=∃z y x,H t=some (.tup [.ref z,.ref y,.ref x])/\Zz H z ps/\Yp H y u/\uR H x s
inductive KA:Sp
 | mk (t ps js sg):vs=[.ref t]->Jr H t ps js sg->X2 ps js sg->(∀x H',mC H H'->H x=none->Ye T H' x ps js sg->Q (.ref x) H')->KA vs H Q E
def Zmx:T.dP.O P w mg mD 7 (KA T):=by
 refine T.dP.F.okA ?_;rfl'
 ·obtain⟨t,U,js,sg,rfl,⟨z,jl,sl,N,⟨ts,M,L⟩,A1,D4⟩,a,q⟩:=h;intro X D;have E3:=nH L;have J:=a.len;refine mP (Zl<|wy (QC T) T.iC (Zgh T) hr.m rfl T.iO T.bH.b .nil Z0 (Sb T)<|Zb (pF ["_law_kind","_law_name"] (oR 2 [] rfl) (Ya<|ny (pv 0) Zf) (wW (K:=K) (n:=2) rfl rfl<|Zu (oA 0)<|Zu (oA 1) Xd) Wb (Zy (VO T) hr<|Zb (pv 0)<|Zb (pv 1) Za))<|Zb (ny (pv 0) Zf)<|Zb (ny (pv 0) Zf) Za)<|.inr<|.inl #[mW N,Zq (j:=0) rfl,mO M,λD I=>Y9 (K:=K) (xs:=ts.map V.ref) (λi c Y=>(∃g:lQ lS,c=g.map V.ref/\Paired (PO T Y) g (U.take i))/\Y D=some (.lst c)/\mC H Y) #[#[[],rfl,.nil],Zc,pb I] ?_ ?_ ?_]
  ·rintro i c Y _ ⟨_,_,z⟩;show mO<|z.at M
  ·rintro i v c H1 G ⟨⟨g,rfl,y⟩,r,l⟩;rw[nJ]at G;obtain⟨u,hu,rfl⟩:=nR.mp G;obtain⟨p,B,e⟩:=pj L hu;have e:H u=some (.tup [.str p.1,.str p.2]):=e;have hm:p∈U:=pe B;have hxl:g.length<=100:=by
    have:=nH y;rw[oh]at this;lia
   refine#[mW<|l.at e,rfl,rfl,(oW rfl).trans (oW rfl),p.1,p.2,rfl,a.net.kind p hm,(a.name p hm).2.1,λx C H2 d n2 hC hO=>#[d.at r,by rw[mK];show Zo (by lia),#[g++[x],by rw[nj];rfl,?_],Zc,λb o z=>?_]]
   ·rw[og,B];show pM (nK y λ_ _ ⟨C,o,z2⟩=>#[C,o,(z2.mono d).offL (d.at r)])<|.cons #[C,hC,hO.offL<|d.at r] .nil
   ·rw[Zd (Ze z I)];show d.at<|l.at z
  ·rintro c H1 ⟨⟨g,rfl,y⟩,r,l⟩;rw[mK,E3,oJ]at y;show(.inr<|.inl #[mW<|l.at N,Zq (j:=1) rfl,.inr<|.inl #[mW<|l.at N,Zq (j:=2) rfl,D,jl,sl,g,U,js,sg,rfl,r,y,A1.mono l,D4.mono l,a,λx H2 d n2 z=>q x H2 (l.trans d) (l.free n2) z]])
def rJ(f:lR->Bool)(ps:lQ Zh):lQ lR:=(ps.filter λp=>f p.1).map snd
def OO(f:lR->Bool)(ps:lQ Zh):(rJ f ps).length<=ps.length:=by
 unfold rJ;rw[mK];show vL _ _
def Up{f:lR->Bool} :n∈rJ f ps↔∃k,((k,n):Zh)∈ps/\f k=true:=by
 unfold rJ
 constructor
 ·intro h;obtain⟨p,x,rfl⟩:=mX.mp h;obtain⟨z,y⟩:=vC.mp x;show#[p.1,z,y]
 ·rintro⟨k,z,y⟩;show mX.mpr #[_,vC.mpr #[z,y],rfl]
def Kf{f:lR->Bool}(Y:s pl=some (.lst<|ts.map V.ref))(e:Paired (Zt s) ts ps)(E:ps.length<=100)(d:s D=none)(q:∀H',mC s H'->H' D=some (.lst<|(rJ f ps).map V.str)->Q (.ref D) H'){fr:St->St}(U:fr z=[none,none])(l:∀z H Q u,z[0]? =some (some<|V.str u)->Q (f u) H->N z H Q)(M:L=rB 1) :
  qV (ub K pl) fr (Ez K 2<|EY (qI 0)<|EY (qI 1) PD) N L Q z s D:=by
 refine Y9 (xs:=ts.map V.ref) (λi r H'=>r=(rJ f<|ps.take i).map V.str/\H' D=some (.lst r)/\mC s H') #[rfl,Zc,pb d] ?_ ?_ ?_
 ·rintro i r H' _ ⟨_,_,p⟩;show mO<|p.at Y
 ·rintro j v r H' c ⟨rfl,a,p⟩;rw[nJ]at c;obtain⟨t,h,rfl⟩:=nR.mp c;obtain⟨⟨u,g⟩,J,I⟩:=pj e h;have G:=OO f<|ps.take j;rw[oh]at G;have n:rJ f (ps.take<|j+1)=rJ f (ps.take j)++if f u=true then[g]else[]:=by
   unfold rJ;rw[og,J,tP,nj,show(some ((u,g):Zh)).toList=[(u,g)]from rfl,se];split<;>rfl
  unfold W4;rw[U,M];refine#[mW<|p.at I,rfl,rfl,(oW rfl).trans (oW rfl),l _ _ _ u rfl<|Yh (λy=>?_) λy=>?_]
  ·rw[n,mU y];refine#[a,by rw[mK];show Zo (by lia),by rw[nj];rfl,Zc,λb o x=>?_];rw[Zd (Ze x d)];show p.at x
  ·rw[n,mT y,pH];show#[rfl,a,p]
 ·rintro r y ⟨rfl,x,o⟩;refine q y o ?_;rw[x,mK,nH e,oJ]
def Wt{H:Hp}{l:lS}{ss:lQ lR}(h:H l=some (.lst<|ss.map V.str)):Im K H 1 (.lst<|ss.map Tr.str) (.ref l):=tS (n:=0) (mO h)<|Paired.strs _
def ze(k:lR):Bool:=decide<|V.str k=V.str "points"
def Zvf:n∈rJ ze ps↔(("points",n):Zh)∈ps:=by
 rw[Up]
 constructor
 ·rintro⟨k,z,y⟩;rw[V.str.inj (pq y)]at z;show z
 ·show λh=>#[_,h,by left]
structure Kp(Hs:Hp)(Fs:Addr->Prop)(sd:Addr)(H:Hp)(F:Addr->Prop):Prop where
 at':∀b o,Hs b=some o->¬Fs b->b≠sd->H b=some o
 fr:∀b,F b->Fs b\/Hs b=none
def Kp.on{x F r:lS->Prop}(h:Kp q x s H F)(p:H s=some u)(off:yc F H H')(l:∀b,r b->F b\/H b=none):Kp q x s H' r where
 at':=λb o e n j=>off b o (λf=>(h.fr b f).elim n (λz=>by rw[e]at z;cases z)) (h.at' b o e n j)
 fr:=λb f=>(l b f).elim (h.fr b) λz=>by
  cases y:q b with
  | none=>show .inr rfl
  | some o =>
   by_cases k:x b
   ·show .inl k
   ·by_cases m:b=s
    ·rw[m,p]at z;cases z
    ·rw[h.at' b o y k m]at z;cases z
def Kp.mono{z F:lS->Prop}(h:Kp y z x H F)(s:mC H H'):Kp y z x H' F:=#[λb o e n u=>s.at<|h.at' b o e n u,h.fr]
structure vW(T:Tx K mg)(H0 Hs:Hp)(Fs:Addr->Prop)(sd x tr:Addr)(ps:List Zh)(i:Nat)(H:Hp)(F:Addr->Prop)(ad:pQ)(lw:List (Str×Str))(val:Str->List Zr)(ln:List (Str×Nat)):Prop where
 k:nM T H0 H F x tr ad lw val ln
 kp:Kp Hs Fs sd H F
 sd':ad.sd=sd
 ns:ad.ns=ps.map snd
 ne:∀t∈ln.map fst,val t≠[]
 l4:∀p∈ln,1<=p.2/\p.2<=4
 nm:∀t∈ln.map fst,t∈([("ta":Str),"b","t2"]:List Str).take i
 ll:ln.length<=i
def vW.mono{z F:lS->Prop}{val:lR->lQ Zr}(h:vW U y u z r x q ps i H F ad p val o)(s:mC H H'):vW U y u z r x q ps i H' F ad p val o:=#[h.k.mono s,h.kp.mono s,h.sd',h.ns,h.ne,h.l4,h.nm,h.ll]
def vW.next{z F:lS->Prop}{val:lR->lQ Zr}(h:vW U y u z s x r ps i H F ad q val p):vW U y u z s x r ps (i+1) H F ad q val p:=#[h.k,h.kp,h.sd',h.ns,h.ne,h.l4,λt o=>by
 have:=h.nm t o;show(List.take_subset_take_left _<|rV i) this,Nat.le_succ_of_le h.ll]
inductive Qt:Sp
 | mk (t cl) (ps:lQ Zh) (js) (sg:lQ (lR×lR×lR)) (cs:lQ Int):vs=[.ref t,.ref cl]->Jr H t ps js sg->X2 ps js sg->rj T H->H cl=some (.lst<|cs.map V.int)->cs.length<=3->(∀(tp x tr:lS)(H0 H':Hp)(F:lS->Prop)(ad:pQ)(lw:lQ (lR×lR)) (val:lR->lQ Zr) (ln:lQ (lR×Nat)),mC H H0->H' tp=some (.tup [.ref x,.ref tr])->Ye T H0 tr ps js sg->nM T H0 H' F x tr ad lw val ln->ad.ns=ps.map snd->(∀t∈ln.map fst,val t≠[])->(∀p∈ln,1<=p.2/\p.2<=4)->ln.length<=3->Q (.ref tp) H')->Qt vs H Q E
inductive Bh(T:Tx K mg)(H0 Hs:Hp)(Fs:Addr->Prop)(sd x tr:Addr)(ps:List Zh)(i:Nat)(ln:List (Str×Nat))(H:Hp):Prop
 | mk (F ad lw val):vW T H0 Hs Fs sd x tr ps i H F ad lw val ln->Bh T H0 Hs Fs sd x tr ps i ln H
inductive BC(T:Tx K mg)(H0 Hs:Hp)(Fs:Addr->Prop)(sd x tr:Addr)(ps:List Zh)(t cl lg lp:Addr)(i:Nat):St->Hp->Prop
 | mk (a4 a5 a7 a8 a9 a10 a11 a13 ln):Bh T H0 Hs Fs sd x tr ps i ln H->BC T H0 Hs Fs sd x tr ps t cl lg lp i [some (.ref t),some<|.ref cl,some<|.ref tr,some<|.ref lg,a4,a5,some<|.ref lp,a7,a8,a9,a10,a11,some<|.ref x,a13] H
def Zzz(i:Nat)(h:i<3):∃nm:lR,([V.str "ta",.str "b",.str "t2"])[i]? =some (.str nm)/\Xn nm/\nm∉([("ta":lR),"b","t2"]:lQ lR).take i/\nm∈([("ta":lR),"b","t2"]:lQ lR).take (i+1):=by
 rcases i with _|_|_|i
 iterate 3 show#[_,rfl,by unfold Xn;decide +kernel,by left,by left]
 lia
def Sf:T.cY.O P w mg mD 12 (Qt T):=by
 refine T.cY.F.okL T.dY Yk λcdc A mB s H vs Q E hL I h=>?_
 ·obtain⟨t,cl,Y,js,sg,cs,rfl,ya,yv,tb,y7,N0,q⟩:=h;intro X D;refine mM (mY 2 Yk<|Zy (Zmx T) I<|Zb (pv 0) Za) #[t,Y,js,sg,rfl,ya,yv,λN L s1 n1 M=>?_];refine mM (mY 12 Yk<|wy (Jg T) T.iE (RY T) I.m rfl T.iQ T.bJ.b .nil Z0 (YE T)<|Zb (pv 2) Za) #[N,Y,js,sg,rfl,M,yv,λx H2 F ad lw nx F9 hlw k2=>?_];refine mM (mY 3 Yk<|Zm Za) #[mQ,λC H3 s3 n3 e3=>?_];obtain⟨pl,jl,sl,y1,⟨ts,y2,y3⟩,_⟩:=ya;have E3:=nH y3;have ylen:=yv.len;have v6:=k2.same.trans s3;have O5:=s1.trans v6;have g1:L C=none:=k2.same.free n3;obtain⟨dxt,_,_,_,_,_,_,_,_,ht1,_⟩:=M.ex;let I25:IF:=λi z J=>(∃o4 o5,z=[some (.ref t),some<|.ref cl,some<|.ref N,some<|.ref C,o4,o5,none,none,none,none,none,none,some<|.ref x,none])/\(∀b o,b≠C->H3 b=some o->J b=some o)/\∃B:lQ lR,J C=some (.lst<|B.map V.str)/\B.length<=i/\∀g∈B,(("gate",g):Zh)∈Y/\((g,"a"):Zh)∈sg.map snd
  refine mM (Yw oO rfl (Ya<|ny (pv 0) Zf) (rE rfl<|Zu (nZ 4 Yk)<|Zu (nZ 5 Yk) Xd) Zn)<|.inr<|.inl #[mW<|O5.at y1,Zq (j:=0) rfl,mO<|O5.at y2,Xm (K:=K) (xs:=ts.map V.ref) I25 #[#[none,none,rfl],λ_ _ _ y=>y,[],e3,nk _,λ_ y=>nomatch y] ?_ ?_ ?_]
  ·rintro i z J _ ⟨_,d,_⟩;show mO<|d _ _ (λy=>by rw[y]at y2;rw[s1.at y2]at g1;cases g1)<|O5.at y2
  ·rintro i v z H4 hi ⟨⟨o4,o5,rfl⟩,d,B,eg,hgl,hgs⟩;rw[nJ]at hi;obtain⟨u,hu,rfl⟩:=nR.mp hi;obtain⟨p,hp,hpu⟩:=pj y3 hu;have C3:i<ts.length:=(oo.mp hu).1;have hpm:p∈Y:=pe hp;have sm:mC L H4:=λb o e=>d b o (λy=>by rw[y,g1]at e;cases e)<|v6.at e
   have hpu:H4 u=some (.tup [.str p.1,.str p.2]):=sm.at<|s1.at hpu;refine#[mW hpu,rfl,rfl,?_];refine mP (Zv (qj<|wY (oZ I (pv 4) Zg)<|yU<|rH I (Yb (pv 2) T.ak T.aW (Xo T) I.m T.aw.b .nil Z0<|Zb (Zi<|Zb (pv 5)<|Zb Zg Za) Za) Zg) Zn Zk)<|.inl #[rfl,Yh (λy=>#[sm.at ht1,rfl,mQ,λt5 H5 s5 n5 e5=>#[N,t5,(p.2,"a"),Y,js,sg,rfl,M.mono<|sm.trans s5,yv,e5,λsn hn=>.inl #[rfl,Yh (λr=>?_) λ_=>#[#[_,_,rfl],λb o nb e=>s5.at<|d b o nb e,B,s5.at eg,by lia,hgs]]]]) λ_=>#[#[_,_,rfl],d,B,eg,by lia,hgs]];have hk:p.1 ="gate":=V.str.inj<|pq y;have hse:((p.2,"a"):Zh)∈sg.map snd:=by
    rcases hn with⟨_,_,m⟩|⟨m,_⟩
    ·show m
    ·rw[m]at r;show absurd r (by left)
   refine mP (Z3<|rO (pv 3)<|pv 5) #[.inl #[rfl,_,mO<|s5.at eg],s5.at eg,?_,#[_,_,rfl],λb o nb e=>?_,B++[p.2],?_,?_,?_]
   ·rw[mK];show Zo (by lia)
   ·rw[Zd nb];show s5.at<|d b o nb e
   ·rw[Zc,nj];rfl
   ·rw[nX,DM];lia
   ·intro g hg;rcases oj.mp hg with m|m
    ·show hgs g m
    ·rw[oP.mp m];show#[by rw[<-hk];show hpm,hse]
  rintro z H4 ⟨⟨o4,o5,rfl⟩,d,B,eg,hgl,hgs⟩;rw[mK]at hgl;have sm:mC L H4:=λb o e=>d b o (λy=>by rw[y,g1]at e;cases e)<|v6.at e
  have N2:=s1.trans sm;have y1':=N2.at y1;have y2':=N2.at y2;let I26:IC:=λz J=>∃lp,z=[some (.ref t),some<|.ref cl,some<|.ref N,some<|.ref C,o4,o5,some<|.ref lp,none,none,none,none,none,some<|.ref x,none]/\mC H4 J/\H4 lp=none/\J lp=some (.lst<|(rJ ze Y).map V.str)
  refine pL I26 (pN (xo 6 ["_law_kind","_law_one"] Yk (oR 2 [] rfl) (Ya<|ny (pv 0) Zf) (wW (K:=K) (n:=2) rfl rfl<|Zu (oA 0)<|Zu (oA 1) Xd) (tO<|Yf (r:=AQ K) (CZ I) (pv 0) Zg<|Yn _) (pv 1))<|.inr<|.inl #[mW y1',Zq (j:=0) rfl,mO y2',λD hD=>Kf (f:=ze) y2' (nK y3 λ_ _ n=>n.mono N2) (by lia) hD (λHD sD eD=>#[D,rfl,sD,hD,eD]) ?aa (λ_ _ _ _ e h=>oV.of e<|.inl #[rfl,h]) ?cc]) ?_
  case aa=>rfl
  case cc=>rfl
  rintro z H5 ⟨lp,rfl,s5,nlp,elp⟩;have hpn:∀l∈rJ ze Y,(("points",l):Zh)∈Y:=λl hn=>Zvf.mp hn
  have u0:=OO ze Y;generalize rJ ze Y=pn at elp hpn u0;have s24:mC H2 H4:=λb o e=>d b o (λy=>by rw[y,n3]at e;cases e)<|s3.at e
  have B6:=s24.trans s5;have k5:=k2.mono B6;have b5:vW T L H5 F ad.sd x N Y 0 H5 F ad lw (λ_=>[]) []:=#[k5,#[λ_ _ e _ _=>e,λ_ y=>.inl y],rfl,F9,(λ_ y=>nomatch y),(λ_ y=>nomatch y),(λ_ y=>nomatch y),nk _]
  have glg:¬F C/\C≠ad.sd:=#[k2.neF n3,λy=>by rw[y,k2.sti]at n3;cases n3]
  have glp:¬F lp/\lp≠ad.sd:=#[(k2.mono s24).neF nlp,λy=>by rw[y,(k2.mono s24).sti]at nlp;cases nlp]
  have gcl:¬F cl/\cl≠ad.sd:=#[(λy=>by have:=k2.free cl y;rw[s1.at y7]at this;cases this),(λy=>by have:=k2.kx.s0;rw[<-y,s1.at y7]at this;cases this)]
  have elg:=s5.at eg;have ecl:=(N2.trans s5).at y7;refine mM (Yw oO rfl (xz rfl T.bS<|Zb (pv 1) Za) (rE rfl<|Zu (nZ 7 Yk)<|Zu (nZ 10 Yk) Xd) Zn) #[mO ecl,yi (K:=K) (xs:=cs.map V.int) (BC T L H5 F ad.sd x N Y t cl C lp) (.mk _ _ _ _ _ _ _ _ _<|.mk _ _ _ _ b5) ?_ ?_ ?_]
  ·rintro i z J _ ⟨_,_,_,_,_,_,_,_,_,⟨_,_,_,_,b⟩⟩;show mO<|b.kp.at' _ _ ecl gcl.1 gcl.2
  ·rintro i v z H6 hi ⟨a4,a5,a7,a8,a9,a10,a11,a13,ln6,⟨F6,ad6,lw6,val6,b6⟩⟩ tp H7 s7 n7 e7;rw[nJ]at hi;obtain⟨c,hc,rfl⟩:=nR.mp hi;have C3:i<3:=pK (oo.mp hc).1 N0;refine#[mW e7,rfl,rfl,?_];obtain⟨nm,w4,hnv,J6,hnin⟩:=Zzz i C3
   refine mM (mY 13 Yk<|ny (Zm<|Zb Zg<|Zb Zg<|Zb Zg Za)<|pv 7) #[mQ,λl8 H8 s8 n8 e8=>.inl #[mO e8,Zq w4,?_]];have b8:=b6.mono<|s7.trans s8;let I27:IC:=λz J=>z=[some (.ref t),some<|.ref cl,some<|.ref N,some<|.ref C,a4,a5,some<|.ref lp,some<|.int (i:Int),a8,a9,some<|.int c,a11,some<|.ref x,some<|.str nm]/\∃ln',Bh T L H5 F ad.sd x N Y i ln' J
   refine pL I27 (pN (Zv (qj<|wY (rH I (pv 6)<|Zm Za)<|yU<|oZ I (Zp Yl (Zp Yq (pv 10) Zf) Zf) Zf) Zn Zk) #[mQ,λl9 H9 s9 n9 e9=>.inr<|.inl #[1,_,.lst [],by lk,.inr #[_,_,rfl,rfl],Wt<|(b8.mono s9).kp.at' _ _ elp glp.1 glp.2,tS (mO e9) .nil,Yh (λw9=>#[#[by lk,by lk],(by change(0:Int)<3;decide),.inl #[rfl,Yh (λy=>?_) λ_=>#[rfl,_,.mk _ _ _ _<|b8.mono s9]]]) λ_=>#[rfl,_,.mk _ _ _ _<|b8.mono s9]]]) ?_
   ·have U:=b8.mono s9;have ep9:=U.kp.at' _ _ elp glp.1 glp.2;have M5:0<pn.length:=Fx λr=>by
     rw[uD.mp r]at w9;simp at w9
    obtain⟨j,hj,A1⟩:=uW (a:=c / 27) (n:=pn.length) M5;obtain⟨pt,O9⟩:∃u,pn[j]? =some u:=#[_,oy A1]
    refine mP (Z3<|Yb (pv 12) T.ae T.eO (TF T) I.m T.bY.b .nil Z0<|Zb (ny (pv 6)<|Zp Yl (Zp Yq (pv 10) Zf)<|pp T.aX<|pv 6) Za) #[U.k.obj,rfl,#[by lk,by lk],.inl #[.inl<|mO ep9,(by rw[mK];change(0:Int)<_;lia),.inl #[mO ep9,(show oH _ ((c / 27)%(((pn.map V.str).length:Nat):Int))=some (.str pt)from by rw[mK,hj];show Zq<|by rw[nJ,O9];rfl),L,F6,x,N,ad6,lw6,val6,ln6,Y,js,sg,pt,rfl,U.k,M,yv,hpn pt<|pe O9,U.ns,λHA adA kA sA nA aA=>#[rfl,ln6,.mk F6 adA lw6 val6 #[aA,#[λb o e l ns=>kA b o (by rw[U.sd'];show ns)<|U.kp.at' b o e l ns,U.kp.fr],sA.trans U.sd',nA.trans U.ns,U.ne,U.l4,U.nm,U.ll]]]]]
   rintro z HB ⟨rfl,lnB,⟨FB,adB,lwB,valB,bB⟩⟩;refine mM (mY 8 Yk Zg) ?_;have tb1:=tb.mono s1;let I28:IC:=λz J=>∃cv b11 ln',z=[some (.ref t),some<|.ref cl,some<|.ref N,some<|.ref C,a4,a5,some<|.ref lp,some<|.int (i:Int),some cv,a9,some<|.int c,b11,some<|.ref x,some<|.str nm]/\Bh T L H5 F ad.sd x N Y (i+1) ln' J/\(cv=.str "none"\/(cv=.str "done"/\nm∈ln'.map fst)\/∃u y p,cv=.ref u/\J u=some (.tup [y,p]))
   refine pL I28 (pN (Zv (rH I (pv 3)<|Zm Za) Zn Zk) #[mQ,λl9 H9 s9 n9 e9=>.inr<|.inl #[1,_,.lst [],by lk,.inr #[_,_,rfl,rfl],Wt<|(bB.mono s9).kp.at' _ _ elg glg.1 glg.2,tS (mO e9) .nil,Yh (λw9=>?_) λ_=>#[_,_,_,rfl,.mk _ _ _ _ (bB.mono s9).next,.inl rfl]]]) ?_
   ·have U:=bB.mono s9;have eg9:=U.kp.at' _ _ elg glg.1 glg.2;have M5:0<B.length:=Fx λr=>by
     rw[uD.mp r]at w9;simp at w9
    obtain⟨j,hj,A1⟩:=uW (a:=c / 81) (n:=B.length) M5;obtain⟨g,hg⟩:∃u,B[j]? =some u:=#[_,oy A1]
    obtain⟨gp,gsg⟩:=hgs g<|pe hg;obtain⟨m,hm,hm4⟩:=uW (a:=c) (n:=4) (by lk);have hm:(1:Int)+c%4=((m+1:Nat):Int):=by
     have:c%4=(m:Int):=hm;lia
    have hnl:nm∉lnB.map fst:=λy=>J6<|U.nm nm y
    refine mM (mY 11 Yk<|ny (pv 3)<|Zp Yl (Zp Yq (pv 10) Zf)<|pp T.aX<|pv 3) #[#[by lk,by lk],.inl #[.inl<|mO eg9,(by rw[mK];change(0:Int)<_;lia),.inl #[mO eg9,(show oH _ ((c / 81)%(((B.map V.str).length:Nat):Int))=some (.str g)from by rw[mK,hj];show Zq<|by rw[nJ,hg];rfl),?_]]];have tb9:=tb1.mono U.k.same;refine mP (mY 8 Yk<|Mq (JA T) I.m (λ_=>rfl) rfl T.aU.m T.aU.F.kp T.aU.b<|Zb (PP (Pt:=T.br) rfl hL) Za) #[_,tb9._law_begun,ph,λfl HL sL nL cl'=>JN T cl' (fs:=["_law_keeper","_law_name","_law_cell","_law_gate"]) (fvs:=[.ref x,.str nm,.int c,.str g]) (.cons #[12,_,rfl,rfl,rfl,rfl,rfl,rfl]<|.cons #[13,_,rfl,rfl,rfl,rfl,rfl,rfl]<|.cons #[10,_,rfl,rfl,rfl,rfl,rfl,rfl]<|.cons #[11,_,rfl,rfl,rfl,rfl,rfl,rfl] .nil) ?_ ?_ ?_ (λ_ _ _=>rfl) (by left) (by left) rfl rfl rfl λG c' A' outer' s' E' sG qe Q7=>?_]
    ·simp
    ·simp;decide +kernel
    ·simp;lia
    have bL:=U.mono sL;have bG:=bL.mono sG
    by_cases hh:Di lnB valB g
    ·refine sU (Yb (pv 0) T.ae T.dR (RZ T) Q7 T.aB.b .nil Qr<|Zb (pv 1)<|Zb (Zp Wm Zf<|Zp Yl (pv 2) Zf)<|Zb (pv 3)<|Zb Xz Za) #[bG.k.obj,rfl,(by change(0:Int)<4;decide),.inl λdt HD sD nD eD=>#[L,FB,x,N,dt,adB,lwB,valB,lnB,[],Y,js,sg,.str nm,.int ((m+1:Nat):Int),.str g,T.aS,some g,by rw[<-hm];rfl,bG.k.mono sD,M,yv,tb1,eD,.inr #[nm,rfl,hnv,hnl,.inr #[g,rfl,gp,.inr #[gsg,.inr #[m+1,rfl,by lia,by lia,rfl,.inl #[rfl,hh]]]]],#[(λy=>nomatch y),λp hp dx HE sE nE eE=>qe 4 (some p) (some dx) HE (by lk) rfl (sD.trans sE) #[dx,rfl,eE] λJ s'=>#[(λy=>nomatch y),λp' _ u hu=>#[_,_,_,rfl,.mk _ _ _ _ (bL.mono s').next,.inr<|.inr #[u,_,_,rfl,hu]]]]]]
    ·refine sU (Yb (pv 0) T.ae T.dR (Zn2 T) Q7 T.aB.b .nil Z0<|Zb (pv 1)<|Zb (Zp Wm Zf<|Zp Yl (pv 2) Zf)<|Zb (pv 3)<|Zb Xz Za) #[bG.k.obj,rfl,(by change(0:Int)<4;decide),.inl λdt HD sD nD eD=>#[L,FB,x,N,dt,adB,lwB,valB,lnB,[],Y,js,sg,nm,g,m+1,by rw[<-hm];rfl,bG.k.mono sD,bG.ns,M,yv,tb1,eD,bG.k.neF nD,#[hnv,hnl,gp,gsg,by lia,by lia,hh,rfl,by have:=U.ll;lia],λHC FC adC sub fr off kC on H3 bk=>#[_,_,_,rfl,.mk _ adC lwB _ #[kC.back bk bL.k.same,bL.kp.on (by rw[<-bL.sd'];show bL.k.sti) (λb o l y=>bk.old _ _ _ y<|off _ _ l<|(sG.trans sD).at y) λb y=>(fr b y.1).imp id λr=>(sG.trans sD).free r,on.2.1.trans bG.sd',on.2.2.2.1.trans bG.ns,λt' M8=>?_,λp hp=>?_,λt' M8=>?_,?_],.inr<|.inl #[rfl,by simp]]]]
     ·unfold Wu;split
      ·show λy=>absurd (OL.mp y).2 (by simp)
      ·rename_i ne;rw[nj,oj]at M8;rcases M8 with y|y
       ·show bG.ne t' y
       ·show absurd (oP.mp y) ne
     ·rcases oj.mp hp with y|y
      ·show bG.l4 p y
      ·rw[oP.mp y];show#[xT<|sH _,by change m+1<=4;lia]
     ·rw[nj,oj]at M8;rcases M8 with y|y
      ·show U.next.nm t' y
      ·rw[oP.mp y];show hnin
     ·rw[nX,DM];have:=U.ll;lia
   rintro z HC ⟨cv,b11,lnC,rfl,⟨FC,adC,lwC,valC,bC⟩,hcv⟩;obtain⟨m3,hm3,hm33⟩:=uW (a:=c / 1000) (n:=3) (by lk);have hm3:c / 1000%3=(m3:Int):=hm3;refine mP (Yw oO rfl (Nn rfl T.dI<|Zb (Zp xS (Zp Yl (Zp Yq (pv 10) Zf) Zf)<|Y0 HM (by rfl) T.fi vZ<|Zb (uT (r:=Jw K) (Yjf I) (pv 8) Zg<|Yn _) Za) Za) (nZ 9 Yk) Zn) #[#[by lk,by lk],(by change(0:Int)<3;decide),?_];rcases hcv with rfl|⟨rfl,J8⟩|⟨u,y,p,rfl,hu⟩
   ·refine .inl<|.inl #[rfl,.inr #[_,rfl,?_]];refine#[?cm,_,rfl,?lo,?hi,?fr]
    case fr =>
     rw[show c / 1000%3 * (if decide (V.str "none"=V.str "done")=true then 1 else 0)=((0:Nat):Int)from by rw[mT (by left)];lia];show yD (lo:=0) (n:=0) (λ_=>BC T L H5 F ad.sd x N Y t cl C lp<|i+1) (.mk _ _ _ _ _ _ _ _ _<|.mk _ _ _ _ bC) (λ_ _ _ y=>absurd y<|vT _) λ_ _ y=>y
    case cm=>show .inl #[by change -(2 ^ 64)<c / 1000%3;lia,by change c / 1000%3<2 ^ 64;lia]
    case lo=>rw[mT (by left)];lia
    case hi=>rw[mT (by left)];lia
   ·refine .inl<|.inl #[rfl,.inr #[_,rfl,?_]];refine#[?cm,_,rfl,?lo,?hi,?fr]
    case fr =>
     rw[show c / 1000%3 * (if decide (V.str "done"=V.str "done")=true then 1 else 0)=((m3:Nat):Int)from by rw[mU (by left)];lia];let I29:IF:=λ_ z J=>(∃c9,z=[some (.ref t),some<|.ref cl,some<|.ref N,some<|.ref C,a4,a5,some<|.ref lp,some<|.int (i:Int),some<|.str "done",c9,some<|.int c,b11,some<|.ref x,some<|.str nm])/\Bh T L H5 F ad.sd x N Y (i+1) lnC J
     refine yD (lo:=0) (n:=m3) I29 #[#[_,rfl],.mk _ _ _ _ bC] ?_ ?_
     ·rintro k z HD hk ⟨⟨c9,rfl⟩,⟨FD,adD,lwD,valD,bD⟩⟩;refine mP (Z3<|Zy (Ztt T) I<|Zb (pv 12)<|Zb (pv 2)<|Zb (pv 13)<|Zb (Xy (W0 T) I rfl T.aj.m T.aj.F.kp T.aj.b .nil Z0<|Zb (pv 10)<|Zb (pv 9) Za)<|Zb Xz Za) #[_,_,rfl,λdt HE sE nE eE=>?_];have bE:=bD.mono sE;refine#[L,FD,x,N,dt,adD,lwD,valD,lnC,Y,js,sg,nm,_,rfl,bE.k,bE.ns,M,yv,tb1,J8,bE.ne nm J8,eE,λv HF FF adF lwF valF frF offF nsF sdF neF kF=>#[#[_,rfl],.mk FF adF lwF valF #[kF,bE.kp.on (by rw[<-bE.sd'];show bE.k.sti) offF frF,sdF.trans bE.sd',nsF.trans bE.ns,λt' M8=>neF t'<|bE.ne t' M8,bE.l4,bE.nm,bE.ll]]]
     ·rintro z HD ⟨⟨c9,rfl⟩,bD⟩;show .mk _ _ _ _ _ _ _ _ _ bD
    case cm=>show .inl #[by change -(2 ^ 64)<c / 1000%3;lia,by change c / 1000%3<2 ^ 64;lia]
    case lo=>rw[mU (by left)];lia
    case hi=>rw[mU (by left)];lia
   ·refine .inr #[u,_,_,rfl,rfl,mW hu,.inr #[_,rfl,?_]];refine#[?cm,_,rfl,?lo,?hi,?fr]
    case fr =>
     rw[show c / 1000%3 * (if false=true then 1 else 0)=((0:Nat):Int)from by rw[mT (by left)];lia];show yD (lo:=0) (n:=0) (λ_=>BC T L H5 F ad.sd x N Y t cl C lp<|i+1) (.mk _ _ _ _ _ _ _ _ _<|.mk _ _ _ _ bC) (λ_ _ _ y=>absurd y<|vT _) λ_ _ y=>y
    case cm=>show .inl #[by change -(2 ^ 64)<c / 1000%3;lia,by change c / 1000%3<2 ^ 64;lia]
    case lo=>rw[mT (by left)];lia
    case hi=>rw[mT (by left)];lia
  ·rintro z HZ ⟨a4,a5,a7,a8,a9,a10,a11,a13,lnZ,⟨FZ,adZ,lwZ,valZ,bZ⟩⟩;rw[mK]at bZ;show mP (Zl<|Zi<|Zb (pv 12)<|Zb (pv 2) Za) #[mQ,λtp HY sY nY eY=>q tp x N L HY FZ adZ lwZ valZ lnZ s1 eY M (bZ.k.mono sY) bZ.ns bZ.ne bZ.l4<|ow bZ.ll N0]
def BY(z:lQ Bool)(len j:Nat):Prop:=j<z.length/\z.getD j true=false/\true∈z.drop (j+len)
def rN(z:lQ Bool)(len m:Nat):Prop:=(∀j,j<m->BY z len j)/\¬BY z len m
def Wo(z:lQ (lR×Bool))(q:S4):Bool:=(z.lookup q.1).getD false
def Wj(z:lQ Bool)(i:Nat):lQ Nat:=(List.range i).filter λj=>z.getD j false
def zq :j∈Wj z i↔j<i/\z.getD j false=true:=by
 unfold Wj;rw[vC,yB]
def LY(z:lQ Bool)(i:Nat):(Wj z i).Pairwise (· < ·):=JH _ List.pairwise_lt_range
def YA(z:lQ Bool)(i:Nat):(Wj z i).length<=i:=by
 have:=vL (λj=>z.getD j false)<|List.range i;rw[AB]at this;show this
def Vz(h:z.getD i false=true):Wj z (i+1)=Wj z i++[i]:=by
 unfold Wj;rw[yb,tP,EG (p:=λj=>z.getD j false) h,vI]
def Ut(h:¬z.getD i false=true):Wj z (i+1)=Wj z i:=by
 unfold Wj;rw[yb,tP,GG (p:=λj=>z.getD j false) h,vI,pH]
def Ac{z:lQ Bool}{k:Nat}:true∈z.drop k↔∃L,k<=L/\L<z.length/\z.getD L false=true:=by
 rw[zi]
 constructor
 ·rintro⟨i,y⟩;rw[Ad]at y;show#[k+i,Nat.le_add_right ..,(oo.mp y).1,by rw[qo,y];rfl]
 ·rintro⟨L,u,y,x⟩;refine#[L-k,?_];rw[Ad,Pc u];rw[qo,oy y]at x;rw[oy y];show oE some x
def Js{z:lQ Bool}{j:Nat}(h:j<z.length):z.getD j true=z.getD j false:=by
 rw[qo,qo,oy h]
 rfl
def UO{z:lQ Bool}{len:Nat}(h:Wj z z.length=[]):rN z len 0:=by
 refine#[λj y=>absurd y<|vT _,λg=>?_];obtain⟨L,_,x,u⟩:=Ac.mp g.2.2;have:=zq.mpr #[x,u];rw[h]at this;cases this
def XM{y:lQ Bool}{len f L m:Nat}{l i:lQ Nat}(r:Wj y y.length=f ::l)(q:Wj y y.length=i++[L])
  (k1:m<=f) (k2:∀j:Nat,j<m->j+len<=L) (k3:m=f\/L<m+len):rN y len m:=by
 have o:f<y.length/\y.getD f false=true:=zq.mp (by rw[r];show ph);have n:L<y.length/\y.getD L false=true:=zq.mp (by rw[q];simp);have d:∀j,j<y.length->y.getD j false=true->f<=j:=λj x s=>by
  have u:=zq.mpr #[x,s];have p:=LY y y.length;rw[r]at u p;rcases nU.mp u with e|h
  ·show vJ e.symm
  ·show pA<|(Pq.mp p).1 j h
 have Y:∀j,j<y.length->y.getD j false=true->j<=L:=λj x s=>by
  have u:=zq.mpr #[x,s];have p:=LY y y.length;rw[q]at u p;rcases oj.mp u with h|h
  ·show pA ((List.pairwise_append.mp p).2.2 j h L (by simp))
  ·show vJ<|oP.mp h
 refine#[λj x=>#[by lia,?_,Ac.mpr #[L,k2 j x,n.1,n.2]],λg=>?_]
 ·rw[Js (by lia)];show Ce.mpr λz=>by have:=d j (by lia) z;lia
 ·rcases k3 with e|e
  ·subst e;have:=g.2.1;rw[Js o.1,o.2]at this;cases this
  ·obtain⟨z,a,b,c⟩:=Ac.mp g.2.2;have:=Y z b c;lia
abbrev vN(j:Nat):V:=.int (j:Int)
inductive Lh:Sp
 | mk (p d) (len:Nat) (ss:lQ S4) (td:lQ (lR×Bool)):vs=[.ref p,.int (len:Int),.ref d]->Yi H p ss->ss.length<=100->H d=some (.dK<|Zx V.bl td)->(∀(m:Nat) H',mC H H'->rN (ss.map<|Wo td) len m->Q (.int (m:Int)) H')->Lh vs H Q E
def VC:T.ej.O P w mg mD 2 Lh:=by
 refine T.ej.F.okW LA ?_;rfl'
 ·obtain⟨p,d,len,r,u,rfl,hp,hx,hd,q⟩:=h;intro X D;refine mM (xo 3 ["place","part","seen"] LA (oR 2 [2] rfl) (xz rfl T.bS<|Zb (Zy (DY T) hr<|Zb (pv 0) Za) Za) (wW (K:=K) (n:=2) rfl rfl<|Zu (oA 0)<|Zu (oA 1) Xd) (tO<|Ym<|yn (Ys hr) (pv 2) (pv 1) qR #[rfl,rfl,rfl,rfl]) (pv 0)) #[p,_,rfl,hp.seq,hx,λy z N x M=>#[mO M,λD J=>UU (xs:=(r.map fst).map V.str) (λi l a=>l=(Wj (r.map<|Wo u) i).map vN/\a D=some (.lst l)/\mC z a) #[rfl,Zc,pb J] ?_ ?_ ?_]]
  ·rintro i l a _ ⟨_,_,g⟩;show mO<|g.at M
  ·rintro i v l a L ⟨rfl,I,g⟩ t H3 j n3 C;rw[nJ,nJ]at L;obtain⟨y,B,rfl⟩:=nR.mp L;obtain⟨x,c,rfl⟩:=nR.mp B;have G:=N.trans<|g.trans j;have z:(r.map<|Wo u).getD i false=Wo u x:=by rw[qo,nJ,c];rfl
   have Y:(Y8 (Zx V.bl u)<|Sum.inr x.1).getD (.bl false)=.bl (Wo u x):=by
    rw[xF];unfold Wo;cases u.lookup x.1<;>rfl
   refine#[mW C,rfl,rfl,(oW rfl).trans (oW rfl),d,rfl,.inl #[_,.inl<|G.at hd],_,qB (k:=Sum.inr x.1)<|G.at hd,oB.of Y<|Yh (λU=>?_) λU=>?_]
   ·refine#[j.at I,?_,?_,Zc,λb o e=>?_]
    ·rw[mK];have y:i<r.length:=(oo.mp c).1;show sz (by have:=YA (r.map<|Wo u) i;lia)
    ·rw[Vz (z.trans U),nj]
     rfl
    ·rw[Zd (Ze e J)];show j.at<|g.at e
   ·refine#[?_,j.at I,g.trans j];rw[Ut (by rw[z];show U)]
  ·rintro l U ⟨rfl,z,s2⟩;have I:=N.trans s2;have e:((r.map fst).map V.str).length=(r.map<|Wo u).length:=by rw[mK,mK,mK]
   rw[e]at z;cases y:Wj (r.map<|Wo u) (r.map<|Wo u).length with
   | nil =>
    rw[y]at z;show mM (Zv (Xc<|HW (pv 3) λ_=>rfl) Zn Zk) #[_,.inl #[_,mO z,rfl],Yh (λ_=>mP (Zl Zf)<|q 0 U I<|UO y) λh=>absurd rfl h]
   | cons f x =>
    obtain⟨G,L,c⟩:∃G L,f ::x=G++[L]:=#[(f ::x).dropLast,(f ::x).getLast (by simp),(Cd<|by simp).symm]
    rw[y]at z;have C:oH ((f ::x).map vN) 0=some (vN f):=Zq (j:=0) rfl;have B:oH ((f ::x).map vN) (-1)=some (vN L):=by rw[c,nj];show Cp _ _
    refine mM (Zv (Xc<|HW (pv 3) λ_=>rfl) Zn Zk) #[_,.inl #[_,mO z,rfl],Yh (λh=>absurd h<|by simp) λ_=>?_];obtain⟨m,hm,k1,k2,k3⟩:∃m:Nat,(if(if(L:Int)-len+1<f then(L:Int)-len+1 else f)>0 then(if(L:Int)-len+1<f then(L:Int)-len+1 else f)else 0)=(m:Int)/\m<=f/\(∀j:Nat,j<m->j+len<=L)/\(m=f\/L<m+len):=by
     clear z C B c y
     by_cases h1:(L:Int)-len+1<f
     ·rw[mU h1]
      by_cases o:(L:Int)-len+1 >0
      ·rw[mU o];show#[((L:Int)-len+1).toNat,by lia,by lia,λj Y=>by lia,.inr<|by lia]
      ·rw[mT o];show#[0,rfl,by lia,λj Y=>by lia,.inr<|by lia]
     ·rw[mT h1]
      by_cases o:(f:Int)>0
      ·rw[mU o];show#[f,rfl,by lia,λj Y=>by lia,.inl rfl]
      ·rw[mT o];show#[0,rfl,by lia,λj Y=>by lia,.inl<|by lia]
    refine mP (Zl<|Z4 (Lo rfl) (by rfl) T.jd QD<|Zb Zf<|Zb (Z4 (Li rfl) (by rfl) T.je QZ<|Zb (ny (pv 3) Zf)<|Zb (Zp Wm (Zp vM (ny (pv 3)<|zZ An Zf)<|pv 1) Zf) Za) Za)<|.inl #[mO z,C,.inl #[mO z,B,.inl #[_,_,rfl,_,_,rfl,?_]]];rw[hm];show q m U I<|XM y (y.trans c) k1 k2 k3
def Zs0{H:Hp}{d e:lS}{u:HO}(h:H d=some u)(n:H e=none):e≠d:=λz=>by rw[z,h]at n;cases n
structure tR(H Hf:Hp)(d':Addr)(names:List Str)(val':Str->List Zr)(i:Nat)(g8:List (Str×Addr))(H':Hp):Prop where
 same:mC Hf H'
 fsts:g8.map fst=names.take i
 at':H' d'=some (.dK<|Zx V.ref g8)
 nd:(g8.map snd).Nodup
 all:∀e∈g8,H e.2=none/\Yi H' e.2 (val' e.1)
def tR.start{val':lR->lQ Zr}(hd:H d=some u)(x:mC H y)(s:H d'=none)(r:y d'=some (.dK [])):tR H (mJ H d f) d' names val' 0 [] (mJ y d f):=by
 refine#[λb u e=>?_,rfl,?_,tw,by simp]
 ·by_cases z:b=d
  ·rw[z,Zc]at e ⊢;show e
  ·rw[Zd z]at e ⊢;show x.at e
 ·rw[Zd (oM<|Ze hd s)];show r
def tR.len{val':lR->lQ Zr}(b:tR H y d' names val' i z H'):(Zx V.ref z).length<=i:=by
 have:=oE List.length b.fsts;rw[mK,oh]at this;rw[show(Zx V.ref z).length=z.length from mK ..];lia
def tR.step{val':lR->lQ Zr}(hd:H d=some u)(U:H d'=none)(A:names.Nodup)(b:tR H (mJ H d f) d' names val' i g Q)(N:names[i]? =some x)
  (r:mC Q n) (M:Q l=none) (L:Yi n l (val' x)):tR H (mJ H d f) d' names val' (i+1) (g++[(x,l)]) (mJ n d'<|.dK<|Ws (Zx V.ref g) (Sum.inr x)<|.ref l):=by
 obtain⟨J,I,G,N6,E⟩:=b;have E1:x∉g.map fst:=by
  rw[I];have j:(names.take<|i+1).Nodup:=zt (Ca (i+1) _) A;rw[og,N,qk]at j;show λhm=>j.2.2 x hm x (by simp) rfl
 have e:d'≠d:=oM<|Ze hd U;have q:∀c D,n c=some (.lst D)->c≠d':=λc D h z=>by rw[z,r.at G]at h;cases h
 have p:∀C,n d'≠some (.tup C):=λC z=>by rw[r.at G]at z;cases z
 refine#[λb u z=>?_,?_,?_,?_,?_]
 ·by_cases y:b=d'
  ·rw[y,Zd e,U]at z;cases z
  ·rw[Zd y];show r.at<|J.at z
 ·rw[nj,I,og,N];rfl
 ·rw[GE E1];show Zc
 ·rw[nj,qk];refine#[N6,by simp,?_];rintro b a c B rfl;simp at B;obtain⟨Y,s,a⟩:=mX.mp a;obtain⟨_,o,_⟩:=(E Y s).2;rw[a,B,M]at o;cases o
 ·intro Y s;rcases oj.mp s with z|z
  ·obtain⟨a,o⟩:=E Y z;have j:=o.mono r;obtain⟨_,B,_⟩:=j;show#[a,(o.mono r).off (q _ _ B) p]
  ·simp at z;subst z;refine#[?_,L.off (q _ _ L.choose_spec.1) p];have:=J.free M
   by_cases y:l=d
   ·rw[y,Zc]at this;cases this
   ·rw[Zd y]at this;show this
def tR.done{H x:Hp}{d d':lS}{o:Obj}{u:HO}{names:lQ lR}{val':lR->lQ Zr}{y:lQ (lR×lS)}(hd:H d=some u)(p:H d'=none)(b:tR H (mJ H d<|.frz o u) d' names val' names.length y x) :
  mC H (mJ x d u)/\Yo (mJ x d u) d' y val'/\y.map fst=names/\(y.map snd).Nodup/\∀e∈y,H e.2=none:=by
 obtain⟨r,q,n,l,s⟩:=b;rw[oJ]at q;refine#[yr hd r,#[by rw[Zd (oM<|Ze hd p)];show n,λe he=>(s e he).2.off (Zs0 hd (s e he).1) λj z=>?_],q,l,λe he=>(s e he).1];rw[r.at Zc]at z;cases z
def rN.one(h:rN y len m)(h':rN y len x):m=x:=by
 rcases Nat.lt_trichotomy m x with z|z|z
 ·show absurd (h'.1 m z) h.2
 ·show z
 ·show absurd (h.1 x z) h'.2
open Classical in
def qz(z:lQ Bool)(len:Nat):Nat:=if h:∃m,rN z len m then h.choose else 0
def rN.eq(h:rN z len m):m=qz z len:=by
 unfold qz;rw[dif_pos #[m,h]];show h.one<|Exists.choose_spec (#[m,h]:∃m,rN z len m)
def Xa(z:lQ (lR×Nat))(t:lR):Nat:=(z.lookup t).getD 0
def Yv(z:lQ (lR×Bool))(y:lQ (lR×Nat))(val:lR->lQ Zr)(t:lR):lQ Zr:=(val t).drop (qz ((val t).map (Wo z))<|Xa y t)
def wl(x:(z.map fst).Nodup)(h:p∈z):Xa z p.1=p.2:=by
 have y:=Wc (f:=λn:Nat=>V.int (n:Int)) x h;rw[xF]at y;obtain⟨n,u,s⟩:=nR.mp y;unfold Xa;rw[u];show Int.ofNat.inj<|V.int.inj s
def HH{z y:Type}{R:z->y->Prop}{xs:lQ z}{x:lQ y}(h:Paired R xs x):∀m,Paired R (xs.drop m) (x.drop m):=by
 induction h with
 | nil=>intro m;rw[List.drop_nil,List.drop_nil];show .nil
 | cons r t u=>intro m;cases m with
  | zero=>show .cons r t
  | succ m=>show u m
inductive OQ:Sp
 | mk (d dl ds es ln td) (val:lR->lQ Zr):vs=[.ref d,.ref dl,.ref ds]->Yo H d es val->(es.map fst).Nodup->es.length<=100->(∀t,(val t).length<=100)->H dl=some (.dK<|pW ln)->es.map fst=ln.map fst->d≠ds->d≠dl->H ds=some (.dK<|Zx V.bl td)->
  (∀d' H' g8,mC H H'->H d'=none->Yo H' d' g8 (Yv td ln val)->g8.map fst=es.map fst->(∀e∈g8,H e.2=none)->Q (.ref d') H')->OQ vs H Q E
def Zqt:T.eR.O P w mg mD 3 OQ:=by
 refine T.eR.F.okW Dz ?_;rfl'
 ·obtain⟨d,dl,ds,es,N,J,val,rfl,g,x,y,J7,I,G,C,B,hds,q⟩:=h;intro X D;refine mM (mY 3 Dz Xz) λd' H1 s1 M e1=>?_
  refine mM (zx<|Yw oO rfl (wV<|pv 0) (rE rfl<|Zu (nZ 4 Dz)<|Zu (nZ 5 Dz) Xd) Zn) #[s1.at g.1,λo nf=>Dr (λi z H'=>(∃o4 o5,z=[some (.ref d),some<|.ref dl,some<|.ref ds,some<|.ref d',o4,o5])/\∃c,tR H (mJ H d<|.frz o<|.dK<|Zx V.ref es) d' (es.map fst) (Yv J N val) i c H') #[#[none,none,rfl],[],tR.start g.1 s1 M e1] ?_ ?_ ?_]
  ·rintro i z H' _ ⟨_,c,b⟩;show b.same.at Zc
  ·rintro i kv z H2 hi ⟨⟨o4,o5,rfl⟩,c,b⟩ tp a j n2' e2';obtain⟨e,R8,he,V2,rfl⟩:=Dm hi;have bs:=b.same.trans j;obtain⟨N3,hg⟩:=g.read x bs R8;obtain⟨⟨_,n⟩,hn,rfl⟩:∃p∈N,p.1=e.1:=by
    have:e.1∈N.map fst:=G ▸ vP R8;obtain⟨p,h1,h2⟩:=mX.mp this;show#[p,h1,h2]
   obtain⟨ts,m9,y9⟩:=id N3;have Y:∀{b:lS}{u:HO},b≠d->H b=some u->a b=some u:=λnb y=>bs.at (by rw[Zd nb];show y)
   have hgl:Xk a dl (.str e.1) (some<|.int (n:Int)):=by
    rw[<-Wc (f:=λn:Nat=>V.int (n:Int)) (q:=(e.1,n)) (G ▸ x) hn];show qB (k:=Sum.inr e.1)<|Y B.symm I
   refine#[mW e2',rfl,rfl,?_];refine mP (X6 (Ys hr) (pv 3) (pv 4) (Xq (r:=qN K) qZ (pv 5) (Xw<|Zy (VC T) hr<|Zb (pv 5)<|Zb (Y3 (Ys hr) (pv 1) (pv 4) λ_ _=>rfl)<|Zb (pv 2) Za) Wl) rfl) #[hgl,e.2,ds,n,val e.1,J,rfl,N3,J7 e.1,Y C.symm hds,λm H3 U hm=>(.inr<|.inl #[mO<|U.at m9,λl H4 s4 n4 L=>#[sQ (k:=Sum.inr e.1) (s4.at<|U.at<|j.at b.at') (Zo (by have:=b.len;have:=(oo.mp he).1;lia)),#[_,_,rfl],_,b.step g.1 M x V2 (j.trans<|U.trans s4) (j.free<|U.free n4) ?_]])];have L:H4 l=some (.lst<|qi (ts.map V.ref) (some (m:Int)) none):=L;rw[wA,<-wE]at L;change Yi H4 l ((val e.1).drop (qz ((val e.1).map (Wo J))<|Xa N e.1));rw[wl (G ▸ x) hn,<-hm.eq];show#[_,L,(sr.mono (U.trans s4)<|HH y9 m)]
  ·rintro z H2 ⟨⟨o4,o5,rfl⟩,c,b⟩;rw[Bf]at b;obtain⟨h1,h2,y,p,u⟩:=b.done g.1 M;show#[d,o,_,b.same.at Zc,nf,mP (Zl<|pv 3)<|q d' _ c h1 M h2 y u]
def Ih{z y:Type}{R:z->y->Prop}{xs:lQ z}{x:lQ y}(h:Paired R xs x):∀m,Paired R (xs.take m) (x.take m):=by
 induction h with
 | nil=>intro m;rw[Bb,Bb];show .nil
 | cons r t u=>intro m;cases m with
  | zero=>show .nil
  | succ m=>show .cons r<|u m
abbrev qU(val val':lR->lQ Zr)(ts:lQ lR):lQ lR:=ts.flatMap λt=>((val t).take ((val t).length-(val' t).length)).map fst
theorem ED{val val':lR->lQ Zr}(h:∀t,(val t).length<=100):∀ts:lQ lR,(qU val val' ts).length<=100 * ts.length
 | []=>nk _
 | t ::ts=>by
  have:=ED (val':=val') h ts;have z:=h t;have:((val t).take ((val t).length-(val' t).length)).length<=100:=by rw[oh];lia
  unfold qU at *;rw[CA,nX,mK,pE];lia
inductive IE:Sp
 | mk (da db es g8) (val val':lR->lQ Zr):vs=[.ref da,.ref db]->Yo H da es val->(es.map fst).Nodup->es.length<=10->(∀t,(val t).length<=100)->da≠db->Yo H db g8 val'->g8.map fst=es.map fst->(∀t,(val' t).length<=(val t).length)->(qU val val'<|es.map fst).length<64->
  (∀r H' ss,mC H H'->H r=none->ss.Perm (qU val val'<|es.map fst)->PyProof.Rows.sortedS ss=true->H' r=some (.lst<|ss.map V.str)->Q (.ref r) H')->IE vs H Q E
def Zuc:T.gn.O P w mg mD 2 IE:=by
 refine T.gn.F.okW Dd ?_;rfl'
 ·obtain⟨n,db,g,g8,val,p,rfl,l,O2,j,J7,nd,U7,w4,G9,I,q⟩:=h;intro X D;refine mM (mY 2 Dd<|Zm Za) #[mQ,λc H1 G C e1=>?_];have Y:n≠c:=λy=>by have:=l.1;rw[y,C]at this;cases this
  refine mM (zx<|Yw oO rfl (wV<|pv 0) (rE rfl<|Zu (nZ 3 Dd)<|Zu (nZ 4 Dd) Xd) Zn) #[G.at l.1,λo nf=>Dr (λi z B=>(∃o3 o4,z=[some (.ref n),some<|.ref db,some<|.ref c,o3,o4])/\(∀b u,b≠c->mJ H1 n (.frz o<|.dK<|Zx V.ref g) b=some u->B b=some u)/\B c=some (.lst<|(qU val p<|(g.map fst).take i).map V.str)) #[#[none,none,rfl],λ_ _ _ y=>y,by rw[Zd Y.symm];show e1] ?_ ?_ ?_]
  ·rintro i z B _ ⟨_,y,_⟩;show y n _ Y Zc
  ·rintro i kv z H2 hi ⟨⟨o3,o4,rfl⟩,U,h0⟩ tp N a n3 e3;obtain⟨e,R8,he,V2,rfl⟩:=Dm hi;have bs:mC (mJ H n<|.frz o<|.dK<|Zx V.ref g) N:=λb u y=>a.at (U b u (λx=>by
     rw[x,Zd Y.symm,C]at y;cases y) (by
     by_cases x:b=n
     ·rw[x,Zc]at y ⊢;show y
     ·rw[Zd x]at y ⊢;show G.at y))
   obtain⟨ts,M,h2⟩:=(l.read O2 bs R8).1;obtain⟨d,j,L⟩:∃d∈g8,d.1=e.1:=by
    have:e.1∈g8.map fst:=w4 ▸ vP R8;show mX.mp this
   have hP:Yi N d.2 (p d.1):=by
    have:=U7.2 d j;obtain⟨_,x,_⟩:=id this;show(this.off (o:=.frz o<|.dK<|Zx V.ref g) (λy=>by rw[y,l.1]at x;cases x) λxs y=>by rw[l.1]at y;cases y).mono bs
   rw[L]at hP;obtain⟨E7,h1',h2'⟩:=hP;have hgb:Xk N db (.str e.1) (some<|.ref d.2):=by
    rw[<-L,<-Wc (f:=V.ref) (w4 ▸ O2) j];show qB (k:=Sum.inr d.1) (bs.at (by rw[Zd nd.symm];show U7.1))
   have l1:=nH h2;have l2:=nH h2';have hl:=G9 e.1;have hv:=J7 e.1;have C3:i<g.length:=(oo.mp he).1;have hdl:=ED (val':=p) J7<|(g.map fst).take i;rw[oh,mK]at hdl;refine#[mW e3,rfl,rfl,?_];refine mP (Z3<|yh xO Jt PySem.F.type_list_extend UI (pv 2)<|Zb (Zy (DY T) hr<|Zb (Xq (r:=qN K) qZ (pv 4) Wl<|Xw<|Zp vM (pp T.aX<|pv 4)<|pp T.aX<|Y3 (Ys hr) (pv 1) (pv 3) λ_ _=>rfl) Za) Za) #[.inl #[rfl,_,mO<|a.at h0],.inl #[.inl<|mO M,hgb,.inl #[.inl<|mO h1',.inr<|.inl #[mO M,λl5 H5 s5 n5 J=>#[l5,(val e.1).take ((val e.1).length-(p e.1).length),rfl,#[ts.take<|(val e.1).length-(p e.1).length,.inl ?_,?_],?_,λp6 H6 s6 n6 e6=>#[c,p6,_,_,rfl,rfl,s6.at<|s5.at<|a.at h0,e6,sz ?_,#[_,_,rfl],λb u nb y=>by rw[Zd nb];show s6.at<|s5.at<|a.at<|U b u nb y,?_]]]]]]
   ·have J:H5 l5=some (.lst<|qi (ts.map V.ref) none<|some<|((ts.map V.ref).length:Int)-((E7.map V.ref).length:Int)):=J;rw[mK,mK,l1,l2,<-Int.ofNat_sub hl,yA,<-tH]at J;show J
   ·show nK (Ih h2 _) λ_ _ r=>s5.at r
   ·rw[oh];lia
   ·rw[mK,mK,mK,oh];lia
   ·rw[Zc,og,V2,<-nj];congr 4;unfold qU;rw[xR];congr 1;show(pH _).symm
  ·rintro z H2 ⟨⟨o3,o4,rfl⟩,U,M⟩;have e:=U n _ Y Zc;have j:mC H (mJ H2 n<|.dK<|Zx V.ref g):=λb u y=>by
    by_cases x:b=n
    ·rw[x,Zc,<-l.1,<-x];show y
    ·rw[Zd x];show U b u (λw=>by rw[w,C]at y;cases y) (by rw[Zd x];show G.at y)
   rw[Bf,oJ]at M;show#[n,o,_,e,nf,mP (Zl<|Z4 (r:=CM K) Es (by rfl) T.cH vG<|Zb (pv 2) Za) #[c,_,rfl,mO (by rw[Zd Y.symm];show M),I,λd l L r N a n3 e3=>q r N d (j.trans a) (j.free n3) l L e3]]
def BX{val:lR->lQ Zr}(h:q∈Yv z y val t):q∈val t:=GM h
def PU{val:lR->lQ Zr}(t:lR):(Yv z y val t).length<=(val t).length:=by
 unfold Yv;rw[sP];show Nat.sub_le ..
def NS{val val':lR->lQ Zr}(z:ts.Nodup)(h:∀t,(∀q∈val t,ut ns q)/\((val t).map fst).Nodup)(hd:∀t∈ts,∀u∈ts,t≠u->∀q∈val t,∀r∈val u,q.1≠r.1):(qU val val' ts).length<=ns.length:=by
 refine xD ?_ λn z=>?_
 ·unfold qU List.Nodup;rw[List.pairwise_flatMap];refine#[λt _=>?_,List.Pairwise.imp_of_mem (λ{t u} o l n x s y j=>?_) z]
  ·rw[tH];show zt (Ca ..) (h t).2
  ·obtain⟨q,p,rfl⟩:=mX.mp s;obtain⟨r,y,rfl⟩:=mX.mp j;show hd t o u l n q (uX p) r<|uX y
 ·obtain⟨t,_,s⟩:=uj.mp z;obtain⟨q,p,rfl⟩:=mX.mp s;show((h t).1 q (uX p)).1
inductive PB(T:Tx K mg):Sp
 | mk (H0) (F:lS->Prop) (x tr dt) (ad:pQ) (lw) (val:lR->lQ Zr) (ln:lQ (lR×Nat)) (td:lQ (lR×Bool)):vs=[.ref x,.ref dt]->nM T H0 H F x tr ad lw val ln->¬F dt->H dt=some (.dK<|Zx V.bl td)->
  (∀r H' F' d' g8 (ss:lQ lR),(∀b,F b->F' b)->(∀b,F' b->F b\/H b=none)->yc F H H'->H r=none->¬F' r->ss.Perm (qU val (Yv td ln val)<|ln.map fst)->PyProof.Rows.sortedS ss=true->H' r=some (.lst<|ss.map V.str)->
   nM T H0 H' F' x tr #[ad.dx,ad.ld,ad.sd,ad.nd,d',g8,ad.st,ad.ns] lw (Yv td ln val) ln->Q (.ref r) H')->PB T vs H Q E
def Lq:T.cj.O P w mg mD 4 (PB T):=by
 refine T.cj.F.okW Qi ?_;rfl'
 ·obtain⟨e,F,x,tr,dt,ad,lw,val,d,a,rfl,p,nF,U0,q⟩:=h;intro X D;have j:=p.nm;have P6:ad.es.length<=10:=by
   have:=oE List.length j;rw[mK,mK]at this;have:=p.len;lia
  refine mM (mY 2 Qi<|Z6 (pv 0) rfl) #[p.obj,T.ae,T.am,rfl,?_];refine mM (Wr (pv 0) (Zy (Zqt T) hr<|Zb (pv 2)<|Zb (Z6 (pv 0) rfl)<|Zb (pv 1) Za) rfl) #[p.obj,T.ae,T.bM,rfl,ad.pd,ad.nd,dt,ad.es,d,a,val,rfl,p.pth,by rw[j];show p.lnd,by lia,p.vl,p.lens,j,λz=>nF<|z ▸ p.fp,p.ne.symm,U0,λC N B l M i g J=>#[l.at p.obj,T.ae,T.am,(by change 5<1000;decide),?_]];have k1:=p.path (vl:=Yv a d val) l M i (g.trans j) J (λt=>ow (PU t)<|p.vl t) (λt=>#[λq I=>(p.kx.pok t).1 q (BX I),by
   unfold Yv;rw[wE];show zt (List.drop_sublist ..) (p.kx.pok t).2]) (by rw[g];show λt e u hu n q I r hr=>p.kx.pdj t e u hu n q (BX I) r<|BX hr)
  have L:∀{b:lS}{u o:HO},b≠x->N b=some u->mJ N x o b=some u:=λn z=>by rw[Zd n];show z
  have P2:∀{c:lS}{Y:lQ Zr}{o:HO},Yi N c Y->Yi (mJ N x o) c Y:=λ{c Y o} z=>z.off (λy=>by obtain⟨_,w,_⟩:=z;rw[y,l.at p.obj]at w;cases w) λxs y=>by rw[l.at p.obj]at y;cases y
  have G:(qU val (Yv a d val)<|ad.es.map fst).length<64:=by
   have:=NS (val':=Yv a d val) (show(ad.es.map fst).Nodup by rw[j];show p.lnd) p.kx.pok p.kx.pdj;have:=p.kx.nok.1;lia
  refine mP (Zl<|Zy (Zuc T) hr<|Zb (pv 2)<|Zb (Z6 (pv 0) rfl) Za) #[Zc,T.ae,T.am,rfl,ad.pd,C,ad.es,B,val,Yv a d val,rfl,#[L p.xp.symm<|l.at p.pth.1,λe he=>P2<|(p.pth.2 e he).mono l],by rw[j];show p.lnd,P6,p.vl,(λz=>by have:=p.pth.1;rw[z,M]at this;cases this),#[L (λz=>by have:=p.obj;rw[<-z,M]at this;cases this) i.1,λe he=>P2<|i.2 e he],g,PU,G,λr H2 Y s2 U pm so e2=>?_];have nr:H r=none:=by
   cases z:H r with
   | none=>rfl
   | some u =>
    by_cases y:r=x
    ·rw[y,Zc]at U;cases U
    ·rw[L y (l.at z)]at U;cases U
  show q r H2 _ C B Y (λb z=>.inl z) (λb z=>z.imp id λy=>by rw[y];show M) (λb o e z=>s2.at<|L (λy=>e<|y ▸ p.fx)<|l.at z) nr (k1.neF U) (by rw[<-j];show pm) so e2<|k1.mono s2
def Ybq{z:Type}{s:lQ (lR×z)}{v:z}:y∈(pC s x v).map fst↔y∈s.map fst\/y=x:=by
 rw[DJ];split
 ·rename_i h;show#[.inl,λu=>u.elim id λe=>e ▸ h]
 ·rw[oj,oP]
def Yc6(xs:lQ V)(a b:Nat):qi xs (some (a:Int)) (some<|(a:Int)+(b:Int))=(xs.drop a).take b:=by
 unfold qi;rw[<-Int.natCast_add,HT.sIx_nat,HT.sIx_nat]
 by_cases h:a<=xs.length
 ·rw[Br h]
  by_cases z:a+b<=xs.length
  ·rw[Br z,Nat.add_sub_cancel_left]
  ·rw[Ci (by lia),sK (by rw[sP];show nk _),sK<|by rw[sP];lia]
 ·rw[Ci (show xs.length<=a by lia),BI,Bb,NR (by lia),Bb]
def uz(val:lR->lQ Zr)(z y:lQ (lR×Nat))(t:lR):lQ Zr:=((val t).drop (Xa z t)).take (Xa y t)
inductive Os(T:Tx K mg):Sp
 | mk (H0) (F:lS->Prop) (x tr dt) (ad:pQ) (lw) (val:lR->lQ Zr) (ln tn:lQ (lR×Nat)):vs=[.ref x,.ref dt]->nM T H0 H F x tr ad lw val ln->H dt=some (.dK<|pW tn)->(tn.map fst).Nodup->(∀t∈ln.map fst,t∈tn.map fst)->
  (∀d' H' (st:lQ (lR×Bool)),mC H H'->H d'=none->H' d'=some (.dK<|Zx V.bl st)->(∀y,y∈st.map fst↔∃t∈ln.map fst,y∈(uz val tn ln t).map fst)->Q (.ref d') H')->Os T vs H Q E
inductive Oh(H1:Hp)(x dt d':Addr)(val:Str->List Zr)(tn ln:List (Str×Nat))(ss:List Str)(i:Nat):St->Hp->Prop
 | mk (o3 o4 o5) (st:List (Str×Bool)):(∀b u,b≠d'->H1 b=some u->H' b=some u)->H' d'=some (.dK<|Zx V.bl st)->(∀y,y∈st.map fst↔∃t∈ss.take i,y∈(uz val tn ln t).map fst)->st.length<=100 * i->Oh H1 x dt d' val tn ln ss i [some (.ref x),some<|.ref dt,some<|.ref d',o3,o4,o5] H'
def Znl:T.eu.O P w mg mD 4 (Os T):=by
 refine T.eu.F.okW W8 ?_;rfl'
 ·obtain⟨H0,F,x,tr,dt,ad,lw,val,U,I,rfl,G,U0,O2,V0,q⟩:=h;intro X D;refine mM (mY 2 W8 Xz) λC H1 s1 n1 e1=>?_
  have y8:=G.mono s1;refine mM (Yw oO rfl (Ya<|Y1 (pv 0) T.ae T.aM (Y2 T) hr.m T.aq.b .nil Z0) (nZ 3 W8) Zn) #[y8.obj,rfl,H0,F,x,tr,ad,lw,val,U,rfl,y8,λss p1 n l o s2 j e2=>#[mO e2,Xm (K:=K) (xs:=ss.map V.str) (Oh o x dt C val I U ss) (.mk none none none [] (λ_ _ _ y=>y) (s2.at e1) (λu=>#[λy=>(by cases y),λ⟨_,y,_⟩=>(by cases y)]) (nk _)) ?_ ?_ ?_]]
  ·rintro i z H' _ ⟨o3,o4,B,st,J,_⟩;show mO<|J _ _ (λy=>by rw[y,s2.at e1]at e2;cases e2) e2
  ·rintro i v z H3 hi ⟨o3,o4,B,st,J,h3,y9,D4⟩;rw[nJ]at hi;obtain⟨nm,w4,rfl⟩:=nR.mp hi;have dd:∀{b:lS}{p:HO},H b=some p->H3 b=some p:=λ{b p} y=>J b p (λu=>by rw[u,n1]at y;cases y)<|(s1.trans s2).at y
   have sm0:mC H H3:=λb p y=>dd y
   have T0:=G.mono sm0;have hm:nm∈U.map fst:=p1.mem_iff.mp<|pe w4;obtain⟨o,hp,rfl⟩:=mX.mp hm;obtain⟨⟨_,Y⟩,htn,N4⟩:=mX.mp<|V0 o.1 hm;obtain rfl:_=o.1:=N4;refine mM (mY 4 W8<|Yb (pv 0) T.ae T.aV (Xi T) hr.m T.aD.b .nil Z0<|Zb (pv 3) Za) #[T0.obj,rfl,H0,F,x,tr,ad,lw,val,U,o.1,rfl,T0,hm,λl H4 s4 n P4=>?_];obtain⟨ts,M,L⟩:=P4;have hw4:=T0.mono s4;have V9:Xk H4 dt (.str o.1) (some<|.int (Y:Int)):=by
    rw[<-Wc (f:=λn:Nat=>V.int (n:Int)) (q:=(o.1,Y)) O2 htn];show qB (k:=Sum.inr o.1)<|s4.at<|dd U0
   refine mP (Yw oO rfl (Ya<|Xq (r:=qN K) qZ (pv 4) (Xw<|Y3 (Ys hr) (pv 1) (pv 3) λ_ _=>rfl)<|Xw<|Zp Wm (Y3 (Ys hr) (pv 1) (pv 3) λ_ _=>rfl)<|Yb (pv 0) T.ae T.cq (W2 T) hr.m T.aT.b .nil Z0<|Zb (pv 3) Za) (nZ 5 W8) Zn) #[V9,V9,hw4.obj,rfl,H0,F,x,tr,ad,lw,val,U,o,rfl,hw4,hp,λn s5=>.inl<|.inr<|.inl #[mO<|s5.at M,λl6 H6 s6 n6 e6=>?_]];have e6:H6 l6=some (.lst<|qi (ts.map V.ref) (some (Y:Int))<|some<|(Y:Int)+(o.2:Int)):=e6;rw[Yc6,<-wE,<-tH]at e6;have hon:uz val I U o.1=((val o.1).drop Y).take o.2:=by
    unfold uz;rw[wl G.lnd hp,show Xa I o.1=Y from wl (p:=(o.1,Y)) O2 htn]
   have c:=Ih (HH L Y) o.2;rw[<-hon]at c;have h36:∀{b:lS}{p:HO},H3 b=some p->H6 b=some p:=λy=>s6.at<|s5.at<|s4.at y
   have hl6:=nH c;have hol:(uz val I U o.1).length<=100:=by
    have:=G.vl o.1;rw[hon,oh,sP];lia
   have C3:i<ss.length:=(oo.mp w4).1;have hss:ss.length<=10:=by
    have:=p1.length_eq;rw[mK]at this;have:=G.len;lia
   let I30:IF:=λj z H'=>∃(B:lV V)(a:lQ (lR×Bool)),z=[some (.ref x),some<|.ref dt,some<|.ref C,some<|.str o.1,some<|.ref l,B]/\(∀b p,b≠C->H6 b=some p->H' b=some p)/\H' C=some (.dK<|Zx V.bl a)/\(∀u,u∈a.map fst↔u∈st.map fst\/u∈((uz val I U o.1).take j).map fst)/\a.length<=100 * i+j
   refine#[mO e6,Xm (K:=K) (xs:=((ts.drop Y).take o.2).map V.ref) I30 #[B,st,rfl,λ_ _ _ y=>y,h36 h3,λu=>#[.inl,λy=>y.elim id λy=>(by cases y)],D4] ?_ ?_ ?_]
   ·rintro j z H7 _ ⟨g,a,rfl,d,_⟩;show mO<|d _ _ (λy=>by rw[y,s5.at<|s4.at h3]at n6;cases n6) e6
   ·rintro j v z H7 hj ⟨g,a,rfl,d,h7,e,N⟩;rw[nJ]at hj;obtain⟨tq,htq,rfl⟩:=nR.mp hj;obtain⟨q0,n,rq⟩:=pj c htq;have A1:=(oo.mp n).1;have r7:=d tq _ (λy=>by rw[y]at rq;show nomatch (s4.at h3).symm.trans rq)<|s6.at<|s5.at rq;refine mP (X6 (Ys hr) (pv 2) (ny (pv 5) Zf) qR rfl)<|.inr<|.inl #[mW r7,Zq (j:=0) rfl,sQ (k:=Sum.inr q0.1) h7 (Zo<|by rw[show(Zx V.bl a).length=a.length from mK ..];lia),_,pC a q0.1 true,rfl,λb p nb y=>by rw[Zd nb];show d b p nb y,?_,λu=>?_,?_]
    ·rw[Zc,xf (f:=V.bl)]
    ·rw[Ybq,e,og,n,nj,oj,or_assoc];show or_congr_right<|or_congr_right<|oP.symm
    ·have:=GV a q0.1 true;lia
   ·rintro z H7 ⟨g,a,rfl,d,h7,e,N⟩;rw[mK]at e N;refine .mk _ _ _ a (λb p nb y=>d b p nb<|h36<|J b p nb y) h7 (λu=>?_) (by lia);rw[e,y9,hl6,oJ,og,w4]
    constructor
    ·rintro(⟨t,M,L⟩|M)
     ·show#[t,xc _ M,L]
     ·show#[o.1,qv _<|oP.mpr rfl,M]
    ·rintro⟨t,M,L⟩;rcases oj.mp M with y|y
     ·show .inl #[t,y,L]
     ·rw[oP.mp y]at L;show .inr L
  ·rintro z H3 ⟨o3,o4,B,st,J,h3,y9,D4⟩;rw[mK,oJ]at y9;show mP (Zl<|pv 2)<|q C H3 st (λb p y=>J b p (λu=>by rw[u,n1]at y;cases y)<|(s1.trans s2).at y) n1 h3 λu=>(y9 u).trans #[λ⟨t,a,b⟩=>#[t,p1.mem_iff.mp a,b],λ⟨t,a,b⟩=>#[t,p1.mem_iff.mpr a,b]]
theorem Jk{z:Type}{v:z}(n:y≠x):∀s:lQ (lR×z),(s.map λq=>if q.1=x then(x,v)else q).lookup y=s.lookup y
 | []=>rfl
 | q ::s=>by
  rw[nV,pI,pI,Jk n s]
  by_cases u:q.1=x
  ·rw[mU u,u];rw[show(y ==x)=false from qt.mpr n]
  ·rw[mT u]
theorem KY{z:Type}{v:z}:∀{s:lQ (lR×z)},x∈s.map fst->(s.map λq=>if q.1=x then(x,v)else q).lookup x=some v
 | q ::s,h=>by
  rw[nV,pI]
  by_cases y:q.1=x
  ·rw[mU y,we]
  ·rw[mT y,show(x ==q.1)=false from qt.mpr<|oM y];show KY<|(nU.mp h).resolve_left λu=>y u.symm
theorem El{z:Type}:∀{s:lQ (lR×z)},x∉s.map fst->s.lookup x=none
 | [],_=>rfl
 | q ::s,h=>by
  rw[pI,show(x ==q.1)=false from qt.mpr λy=>h<|y ▸ ph];show El λu=>h<|pG _ u
def DZ{z:Type}(s:lQ (lR×z))(x y:lR)(v:z):(pC s x v).lookup y=if y=x then some v else s.lookup y:=by
 unfold pC;split
 ·rename_i h
  by_cases u:y=x
  ·rw[mU u,u];show KY h
  ·rw[mT u];show Jk u s
 ·rename_i h;rw[List.lookup_append]
  by_cases u:y=x
  ·rw[mU u,u,El h,pI,we];rfl
  ·rw[mT u,pI,show(y ==x)=false from qt.mpr u];show Option.or_none
def QM:lV (lR×Bool)->lQ V
 | none=>[]
 | some p=>[.str p.1,.bl p.2]
open Classical in
def ue(ns st:lQ lR)(y:lR):Bool:=decide<|y∈ns/\y∈st
def Eu(ns st:lQ lR):lV (lR×Bool)->lR->Bool
 | none,y=>ue ns st y
 | some p,y=>if y=p.1 then p.2 else ue ns st y
inductive Nl(T:Tx K mg):Sp
 | mk (pl sd wt) (ns:lQ lR) (st:lQ (lR×Bool)) (wr:lV (lR×Bool)):vs=[.ref pl,.ref sd,.ref wt]->H pl=some (.lst<|ns.map V.str)->ns.length<=100->H sd=some (.dK<|Zx V.bl st)->H wt=some (.tup<|QM wr)->
  (∀d' H' (td:lQ (lR×Bool)),mC H H'->H d'=none->H' d'=some (.dK<|Zx V.bl td)->(td.map fst).Nodup->td.length<=101->(∀y,(td.lookup y).getD false=Eu ns (st.map fst) wr y)->Q (.ref d') H')->Nl T vs H Q E
inductive LB(H1:Hp)(pl sd wt d':Addr)(ns:List Str)(st:List (Str×Bool))(i:Nat):St->Hp->Prop
 | mk (o4) (td:List (Str×Bool)):(∀b u,b≠d'->H1 b=some u->H' b=some u)->H' d'=some (.dK<|Zx V.bl td)->(td.map fst).Nodup->td.length<=i->(∀y,(td.lookup y).getD false=ue (ns.take i) (st.map fst) y)->LB H1 pl sd wt d' ns st i [some (.ref pl),some<|.ref sd,some<|.ref wt,some<|.ref d',o4] H'
def XT :(Y8 (Zx V.bl st)<|Sum.inr x).isSome=true↔x∈st.map fst:=by
 constructor
 ·intro h;refine Et λn=>?_
  rw[X4 n]at h;cases h
 ·intro h;rw[xF];cases z:st.lookup x with
  | some v=>rfl
  | none =>
   obtain⟨p,y,rfl⟩:=mX.mp h;have:=List.lookup_eq_none_iff.mp z p y;simp at this
def Zp8:T.eZ.O P w mg mD 4 (Nl T):=by
 refine T.eZ.F.okW Hl ?_;rfl'
 ·obtain⟨pl,C,wt,L,st,wr,rfl,J,p,B,c,q⟩:=h;intro X D;refine mM (mY 3 Hl Xz) λN H1 a I e1=>?_
  have Y:∀{b:lS}{u:HO},H b=some u->b≠N:=λy x=>by rw[x,I]at y;cases y
  refine mM (Yw oO rfl (Ya<|pv 0) (nZ 4 Hl) Zn) #[mO<|a.at J,Xm (K:=K) (xs:=L.map V.str) (LB H1 pl C wt N L st) (.mk none [] (λ_ _ _ y=>y) e1 .nil (nk _) (λx=>?_)) ?_ ?_ ?_]
  ·show(om λy=>nomatch y.1).symm
  ·rintro i z p _ ⟨o4,l,e,_⟩;show mO<|e _ _ (Y J)<|a.at J
  ·rintro i v z H3 d ⟨o4,l,e,M,g,G,o⟩;rw[nJ]at d;obtain⟨p,n,rfl⟩:=nR.mp d;refine mP (X6 (Ys hr) (pv 3) (pv 4) (GF hr (pv 4)<|pv 1) rfl)<|.inr<|.inl #[C,_,rfl,qB (k:=Sum.inr p)<|e _ _ (Y B)<|a.at B,xv.mk (sQ (k:=Sum.inr p) M<|Zo (by rw[show(Zx V.bl l).length=l.length from mK ..];have:=(oo.mp n).1;lia))<|.mk _ (pC l p (Y8 (Zx V.bl st)<|Sum.inr p).isSome) (λb u U y=>by rw[Zd U];show e b u U y) (by rw[Zc,xf (f:=V.bl)]) (DD g) (ow (GV ..)<|xT G) λx=>?_];rw[DZ]
   by_cases y:x=p
   ·rw[mU y,y];refine(rh.mpr ?_);change(Y8 (Zx V.bl st)<|Sum.inr p).isSome=true↔_;rw[XT];unfold ue;rw[wo,og,n];show#[λh=>#[qv _<|oP.mpr rfl,h],λh=>h.2]
   ·rw[mT y,o];unfold ue;rw[og,n];refine CD.mpr<|and_congr_left λ_=>?_;rw[oj];show#[.inl,λh=>h.elim id λh=>absurd (oP.mp h) y]
  ·rintro z H3 ⟨o4,l,e,M,g,G,o⟩;rw[mK]at G o;rw[oJ]at o;have n:=e _ _ (Y c)<|a.at c;refine mM (Zv (Yf (r:=CL K true) (ZK hr.units) (pv 2) (Zi Za)<|Yn _) Zn Zk) #[mQ,λp4 H4 d n4 p=>.mk (mW<|d.at n) (mW p) ?_];have U:mC H H4:=λb u y=>d.at<|e b u (Y y)<|a.at y
   cases wr with
   | none =>
    show mP (Zl<|pv 3) (q N H4 l U I (d.at M) g (by lia) o)
   | some p =>
    refine mP (X6 (Ys hr) (pv 3) (ny (pv 2) Zf) (ny (pv 2) Zf) rfl)<|.inr<|.inl #[mW<|d.at n,Zq (j:=1) rfl,.inr<|.inl #[mW<|d.at n,Zq (j:=0) rfl,xv.mk (sQ (k:=Sum.inr p.1) (d.at M)<|Zo<|by rw[show(Zx V.bl l).length=l.length from mK ..];lia) ?_]];refine mP (Zl<|pv 3)<|q N _ (pC l p.1 p.2) (λb u y=>by rw[Zd (Y y)];show U.at y) I (by rw[Zc,xf (f:=V.bl)]) (DD g) (ow (GV ..)<|by lia) λx=>?_;rw[DZ];change _=if x=p.1 then p.2 else ue L (st.map fst) x
    by_cases y:x=p.1
    ·rw[mU y,mU y];rfl
    ·rw[mT y,mT y];show o x
section
variable {U:Tx K mg} {H0 H H':Hp} {F:lS->Prop} {x tr kd:lS} {ad:pQ} {lw:lQ (lR×lR)} {val:lR->lQ Zr} {ln:lQ (lR×Nat)}
def nM.setU(h:nM U H0 H F x tr ad lw val ln)(s:H kd=some u)(r:∀xs,u≠.tup xs)(he:∀e∈ad.es,e.2≠kd)(q:¬F kd)(p:kd≠ad.ld)(ns:kd≠ad.sd)(n0:H0 kd=none):nM U H0 (mJ H kd o) F x tr ad lw val ln:=by
 have f:∀{b:lS},F b->b≠kd:=λz y=>q<|y ▸ z
 have u:∀{b:lS}{v:HO},b≠kd->H b=some v->mJ H kd o b=some v:=λn z=>by rw[Zd n];show z
 show#[u (f h.fx) h.obj,u p.symm h.lies,u ns.symm h.sti,u (f h.fn) h.lens,h.pth.offC (f h.fp) he s r,h.nm,h.lnd,h.len,h.vl,h.ok,h.fx,h.fn,h.fp,h.ne,h.nl,h.ns,h.ni,h.free,λb v e=>u (Ze e n0)<|h.same.at e,(λb z=>let⟨v,y,n⟩:=h.live b z;#[v,u (f z) y,n]),h.kx]
def nM.keepP(h:nM U H0 H F x tr ad lw val ln)(k:∀b o,¬F b->H b=some o->H' b=some o)(z:¬F l)(p:Yi H l ss):Yi H' l ss :=
 let⟨y,u,s⟩:=p
 #[y,k _ _ z u,nK s λt _ r=>k _ _ (λf=>by obtain⟨o,e,n⟩:=h.live t f;show n _<|oK<|e.symm.trans r) r]
end
def Kz{y:Type}{as:lQ y}{f:y->lR}(d:u pl=some (.lst<|ts.map V.ref))(h:Paired (λt a=>∃xs,u t=some (.tup<|V.str (f a) ::xs)) ts as)(I:as.length<=500)(g:u D=none)(q:∀H',mC u H'->H' D=some (.lst<|(as.map f).map V.str)->Q (.ref D) H'){fr:St->St}(c:fr z=[none])(n:∀z H Q,Q true H->Y z H Q)(U:∀z H Q t xs s,z[0]? =some (some<|V.ref t)->H t=some (.tup<|V.str s ::xs)->Q (.str s) H->N z H Q) :
  qV (ub K pl) fr (qI 0) Y N Q z u D:=by
 refine Y9 (xs:=ts.map V.ref) (λi r H'=>r=((as.take i).map f).map V.str/\H' D=some (.lst r)/\mC u H') #[rfl,Zc,pb g] ?_ ?_ ?_
 ·rintro i r H' _ ⟨_,_,p⟩;show mO<|p.at d
 ·rintro j v r H' e ⟨rfl,M,p⟩;rw[nJ]at e;obtain⟨t,l,rfl⟩:=nR.mp e;obtain⟨a,L,xs,J⟩:=pj h l;unfold W4;rw[c];refine#[oW rfl,n _ _ _<|U _ _ _ t xs (f a) rfl (p.at J) #[M,by rw[mK,mK,oh];show Zo (by lia),?_,Zc,λb o x=>?_]]
  ·rw[og,L,nj,nj];rfl
  ·rw[Zd (Ze x g)];show p.at x
 ·rintro r x ⟨rfl,o,l⟩;refine q x l ?_;rw[o,mK,nH h,oJ]
def Ft(z:lQ (lR×Nat))(ss:lQ lR):lQ V:=ss.map λt=>V.int (((z.lookup t).getD 0:Nat):Int)
def Mw{F:lS->Prop}{val:lR->lQ Zr}(r:nM U M u F x L ad J val y)(h:ss.Perm (y.map fst))(I:u pl=some (.lst<|ss.map V.str))(g:u D=none)(q:∀H',mC u H'->H' D=some (.lst<|Ft y ss)->Q (.ref D) H'){fr:St->St}(G:fr z=[none,some<|.ref x])(n:∀z H Q,Q true H->E z H Q)(C:∀p∈y,∀H Q,nM U M H F x L ad J val y->(∀H',mC H H'->Q (.int (p.2:Int)) H')->B [some (.str p.1),some<|.ref x] H Q) :
  qV (ub K pl) fr (qI 0) E B Q z u D:=by
 refine Y9 (xs:=ss.map V.str) (λi s H'=>s=Ft y (ss.take i)/\H' D=some (.lst s)/\mC u H') #[rfl,Zc,pb g] ?_ ?_ ?_
 ·rintro i s H' _ ⟨_,_,o⟩;show mO<|o.at I
 ·rintro j v s H7 d ⟨rfl,l,c⟩;rw[nJ]at d;obtain⟨t,a,rfl⟩:=nR.mp d;obtain⟨p,Y,rfl⟩:=mX.mp<|h.mem_iff.mp<|pe a;have A:=h.length_eq;have:=r.len;rw[mK]at A;unfold W4 Ft;rw[G];refine#[oW rfl,n _ _ _<|C p Y _ _ (r.mono c) λH8 N=>#[N.at l,by rw[mK,oh];show Zo (by lia),?_,Zc,λb o e=>?_]]
  ·rw[og,a,nj];change _=_++[V.int (((y.lookup p.1).getD 0:Nat):Int)];rw[Cy r.lnd Y]
   rfl
  ·rw[Zd (Ze e g)];show N.at<|c.at e
 ·rintro s l ⟨rfl,o,j⟩;rw[mK,oJ]at o;show q l j o
def Zxr(y:H a=some (.dK<|Zx V.str z))(x:H b=some (.dK<|Zx V.str z))(u:(z.map fst).Nodup):zo K H (.ref a) (.ref b) :=
 .inr #[a,b,_,_,rfl,rfl,.inl y,.inl x,rfl,λq s=>by
  obtain⟨p,r,rfl⟩:=mX.mp s;show#[.str p.2,Wc u r,.inl #[rfl,rfl,by(delta rY;simp)]]]
def Se{H:Hp}{a b:lS}{ss:lQ lR}(z:H a=some (.lst<|ss.map V.str))(y:H b=some (.lst<|ss.map V.str)):zo K H (.ref a) (.ref b):=.inl<|.inr #[1,_,by lk,Wt z,Wt y]
def ZD(y:lQ Bool)(len:Nat):∃m,rN y len m:=by
 have h:∀n,(∀j,j<n->BY y len j)\/∃m,rN y len m:=λn=>by
  induction n with
  | zero=>show .inl λj x=>absurd x (vT _)
  | succ n u =>
   rcases u with h|h
   ·by_cases z:BY y len n
    ·show .inl λj x=>(Nat.lt_succ_iff_lt_or_eq.mp x).elim (h j) λe=>e ▸ z
    ·show .inr #[n,h,z]
   ·show .inr h
 rcases h (y.length+1)with h|h
 ·show absurd (h y.length<|zK _).1 (qL _)
 ·show h
def Ff(z:lQ Bool)(len:Nat):rN z len (qz z len):=by
 obtain⟨m,h⟩:=ZD z len;rw[<-h.eq];show h
def Yg0(y:lQ Bool)(len:Nat):qz y len<=y.length:=by
 rcases xw y.length (qz y len)with z|z
 ·show absurd ((Ff y len).1 _ z).1 (qL _)
 ·show z
def Zzb(z:lQ Bool)(len:Nat):qz (z.drop<|qz z len) len=0:=by
 have h:=(Ff z len).2;refine(rN.eq #[λj y=>absurd y<|vT _,λg=>h ?_]).symm;obtain⟨a,b,c⟩:=g;refine#[?_,?_,?_]
 ·rw[sP]at a;show Nat.lt_of_sub_pos a
 ·rw[qo,Ad]at b;rw[qo];show b
 ·rw[Fj,BP]at c;show c
def UL(z:lQ (lR×Bool))(y:lQ (lR×Nat))(val:lR->lQ Zr):Yv z y (Yv z y val)=Yv z y val:=funext λt=>by
 change((val t).drop _).drop (qz (((val t).drop _).map (Wo z))<|Xa y t)=(val t).drop _;rw[wE,Zzb,Ec]
def nM.offZ{F Z:lS->Prop}{val:lR->lQ Zr}(h:nM U q H F x p ad l val j)(k:∀b o,¬Z b->H b=some o->H' b=some o)(u:∀b,Z b->¬F b/\q b=none/\b≠ad.ld/\b≠ad.sd/\∃kvs,H b=some (.dK kvs)):nM U q H' F x p ad l val j:=by
 have f:∀{b:lS}{o:HO},F b->H b=some o->H' b=some o:=λz e=>k _ _ (λy=>(u _ y).1 z) e
 refine#[f h.fx h.obj,k _ _ (λy=>(u _ y).2.2.1 rfl) h.lies,k _ _ (λy=>(u _ y).2.2.2.1 rfl) h.sti,f h.fn h.lens,#[f h.fp h.pth.1,λe he=>?_],h.nm,h.lnd,h.len,h.vl,h.ok,h.fx,h.fn,h.fp,h.ne,h.nl,h.ns,h.ni,h.free,λb v e=>k _ _ (λy=>by have:=(u _ y).2.1;rw[this]at e;cases e)<|h.same.at e,(λb z=>let⟨v,y,n⟩:=h.live b z;#[v,f z y,n]),h.kx];obtain⟨i,s,g⟩:=h.pth.2 e he;show#[i,k _ _ (λy=>by obtain⟨_,z⟩:=(u _ y).2.2.2.2;rw[z]at s;cases s) s,nK g λt _ r=>k _ _ (λy=>by obtain⟨_,z⟩:=(u _ y).2.2.2.2;show nomatch z.symm.trans r) r]
def nM.tupF{F:lS->Prop}{val:lR->lQ Zr}(h:nM U y H F x u ad s val r)(z:H b=some (.tup xs)):¬F b:=λf=>by
 obtain⟨o,e,n⟩:=h.live b f;show n _<|oK<|e.symm.trans z
structure LQ(T:Tx K mg)(H0:Hp)(x tr hl tl:Addr)(n:Nat)(H:Hp)(F:Addr->Prop)(ad:pQ)(lw:List (Str×Str))(val:Str->List Zr)(ln tn:List (Str×Nat)):Prop where
 k:nM T H0 H F x tr ad lw val ln
 tls:H tl=some (.dK<|pW tn)
 tnd:(tn.map fst).Nodup
 tnm:∀t,t∈tn.map fst↔t∈ln.map fst
 tlt:∀t∈ln.map fst,Xa tn t<(val t).length
 l4:∀p∈ln,1<=p.2/\p.2<=4
 nF:¬F hl
 nT:¬F tl
 n0:H0 hl=none
 t0:H0 tl=none
 nl:tl≠ad.ld
 ns:tl≠ad.sd
 held:Af H (λb=>F b\/b=hl\/b=tl) hl n
def LQ.next{F p:lS->Prop}{val val':lR->lQ Zr}(h:LQ U g x d s r n H F ad a val l Q)(k:nM U g H' p x d j a val' l)(f:∀b,p b->F b\/H b=none)(off:∀b o,¬F b->b≠r->H b=some o->H' b=some o)(N:j.ld=ad.ld)(M:j.sd=ad.sd)(L:H' r=some (.dK<|pW i))(Y:i.map fst=Q.map fst)(J:∀t∈l.map fst,Xa i t<(val' t).length):LQ U g x d s r n H' p j a val' l i:=by
 obtain⟨y,q,_⟩:=id h.held;have I:s≠r:=λz=>by have:=h.tls;rw[<-z,q]at this;cases this
 have e:H' s=H s:=by rw[q];show off _ _ h.nF I q
 refine#[k,L,by rw[Y];show h.tnd,λt=>by rw[Y];show h.tnm t,J,h.l4,(λz=>(f _ z).elim h.nF λw=>by rw[q]at w;cases w),(λz=>(f _ z).elim h.nT λw=>by rw[h.tls]at w;cases w),h.n0,h.t0,N ▸ h.nl,M ▸ h.ns,h.held.on (λc u e z=>off c u (λy=>z<|.inl y) (λy=>z<|.inr<|.inr y) e) (λc z=>?_) e];rcases z with z|z
 ·show(f c z).imp .inl id
 ·show .inl<|.inr z
def LQ.mono{F:lS->Prop}{val:lR->lQ Zr}(h:LQ U y x u r q n H F ad p val o l)(s:mC H H'):LQ U y x u r q n H' F ad p val o l:=h.next (h.k.mono s) (λ_ z=>.inl z) (λ_ _ _ _ z=>s.at z) rfl rfl (s.at h.tls) rfl h.tlt
def LQ.he{F:lS->Prop}{val:lR->lQ Zr}(h:LQ U Y x Q j N n H F ad M val L J):∀e∈ad.es,e.2≠j:=λe he z=>by
 obtain⟨s,i,_,g⟩:=id h.held;obtain⟨c,y,q⟩:=h.k.pth.2 e he;have p:=h.tlt e.1<|h.k.nm ▸ mX.mpr #[e,he,rfl];rw[z,i]at y;have y:s.map V.ref=c.map V.ref:=HO.lst.inj<|oK y;generalize val e.1=I at q p;cases q with
 | nil=>show vT _ p
 | cons r _ =>
  cases s with
  | nil=>cases y
  | cons u s =>
   obtain⟨l,d,o,_⟩:=g u ph;have a:u=_:=V.ref.inj (Go y).1;rw[a]at o;have:=(Ip o).1.symm.trans r;cases this
def LQ.app{F:lS->Prop}{val:lR->lQ Zr}(h:LQ U I x E r p n H F ad C val B A)(hu:H r=some (.lst us))(s:mC H G)(Q:H j=none)(N:G j=some (.tup [.ref D,.str d.shown]))(sh:Wa 24000 3 d)(nD:¬F D/\D≠r/\D≠p)(rp:∀H',(∀b o,G b=some o->¬F b->b≠r->b≠p->H' b=some o)->Rp H' d (.ref D)):LQ U I x E r p (n+1) (mJ G r<|.lst<|us++[.ref j]) F ad C val B A:=by
 obtain⟨g,i,J,h3⟩:=h.held;obtain rfl:us=g.map V.ref:=HO.lst.inj<|oK<|hu.symm.trans i;have M:=s.at i;have ht:p≠r:=λz=>by have:=h.tls;rw[z,i]at this;cases this
 have c:j≠r:=λy=>by rw[y,i]at Q;cases Q
 have a:∀{l:lS}{L:lQ V},G l=some (.tup L)->¬(F l\/l=r\/l=p):=λ{l L} z y=>by
  rcases y with y|y|y
  ·show(h.k.mono s).tupF z y
  ·rw[y,M]at z;cases z
  ·rw[y,s.at h.tls]at z;cases z
 have q:∀{b:lS}{o:HO},b≠r->G b=some o->mJ G r (.lst<|g.map V.ref++[.ref j]) b=some o:=λnb z=>by rw[Zd nb];show z
 refine#[(h.k.mono s).setU M (λ_ z=>nomatch z) h.he h.nF (λz=>?_) (λz=>?_) h.n0,q ht<|s.at h.tls,h.tnd,h.tnm,h.tlt,h.l4,h.nF,h.nT,h.n0,h.t0,h.nl,h.ns,g++[j],by rw[Zc,nj];rfl,by rw[nX];simp;lia,λu Y=>?_]
 ·have:=h.k.lies;rw[<-z,i]at this;cases this
 ·have:=h.k.sti;rw[<-z,i]at this;cases this
 rcases oj.mp Y with z|z
 ·obtain⟨l,d',x1,x2,x3⟩:=h3 u z;have J:mC (uv (λb=>F b\/b=r\/b=p) H) (uv (λb=>F b\/b=r\/b=p)<|mJ G r<|.lst<|g.map V.ref++[.ref j]):=KD (λb o e w=>q (λy=>w<|.inr<|.inl y)<|s.at e) λb w=>.inl w
  show#[l,d',J.at x1,EB J x2,x3]
 ·rw[oP.mp z];show#[D,d,Ho (q c N)<|a N,rp _ λb o e n1 J n3=>Ho (q J e) λy=>y.elim n1 λy=>y.elim J n3,sh]
inductive KG(T:Tx K mg):Sp
 | mk (H0) (F:lS->Prop) (x tr hl tl sd) (ad:pQ) (lw:lQ (lR×lR)) (val:lR->lQ Zr) (ln tn:lQ (lR×Nat)) (n:Nat) (td:lQ (lR×Bool)) (rt:Bool):vs=[.ref x,.ref tl,.ref sd,.bl rt,.ref hl]->LQ T H0 x tr hl tl n H F ad lw val ln tn->n<=10->H sd=some (.dK<|Zx V.bl td)->¬F sd->sd≠tl->
  (∀p∈ln,qz ((val p.1).map (Wo td)) p.2<=Xa tn p.1/\(rt=true->Xa tn p.1+p.2<=(val p.1).length->qz ((val p.1).map (Wo td)) p.2=Xa tn p.1))->
  (∀(H':Hp)(F':lS->Prop)(D8:pQ)(D6:lQ (lR×Nat)),(∀b,F' b->F b\/H b=none)->(∀b o,¬F b->b≠tl->b≠hl->H b=some o->H' b=some o)->LQ T H0 x tr hl tl (n+1) H' F' D8 lw (Yv td ln val) ln D6->Q (.bl true) H')->KG T vs H Q E
def WB{H:Hp}{a b:lS}{f:lR->Int}{ss:lQ lR}(z:H a=some (.lst<|ss.map λt=>V.int<|f t))(y:H b=some (.lst<|ss.map λt=>V.int<|f t)):zo K H (.ref a) (.ref b):=by
 have p:Paired (Im K H 0) (ss.map λt=>Tr.int<|f t) (ss.map λt=>V.int<|f t):=by
  clear z y
  induction ss with
  | nil=>show .nil
  | cons t ss x=>show .cons (.int _) x
 show .inl<|.inr #[1,_,by lk,tS (n:=0) (mO z) p,tS (n:=0) (mO y) p]
def Yi.offZ{Z:lS->Prop}(p:Yi H l ss)(k:∀b o,¬Z b->H b=some o->H' b=some o)(u:∀b,Z b->∃kvs,H b=some (.dK kvs)):Yi H' l ss:=by
 obtain⟨s,x,q⟩:=p;show#[s,k _ _ (λy=>by obtain⟨_,z⟩:=u _ y;rw[z]at x;cases x) x,nK q λt _ r=>k _ _ (λy=>by obtain⟨_,z⟩:=u _ y;show nomatch z.symm.trans r) r]
def Of(y:(z.map fst).Nodup)(u:t∈z.map fst)(h:H s=some (.dK<|pW z)):Xk H s (.str t) (some<|.int (Xa z t:Int)):=by
 obtain⟨p,x,rfl⟩:=mX.mp u;rw[wl y x,<-Wc (f:=λn:Nat=>V.int (n:Int)) (q:=p) y x];show qB (k:=Sum.inr p.1) h
def QI(x:lQ (lR×Nat))(t y:lR)(m:Nat):Xa (pC x t m) y=if y=t then m else Xa x y:=by
 unfold Xa;rw[DZ]
 by_cases z:y=t
 ·rw[mU z,mU z];rfl
 ·rw[mT z,mT z]
inductive QA(HL:Hp)(x tl sd hl D rl r:Addr)(rt:Bool)(o:Obj)(es:List (Str×Addr))(val val1:Str->List Zr)(tn:List (Str×Nat))(i:Nat):St->Hp->Prop
 | mk (o6 z9 C4 K4 D6):(∀b u,b≠tl->b≠D->HL b=some u->H' b=some u)->H' D=some (.frz o<|.dK<|Zx V.ref es)->H' tl=some (.dK<|pW D6)->D6.map fst=tn.map fst->(∀t,Xa D6 t=if t∈(es.map fst).take i then Xa tn t-((val t).length-(val1 t).length)else Xa tn t)->H' K4=some (.lst<|(qU val val1<|(es.map fst).take i).map V.str)->K4≠hl->QA HL x tl sd hl D rl r rt o es val val1 tn i [some (.ref x),some<|.ref tl,some<|.ref sd,some<|.bl rt,some<|.ref hl,some<|.ref D,o6,some<|.ref rl,some<|.ref r,some<|.ref K4,z9,C4] H'
def ZT(hb:∃mm,mD.Ns sysModules mm):T.dQ.O P w mg mD 11 (KG T):=by
 refine T.dQ.F.okW Y6 ?_;rfl'
 ·obtain⟨N,F,x,J,B,U,sd,ad,I,val,d,tn,n,c,rt,rfl,L,g,N6,nFs,nst,hA,q⟩:=h;intro X D;have Y:=L.k;have j7:=Y.len;refine mM (mY 5 Y6<|Y1 (pv 0) T.ae T.fO (Zka T) hr.m T.cE.b .nil Z0) #[Y.obj,rfl,N,F,x,J,ad,I,val,d,rfl,Y,λss D es g p1 p2 s1 n1 P1 m1 f1=>?_];have D4:ss.length<=10:=by rw[p1.length_eq,mK];show j7
  have y8:=Y.mono s1;refine mM (mY 7 Y6<|Zm<|Zb (Y1 (pv 0) T.ae T.dU (Ji T) hr.m T.ck.b .nil Z0)<|Zb (Y1 (pv 0) T.ae T.dF (KU T) hr.m T.bO.b .nil Z0)<|Zb (pF ["_law_name","_law_keeper"] (oR 1 [0] rfl) (Ya<|Y1 (pv 0) T.ae T.aM (Y2 T) hr.m T.aq.b .nil Z0) (oA 0) Wb (Yb (pv 1) T.ae T.cq (W2 T) hr.m T.aT.b .nil Z0<|Zb (pv 0) Za)) Za) #[y8.obj,rfl,N,F,x,J,ad,I,val,d,rfl,y8,λg a s2 n2 e2=>#[(y8.mono s2).obj,rfl,N,F,x,J,ad,I,val,d,rfl,y8.mono s2,λsts p3 p4 G H3 s3 n3 e3=>#[(y8.mono<|s2.trans s3).obj,rfl,N,F,x,J,ad,I,val,d,rfl,y8.mono<|s2.trans s3,λS2 p5 p6 l4 H4 s4 n4 e4=>?_]]];obtain rfl:=zL p2 p6<|p1.trans p5.symm;have N2:=s1.trans<|s2.trans<|s3.trans s4;refine#[mO e4,λC hC=>Mw (Y.mono N2) p1 e4 hC (λg s5 hC5=>#[mQ,λrl H6 s6 n6 e6=>?_]) rfl (λ_ _ _ h=>h) λp hp H' Q' k q=>#[k.obj,rfl,N,F,x,J,ad,I,val,d,p,rfl,k,hp,q]];have F4:=N2.trans<|s5.trans s6;have hw6:=Y.mono F4;have q6:∀{b:lS},H b=none->b≠B/\b≠U:=λy=>#[λu=>(by obtain⟨_,h1,_⟩:=L.held;rw[u,h1]at y;cases y),λu=>(by rw[u,L.tls]at y;cases y)]
  refine mM (mY 8 Y6<|Yb (pv 0) T.ae T.dS (Lq T) hr.m T.cj.b .nil Z0<|Zb (pv 2) Za) #[hw6.obj,rfl,N,F,x,J,sd,ad,I,val,d,c,rfl,hw6,nFs,F4.at N6,λr H7 F7 G a ss7 g fr7 off7 nr7 nFr pm7 so7 er7 k7=>?_];refine mM (mY 9 Y6<|Zm Za) #[mQ,λdu H8 s8 n8 e8=>?_];have k8:=k7.mono s8;have at8:∀{b:lS}{o:HO},¬F b->H6 b=some o->H8 b=some o:=λnb y=>s8.at<|off7 _ _ nb y
  have nD:=Y.neF n1;have P8:Yo H8 D es val:=#[at8 nD<|(s2.trans<|s3.trans<|s4.trans<|s5.trans s6).at P1.1,λe he=>((hw6.keepP off7 (Y.neF<|f1 e he)<|(P1.2 e he).mono (s2.trans<|s3.trans<|s4.trans<|s5.trans s6)).mono s8)]
  have t8:H8 U=some (.dK<|pW tn):=at8 L.nT<|F4.at L.tls;have esn:(es.map fst).Nodup:=by rw[m1];show p1.nodup_iff.mpr Y.lnd
  have nT7:¬F7 U:=λy=>(fr7 _ y).elim L.nT λu=>by rw[F4.at L.tls]at u;cases u
  have nD7:¬F7 D:=λy=>(fr7 _ y).elim nD λu=>by rw[(s2.trans<|s3.trans<|s4.trans<|s5.trans s6).at P1.1]at u;cases u
  have zz:∀b,(b=U\/b=D)->¬F7 b/\N b=none/\b≠ad.ld/\b≠ad.sd/\∃kvs,H8 b=some (.dK kvs):=λb y=>by
   rcases y with rfl|rfl
   ·show#[nT7,L.t0,L.nl,L.ns,_,t8]
   ·show#[nD7,Y.same.free n1,(λy=>by rw[y,Y.lies]at n1;cases n1),(λy=>by rw[y,Y.sti]at n1;cases n1),_,P8.1]
  have Dt:D≠U:=(q6 n1).2;have h8:∃us,H8 B=some (.lst us)/\H7 B=some (.lst us):=by
   obtain⟨us,h1,_⟩:=L.held;show#[_,at8 L.nF<|F4.at h1,off7 _ _ L.nF<|F4.at h1]
  obtain⟨g,h8⟩:=h8;have mlt:∀p∈d,(val p.1).length-(Yv c d val p.1).length=qz ((val p.1).map (Wo c)) p.2/\Yv c d val p.1=(val p.1).drop (qz ((val p.1).map (Wo c)) p.2)/\qz ((val p.1).map (Wo c)) p.2<=(val p.1).length:=λp hp=>by
   have e:Yv c d val p.1=(val p.1).drop (qz ((val p.1).map (Wo c)) p.2):=by
    unfold Yv;rw[wl Y.lnd hp]
   have l:=Yg0 ((val p.1).map (Wo c)) p.2;rw[mK]at l;refine#[?_,e,l];rw[e,sP];lia
  let I31:IC:=λz H'=>∃o6 z9 C4 K4 D6,z=[some (.ref x),some<|.ref U,some<|.ref sd,some<|.bl rt,some<|.ref B,some<|.ref D,o6,some<|.ref rl,some<|.ref r,some<|.ref K4,z9,C4]/\(∀b o,b≠U->H8 b=some o->H' b=some o)/\H' U=some (.dK<|pW D6)/\D6.map fst=tn.map fst/\(∀t∈ss,Xa D6 t=Xa tn t-((val t).length-(Yv c d val t).length))/\H' K4=some (.lst<|(qU val (Yv c d val) ss).map V.str)/\K4≠B
  refine pL I31 ?_ ?_
  ·refine pN (zx<|Yw oO rfl (MF<|pv 5) (nZ 6 Y6) Zn) #[P8.1,λo nf=>Ya1 (QA H8 x U sd B D rl r rt o es val (Yv c d val) tn) (.mk none none none du tn (λb i nt nd y=>by rw[Zd nd];show y) Zc (by rw[Zd Dt.symm];show t8) rfl (λt=>rfl) ?_ λu=>by rw[u,h8.2]at n8;cases n8) ?_ ?_ ?_]
   ·rw[Zd (λu=>by rw[u,P8.1]at e8;cases e8)];show e8
   ·rintro g z H' _ ⟨o6,z9,C4,K4,D6,_,a,_⟩;show a
   ·rintro g kv z H9 hi ⟨o6,z9,C4,K4,D6,sm,hD9,ht9,w4,hlF,M,dh⟩;obtain⟨e,R8,he,V2,rfl⟩:=Dm hi;have kk:nM T N H9 F7 x J _ I (Yv c d val) d:=k8.offZ (Z:=λb=>b=U\/b=D) (λb o nz y=>sm b o (λu=>nz<|.inl u) (λu=>nz<|.inr u) y) zz;obtain⟨ts,h1,h2⟩:=(P8.2 e R8).offZ (Z:=λb=>b=U\/b=D) (H':=H9) (λb o nz y=>sm b o (λu=>nz<|.inl u) (λu=>nz<|.inr u) y) λb y=>(zz b y).2.2.2.2
    have C3:g<(es.map fst).length:=(oo.mp V2).1;have hnot:e.1∉(es.map fst).take g:=xl esn V2;obtain⟨p,hp,N3⟩:∃p∈d,p.1=e.1:=mX.mp (p1.mem_iff.mp (by rw[<-m1];show vP R8));obtain⟨hm1,hm2,hm3⟩:=mlt p hp;obtain⟨hA1,hA2⟩:=hA p hp;rw[N3]at hm1 hm2 hm3 hA1 hA2;generalize qz ((val e.1).map (Wo c)) p.2=m at hm1 hm2 hm3 hA1 hA2;have J8:e.1∈d.map fst:=N3 ▸ vP hp;have dgD:∀{G:Hp},mC H9 G->Xk G D (.str e.1) (some<|.ref e.2):=λs=>by
     rw[<-Wc (f:=V.ref) esn R8];show .inl #[_,Sum.inr e.1,.inr #[o,s.at hD9],rfl,rfl]
    have dgT:∀{G:Hp},mC H9 G->Xk G U (.str e.1) (some<|.int (Xa tn e.1:Int)):=λs=>by
     have:=Of (t:=e.1) (by rw[w4];show L.tnd) (by rw[w4];show(L.tnm e.1).mpr J8)<|s.at ht9;rw[hlF,mT hnot]at this;show this
    have tl1:=nH h2;refine mM (mY 10 Y6<|Zp vM (pp T.aX<|Y3 (Ys hr) (pv 5) (pv 6) λ_ _=>rfl)<|pp T.aX<|Yb (pv 0) T.ae T.aV (Xi T) hr.m T.aD.b .nil Z0<|Zb (pv 6) Za)<|rM.mk (dgD<|qc _)<|.inl #[.inl<|mO h1,kk.obj,rfl,N,F7,x,J,_,I,_,d,e.1,rfl,kk,J8,λl4 K1 u9 n10 ⟨ts4,a,h5⟩=>.inl #[.inl<|mO a,?_]];have tl2:=nH h5;have T1:((ts.map V.ref).length:Int)-((ts4.map V.ref).length:Int)=(m:Int):=by
     rw[mK,mK,tl1,tl2];have:(Yv c d val e.1).length=(val e.1).length-m:=by rw[hm2,sP]
     lia
    have kk2:=kk.mono u9;refine mM (mY 11 Y6<|uT sw (Zp Wm (Y3 (Ys hr) (pv 1) (pv 6) λ_ _=>rfl)<|Yb (pv 0) T.ae T.cq (W2 T) hr.m T.aT.b .nil Z0<|Zb (pv 6) Za) (pp T.aX<|Y3 (Ys hr) (pv 5) (pv 6) λ_ _=>rfl)<|Yn _)<|rM.mk (dgT u9) #[kk2.obj,rfl,N,F7,x,J,_,I,_,d,p,by rw[N3];rfl,kk2,hp,λP0 A7=>.inl<|rM.mk (dgD<|u9.trans A7)<|.inl #[.inl<|mO<|(u9.trans A7).at h1,?_]];have U5:=u9.trans A7;have kk3:=kk.mono U5;let I32:IC:=λz H'=>(∃z9 C4,z=[some (.ref x),some<|.ref U,some<|.ref sd,some<|.bl rt,some<|.ref B,some<|.ref D,some<|.str e.1,some<|.ref rl,some<|.ref r,some<|.ref K4,z9,C4]/\z9=some (.int (m:Int)))/\H'=P0
    refine pL I32 (pN (Zv (qj<|qr (Xc<|zm sw sw Zf (pv 10)<|Y3 (Ys hr) (pv 1) (pv 6) λ_ _=>rfl)<|sv<|qj<|wY (Ym<|pv 3)<|wY (Ym<|pv 11)<|yU<|rH hr (pv 10)<|Y3 (Ys hr) (pv 1) (pv 6) λ_ _=>rfl) Zn Zk) ?_) ?_
    ·have fin:∀{C4:lV V},(∃a b,([some (.ref x),some<|.ref U,some<|.ref sd,some<|.bl rt,some<|.ref B,some<|.ref D,some<|.str e.1,some<|.ref rl,some<|.ref r,some<|.ref K4,some<|.int<|((ts.map V.ref).length:Int)-((ts4.map V.ref).length:Int),C4]:St)=[some (.ref x),some<|.ref U,some<|.ref sd,some<|.bl rt,some<|.ref B,some<|.ref D,some<|.str e.1,some<|.ref rl,some<|.ref r,some<|.ref K4,a,b]/\a=some (.int (m:Int)))/\P0=P0:=#[#[_,_,rfl,by rw[T1]],rfl]
     refine Yh (λ_=>rM.mk (dgT U5)<|Yh (λh=>?_) λ_=>Yh (λhrt=>Yh (λhwh=>rM.mk (dgT U5)<|.inl #[rfl,?_]) λ_=>fin) λ_=>fin) λh=>absurd (nS (show(0:Int)<=_ by rw[T1];lia)) h
     ·rw[T1,nS (show(m:Int)<=(Xa tn e.1:Int) by lia)]at h;cases h
     ·have hwh:=pq hwh;rw[show(((ts.map V.ref).length:Int))=((val e.1).length:Int) by rw[mK,tl1]]at hwh;have a:(m:Int)=(Xa tn e.1:Int):=by rw[hA2 hrt (by lia)]
      refine oB.f ?_<|wg fin;change(!decide (V.int (((ts.map V.ref).length:Int)-((ts4.map V.ref).length:Int))=V.int (Xa tn e.1:Int)))=false;rw[T1.trans a,nS rfl]
      rfl
    rintro z P0 ⟨⟨z9,C4,rfl,rfl⟩,rfl⟩;refine mM (Zv (rH hr (Yb (pv 0) T.ae T.aV (Xi T) hr.m T.aD.b .nil Z0<|Zb (pv 6) Za)<|Xq (r:=qN K) qZ (Y3 (Ys hr) (pv 5) (pv 6) λ_ _=>rfl) (Xw<|pv 10) Wl) Zn Zk) #[kk3.obj,rfl,N,F7,x,J,_,I,_,d,e.1,rfl,kk3,J8,λl12 H12 A2 n12 p12=>rM.mk (dgD<|U5.trans A2)<|.inr<|.inl #[mO<|(U5.trans A2).at h1,λl13 H13 v6 a iu=>?_]];have iu:H13 l13=some (.lst<|qi (ts.map V.ref) (some (m:Int)) none):=iu;rw[wA,<-wE]at iu;have s913:=U5.trans<|A2.trans v6;have p13:Yi H13 l13 ((val e.1).drop m):=#[_,iu,sr.mono s913<|HH h2 m]
    have p12':=p12.mono v6;rw[hm2]at p12';refine .inr<|.inl #[2,_,_,by lk,.inr #[_,_,rfl,rfl],p12'.im,p13.im,?_];rw[mU rfl,nS rfl];refine oB.f rfl<|wg ?_;refine mM (mY 9 Y6<|Zp Wm (pv 9)<|pF ["_law_step"] (oR 1 [] rfl) (Ya<|Xq (r:=qN K) qZ (Y3 (Ys hr) (pv 5) (pv 6) λ_ _=>rfl) Wl<|Xw<|pv 10) (oA 0) Wb (qH (K:=K) rfl (pv 0) Zf))<|rM.mk (dgD s913)<|.inr<|.inl #[mO<|s913.at h1,λl14 U8 x9 n14 gq=>?_];have gq:U8 l14=some (.lst<|qi (ts.map V.ref) none<|some (m:Int)):=gq;rw[yA,<-tH]at gq;have s914:=s913.trans x9;have J7:=Y.vl e.1;have hdl:=ED (val':=Yv c d val) Y.vl<|(es.map fst).take g;have P6:(es.map fst).length<=10:=by rw[m1];show D4
    rw[oh]at hdl;refine#[mO gq,λC hC=>Kz (f:=fst) gq (nK (Ih h2 m) λ_ _ r=>#[_,s914.at r]) (by rw[oh];lia) hC (λH15 B3 hC15=>?_) rfl (λ_ _ _ h=>h) λ_ _ _ _ _ _ e h q=>oV.of e<|.inr<|.inl #[mW h,Zq (j:=0) rfl,q]];have s915:=s914.trans B3;refine .inr<|.inr #[s915.at M,hC15,?_,λl16 H16 B1 n16 iY=>?_]
    ·rw[mK,mK,mK,oh];have a:sizeLine=16777216:=rfl;lia
    have s916:=s915.trans B1;have t16:=s916.at ht9;have htl10:D6.length<=10:=by
     have:=oE List.length w4;rw[mK,mK]at this;have h2:(tn.map fst).length<=(d.map fst).length:=xD L.tnd λt ht=>(L.tnm t).mp ht
     rw[mK,mK]at h2;lia
    refine mP (X6 (Ys hr) (pv 1) (pv 6) (Zp vM (Y3 (Ys hr) (pv 1) (pv 6) λ_ _=>rfl)<|pv 10) rfl) (rM.mk (dgT s916)<|xv.mk (sQ (k:=Sum.inr e.1) t16<|Zo<|by rw[show(pW D6).length=D6.length from mK ..];lia)<|.mk _ _ _ l16 (pC D6 e.1<|Xa tn e.1-m) (λb i nt nd y=>by rw[Zd nt];show s916.at<|sm b i nt nd y) (by rw[Zd Dt];show s916.at hD9) ?_ ?_ (λt=>?_) ?_ λu=>by rw[u,s915.at<|sm _ _ (λw=>by rw[w,t8]at h8;cases h8.1) (λw=>by rw[w,P8.1]at h8;cases h8.1) h8.1]at n16;cases n16)
    ·rw[Zc];have:=xf (f:=λn:Nat=>V.int (n:Int)) D6 e.1<|Xa tn e.1-m;rw[show((Xa tn e.1-m:Nat):Int)=(Xa tn e.1:Int)-(m:Int) by lia]at this;show oE (λy=>some<|HO.dK y) this
    ·rw[DJ,mU (by rw[w4];show(L.tnm e.1).mpr J8)];show w4
    ·rw[QI,og,V2,hlF,show(some e.1).toList=[e.1]from rfl]
     by_cases y:t=e.1
     ·rw[mU y,y,mU<|qv _<|oP.mpr rfl,hm1]
     ·rw[mT y]
      by_cases u:t∈(es.map fst).take g
      ·rw[mU u,mU<|xc _ u]
      ·rw[mT u,mT λw=>(oj.mp w).elim u λw=>y<|oP.mp w]
    ·rw[Zd (λy=>by rw[y,t16]at iY;cases iY),iY,og,V2,<-nj];congr 4;unfold qU;rw[xR,hm1.symm];congr 1;show(pH _).symm
   ·rintro z H9 ⟨o6,z9,C4,K4,D6,sm,hD9,ht9,w4,hlF,M,dh⟩;rw[Bf,oJ,m1]at M;rw[Bf,oJ,m1]at hlF;refine#[D,o,_,hD9,nf,o6,z9,C4,K4,D6,rfl,λb i nt y=>?_,by rw[Zd Dt.symm];show ht9,w4,λt ht=>by rw[hlF,mU ht],by rw[Zd (λu=>by rw[u,hD9]at M;cases M)];show M,dh]
    by_cases u:b=D
    ·rw[u,Zc,<-P8.1,<-u];show y
    ·rw[Zd u];show sm b i nt u y
  rintro z H9 ⟨o6,z9,C4,K4,D6,rfl,sm,ht9,w4,hlF,M,dh⟩;have k9:nM T N H9 F7 x J _ I (Yv c d val) d:=k8.offZ (Z:=λb=>b=U) (λb o nz y=>sm b o nz y) λb y=>zz b<|.inl y
  have off9:∀b o,¬F b->b≠U->H b=some o->H9 b=some o:=λb o nb nt y=>sm b o nt<|at8 nb<|F4.at y
  have L9:LQ T N x J B U n H9 F7 _ I (Yv c d val) d D6:=L.next k9 (λb y=>(fr7 b y).imp id F4.free) off9 rfl rfl ht9 w4 λt ht=>by
   obtain⟨p,hp,rfl⟩:=mX.mp ht;obtain⟨hm1,hm2,hm3⟩:=mlt p hp;have:=(hA p hp).1;have:=L.tlt p.1 ht;rw[hlF p.1 (p1.mem_iff.mpr ht)];lia
  have r9:H9 r=some (.lst<|ss7.map V.str):=sm _ _ (q6<|F4.free nr7).2 (s8.at er7);have pd9:(qU val (Yv c d val) ss).Perm (qU val (Yv c d val)<|d.map fst):=List.Perm.flatMap_right _ p1;have h40:(qU val (Yv c d val) ss).length<=40:=by
   have:=NS (val':=Yv c d val) Y.lnd Y.kx.pok (by rw[<-Y.nm];show Y.kx.pdj);have:=Y.kx.nok.1;rw[pd9.length_eq];lia
  obtain⟨us,hu1,g,_⟩:=id L9.held;have sh:Wa 24000 3 (.list<|ss7.map PyData.str):=(Zvm (m:=40) (λt ht=>by
   obtain⟨i,_,a⟩:=uj.mp<|pm7.mem_iff.mp ht;obtain⟨G,g,rfl⟩:=mX.mp a;show Y.kx.nok.2 _ ((Y.kx.pok i).1 G (uX g)).1) (by rw[pm7.length_eq,<-pd9.length_eq];show h40)).up (by lk) (by lk)
  refine mM (Z3<|rO (pv 4)<|Zi<|Zb (pv 8)<|Zb (Z4 (r:=EJ) (MQ hb hr.gd hr.units) (by rfl) T.iJ IH<|Zb (Z4 (r:=CM K) Es (by rfl) T.cH vG<|Zb (pv 9) Za) Za) Za) #[.inl #[rfl,_,mO hu1],K4,_,rfl,mO M,by lia,λg p10 q10 l10 K1 u9 n10 jw=>?_];obtain rfl:=zL so7 q10<|pm7.trans<|pd9.symm.trans p10.symm;refine#[l10,_,rfl,IU jw,sh.1,ow sh.2.2.1 (by lk),sh.shown (by lk),mQ,λt11 P0 A7 n11 iX=>#[(u9.trans A7).at hu1,by rw[mK];show Zo (by lia),?_]];have L11:=L9.app hu1 (u9.trans A7) (u9.free n11) iX sh #[nFr,(q6<|F4.free nr7).1,(q6<|F4.free nr7).2] λH' kp=>IU<|kp _ _ ((u9.trans A7).at r9) nFr (q6<|F4.free nr7).1 (q6<|F4.free nr7).2
  have hG:∀{b:lS}{o:HO},b≠B->P0 b=some o->mJ P0 B (.lst<|us.map V.ref++[.ref t11]) b=some o:=λnb y=>by rw[Zd nb];show y
  generalize mJ P0 B _=HG at L11 hG ⊢;have g9:∀{b:lS}{o:HO},b≠B->H9 b=some o->HG b=some o:=λnb y=>hG nb<|(u9.trans A7).at y
  have keep:∀{b:lS}{o:HO},H b=none->H6 b=some o->HG b=some o/\¬F7 b:=λy u=>#[g9 (q6 y).1 (sm _ _ (q6 y).2 (at8 (Y.neF y) u)),λf=>(fr7 _ f).elim (Y.neF y) λw=>by rw[u]at w;cases w]
  have nh:∀{b:lS}{kvs:lQ (ng×V)},H b=some (.dK kvs)->b≠B:=λy u=>by obtain⟨_,h1,_⟩:=L.held;rw[u,h1]at y;cases y
  have hsG:HG sd=some (.dK<|Zx V.bl c):=g9 (nh N6)<|off9 _ _ nFs nst N6;have nF7:∀{b:lS}{o:HO},¬F b->H b=some o->¬F7 b:=λnb y f=>(fr7 _ f).elim nb λw=>by rw[F4.at y]at w;cases w
  have duG:HG K4=some (.lst<|(qU val (Yv c d val) ss).map V.str):=g9 dh M;refine mM (Zv (qj<|qr (rH hr (pv 8)<|Z4 (r:=CM K) Es (by rfl) T.cH vG<|Zb (pv 9) Za)<|sv<|rH hr (Yb (pv 0) T.ae T.dS (Lq T) hr.m T.cj.b .nil Z0<|Zb (pv 2) Za)<|Zm Za) Zn Zk) #[K4,_,rfl,mO duG,by lia,λg p12 q12 l12 H12 A2 n12 jx=>?_];obtain rfl:=zL so7 q12<|pm7.trans<|pd9.symm.trans p12.symm;refine .inr<|.inl #[1,_,_,by lk,.inr #[_,_,rfl,rfl],Wt<|A2.at<|g9 (q6<|F4.free nr7).1 r9,Wt jx,?_];rw[mU rfl,nS rfl];have L12:=L11.mono A2;refine oB.f rfl<|wg #[L12.k.obj,rfl,N,F7,x,J,sd,_,I,_,d,c,rfl,L12.k,nF7 nFs N6,A2.at hsG,λr13 H13 F13 d13 a ss13 g fr13 S3 G nF13 pm13 so13 er13 k13=>#[mQ,λl14 U8 x9 n14 gq=>?_]];rw[UL]at k13 pm13;obtain rfl:ss13=[]:=by
   refine uD.mp<|pm13.length_eq.trans<|uD.mpr ?_;refine List.flatMap_eq_nil_iff.mpr λt _=>?_
   rw[GY]
   rfl
  refine .inr<|.inl #[1,.lst [],.lst [],by lk,.inr #[_,_,rfl,rfl],Wt (ss:=[])<|x9.at er13,Wt (ss:=[]) gq,?_];rw[mU rfl,nS rfl];refine oB.f rfl<|wg ?_;have L14:LQ T N x J B U (n+1) U8 F13 _ I (Yv c d val) d D6:=(L12.next k13 fr13 (λb o nb _ y=>S3 b o nb y) rfl rfl (S3 _ _ L12.nT L12.tls) rfl L12.tlt).mono x9;have q14:∀{b:lS}{o:HO},H b=none->H6 b=some o->U8 b=some o:=λy u=>x9.at<|S3 _ _ (keep y u).2 (A2.at (keep y u).1)
  refine mP (Zl<|uT (r:=NN K) (TV hr.units) (pv 7) (Zm<|Zb (Y1 (pv 0) T.ae T.dU (Ji T) hr.m T.ck.b .nil Z0)<|Zb (Y1 (pv 0) T.ae T.dF (KU T) hr.m T.bO.b .nil Z0)<|Zb (pF ["_law_name","_law_keeper"] (oR 1 [0] rfl) (Ya<|Y1 (pv 0) T.ae T.aM (Y2 T) hr.m T.aq.b .nil Z0) (oA 0) Wb (Yb (pv 1) T.ae T.cq (W2 T) hr.m T.aT.b .nil Z0<|Zb (pv 0) Za)) Za)<|Yn _) #[L14.k.obj,rfl,N,F13,x,J,_,I,_,d,rfl,L14.k,λG H15 B3 n15 jV=>#[(L14.mono B3).k.obj,rfl,N,F13,x,J,_,I,_,d,rfl,(L14.mono B3).k,λg p16 q16 l16 H16 B1 n16 iY=>#[(L14.mono<|B3.trans B1).k.obj,rfl,N,F13,x,J,_,I,_,d,rfl,(L14.mono<|B3.trans B1).k,λa p17 q17 l17 H17 B7 n17 jC=>?_]]];obtain rfl:=zL p2 q17<|p1.trans p17.symm;obtain rfl:=zL p4 q16<|p3.trans p16.symm;have s1417:=B3.trans<|B1.trans B7;refine#[mO jC,λC2 g=>Mw (L14.k.mono s1417) p1 jC g (λa K8 hC18=>#[mQ,λl19 H19 Q5 G e19=>?_]) rfl (λ_ _ _ h=>h) λp hp H' Q' k q=>#[k.obj,rfl,N,F13,x,J,_,I,_,d,p,rfl,k,hp,q]];have s1418:=s1417.trans K8;have K5:=s1418.trans Q5;have f4:H4 C=none->H C=none:=N2.free;refine#[rl,l19,_,_,rfl,rfl,mO<|K5.at<|q14 ((N2.trans s5).free n6) e6,mO e19,.cons (Zxr (K5.at<|q14 (s1.free n2)<|(s3.trans<|s4.trans<|s5.trans s6).at e2) ((B1.trans<|B7.trans<|K8.trans Q5).at jV) Y.kx.lok.1)<|.cons (Se (K5.at<|q14 ((s1.trans s2).free n3)<|(s4.trans<|s5.trans s6).at e3)<|(B7.trans<|K8.trans Q5).at iY)<|.cons (WB (K5.at<|q14 (f4 hC)<|s6.at hC5)<|Q5.at hC18) .nil,q H19 F13 _ D6 (λb y=>?_) (λb o nb nt nl y=>?_)<|L14.mono K5]
  ·rcases fr13 b y with u|u
   ·show(fr7 b u).imp id F4.free
   ·cases w:H b with
    | none=>show .inr rfl
    | some o =>
     by_cases v:F b
     ·show .inl v
     ·by_cases g:b=U
      ·rw[g,L12.tls]at u;cases u
      ·by_cases a:b=B
       ·obtain⟨_,h1,_⟩:=L12.held;rw[a,h1]at u;cases u
       ·rw[A2.at (g9 a<|off9 _ _ v g w)]at u;cases u
  ·show K5.at<|x9.at<|S3 _ _ (nF7 nb y)<|A2.at<|g9 nl<|off9 _ _ nb nt y
def Tz{val:lR->lQ Zr}{x o:lQ (lR×Nat)}{st:lQ lR}{p:lR×Nat}{i:Nat}{q:Zr}(a:∀y,y∈st↔∃t∈x.map fst,y∈(uz val o x t).map fst)(d:(x.map fst).Nodup)(Y:((val p.1).map fst).Nodup)(l:∀t∈x.map fst,∀u∈x.map fst,t≠u->∀q∈val t,∀r∈val u,q.1≠r.1)(j:p∈x)(h:(val p.1)[i]? =some q):q.1∈st↔Xa o p.1<=i/\i<Xa o p.1+p.2:=by
 have c:p.1∈x.map fst:=vP j;rw[a]
 constructor
 ·rintro⟨t,U,Q⟩;obtain⟨N,n,e⟩:=mX.mp Q
  by_cases z:t=p.1
  ·subst z;unfold uz at n;rw[wl d j]at n;obtain⟨k,s⟩:=zi.mp n;rw[Nf]at s;split at s
   ·rename_i M;rw[Ad]at s;have g:((val p.1).map fst)[Xa o p.1+k]? =((val p.1).map fst)[i]? :=by rw[nJ,nJ,s,h];show oE some e
    have:=(List.getElem?_inj (by rw[mK];show(oo.mp s).1) Y).mp g;lia
   ·cases s
  ·show absurd e<|l t U p.1 c z N (GM<|uX n) q<|pe h
 ·rintro⟨g,L⟩;refine#[p.1,c,mX.mpr #[q,?_,rfl]];unfold uz;rw[wl d j];refine zi.mpr #[i-Xa o p.1,?_];rw[Nf,mU (by lia),Ad,Pc g];show h
def Sn{val:lR->lQ Zr}{n s:lQ (lR×Nat)}{st ns:lQ lR}{l:lQ (lR×Bool)}{wr:lV (lR×Bool)}{p:lR×Nat}(J:∀y,y∈st↔∃t∈n.map fst,y∈(uz val s n t).map fst)(Y:∀y,(l.lookup y).getD false=Eu ns st wr y)(I:(n.map fst).Nodup)(Q:(∀q∈val p.1,q.1∈ns)/\((val p.1).map fst).Nodup)(U:∀t∈n.map fst,∀u∈n.map fst,t≠u->∀q∈val t,∀r∈val u,q.1≠r.1)(H:p∈n)(D:1<=p.2)(N:Xa s p.1<(val p.1).length) :
  qz ((val p.1).map (Wo l)) p.2<=Xa s p.1/\(wr=none->Xa s p.1+p.2<=(val p.1).length->qz ((val p.1).map (Wo l)) p.2=Xa s p.1):=by
 have x:∀{i:Nat}{q:Zr}{d:Bool},(val p.1)[i]? =some q->((val p.1).map (Wo l)).getD i d=Eu ns st wr q.1:=λ{i q d} e=>by
  rw[qo,nJ,e];show Y q.1
 have mD:∀{i:Nat}{q:Zr},(val p.1)[i]? =some q->(ue ns st q.1=true↔Xa s p.1<=i/\i<Xa s p.1+p.2):=λ{i q} e=>by
  unfold ue;rw[wo,<-Tz J I Q.2 U H e];show#[λz=>z.2,λz=>#[Q.1 q<|pe e,z]]
 have G:=Ff ((val p.1).map (Wo l)) p.2
 constructor
 ·refine Nat.le_of_not_lt λz=>?_
  obtain⟨a,b,c⟩:=G.1 _ z;obtain⟨j,a,g,h⟩:=Ac.mp c;rw[mK]at g;have o:=oy N;have M:=oy g;rw[x o]at b;rw[x M]at h;have L:=(mD o).mpr #[nk _,by lia];have E:ue ns st (val p.1)[j].1=false:=Ce.mpr λy=>by have:=((mD M).mp y).2;lia
  cases wr with
  | none=>show nomatch L.symm.trans b
  | some w =>
   have b:(if(val p.1)[Xa s p.1].1=w.1 then w.2 else ue ns st (val p.1)[Xa s p.1].1)=false:=b;have h:(if(val p.1)[j].1=w.1 then w.2 else ue ns st (val p.1)[j].1)=true:=h
   by_cases a:(val p.1)[Xa s p.1].1=w.1
   ·rw[mU a]at b;rw[b,E,ite_self]at h;cases h
   ·rw[mT a,L]at b;cases b
 ·rintro rfl h;refine(rN.eq #[λj c=>#[by rw[mK];lia,?_,Ac.mpr #[Xa s p.1+p.2-1,by lia,by rw[mK];lia,?_]],λg=>?_]).symm
  ·have o:=oy (show j<(val p.1).length by lia);rw[x o];show Ce.mpr λy=>by have:=((mD o).mp y).1;lia
  ·have o:=oy (show Xa s p.1+p.2-1<(val p.1).length by lia);rw[x o];show(mD o).mpr #[by lia,by lia]
  ·have o:=oy N;have:=g.2.1;rw[x o]at this;show nomatch ((mD o).mpr #[nk _,by lia]).symm.trans this
def LQ.put{F:lS->Prop}{val:lR->lQ Zr}(h:LQ U q x p l y n H F ad j val s r)(i:t∈s.map fst)(g:m<(val t).length):LQ U q x p l y n (mJ H y<|.dK<|pW<|pC r t m) F ad j val s (pC r t m):=by
 refine h.next (h.k.offZ (Z:=λb=>b=y) (λb o e z=>by rw[Zd e];show z) λb z=>z ▸ #[h.nT,h.t0,h.nl,h.ns,_,h.tls]) (λ_ z=>.inl z) (λb o _ d z=>by rw[Zd d];show z) rfl rfl Zc ?_ λu c=>?_
 ·rw[DJ,mU<|(h.tnm t).mpr i]
 ·rw[QI];split
  ·rename_i z;rw[z];show g
  ·show h.tlt u c
def Kq{x:lQ (lR×Bool)}{fs:lQ lR}{y:lR}(z:y∉fs):(x.filter λp=>decide<|p.1∉fs).lookup y=x.lookup y:=by
 induction x with
 | nil=>rfl
 | cons p x u =>
  by_cases w:p.1∈fs
  ·rw[GG (by simpa using w),u,pI,show(y ==p.1)=false from qt.mpr λe=>z<|e ▸ w]
  ·rw[EG (by simpa using w),pI,pI,u]
def Zt0{u:lQ (lR×Bool)}{fs:lQ lR}(h:∀x∈fs,u.lookup x=some false)(y:lR):((u.filter λp=>decide<|p.1∉fs).lookup y).getD false=(u.lookup y).getD false:=by
 by_cases z:y∈fs
 ·rw[h y z,El]
  ·rfl
  ·intro w;obtain⟨p,s,rfl⟩:=mX.mp w;show absurd z<|pq (vC.mp s).2
 ·rw[Kq z]
def YU{z:lQ (lR×Bool)}{fs:lQ lR}{x:lR}:(z.filter λp=>decide<|p.1∉fs).filter (λp=>decide<|p.1≠x)=z.filter λp=>decide (p.1∉fs++[x]):=by
 rw[List.filter_filter];refine List.filter_congr λp _=>?_
 rw[rh];simp;show#[λ⟨a,b⟩=>#[b,a],λ⟨a,b⟩=>#[b,a]]
def Zvd{y:lQ (lR×Bool)}(x:(y.map fst).Nodup){p:lR×Bool}(h:p∈y):y.lookup p.1=some p.2:=by
 induction y with
 | nil=>cases h
 | cons q y u =>
  rw[nV,pS]at x;rw[pI];rcases nU.mp h with z|z
  ·rw[z,we]
  ·rw[show(p.1 ==q.1)=false from qt.mpr λe=>x.1<|e ▸ vP z];show u x.2 z
def YB{fr:St->St}(Pv:Nat->lQ V->Hp->Prop)(q:Pv 0 [] (mJ n D<|.lst []))(u:∀i y H,i<=kvs.length->Pv i y H->H d=some (.frz o<|.dK kvs))
  (l:∀i kv y H,kvs[i]? =some kv->Pv i y H->W4 fr g j h z D (kV kv.1) y H (Pv<|i+1)) (hd:∀y H,Pv kvs.length y H->Q (.ref D) H):qV (Bo d o kvs) fr g j h Q z n D:=Wh Pv q (λs H p=>#[u _ s H (nk _) p,nk _]) (λi s H r p=>#[#[u i s H (pA r) p,r],λx Y ⟨e,kv,c,a⟩=>by subst e a;show l i kv s _ c p]) hd
abbrev SL(a t x pl tl hl:lS)(o2 o4 o8 o9 z9 C4 V3 O7 T2 J9:lV V):St:=[some (.ref a),some<|.ref t,o2,some<|.ref x,o4,some<|.ref pl,some<|.ref tl,some<|.ref hl,o8,o9,z9,C4,V3,O7,T2,J9]
inductive NJ(T:Tx K mg)(H0:Hp)(x tr:Addr)(ns:List Str)(pl hl tl:Addr)(lw:List (Str×Str))(ln:List (Str×Nat))(n:Nat)(a t:Addr):St->Hp->Prop
 | mk (o2 o4 o8 o9 z9 C4 V3 O7 T2 J9 Fr ad val tn):LQ T H0 x tr hl tl n H Fr ad lw val ln tn->(∀t,∀q∈val t,q.1∈ns)->¬Fr pl->H pl=some (.lst<|ns.map V.str)->NJ T H0 x tr ns pl hl tl lw ln n a t (SL a t x pl tl hl o2 o4 o8 o9 z9 C4 V3 O7 T2 J9) H
def ZF(F:qT K "law" "law" vK f fd)(T:Tx K mg)(hb:∃mm,mD.Ns sysModules mm):Xs P w K mg mD oN 13 f fd ["_law_script"] (yd K T.tabs):=by
 refine F.okW Wd ?_;rfl'
 ·obtain⟨a,ns,rfl,hS,F9,htb,q⟩:=h;intro X D;have tb:=rj.of htb;refine mM (mY 1 Wd<|Zy (Sv T) hr<|Zb (Zy (UH T) hr<|Zb (pv 0)<|Zb Zf<|Zb Zf Za)<|Zb (Xy (FX T) hr rfl T.ar.m T.ar.F.kp T.ar.b .nil Z0<|Zb (pv 0)<|Zb Zf Za) Za) #[a,ns,11,25,rfl,hS,F9,by lk,by lk,λl H1 cs s1 n1 e1 hc y7=>#[a,ns,0,rfl,s1.seq hS,l,_,cs,rfl,mO e1,λc h=>(hc c h).1,y7,λt pl0 jl gl H2 ps js sg s2 ht hP hJ hG yo=>?_]];have A2:=s1.trans s2;have yv:=yo.v;clear hc y7 e1 n1;refine mM (mY 3 Wd<|ny (Zy (Sf T) hr<|Zb (pv 1)<|Zb (pF ["_law_k","_law_script"] (oR 1 [0] rfl) (Dv rfl T.dI<|Zb Zf<|Zb Zf Za) (oA 0) Wb (Xy (FX T) hr rfl T.ar.m T.ar.F.kp T.ar.b .nil Z0<|Zb (pv 1)<|Zb (pv 0) Za)) Za) Zf) #[1,4,rfl,by lk,λD hD=>QH (lo:=1) (n:=3) (λk ys Y=>(∃cs:lQ Int,ys=cs.map V.int/\cs.length=k)/\Y D=some (.lst ys)/\mC H2 Y) #[#[[],rfl,rfl],Zc,pb hD] ?_ ?_]
  ·rintro k ys H3 l ⟨⟨cs,rfl,y7⟩,hD3,L⟩;unfold W4;refine#[oW rfl,a,ns,1+k,rfl,(A2.trans L).seq hS,hD3,?_,#[cs++[Al ns (1+k)],?_,?_],Zc,λb o e=>?_]
   ·rw[mK];show Zo (by lia)
   ·rw[nj];rfl
   ·rw[nX,y7];rfl
   ·rw[Zd (Ze e hD)];show L.at e
  rintro ys H3 ⟨⟨cs,rfl,y7⟩,hD3,L⟩;refine#[t,D,ps,js,sg,cs,rfl,#[pl0,jl,gl,L.at ht,hP.mono L,hJ.mono L,hG.mono L],yv,tb.mono<|A2.trans L,hD3,by lia,λg x tr H0 H4 Fr ad lw val ln s0 etp l k4 pt4 ne4 l44 j=>.inr<|.inl #[mW etp,Zq (j:=0) rfl,?_]];have hS0:=(A2.trans<|L.trans s0).seq hS;have M8:=(L.trans s0).at ht;obtain⟨ts,u0,m9⟩:=hP.mono<|L.trans s0;have ylen:=yv.len;refine mM (xo 5 ["_law_kind","_law_name"] Wd (oR 2 [] rfl) (Ya<|ny (pv 1) Zf) (wW (K:=K) (n:=2) rfl rfl<|Zu (oA 0)<|Zu (oA 1) Xd) Wb (pv 1))<|.inr<|.inl #[mW<|k4.same.at M8,Zq (j:=0) rfl,mO<|k4.same.at u0,λB hDp=>Kf (f:=λ_=>true) (k4.same.at u0) (nK m9 λ_ _ r=>r.mono k4.same) (by lia) hDp (λH5 N e5=>?qq) ?aa (λ_ _ _ _ _ h=>h) ?cc]
  case aa=>rfl
  case cc=>rfl
  rw[show rJ (λ_=>true) ps=ps.map snd from by unfold rJ;rw[FL.mpr λ_ _=>rfl]]at e5;clear htb hD3 hP hJ hG ht y7 s0 s1 s2 hD F9 yo tb etp;have vns:∀t,∀q∈val t,q.1∈ps.map snd:=λt q hq=>pt4 ▸ ((k4.kx.pok t).1 q hq).1
  have hln:(ps.map snd).length<=40:=by rw[mK];show ylen
  generalize ps.map snd=pn at e5 vns hln;refine mM (mY 6 Wd Xz) λI H6 s6 n6 e6=>?_
  have k6:=k4.mono<|N.trans s6;let I33:IC:=λz Y=>∃(J U:lV V)(ss:lQ lR),z=[some (.ref a),some<|.ref t,J,some<|.ref x,U,some<|.ref B,some<|.ref I,none,none,none,none,none,none,none,none,none]/\ss.Perm (ln.map fst)/\(∀b o,b≠I->H6 b=some o->Y b=some o)/\Y I=some (.dK<|pW<|ss.map λt=>(t,0))
  refine pL I33 ?_ ?_
  ·refine pN (Yw oO rfl (Ya<|Y1 (pv 3) T.ae T.aM (Y2 T) hr.m T.aq.b .nil Z0) (nZ 4 Wd) Zn) #[k6.obj,rfl,H0,Fr,x,tr,ad,lw,val,ln,rfl,k6,λss p1 p2 l7 H7 s7 n7 e7=>#[mO e7,Xm (K:=K) (xs:=ss.map V.str) (λi z Y=>∃J U,z=[some (.ref a),some<|.ref t,J,some<|.ref x,U,some<|.ref B,some<|.ref I,none,none,none,none,none,none,none,none,none]/\(∀b o,b≠I->H7 b=some o->Y b=some o)/\Y I=some (.dK<|pW<|(ss.take i).map λt=>(t,0))) #[_,_,rfl,λ_ _ _ y=>y,s7.at e6] ?_ ?_ ?_]]
   ·rintro i z Y _ ⟨_,_,_,M,_⟩;show mO<|M _ _ (λy=>by rw[y,s7.at e6]at e7;cases e7) e7
   ·rintro i v z H8 hi ⟨J,U,rfl,M,h8⟩;rw[nJ]at hi;obtain⟨nm,w4,rfl⟩:=nR.mp hi;have D4:ss.length<=10:=by rw[p1.length_eq,mK];show k4.len
    refine mP (X6 (Ys hr) (pv 6) (pv 4) Zf rfl)<|xv.mk (sQ (k:=Sum.inr nm) h8<|Zo<|by rw[show(pW<|(ss.take i).map λt=>(t,0)).length=_ from mK ..,mK,oh];lia) #[_,_,rfl,λb o nb y=>by rw[Zd nb];show M b o nb y,?_];rw[Zc,og,w4,nj];refine oE (λy=>some<|HO.dK y)<|Kx (f:=λn:Nat=>V.int (n:Int)) (a:=0) ?_;rw[pi];intro y;obtain⟨u,hu,l⟩:=mX.mp y;show xl (p1.nodup_iff.mpr k4.lnd) w4<|(show u=nm from l) ▸ hu
   ·rintro z Y ⟨J,U,rfl,M,h8⟩;rw[mK,oJ]at h8;show#[_,_,ss,rfl,p1,λb o nb y=>M b o nb<|s7.at y,h8]
  rintro z H7 ⟨J,U,ss,rfl,p7,sm7,e7⟩;refine mM (mY 7 Wd<|Zm Za) #[mQ,λhl H8 s8 n8 e8=>?_];have n4:H4 I=none:=N.free n6;have m4:H4 hl=none:=by
   cases y:H4 hl with
   | none=>rfl
   | some u=>rw[sm7 _ _ (λp=>by rw[p,e7]at n8;cases n8) ((N.trans s6).at y)]at n8;cases n8
  have k8:=(k4.offZ (H':=H7) (Z:=λ_=>False) (λb o _ y=>sm7 b o (λp=>by rw[p,n4]at y;cases y)<|(N.trans s6).at y) λ_ y=>y.elim).mono s8;have tn0:((ss.map λt=>(t,0)):lQ (lR×Nat)).map fst=ss:=by rw[pi];show GJ _
  have L8:LQ T H0 x tr hl I 0 H8 Fr ad lw val ln (ss.map λt=>(t,0)):=#[k8,s8.at e7,by rw[tn0];show p7.nodup_iff.mpr k4.lnd,λt=>by rw[tn0];show p7.mem_iff,λt ht=>by
   have:Xa (ss.map λt=>(t,0)) t=0:=wl (p:=(t,0)) (by rw[tn0];show p7.nodup_iff.mpr k4.lnd)<|mX.mpr #[t,p7.mem_iff.mpr ht,rfl];rw[this];show Rh.mpr<|ne4 t ht,l44,k4.neF m4,k4.neF n4,k4.same.free m4,k4.same.free n4,(λy=>by rw[y,k4.lies]at n4;cases n4),(λy=>by rw[y,k4.sti]at n4;cases n4),[],e8,nk _,λ_ y=>nomatch y]
  have h7:H7 B=some (.lst<|pn.map V.str):=sm7 _ _ (λp=>by rw[<-p,e5]at n6;cases n6)<|s6.at e5;have h8:=s8.at h7;have plh:B≠hl:=λp=>by rw[<-p,h7]at n8;cases n8
  have fp:¬Fr B:=k4.neF hDp;clear k4 N n6 e6 k6 p7 sm7 e7 h7 s8 n8 e8 n4 m4 k8 tn0 e5 s6 ne4 l44;let I34:IC:=λz Y=>(∃J U o8 o9 z9 C4 V3 O7 T2 J9,z=SL a t x B I hl J U o8 o9 z9 C4 V3 O7 T2 J9)/\∃Z:lS->Prop,Af Y Z hl 6
  refine pL I34 ?_ ?_
  ·refine pN (Yw oO rfl (Dv rfl T.dI<|Zb Zf<|Zb Zf Za) (nZ 2 Wd) Zn) #[4,10,rfl,by lk,yD (lo:=4) (n:=6) (λi=>NJ T H0 x tr pn B hl I lw ln i a t) (.mk _ _ _ _ _ _ _ _ _ _ _ _ _ _ L8 vns fp h8) ?_ ?_]
   ·clear L8 vns fp h8;rintro i z H1 hi ⟨J,U,o8,o9,z9,C4,V3,O7,T2,J9,Fr,ad,val,d,L1,vns,fp,h1⟩;refine mM (mY 8 Wd<|Xy (FX T) hr rfl T.ar.m T.ar.F.kp T.ar.b .nil Z0<|Zb (pv 0)<|Zb (pv 2) Za) #[a,ns,4+i,rfl,L1.k.same.seq hS0,?_];generalize Al ns (4+i)=cell;let I35:IC:=λz Y=>∃J U o9 z9 d,z=SL a t x B I hl J U (some<|.int cell) o9 z9 C4 V3 O7 T2 J9/\LQ T H0 x tr hl I i Y Fr ad lw val ln d/\Y B=some (.lst<|pn.map V.str)
    refine pL I35 ?_ ?_
    ·refine pN (Yw oO rfl (xz rfl T.bS<|Zb (Y1 (pv 3) T.ae T.aM (Y2 T) hr.m T.aq.b .nil Z0) Za) (rE rfl<|Zu (nZ 9 Wd)<|Zu (nZ 4 Wd) Xd) Zn) #[L1.k.obj,rfl,H0,Fr,x,tr,ad,lw,val,ln,rfl,L1.k,λss p1 p2 l2 H2 s2 n2 e2=>#[mO e2,yi (K:=K) (xs:=ss.map V.str) (λj z Y=>∃J U o9 z9 d,z=SL a t x B I hl J U (some<|.int cell) o9 z9 C4 V3 O7 T2 J9/\LQ T H0 x tr hl I i Y Fr ad lw val ln d/\Y B=some (.lst<|pn.map V.str)/\Y l2=some (.lst<|ss.map V.str)) #[_,_,_,_,d,rfl,L1.mono s2,s2.at h1,e2] ?_ ?_ ?_]]
     ·rintro j z Y _ ⟨_,_,_,_,_,_,_,_,y⟩;show mO y
     ·rintro j v z H3 hj ⟨J,U,o9,z9,d,rfl,L3,g3,e3⟩ l H4 C n4 e4;rw[nJ]at hj;obtain⟨nm,w4,rfl⟩:=nR.mp hj;have hm:nm∈ln.map fst:=p1.mem_iff.mp<|pe w4;have L4:=L3.mono C;have dg:∀{G:Hp},mC H4 G->Xk G I (.str nm) (some<|.int (Xa d nm:Int)):=λs=>Of L4.tnd ((L4.tnm nm).mpr hm)<|s.at L4.tls
      refine#[mW e4,rfl,rfl,?_];refine mM (mY 10 Wd<|Zp vM (pp T.aX<|Yb (pv 3) T.ae T.aV (Xi T) hr.m T.aD.b .nil Z0<|Zb (pv 4) Za)<|Y3 (Ys hr) (pv 6) (pv 4) λ_ _=>rfl) #[L4.k.obj,rfl,H0,Fr,x,tr,ad,lw,val,ln,nm,rfl,L4.k,hm,λl5 H5 N n5 ⟨ts5,h5,h6⟩=>.inl #[.inl<|mO h5,rM.mk (dg N) ?_]];have tl5:=nH h6;have i9:=L4.tlt nm hm;obtain⟨rm,hrm⟩:∃rm:Nat,(((ts5.map V.ref).length:Int)-(Xa d nm:Int))=(rm:Int)/\0<rm/\rm=(val nm).length-Xa d nm:=#[(val nm).length-Xa d nm,by rw[mK,tl5];lia,by lia,rfl]
      obtain⟨g,hg,hgl⟩:=uW (a:=sV cell j) (n:=1+rm / 2) (by lia);have hdiv:(1:Int)+(((ts5.map V.ref).length:Int)-(Xa d nm:Int)) / 2=((1+rm / 2:Nat):Int):=by rw[hrm.1];lia
      have L5:=L4.mono N;have htl10:d.length<=10:=by
       have h2:(d.map fst).length<=(ln.map fst).length:=xD L4.tnd λt ht=>(L4.tnm t).mp ht
       rw[mK,mK]at h2;have:=L4.k.len;lia
      refine mP (X6 (Ys hr) (pv 6) (pv 4) (Zp Wm (Y3 (Ys hr) (pv 6) (pv 4) λ_ _=>rfl)<|Zp Yl (Xy (W0 T) hr rfl T.aj.m T.aj.F.kp T.aj.b .nil Z0<|Zb (pv 8)<|Zb (pv 9) Za)<|Zp Wm Zf<|Zp Yq (pv 10) Zf) rfl)<|rM.mk (dg N) #[cell,j,rfl,#[by lk,by lk],.inl #[(by change(0:Int)<1+(((ts5.map V.ref).length:Int)-(Xa d nm:Int)) / 2;rw[hdiv];lia),.inl<|xv.mk (sQ (k:=Sum.inr nm) L5.tls<|Zo<|by rw[show(pW d).length=d.length from mK ..];lia) #[_,_,_,_,pC d nm<|Xa d nm+g,rfl,?_,?_,?_]]]
      ·have:=L5.put (m:=Xa d nm+g) hm (by lia);rw[<-show Ws (pW d) (Sum.inr nm) (V.int<|(Xa d nm:Int)+sV cell j%(1+(((ts5.map V.ref).length:Int)-(Xa d nm:Int)) / 2))=pW (pC d nm<|Xa d nm+g)from by
        rw[hdiv,hg,<-Int.natCast_add];show xf (f:=λn:Nat=>V.int (n:Int)) d nm<|Xa d nm+g]at this
       show this
      ·rw[Zd (λy=>by have:=L4.tls;rw[<-y,C.at g3]at this;cases this)];show N.at<|C.at g3
      ·rw[Zd (λy=>by have:=L4.tls;rw[<-y,C.at e3]at this;cases this)];show N.at<|C.at e3
     ·rintro z Y ⟨J,U,o9,z9,d,rfl,L3,g3,_⟩;show#[_,_,_,_,d,rfl,L3,g3]
    clear L1 h1 d;rintro z H1 ⟨J,U,o9,z9,d,rfl,L1,h1⟩;refine mM (mY 11 Wd<|Zm Za) #[mQ,λl2 H2 s2 n2 e2=>?_];have L2:=L1.mono s2;let I36:IC:=λz Y=>∃(U:lV V)(l3:lS)(os:lQ lR),z=SL a t x B I hl J U (some<|.int cell) o9 z9 (some<|.ref l3) V3 O7 T2 J9/\mC H1 Y/\Y l3=some (.lst<|os.map V.str)
    refine pL I36 ?_ ?_
    ·refine pN (Yw oO rfl (Ya<|Y1 (pv 3) T.ae T.aM (Y2 T) hr.m T.aq.b .nil Z0) (nZ 4 Wd) Zn) #[L2.k.obj,rfl,H0,Fr,x,tr,ad,lw,val,ln,rfl,L2.k,λss p1 p2 l5 H5 N n5 e5=>#[mO e5,Xm (K:=K) (xs:=ss.map V.str) (λj z Y=>∃(U:lV V)(l3:lS)(os:lQ lR),z=SL a t x B I hl J U (some<|.int cell) o9 z9 (some<|.ref l3) V3 O7 T2 J9/\mC H5 Y/\Y l3=some (.lst<|os.map V.str)/\os.length<=100 * j) #[_,l2,[],rfl,qc _,N.at e2,nk _] ?_ ?_ ?_]]
     ·rintro j z Y _ ⟨_,_,_,_,M,_⟩;show mO<|M.at e5
     ·rintro j v z H3 hj ⟨U,l3,os,rfl,L,h3,g⟩;rw[nJ]at hj;obtain⟨nm,w4,rfl⟩:=nR.mp hj;have k3:=L2.k.mono<|N.trans L;have J7:=k3.vl nm;have D4:ss.length<=10:=by rw[p1.length_eq,mK];show k3.len
      have A1:j<ss.length:=(oo.mp w4).1;refine mP (mY 11 Wd<|Zp Wm (pv 11)<|pF ["_law_step"] (oR 1 [] rfl) (Ya<|Yb (pv 3) T.ae T.aV (Xi T) hr.m T.aD.b .nil Z0<|Zb (pv 4) Za) (oA 0) Wb (qH (K:=K) rfl (pv 0) Zf)) #[k3.obj,rfl,H0,Fr,x,tr,ad,lw,val,ln,nm,rfl,k3,p1.mem_iff.mp<|pe w4,λl4 H4 C n4 ⟨ts,g,m9⟩=>#[mO g,λD hD=>Kz (f:=fst) g (nK m9 λ_ _ r=>#[_,r]) (by lia) hD (λH6 s6 D1=>.inr<|.inr #[(C.trans s6).at h3,D1,?_,λl7 H7 s7 n7 e7=>#[_,l7,os++(val nm).map fst,rfl,L.trans<|C.trans<|s6.trans s7,?_,?_]]) rfl (λ_ _ _ h=>h) λ_ _ _ _ _ _ e h q=>oV.of e<|.inr<|.inl #[mW h,Zq (j:=0) rfl,q]]]
      ·rw[mK,mK,mK];have g:sizeLine=16777216:=rfl;lia
      ·rw[e7,nj]
      ·rw[nX,mK];lia
     ·rintro z Y ⟨U,l3,os,rfl,L,h3,_⟩;show#[_,l3,os,rfl,s2.trans<|N.trans L,h3]
    rintro z H3 ⟨U,l3,os,rfl,L,h3⟩;refine mM (mY 12 Wd<|Zi Za) #[mQ,λw0 H4 C n4 e4=>?_];let I37:IC:=λz Y=>∃(O7:lV V)(wt:lS)(wr:lV (lR×Bool)),z=SL a t x B I hl J U (some<|.int cell) o9 z9 (some<|.ref l3) (some<|.ref wt) O7 T2 J9/\mC H1 Y/\Y wt=some (.tup<|QM wr)
    refine pL I37 ?_ ?_
    ·have x9:=L.trans C;refine pN (Zv (qj<|wY (rH hr (pv 5)<|Zm Za)<|yU<|Yf vU (Zp Yl (pv 8) Zf) Zf<|Yn _) Zn Zk) #[mQ,λle H5 N n5 e5=>.inr<|.inl #[1,.lst<|pn.map Tr.str,.lst<|([]:lQ lR).map Tr.str,by lk,.inr #[_,_,rfl,rfl],Wt<|(x9.trans N).at h1,Wt e5,?_]];have B3:=x9.trans N;rw[mU rfl]
     by_cases hp:pn=[]
     ·rw[hp,nS rfl];show oB.f rfl<|wg<|wg #[_,w0,none,rfl,B3,N.at e4]
     rw[show decide (Tr.lst (pn.map Tr.str)=Tr.lst (([]:lQ lR).map Tr.str))=false from om λy=>hp<|JU.mp<|Tr.lst.inj y];refine oB.t rfl<|Rn #[(by change(0:Int)<3;decide),Yh (λ_=>?_) λ_=>#[_,w0,none,rfl,B3,N.at e4]];let I38:IC:=λz Y=>∃(a0:lS)(g:lQ lR),z=SL a t x B I hl J U (some<|.int cell) o9 z9 (some<|.ref l3) (some<|.ref w0) (some<|.ref a0) T2 J9/\mC H1 Y/\Y a0=some (.lst<|g.map V.str)/\g≠[]
     refine pL I38 ?_ ?_
     ·refine pN (mY 13 Wd<|ny (Zm<|Zb (pv 5)<|Zb (pv 11) Za)<|Y0 HM (by rfl) T.fi vZ<|Zb (xq (Pw hr (pv 11)<|Zm Za)<|xZ<|uT vU (Zp Yl (Zp Yq (pv 8) Zf) Zf) Zf<|Yn _) Za) #[mQ,λll H6 s6 n6 e6=>#[mQ,λlf H7 s7 n7 e7=>.inr<|.inl #[1,.lst<|os.map Tr.str,.lst<|([]:lQ lR).map Tr.str,by lk,.inr #[_,_,rfl,rfl],Wt<|(C.trans<|N.trans<|s6.trans s7).at h3,Wt e7,?_]]];have B7:=B3.trans<|s6.trans s7;rw[mU rfl]
      by_cases ho:os=[]
      ·rw[ho,nS rfl];refine oB.f rfl<|wg<|.inr #[_,rfl,.inl #[mO<|s7.at e6,Zq (j:=0) rfl,B,pn,rfl,B7,B7.at h1,hp]]
      rw[show decide (Tr.lst (os.map Tr.str)=Tr.lst (([]:lQ lR).map Tr.str))=false from om λy=>ho<|JU.mp<|Tr.lst.inj y];refine oB.t rfl<|Rn #[#[by lk,by lk],(by change(0:Int)<4;decide),.inr #[_,rfl,?_]]
      by_cases hg:cell / 3%4 >0
      ·rw[nS hg];show .inl #[mO<|s7.at e6,Zq (j:=1) rfl,l3,os,rfl,B7,(C.trans<|N.trans<|s6.trans s7).at h3,ho]
      ·rw[om hg];show .inl #[mO<|s7.at e6,Zq (j:=0) rfl,B,pn,rfl,B7,B7.at h1,hp]
     rintro z H6 ⟨a0,g,rfl,s6,h6,hz⟩;have hzp:=Rh.mpr hz;obtain⟨j,hj,A1⟩:=uW (a:=cell / 12) (n:=g.length) hzp;refine mP (mY 12 Wd<|Zi<|Zb (ny (pv 13)<|Zp Yl (Zp Yq (pv 8) Zf)<|pp T.aX<|pv 13)<|Zb (Ab hr (Zp Yl (pv 8) Zf) Zf) Za) #[#[by lk,by lk],.inl #[.inl<|mO h6,(by rw[mK];change(0:Int)<_;lia),.inl #[mO h6,(show oH _ ((cell / 12)%(((g.map V.str).length:Nat):Int))=some (.str g[j])from by rw[mK,hj];show Zq<|by rw[nJ,oy A1];rfl),(by change(0:Int)<3;decide),.inl #[rfl,mQ,λwt H7 s7 n7 e7=>#[_,wt,some (g[j],_),rfl,s6.trans s7,e7]]]]]
    clear s2 n2 e2 L2 L h3 C n4 e4;rintro z H2 ⟨O7,wt,wr,rfl,s2,h2⟩;have L2:=L1.mono s2;have p2:=s2.at h1;refine mM (mY 14 Wd<|Zy (Zp8 T) hr<|Zb (pv 5)<|Zb (Zy (Znl T) hr<|Zb (pv 3)<|Zb (pv 6) Za)<|Zb (pv 12) Za) #[H0,Fr,x,tr,I,ad,lw,val,ln,d,rfl,L2.k,L2.tls,L2.tnd,λt ht=>(L2.tnm t).mpr ht,λg H3 st L n3 e3 y9=>#[B,g,wt,pn,st,wr,rfl,L.at p2,by lia,e3,L.at h2,λsd H4 c C n4 e4 htn E3 htd=>?_]];have s24:=L.trans C;let I39:IC:=λz Y=>∃(U J9:lV V)(td':lQ (lR×Bool)),z=SL a t x B I hl J U (some<|.int cell) o9 z9 (some<|.ref l3) (some<|.ref wt) O7 (some<|.ref sd) J9/\mC H2 Y/\Y sd=some (.dK<|Zx V.bl td')/\∀p,(td'.lookup p).getD false=(c.lookup p).getD false
    refine pL I39 ?_ ?_
    ·refine pN (Zv (oZ hr (Zp Yl (Zp Yq (pv 8) Zf) Zf) Zf) Zn Zk) #[#[by lk,by lk],(by change(0:Int)<2;decide),.inl #[rfl,Yh (λ_=>?_) λ_=>#[_,_,c,rfl,s24,e4,λ_=>rfl]]];have hgd:∀{e:lR×Bool}{G:Hp}{o:Obj},e∈c->G sd=some (.frz o<|.dK<|Zx V.bl c)->Xk G sd (.str e.1) (some<|.bl e.2):=λhe y=>by
      rw[<-Wc (f:=V.bl) htn he];show .inl #[_,Sum.inr _,.inr #[_,y],rfl,rfl]
     refine mP (Yw oO rfl (Ya<|Dk<|pF ["_law_name","_law_seen"] (oR 1 [14] rfl) (MF<|pv 14) (oA 0) (tO<|Xc<|Ym<|Y3 (Ys hr) (pv 1) (pv 0) λ_ _=>rfl) (pv 0)) (nZ 15 Wd) Zn) #[e4,λo nf D hD=>YB (λi ys Y=>ys=(((c.take i).filter λl=>!l.2).map fst).map V.str/\Y D=some (.lst ys)/\mC (mJ H4 sd<|.frz o<|.dK<|Zx V.bl c) Y) #[rfl,Zc,pb hD] ?_ ?_ ?_]
     ·rintro i ys Y _ ⟨_,_,M⟩;show M.at Zc
     ·rintro j kv ys H5 hj ⟨rfl,Q0,M⟩;rw[show Zx V.bl c=c.map λq=>(Sum.inr q.1,V.bl q.2)from rfl,nJ]at hj;obtain⟨e,he,rfl⟩:=nR.mp hj;have A1:=(oo.mp he).1;have O3:=vL (λl:lR×Bool=>!l.2)<|c.take j;rw[oh]at O3;unfold W4;refine#[oW rfl,rM.mk (hgd (pe he)<|M.at Zc) ?_];refine Yh (λhc=>#[Q0,?_,?_,Zc,λb o y=>?_]) λhc=>#[?_,Q0,M]
      ·rw[mK,mK];show Zo (by lia)
      ·rw[og,he,tP,show(some e).toList=[e]from rfl,EG (p:=λl:lR×Bool=>!l.2) hc,vI,nj,nj]
       rfl
      ·rw[Zd (Ze y hD)];show M.at y
      ·rw[og,he,tP,show(some e).toList=[e]from rfl,GG (p:=λl:lR×Bool=>!l.2) hc,vI,pH]
     rintro ys H5 ⟨rfl,Q0,M⟩;refine#[sd,o,_,M.at Zc,nf,?_];rw[show(Zx V.bl c).length=c.length from mK ..,oJ]at Q0;have sT:mC H4 (mJ H5 sd<|.dK<|Zx V.bl c):=yr e4 M;have Ds:D≠sd:=λy=>by rw[y,Zc]at hD;cases hD
     have eD:(mJ H5 sd<|.dK<|Zx V.bl c) D=some (.lst<|((c.filter λl=>!l.2).map fst).map V.str):=by rw[Zd Ds];show Q0
     have eS:(mJ H5 sd<|.dK<|Zx V.bl c) sd=some (.dK<|Zx V.bl c):=Zc;generalize mJ H5 sd (.dK<|Zx V.bl c)=H6 at sT eD eS;have fnd:((c.filter λl=>!l.2).map fst).Nodup:=zt (List.filter_sublist.map _) htn;have g:∀p∈(c.filter λl=>!l.2).map fst,c.lookup p=some false:=λp hy=>by
      obtain⟨l,hp,rfl⟩:=mX.mp hy;obtain⟨h1,h2⟩:=vC.mp hp;rw[Zvd htn h1];show oE some (by simpa using h2)
     generalize(c.filter λl=>!l.2).map fst=fs at eD fnd g;refine#[mO eD,Xm (K:=K) (xs:=fs.map V.str) (λj z Y=>∃J9,z=SL a t x B I hl J U (some<|.int cell) o9 z9 (some<|.ref l3) (some<|.ref wt) O7 (some<|.ref sd) J9/\(∀b u,b≠sd->H6 b=some u->Y b=some u)/\Y sd=some (.dK<|Zx V.bl<|c.filter λl=>decide<|l.1∉fs.take j)) #[_,rfl,λ_ _ _ y=>y,?_] ?_ ?_ ?_]
     ·rw[eS,show(c.filter λl=>decide<|l.1∉fs.take 0)=c from FL.mpr λ_ _=>nS<|by simp]
     ·rintro j z Y _ ⟨_,_,M,_⟩;show mO<|M _ _ Ds eD
     ·rintro j v z H7 hj ⟨J9,rfl,M,h7⟩;rw[nJ]at hj;obtain⟨p,hy,rfl⟩:=nR.mp hj;have hv:Y8 (Zx V.bl<|c.filter λl=>decide<|l.1∉fs.take j) (Sum.inr p)=some (.bl false):=by
       rw[xF,Kq<|xl fnd hy,g p<|pe hy]
       rfl
      refine mP (Z3<|WW (pv 14) (pv 15) #[rfl,rfl,rfl,rfl]) #[sd,rfl,.inl #[_,.inl h7],_,Sum.inr p,.bl false,h7,rfl,hv,_,rfl,λb u nb y=>by rw[Zd nb];show M b u nb y,?_];rw[Zc,show vt _ (Sum.inr p)=_ from VR (f:=V.bl),YU,og,hy]
      rfl
     ·rintro z H7 ⟨J9,rfl,M,h7⟩;rw[mK,oJ]at h7;show#[_,_,_,rfl,λb u y=>M b u (λp=>by rw[p,L.free n4]at y;cases y)<|sT.at<|s24.at y,h7,Zt0 g]
    have nsd:H2 sd=none:=L.free n4;clear C e4 s24;rintro z H4 ⟨U,J9,td',rfl,C,e4,htd'⟩;have L4:=L2.mono C;refine mP (Zv (Xc<|Ym<|Zy (ZT T hb) hr<|Zb (pv 3)<|Zb (pv 6)<|Zb (pv 14)<|Zb (uT (r:=CL K false) (RD hr.units) (pv 12) (Zi Za)<|Yn _)<|Zb (pv 7) Za) Zn Zk) #[mQ,λp5 H5 N n5 e5=>.mk (mW<|(C.trans N).at h2) (mW e5) #[H0,Fr,x,tr,hl,I,sd,ad,lw,val,ln,d,i,td',_,rfl,L4.mono N,by lia,N.at e4,L2.k.neF nsd,(λy=>by rw[y,L2.tls]at nsd;cases nsd),λl hp=>?_,λH6 F6 ad6 tn6 fr6 g L6=>oB.t rfl<|wg<|.mk _ _ _ _ _ _ _ _ _ _ _ _ _ _ L6 (λt q hq=>vns t q<|BX hq) (λy=>(fr6 _ y).elim fp λp=>?_)<|g _ _ fp ?_ ?_<|(C.trans N).at p2]]
    ·have:=Sn (wr:=wr) y9 (λp=>(htd' p).trans (htd p)) L2.k.lnd #[vns l.1,(L2.k.kx.pok l.1).2] (by rw[<-L2.k.nm];show L2.k.kx.pdj) hp (L2.l4 l hp).1 (L2.tlt l.1<|vP hp);refine#[this.1,λy=>this.2 ?_];cases wr with
     | none=>rfl
     | some _=>cases y
    ·rw[(C.trans N).at p2]at p;cases p
    ·intro y;have:=L2.tls;rw[<-y,p2]at this;cases this
    ·show plh
   ·rintro z Y ⟨J,U,o8,o9,z9,C4,V3,O7,T2,J9,Fr,ad,val,d,L1,_⟩;show#[#[_,_,_,_,_,_,_,_,_,_,rfl],_,L1.held]
  clear L8 vns fp h8;rintro z H9 ⟨⟨J,U,o8,o9,z9,C4,V3,O7,T2,J9,rfl⟩,Z9,us,eh,l,w6⟩;refine mP (Zl<|Ab hr (pF ["_law_pair"] (oR 1 [] rfl) (Ya<|pv 7) (oA 0) (tO<|Yf (r:=uo K) (wK hr) (Z4 (r:=EJ) (MQ hb hr.gd hr.units) (by rfl) T.iJ IH<|Zb (qH (K:=K) rfl (pv 0) Zf) Za) (qH (K:=K) rfl (pv 0) Zf)<|Yn _) (pv 0))<|Zm Za) #[mO eh,λC l=>Y9 (xs:=us.map V.ref) (λi ys Y=>ys=[]/\Y C=some (.lst ys)/\mC H9 Y) #[rfl,Zc,pb l] ?_ ?_ ?_]
  ·rintro i ys Y _ ⟨_,_,M⟩;show mO<|M.at eh
  ·rintro i v ys Y hi ⟨rfl,hC',M⟩;rw[nJ]at hi;obtain⟨u,hu,rfl⟩:=nR.mp hi;obtain⟨l,d,j,g,c⟩:=w6 u<|pe hu;have G:mC (uv Z9 H9) Y:=λb o e=>M.at (Ip e).1
   have j:=G.at j;have g:=EB G g;unfold W4;refine#[oW rfl,.inr<|.inl #[mW j,Zq (j:=0) rfl,l,d,rfl,g,c.1,ow c.2.2.1 (by lk),c.shown (by lk),.inr<|.inl #[mW j,Zq (j:=1) rfl,.inl #[rfl,?_]]]];rw[nS rfl];show#[rfl,hC',M]
  ·rintro ys Y ⟨rfl,hC',M⟩;refine#[mQ,λle H2 s2 n2 e2=>.inr<|.inl #[1,.lst [],.lst [],by lk,.inr #[_,_,rfl,rfl],?_,?_,?_]]
   ·show Wt (ss:=[])<|s2.at hC'
   ·show Wt (ss:=[]) e2
   ·rw[nS rfl];show q H2
end
end K65
end
namespace K65
open PySem L2 NM YM
def UG{z:Type}{us:lQ z}(h:us.length=2):∃a b,us=[a,b]:=by
 rcases us with _|⟨a,_|⟨b,_|_⟩⟩<;>first|show#[_,_,rfl]|cases h
def Pa{z:Type}{us:lQ z}(h:us.length=3):∃a b c,us=[a,b,c]:=by
 rcases us with _|⟨a,_|⟨b,_|⟨c,_|_⟩⟩⟩<;>first|show#[_,_,_,rfl]|cases h
def VL{z:Type}{us:lQ z}(h:us.length=4):∃a b c d,us=[a,b,c,d]:=by
 rcases us with _|⟨a,_|⟨b,_|⟨c,_|⟨d,_|_⟩⟩⟩⟩<;>first|show#[_,_,_,_,rfl]|cases h
def YT{us:lQ lT}{n:Nat}(h:us.length=n):us=(List.range n).map (λi=>us.getD i .none):=by
 subst h;apply List.ext_getElem?;intro i
 by_cases h:i<us.length<;>simp[h]
def mR{K:lW}{f:lS}{x q:lR}{st:lX}{s kV r z u y:lT}{od w:lV lS}{p:Array (lV lT)}{ps:lQ lR}(l:K.lookup f=some #[s,od,.func<|fnOf x q (W3 st) (Y7 st) (Zj st) .none kV r z w u y,p])(e:codeIn K u q=true)(k:keepIn K (.ref f)=true)(b:∀kV o z w n y (v:Nat->lT),bindArgs (fnOf x q (W3 st) (Y7 st) (Zj st) .none kV o z w n y) #[(List.range ps.length).map v,[]]=pure (ps.zip<|(List.range ps.length).map v)):Dn K x q st ps:=#[f,_,Iu l e k,(Iu l e k).binds λ_ _ _ _ _ _ j h=>by rw[YT h];show b ..]
def DW{K:lW}{f u:lS}{p kV o n r j i:lT}{od h y:lV lS}{g x:Array (lV lT)}{d:Nat}{w:Tok}(l:K.lookup f=some #[p,od,.func<|fnOf "leads" "Part.leads" (W3 Wn) (Y7 Wn) (Zj Wn) (.ref u) kV o n h r j,g])(ld:K.lookup u=some #[i,y,.seq (List.toArray [.str "" w]) d,x])(e:codeIn K r "Part.leads"=true)(k:keepIn K (.ref f)=true):yp K "leads" "Part.leads" Wn ["self","end","lie"] (.str "") :=
 #[f,_,_,Pe (st:=Wn) l e k,λs q KX z=>by
   rw[pH]at z ⊢;obtain⟨_,_,_,rfl⟩:=Pa z;show Dg rfl (KX _ _ ld) rfl rfl rfl,.str "" w,#[w,rfl],λs q KX z=>by
   have c:q.length=2:=by simpa using z
   obtain⟨_,_,rfl⟩:=UG c;show Dg rfl (KX _ _ ld) rfl rfl rfl]
def BK{K:lW}{f w:lS}{q kV p o u n j:lT}{od i y:lV lS}{h x:Array (lV lT)}{g:Nat}(l:K.lookup f=some #[q,od,.func<|fnOf "__init__" "Tracks.__init__" (W3 Y5) (Y7 Y5) (Zj Y5) (.ref w) kV p o i u n,h])(ld:K.lookup w=some #[j,y,.seq (List.toArray [.none]) g,x])(e:codeIn K u "Tracks.__init__"=true)(k:keepIn K (.ref f)=true):yp K "__init__" "Tracks.__init__" Y5 ["self","parts","joins","signals"] .non :=
 #[f,_,_,Pe (st:=Y5) l e k,λs r KX z=>by
   rw[pH]at z ⊢;obtain⟨_,_,_,_,rfl⟩:=VL z;show Dg rfl (KX _ _ ld) rfl rfl rfl,.none,rfl,λs r KX z=>by
   have d:r.length=3:=by simpa using z
   obtain⟨_,_,_,rfl⟩:=Pa d;show Dg rfl (KX _ _ ld) rfl rfl rfl]
def Uu{K:lW}{C Y f z:lS}{x nm qn:lR}{bs sub:lQ lT}{sn:lQ lR}{ab:Bool}{col:lV Bool}{dd:lV lS}{k0 k1 k2 k3 k5:lV lT}(lk:K.lookup C=some (excClassObj nm qn C z bs (.ref Y ::vV) true sn sub ab col dd k0 k1 k2 k3 k5 "ValueError.__new__"))(y:keepIn K (.ref C)=true)(w:findIn K (.ref C) "__init__"=some (some<|.ref f))(fn:PySem.W.typeIn K (.ref f)=some (.type "function"))(u:findIn K (.ref C) "__setattr__"=some (some<|.builtin "object.__setattr__"))(s:findIn K (.ref C) x=some none)(g:XG K C):XI K C Y f x:=#[#[_,_,_,_,_,_,_,_,_,_,_,_,_,_,lk],y,w,fn,u,g.xa,s]
def NH(vs:Array lT)(p:lS):Prop:=vs[11]? =some (.ref p)
def mL{K:lW}{fd:mf}{c p:lS}{od:lV lS}{vs:Array lT}{z:Array (lV lT)}(e:fd.code=.ref c)(_:K.lookup c=some #[.type "code",od,.fields vs,z])(_:NH vs p)(h:PySem.W.codeHdIn K c p=true):vn K fd p:=#[c,e,h]
abbrev Tx.pts{K:lW}{mg:lR->lV lT}(T:Tx K mg):lQ lS:=[T.bT,T.bq,T.ba,T.bU,T.br,T.cw]
def sO{K:lW}{a:lS}{od:lV lS}{z:Array (lV lT)}{n:Nat}{y x:Tok}(h:K.lookup a=some #[.type "tuple",od,.seq (List.toArray [.str "" y,.str "" x]) n,z])(H:Hp):SqT K H a ([.str "",.str ""]:lQ V):=.inr #[_,_,_,h,rfl,rfl,by simp[tJ],.cons #[_,rfl]<|.cons #[_,rfl] .nil]
def mE{z:Type}{p:z->Prop}{a:z}(h:p a):∃x,p x:=#[a,h]
def fin{l:PySem.W.OpenLaw}{w:lZ}{K:lW}{h:lY}{x:lR->lV lT}{q f:lS}{g kV o n u j:lT}{od i:lV lS}{d:Array (lV lT)}(X:K.In h)(G:h.Ns mainGlobals x)(r:x "law"=some (.ref q))(T:Tx K x)(a:nsIn K mainGlobals "law"=some (some<|.ref f))(lk:K.lookup f=some #[g,od,.func<|fnOf "law" "law" (W3 vK) (Y7 vK) (Zj vK) .none kV o n i u j,d])(e:codeIn K u "law"=true)(k:keepIn K (.ref f)=true)(y:∀p∈T.pts,h.get? p=some (PySem.W.tabObj #[]))(c:T.pts.Nodup)(Y:PySem.W.noTabs K=true)
  :∃(fd:mf)(tabs:lQ (lS×Array lT)),Bu K h tabs/\(∀(s:lU)(v:lT),BindsTo s fd #[[v],[]] [("_law_script",v)])/\∀mD:lY,K.In mD->mD.Ns mainGlobals x->(∃U,mD.Ns sysModules U)->Xs l.prog w K x mD oN 13 q fd ["_law_script"] (yd K tabs):=by
 have e:=r.symm.trans<|mg_of X G a;cases e;show#[fnOf "law" "law" (W3 vK) (Y7 vK) (Zj vK) .none kV o n i u j,T.tabs,#[qF.mpr #[T.eK.imp λ_ z=>z.2,qF.mpr #[T.dW.imp λ_ z=>z.2,qF.mpr #[T.dX.imp λ_ z=>z.2,qF.mpr #[T.eL.imp λ_ z=>z.2,qF.mpr #[T.dY.imp λ_ z=>z.2,qF.mpr #[T.fk.imp λ_ z=>z.2,λ_ z=>nomatch z]]]]]],qF.mpr #[y T.bT (by simp[Tx.pts]),qF.mpr #[y T.bq (by simp[Tx.pts]),qF.mpr #[y T.ba (by simp[Tx.pts]),qF.mpr #[y T.bU (by simp[Tx.pts]),qF.mpr #[y T.br (by simp[Tx.pts]),qF.mpr #[y T.cw (by simp[Tx.pts]),λ_ z=>nomatch z]]]]]],qF.mpr #[#[_,rfl,by lk],qF.mpr #[#[_,rfl,by lk],qF.mpr #[#[_,rfl,by lk],qF.mpr #[#[_,rfl,by lk],qF.mpr #[#[_,rfl,by lk],qF.mpr #[#[_,rfl,by lk],λ_ z=>nomatch z]]]]]],c,Y],λs v=>.of_eq rfl,λmD _ _=>ZF (Iu (st:=vK) lk ‹_› k) T]
def tQ{K:Params->lW}{as:lQ lS}{e:∀P,as=(K P).map (·.1)}{ts ps:lQ lS}{w:lZ}{h:lY}(Y:(PySem.W.kmHook K as e ts).says w h)(i:(ps.all λp=>ts.contains p)=true:=by lk):∀p∈ps,h.get? p=some (PySem.W.tabObj #[]):=λp z =>
 PySem.W.km_tabs_of Y p (Ja.mp<|wj.mp i p z)
def walk{l:PySem.W.OpenLaw}{q:md}{o:lQ lR}{n:(lR->lV lT)->lY->Prop}{y:lZ->lY->Prop}{d:DefRec}{K:Params->lW}(j:l.most=some 63)(r:d.params.defaults=[])
  (i:∀(w:lZ)(h:lY),y w h->(K w.params).In h)
  (F:∀(w:lZ)(z:lR->lV lT)(p:lS)(h:lY),y w h->(K w.params).In h->h.Ns mainGlobals z->z d.name=some (.ref p)->
   ∃(fd:mf)(tabs:lQ (lS×Array lT)),Bu (K w.params) h tabs/\(∀(s:lU)(u:lT),BindsTo s fd #[[u],[]] [("_law_script",u)])/\∀mD:lY,(K w.params).In mD->mD.Ns mainGlobals z->(∃g,mD.Ns sysModules g)->Xs l.prog w (K w.params) z mD oN 13 p fd ["_law_script"] (yd (K w.params) tabs)) (e:PyProof.Rows.importsNone q=true) :
  PySem.W.WalkO q o n y l.row.toRowW d [] (λf vs=>PySem.call f vs):=L2.walk_ofS (k:=13) (x :="_law_script") j r #[rfl,by lk,by lk,rfl] i F e
end K65
end
namespace PySem.W.Fast
def tw15016006358979826823:=True
lay_quick env_41 heap_1136 heap_39 heap_46 sts_1003 sts_101 sts_1086 sts_116 sts_131 sts_153 sts_175 sts_197 sts_212 sts_232 sts_291 sts_306 sts_335 sts_350 sts_393 sts_443 sts_49 sts_494 sts_556 sts_601 sts_649 sts_71 sts_725 sts_776 sts_86 tree_100 tree_1085 tree_1135 tree_115 tree_130 tree_152 tree_174 tree_196 tree_211 tree_231 tree_290 tree_305 tree_334 tree_349 tree_392 tree_442 tree_47 tree_493 tree_555 tree_600 tree_648 tree_70 tree_724 tree_775 tree_85 tree_915 tree_999 view_39
end PySem.W.Fast
open PySem PySem.W PyProof.Rows L2 K65
set_option maxRecDepth 100000 in
set_option maxHeartbeats 0 in
theorem PySem.Challenge.cw_yardkeep_k64_given_back_holds : PySem.Challenge.rw_yardkeep_k64_given_back.Holds := by
  w_on; o_law; k_head; (case hw=>w_witness2)
  k_fill
  refine K65.walk (l:=PySem.Challenge.rw_yardkeep_k64_given_back) rfl rfl (fun w h Y=>km_in_of Y) ?F ?Qz
  case Qz=>kernel_rfl
  case F=>
   intro w mg fa h Y X G hm
   have g:=fun{n v}=>@mg_of _ _ mg n v X G
   have n:=fun{n}=>@mg_none_of _ _ mg n X G
   refine' K65.fin X G hm ?T ?_ ?_ ?_ ?_ ?tm ?tn ?tq
   case' T=>apply Tx.mk
   all_goals try first|refine' mR ?_ ?_ ?_ ?_|refine' ⟨mR ?_ ?_ ?_ ?_,g ?_⟩|refine' DW ?_ ?_ ?_ ?_|refine' BK ?_ ?_ ?_ ?_
   all_goals try (intro _ _ _ _ _ _ u;rfl)
   all_goals try (refine g ?_;k_is)
   all_goals try (refine n ?_;k_is)
   all_goals try refine' mE (g ?_)
   all_goals try refine' uh (g ?_) ?_
   all_goals try refine' Uu ?_ ?_ ?_ ?_ ?_ ?_ ?_
   all_goals try refine' mL ?_ ?_ ?_ ?_
   all_goals try refine' sO ?_
   all_goals try k_is
   all_goals try (refine ⟨?_,?_,?_,?_⟩<;>(try dsimp only [mR,DW,BK])<;>k_is)
   all_goals try (refine ⟨?_,?_,?_⟩<;>(try dsimp only [mR,DW,BK])<;>k_is)
   all_goals try dsimp only [mR,DW,BK,mV,kB,cB]
   all_goals try k_is
   all_goals try kit_is
   all_goals try k_exc
   all_goals try (refine ⟨⟨?_,?_,?_⟩,?_,?_,?_,?_,?_⟩<;>first|k_is|(show isClsIn _ _=true;k_is))
   all_goals try k_is
   all_goals try (delta NH;rfl)
   all_goals try first|kernel_rfl|rfl
   case tm=>dsimp only [Tx.pts];exact tQ Y
   case tn=>dsimp only [Tx.pts];decide
