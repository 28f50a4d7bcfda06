import PyProof.Rows.All
import Wide.All
import OpenK.AllK
import PySem.Challenge.RW_yardkeep_k62_ways_set
set_option Elab.async false
set_option linter.all false
set_option maxRecDepth 100000
set_option maxHeartbeats 4000000
open PySem.W (Frag kitOne keepIn findIn nsIn mg_of fnOf codeIn)
set_option compiler.extract_closed false
set_option genSizeOf false
set_option hygiene false
local macro_rules|`(∅)=>`(wpAny (model X.prog X.w) X.A)
local macro_rules|`(~~~$x)=>`(($x :lQ)++".<locals>."++"<lambda>")
local macro_rules|`(tactic|rfl')=>`(tactic|intro d6 A my s H vs Q E hr h)
set_option hygiene true
local macro_rules|`(tactic|lk)=>`(tactic|decide)
local macro_rules|`(tactic|left)=>`(tactic|decide +kernel)
open Lean in
local macro_rules|`(lay_quick $i*)=>do
 let g s:=mkIdent (.mkSimple s!"tw{(Name.str `PySem.Challenge.cw_yardkeep_k62_ways_set_holds s).hash}")
 return mkNullNode (<-(i.map (g ·.getId.toString)++(Array.range 1073).map fun k=>g s!"o_{k+43}").mapM fun x=>`(def $x :=True))
local macro_rules(kind:=Lean.Parser.Command.declaration)|x=>do
 if x.getPos?.isNone then Lean.Macro.throwUnsupported
 let n<-`(noncomputable def a:=1)
 return (if [`Lean.Parser.Command.definition,`Lean.Parser.Command.abbrev].contains x[1].getKind&&x[0].getArgs.all (·.isNone) then x.setArg 0 n.raw[0] else x).rewriteBottomUp (·.setInfo .none)
set_option bootstrap.genMatcherCode false
abbrev lP:=@List
abbrev lQ:=PySem.Str
abbrev lR:=PySem.Addr
abbrev lS:=PySem.Value
abbrev lT:=PySem.Shared
abbrev lU:=@Option
abbrev lV:=PySem.W.Frag
abbrev lW:=PySem.Stmt
abbrev lX:=PySem.Heap
abbrev lY:=PySem.World
abbrev lZ:=PySem.Expr
abbrev ma:=PySem.Program
abbrev md:=PySem.Around
abbrev me:=PySem.FuncData
def mI:=@List.length_map
def nO:=@PySem.Heap.get?_push_of_some
def mP:=@PySem.wpAny_bind
def ng:=@List.map_append
def mV:=@List.mem_map
def nU:=@Option.map_eq_some_iff
def nK:=@List.getElem?_map
def nG:=@PySem.Paired.length
def oA:=@List.getElem?_eq_getElem
def nW:=@List.length_append
def nM:=@decide_eq_true
def oN:=@List.getElem?_eq_some_iff
def nw:=@Nat.le_refl
def nI:=@PySem.Heap.lt_size
def nq:=@PySem.wpAny_pure
def nQ:=@List.mem_cons
def ol:=@List.take_add_one
def og:=@decide_eq_false
def ow:=@of_decide_eq_true
def oK:=@PySem.Heap.get?_push_size
def oH:=@Bool.false_ne_true
def nS:=@List.map_cons
def oz:=@List.size_toArray
def nR:=@Nat.ne_of_lt
def oq:=@List.length_take
def pc:=@List.mem_cons_of_mem
def pe:=@List.mem_of_getElem?
def oM:=@List.mem_cons_self
def oo:=@Option.some.inj
def mS:=@if_neg
def nj:=@PyProof.Rows.wpS_bind
def mT:=@if_pos
def ou:=@List.mem_append
def pW:=@PySem.Str.length_append
def oR:=@List.take_length
def pp:=@List.append_assoc
def pD:=@List.mem_singleton
def nH:=@PyProof.Rows.wpS_pure
def oi:=@Nat.le_trans
def qc:=@List.mem_append_right
def pi:=@List.length_cons
def pM:=@Nat.lt_of_lt_of_le
def qk:=@List.forall_mem_cons
def sr:=@PyProof.Rows.boot_isinstance
def pC:=@PySem.PassesOwn.never
def rS:=@PySem.F.excBase_ValueError
def qj:=@Int.emod_lt_of_pos
def oO:=@List.map_map
def pN:=@List.nodup_cons
def qp:=@List.nodup_append
def tN:=@List.getD_eq_getElem?_getD
def pZ:=@Int.emod_nonneg
def sJ:=@List.length_eq_zero_iff
def qf:=@List.append_nil
def qx:=@Bool.and_eq_true
def rL:=@PySem.mem_of_lookup
def qd:=@List.Perm.refl
def sF:=@beq_eq_false_iff_ne
def uf:=@PySem.Heap.get?_update_other
def rC:=@List.filter_cons
def pH:=@Nat.zero_le
def rE:=@List.lookup_cons
def uD:=@List.take_of_length_le
def tX:=@Nat.sub_succ_lt_self
def sO:=@Array.getElem_mem
def rF:=@PySem.W.kia_one
def qH:=@PySem.wpAny_holding
def tD:=@List.filter_append
def ue:=@Array.length_toList
def wo:=@List.drop_eq_getElem_cons
def oJ:=@congrArg
def qR:=@Nat.lt_irrefl
def sj:=@Bool.eq_iff_iff
def ub:=@Bool.false_eq_true
def vO:=@List.getElem?_eq_none
def pT:=@PySem.wpAny_mono
def uS:=@Array.toList_append
def xA:=@List.extract_eq_take_drop
def tz:=@List.of_mem_zip
def wL:=@Array.getElem?_toList
def ri:=@Nat.lt_trans
def vY:=@List.perm_append_comm
def wH:=@PyProof.Rows.boot_str
def wI:=@List.length_filter_le
def wK:=@PyProof.Rows.boot_int
def ut:=@List.mem_nil_iff
def uP:=@PySem.wpAny_truthy_bool
def vT:=@List.mem_append_left
def vR:=@PySem.wpAny_Call_Name_kw
def xr:=@PyProof.Rows.boot_list
def xJ:=@PyProof.Rows.boot_dict
def wz:=@List.getElem_of_mem
def vP:=@PySem.wpAny_newObj_type
def xl:=@List.length_singleton
def wT:=@List.take_append_drop
def rQ:=@PyProof.Rows.wpS_forRange
def yJ:=@PyProof.Rows.boot_sorted
def Ac:=@List.dropLast_concat_getLast
def ur:=@PySem.Heap.size_push
def ul:=@List.nodup_nil
def pb:=@Ne.symm
def zQ:=@PyProof.Rows.callWith_type1
def xT:=@PySem.F.plainAttrs_list
def xq:=@List.mem_of_mem_take
def wZ:=@Array.toList_extract
def vJ:=@List.mem_flatMap
def yt:=@PySem.Calls.callWith_builtin
def xL:=@Option.some_ne_none
def Az:=@List.getLast?_eq_getElem?
def vA:=@List.mem_filter
def rG:=@beq_iff_eq
def xE:=@PySem.Code.quiet_builtin
def wE:=@List.all_eq_true
def wf:=@List.not_mem_nil
def ye:=@PySem.Heap.get?_none_of_le
def zO:=@PyProof.Rows.boot_tuple
def Dh:=@PyProof.Rows.slot_tuple_getitem
def xC:=@PySem.wpAny_pyIter_list
def rR:=@True.intro
def tU:=@PySem.sizeLine_eq
def tw:=@Nat.le_succ
def we:=@List.find?_cons
def yd:=@PySem.W.KT.app_list
def yB:=@List.flatMap_append
def Bg:=@PyProof.Rows.boot_bool
def zT:=@PyProof.Rows.boot_repr
def Ci:=@List.getElem?_append_right
def CL:=@Array.getElem?_eq_some_iff
def uW:=@Nat.le_of_lt
def yu:=@List.mem_filterMap
def uH:=@List.map_nil
def zi:=@PySem.tupleKind_room_in1
def AD:=@Array.mem_toList_iff
def Bb:=@PySem.W.looks_findIn
def AI:=@List.getElem?_of_mem
def xg:=@PySem.wpAny_passesOwn
def yf:=@decide_eq_true_eq
def DD:=@PySem.F.slot_list_getattribute
def yw:=@List.foldl_append
def vw:=@PySem.codeAny_mono
def CU:=@PySem.F.plainAttrs_dict
def Ed:=@PySem.wpAny_getItem_str_slice
def vW:=@List.map_take
def AZ:=@List.map_congr_left
def DL:=@List.eraseIdx_cons_succ
def zr:=@List.length_drop
def Ao:=@PySem.F.slot_list_pop
def yl:=@beq_self_eq_true
def Dv:=@List.Perm.append_right
def Ag:=@PySem.Calls.spliced_cons
def zG:=@PySem.W.callWith_K
def rD:=@if_false
def AX:=@Nat.pos_of_ne_zero
def yZ:=@List.cons.injEq
def wr:=@Nat.le_of_eq
def Dp:=@PySem.Heap.get?_update_self
def Di:=@PySem.Obj.isFreed_of_fields
def Cz:=@List.getElem?_toArray
def Bo:=@List.Perm.append_left
def uC:=@PySem.wpAny_call
def zL:=@Int.toNat_natCast
def xN:=@List.any_cons
def AE:=@PySem.wpAny_loadPart_at
def uF:=@PySem.wpAny_rule
def Ct:=@PySem.Calls.evalArgs_plain
def Bt:=@PySem.wpAny_newFunctionEnv
def Du:=@PySem.codeAny_call_builtin
def Gx:=@List.getElem?_append_left
def Eh:=@PySem.Calls.call_function_entry
def As:=@Nat.lt_succ_self
def sU:=@or_false
def Be:=@List.drop_length
def sM:=@PyProof.Rows.wpS_mono
def wx:=@Sum.inr.inj
def BE:=@PySem.BindsTo.of_defaults
def wX:=@Nat.ne_of_gt
def Hr:=@Option.isSome_iff_exists
def xF:=@PySem.wpAny_typeOf
def DK:=@PySem.W.of_hideAll
def Av:=@PySem.wpAny_execs_nil
def EI:=@List.getElem?_replicate
def HP:=@PySem.wpAny_Call_method0_late
def CM:=@PySem.Obj.data_mapFields
def yQ:=@Prod.mk.injEq
def AA:=@List.filter_nil
def CQ:=@Nat.add_sub_cancel
def EJ:=@List.pairwise_singleton
def FK:=@List.getElem?_set_self
def EZ:=@PySem.wpAny_pyNext_list_item
def EW:=@PySem.W.cellsFrom_some
def Hn:=@List.append_eq_nil_iff
def DX:=@List.flatMap_cons
def JL:=@PySem.plainObj_wpAny_Assign_Attribute
def BU:=@PySem.Calls.spliced_nil
def xR:=@PySem.wpAny_field
def Qd:=@List.eraseIdxIfInBounds_toArray
def DI:=@bne_self_eq_false
def Nu:=@Array.getElem?_setIfInBounds_ne
def Eb:=@List.reverse_cons
def Da:=@List.reverse_perm
def DC:=@List.length_range
def zI:=@List.mem_range
def Bm:=@List.Perm.swap
def GN:=@PySem.wpAny_pyNext_list_end
def Ga:=@PySem.W.methodCall_KW
def HR:=@PySem.F.slot_dict_get
def yR:=@Nat.lt_or_ge
def Fy:=@PySem.wpAny_notOrdered_dict
def Gr:=@PySem.F.type_list_pop
def GE:=@List.dropLast_eq_take
def Dr:=@PySem.wpAny_eqBool_str
def CA:=@PySem.wpAny_execs_cons
def BK:=@PySem.wpAny_call_entry
def DO:=@List.getElem_mem
def DJ:=@List.nil_sublist
def Io:=@List.getElem?_set_ne
def EC:=@PySem.Around.frames_deeper
def EM:=@PySem.SeqAt.EqAt.bool_bool
def Hi:=@PySem.F.slot_dict_update
def Ij:=@Array.toList_reverse
def AC:=@PySem.wpAny_standAt
def xj:=@PySem.typeIs_str
def Dl:=@List.nil_append
def IA:=@PySem.W.hideAll_get
def Iw:=@List.filterMap_cons
def EQ:=@PySem.W.plainGet_of
def FY:=@PySem.W.looks_clsIn
def tI:=@if_true
def Br:=@PySem.SeqAt.EqAt.same
def DA:=@PySem.post_val_or_str
def By:=@Bool.or_eq_true
def Fq:=@PySem.evalArgs_none
def Cb:=@PySem.codeAny_builtin
def GA:=@PySem.W.codeHd_of_K
def Cy:=@List.Perm.trans
def Dk:=@List.range_succ
def CT:=@Nat.not_lt_zero
def Eg:=@Nat.mul_le_mul_left
def MR:=@PySem.Calls.Name_function_global
def Lp:=@PySem.wpAny_newFunctionEnv_cells
def Ox:=@Array.toList_setIfInBounds
def Jr:=@Array.perm_iff_toList_perm
def Bi:=@PySem.call_meetsIn
def Gq:=@Nat.lt_of_le_of_lt
def GD:=@Option.isNone_none
def JO:=@List.getLast?_eq_some_iff
def Ql:=@Classical.byContradiction
def Qn:=@List.mem_take_iff_getElem
def Eu:=@PySem.slot_list_getitem
def MK:=@PySem.wpAny_getItem_list_slice
def zq:=@PySem.call_meets
def EU:=@Option.isSome_map
def NO:=@PySem.wpAny_comprehension_free
def LJ:=@PySem.F.slot_dict_values
def Ei:=@Nat.lt_succ_of_lt
def FV:=@List.Pairwise.map
def OH:=@PySem.F.args_tuple_add_2
def Gv:=@Array.toList_push
def OF:=@List.sublist_append_left
def MC:=@PySem.F.args_dict_get_3
def Lk:=@PySem.F.slot_dict_items
def Kw:=@PySem.F.attr_ValueError
def MU:=@decide_eq_false_iff_not
def Ar:=@List.not_lt
def Jk:=@PySem.F.entry_tuple_add
def uL:=@PyProof.Rows.wpS_get
def FN:=@decide_eq_decide
def EA:=@PySem.W.kat_cons
def Po:=@PySem.F.entry_dict_get
def JJ:=@PySem.W.funFrames_hide
def Pb:=@PySem.F.slot_tuple_add
def Mv:=@List.length_replicate
def PV:=@PySem.F.slot_list_append
def Ff:=@List.length_nil
def Cd:=@PySem.Txt.slice_le
def Dq:=@Nat.add_zero
def KM:=@List.contains_iff_mem
def GH:=@PySem.W.kat_yes
def Ko:=@PySem.F.slot_tuple_lt
def Fb:=@List.sum_append
def FW:=@List.length_zip
def Ad:=@PyProof.Rows.wpS_modify
def xt:=@PyProof.Rows.wpS_lift
def JQ:=@PySem.W.hideAll_none
def PR:=@PySem.W.kla_callFunE
def Od:=@PySem.W.kla_codeExpr
def KI:=@List.length_dropLast
def Pz:=@PySem.W.KatTups.cons
def Mr:=@Nat.mul_le_mul_right
def JZ:=@List.drop_eq_nil_iff
def Fw:=@PySem.wpAny_loadPart
def Fx:=@PySem.wpAny_setField
def EO:=@List.drop_zero
def IE:=@PySem.boot_len
def HS:=@PySem.W.kat_go
def Gn:=@PySem.W.kat_no
def PC:=@PySem.W.findObj_own
def Dc:=@PySem.Paired.snoc
def Lg:=@PySem.W.KeqHits.hit
def Oa:=@PySem.W.looks_mroIn
def IZ:=@List.take_succ_cons
def PY:=@List.filter_eq_self
def Lc:=@PySem.W.KatTups.nil
def Ms:=@PySem.W.codeRec_of
def FT:=@List.all_cons
def GC:=@Bool.false_or
def JD:=@PySem.W.check_slot
def Fv:=@List.cons.inj
def FQ:=@List.take_add
def Kj:=@Array.size_extract
def HJ:=@Bool.not_true
def Iu:=@List.map_drop
def Cu:=@PySem.Walks.list
def Gy:=@getElem?_pos
def Fu:=@List.map_id
def Bu:=@and_true
def yM:=@Or.inl
def zm:=@Or.inr
open Prod(fst snd)
section
local macro_rules|`(tactic|show $t)=>`(tactic|exact $t)
local macro_rules|`(#v[$a])=>`(($a).heap.objs.size)
local macro_rules|`(#[$a])=>`(⟨$a⟩)|`(#[$a,$b,*])=>`(⟨$a,$b,*⟩)
namespace L2
open PySem PySem.Spec PyProof.Rows
abbrev mZ:=Sum Int lQ
def wk:mZ->lS->Bool
 | .inl k,v=>Value.isInt k v
 | .inr x,v=>Value.isStrOf x v
def RH(w:lY):mZ->Int
 | .inl k=>hashInt k
 | .inr x=>hashStr w x
theorem Xg:∀{k:mZ}{v:lS},wk k v=true->(∃i t,k=Sum.inl i/\v=Value.int i t)\/(∃x t,k=Sum.inr x/\v=Value.str x t)
 | .inl i,v,h=>by
  obtain⟨t,e⟩:=Value.isInt_shape (k:=i) (v:=v) h;show .inl #[i,t,rfl,e]
 | .inr x,v,h=>by
  obtain⟨t,e⟩:=Value.isStrOf_shape (x:=x) (v:=v) h;show .inr #[x,t,rfl,e]
def Ri(i:Int)(t:Tok):wk (.inl i) (.int i t)=true:=by simp[wk,Value.isInt]
def Zxl(x:lQ)(t:Tok):wk (.inr x) (.str x t)=true:=by simp[wk,Value.isStrOf]
def RC(a b:Int):decide ((Sum.inl a:mZ)=Sum.inl b)=(a ==b):=by
 by_cases e:a=b
 ·subst e;simp
 ·have h:¬(Sum.inl a:mZ)=Sum.inl b:=λq=>e<|Sum.inl.inj q
  rw[og h];show(sF.mpr e).symm
def Yed(a b:lQ):decide ((Sum.inr a:mZ)=Sum.inr b)=decide (a=b):=by
 by_cases e:a=b
 ·subst e;simp
 ·have h:¬(Sum.inr a:mZ)=Sum.inr b:=λq=>e<|wx q
  rw[og h,og e]
def Ygb(a:Int)(b:lQ):decide ((Sum.inl a:mZ)=Sum.inr b)=false:=og (λq=>nomatch q)
def Yfe(a:lQ)(b:Int):decide ((Sum.inr a:mZ)=Sum.inl b)=false:=og (λq=>nomatch q)
def Z4(prog:ma)(w:lY):PySem.KeyKind prog w mZ where
 is:=wk
 hash:=RH w
 inj:=λv a b q r=>by
  rcases Xg q with⟨i,t,rfl,rfl⟩|⟨x,t,rfl,rfl⟩
  ·rcases Xg r with⟨j,u,rfl,e⟩|⟨y,u,rfl,e⟩
   ·injection e with z _;rw[z]
   ·show nomatch e
  ·rcases Xg r with⟨j,u,rfl,e⟩|⟨y,u,rfl,e⟩
   ·show nomatch e
   ·injection e with z _;rw[z]
 byValue:=λk v h=>by
  rcases Xg h with⟨i,t,rfl,rfl⟩|⟨x,t,rfl,rfl⟩<;>rfl
 pyHash:=λs h=>by
  rcases Xg s with⟨i,t,rfl,rfl⟩|⟨x,t,rfl,rfl⟩
  ·show wpAny_pyHash_int h
  ·show wpAny_pyHash_str h
 eqBool:=λp s h=>by
  rcases Xg p with⟨i,t,rfl,rfl⟩|⟨x,t,rfl,rfl⟩
  ·rcases Xg s with⟨j,u,rfl,rfl⟩|⟨y,u,rfl,rfl⟩
   ·rw[RC]at h;show wpAny_eqBool_int h
   ·rw[Ygb]at h;show SeqAt.EqAt.int_str i t y u _ _ _ _ h
  ·rcases Xg s with⟨j,u,rfl,rfl⟩|⟨y,u,rfl,rfl⟩
   ·rw[Yfe]at h;show SeqAt.EqAt.str_int x t j u _ _ _ _ h
   ·rw[Yed]at h;show Dr h
 «strs» :=λk x t v h=>by
  rcases Xg h with⟨i,u,rfl,e⟩|⟨y,u,rfl,e⟩
  ·show nomatch e
  ·injection e with z _
   subst z;cases v<;>rfl
def Zs3(prog:ma)(w:lY)(i:Int)(t:Tok):(Z4 prog w).is (.inl i) (.int i t)=true:=Ri i t
def XW(prog:ma)(w:lY)(x:lQ)(t:Tok):(Z4 prog w).is (.inr x) (.str x t)=true:=Zxl x t
inductive V where
 | non|bl (b:Bool)|int (i:Int)|str (x:Str)|byt (b:Array UInt8)|flt (b:UInt64)|ref (a:Addr)|ty (n:String)
 deriving DecidableEq
def Yj:V->lS->Prop
 | .non,u=>u=Value.none
 | .bl b,u=>u=Value.bool b
 | .int i,u=>∃t,u=Value.int i t
 | .str x,u=>∃t,u=Value.str x t
 | .byt b,u=>∃t,u=Value.bytes b t
 | .flt b,u=>∃t,u=Value.float b t
 | .ref a,u=>u=Value.ref a
 | .ty n,u=>u=Value.type n
abbrev Z6:lP V->lP lS->Prop:=Paired Yj
def Z6.length(r:Z6 xs us):xs.length=us.length:=nG r
theorem Z6.get:∀{xs:lP V}{us:lP lS}{i:Nat}{x:V},Z6 xs us->xs[i]? =some x->∃u,us[i]? =some u/\Yj x u
 | _,_,_,_,.nil,e=>by simp at e
 | _,_,0,_,.cons r _,e=>by simp at e;subst e;show#[_,rfl,r]
 | _,_,i+1,x,.cons _ t,e=>by
  obtain⟨u,z,y⟩:=Z6.get (i:=i) (x:=x) t (by simpa using e);show#[u,by simpa using z,y]
theorem Z6.set(r:Yj x u):∀{xs:lP V}{us:lP lS}(i:Nat),Z6 xs us->Z6 (xs.set i x) (us.set i u)
 | _,_,_,.nil=>.nil
 | _,_,0,.cons _ t=>.cons r t
 | _,_,i+1,.cons q t=>.cons q<|Z6.set r i t
theorem Z6.append:∀{xs z:lP V}{us y:lP lS},Z6 xs us->Z6 z y->Z6 (xs++z) (us++y)
 | _,_,_,_,.nil,s=>s
 | _,_,_,_,.cons r t,s=>.cons r<|Z6.append t s
theorem Z6.take:∀{xs:lP V}{us:lP lS}(n:Nat),Z6 xs us->Z6 (xs.take n) (us.take n)
 | _,_,0,_=>.nil
 | _,_,_+1,.nil=>.nil
 | _,_,n+1,.cons r t=>.cons r<|Z6.take n t
theorem Z6.drop:∀{xs:lP V}{us:lP lS}(n:Nat),Z6 xs us->Z6 (xs.drop n) (us.drop n)
 | _,_,0,r=>r
 | _,_,_+1,.nil=>.nil
 | _,_,n+1,.cons _ t=>Z6.drop n t
def qi:lU V->lU lS->Prop
 | some v,some u=>Yj v u
 | none,none=>True
 | _,_=>False
def KV{z:Type}:lP (z×V)->lP (z×lS)->Prop:=Paired λ(p:z×V) (q:z×lS)=>p.1=q.1/\Yj p.2 q.2
def kV:mZ->V
 | .inl i=>.int i
 | .inr x=>.str x
inductive HO where
  | lst (xs:List V)
  | tup (xs:List V)
  | dK (kvs:List (mZ×V))|dT (kvs:List (List mZ×V))
  | set (S:Int->Bool) (n:Nat)
  | ins (C dx:Addr) (fs:List (Str×V))
  | own (x:Addr)
  | xd (fs:List (Str×V))
  | met (f x:Addr)
  | rng (lo hi:Int)
  | frz (o:Obj) (u:HO)
  | tbl (ps:Array Value)
  | ext (φ:Heap->Prop)
abbrev Hp:=lR->lU HO
def mH(H:Hp)(a:lR)(o:HO):Hp:=λb=>if b=a then some o else H b
def Zd :mH H a o a=some o:=by unfold mH;rw[mT rfl]
def Ze(h:b≠a):mH H a o b=H b:=by unfold mH;rw[mS h]
def EH :mH (mH H a o) a u=mH H a u:=by
 funext b;unfold mH;split<;>rfl
def Pd{H:Hp}{a b:lR}{o u:HO}(h:H a=some o)(h':H b=some u)(d:o≠u):a≠b:=by
 intro e;subst e;rw[h]at h';show d<|oo h'
def Zg{H:Hp}{a b:lR}{o:HO}(h:H a=some o)(h':H b=none):a≠b:=by
 intro e;subst e;rw[h]at h';cases h'
def Iv(z:Obj)(c y:lR):Prop:=∀h:lX,h.get? c=some z->PySem.W.CodeHd h c y
def Xy(z:lP (Nat×Nat×lQ)):Array lS:=(z.flatMap λp=>[rawInt p.1,rawInt p.2.1,.str p.2.2 0]).toArray
def rM(fs:lP (Nat×Nat×lQ×lR)):Array lS:=(fs.flatMap λf=>[rawInt f.1,rawInt f.2.1,.ref f.2.2.2]).toArray
def Qi{m n:Nat}(h:rawInt m=rawInt n):m=n:=by
 unfold rawInt at h
 injection h with h
 lia
def Zyp:∀{y z:lP (Nat×Nat×lQ)},Xy y=Xy z->y=z:=by
 intro y z h;have h:(y.flatMap λp=>[rawInt p.1,rawInt p.2.1,Value.str p.2.2 0])=z.flatMap λp=>[rawInt p.1,rawInt p.2.1,Value.str p.2.2 0]:=by
  unfold Xy at h;simpa using h
 induction y generalizing z with
 | nil=>cases z with
  | nil=>rfl
  | cons m r=>simp at h
 | cons l r w=>cases z with
  | nil=>simp at h
  | cons m u =>
   simp only[DX,List.cons_append,Dl,yZ]at h;obtain⟨s,q,o,x⟩:=h;obtain⟨n,j,i⟩:=l;obtain⟨g,e,d⟩:=m;have c:n=g:=Qi s;have a:j=e:=Qi q;have Y:i=d:=by injection o
   have U:r=u:=by first|show w (oJ List.toArray x) x|show w<|oJ List.toArray x
   rw[c,a,Y,U]
theorem Yc3:∀{z:lP (Nat×Nat×lQ)},Xy z≠ (List.toArray [Value.none])
 | [],h=>by simp[Xy]at h
 | _ ::_,h=>by simp[Xy]at h
theorem Ib:∀fs:lP (Nat×Nat×lQ×lR),TriplesOk (rM fs).toList
 | []=>trivial
 | f ::fs=>by
  have:=Ib fs;unfold rM at this ⊢;simpa[TriplesOk,rawInt]using this
theorem NT :∀{fs:lP (Nat×Nat×lQ×lR)},codeAmong pos (rM fs).toList=some cv->∃f∈fs,cv=.ref f.2.2.2/\f.1=pos.line/\f.2.1=pos.col
 | [],h=>by simp[rM,codeAmong]at h
 | f ::fs,h=>by
  have e:(rM<|f ::fs).toList=rawInt f.1 ::rawInt f.2.1 ::Value.ref f.2.2.2 ::(rM fs).toList:=by simp[rM]
  rw[e]at h;have h:(if((f.1:Int) ==(pos.line:Int) && (f.2.1:Int) ==(pos.col:Int))=true then some (Value.ref f.2.2.2)else codeAmong pos (rM fs).toList)=some cv:=h;split at h
  ·rename_i z;simp only[qx,rG]at z;show#[f,oM,(oo h).symm,by lia,by lia]
  ·obtain⟨g,y,r⟩:=NT h;show#[g,pc _ y,r]
def VF(fs:lP (Nat×Nat×lQ×lR))(f:Nat×Nat×lQ×lR):rM (fs++[f])=rM fs++ (List.toArray [rawInt f.1,rawInt f.2.1,.ref f.2.2.2]):=by
 unfold rM;simp
section
variable (P:ma) (w:lY)
def Yc(H:Hp)(h:lX)(a:lR):HO->Prop
 | .lst s=>s.length<=sizeLine/\∃(l:lP lS)(n:Nat),Z6 s l/\h.get? a=some {cls:=.type "list",data:=.seq l.toArray n}
 | .tup s=>s.length<=sizeLine/\∃l:lP lS,Z6 s l/\IsTup h a l.toArray
 | .dK y=>y.length<=sizeLine/\(a ==sysModules)=false/\∃j,KV y j/\h.DictOf (Z4 P w) a j
 | .dT y=>y.length<=sizeLine/\(a ==sysModules)=false/\∃s:lP (lP mZ×lR×lS),
   Paired (λ(p:lP mZ×V) (q:lP mZ×lR×lS)=>p.1=q.1/\H q.2.1=some (.tup<|p.1.map kV)/\Yj p.2 q.2.2) y s/\
   ∃o z x,h.get? a=some o/\o.ExactDict/\o.data=.dict z x/\z.toList=s.map (entryOfKey<|tupleKind<|Z4 P w)/\(s.map (·.1)).Nodup
 | .set S n=>h.SetOf (intKind P w) a S n
 | .ins C z fs=>H z=some (.own a)/\fs.length<=1000/\z≠a/\h.get? a=some (PySem.W.instObj C z)/\
   ∃r,h.Ns1 z r/\(∀f,qi (fs.lookup f)<|r f)/\PySem.Within r (fs.map (·.1))
 | .own _=>∃o,h.get? a=some o
 | .xd fs=>∃r,h.Ns1 a r/\∀f,qi (fs.lookup f) (r f)
 | .rng lo z=>∃t u v,h.get? a=some {cls:=.type "range",data:=.fields (List.toArray [.int lo t,.int z u,.int 1 v])}
 | .frz o u=>h.get? a=some o/\Yc H h a u
 | .tbl i=>∃z:Array lS,h.get? a=some {cls:=.none,data:=.fields z}/\(i=(List.toArray [.none])/\TriplesOk z.toList\/∃(x:lP (Nat×Nat×lQ)) (fs:lP (Nat×Nat×lQ×lR)),i=Xy x/\(x.map λp=>(p.1,p.2.1)).Nodup/\z=rM fs/\
   ∀f∈fs,((f.1,f.2.1,f.2.2.1):Nat×Nat×lQ)∈x/\∃(q:Obj)(j:Array lS)(e:Nat)(g:lR),H f.2.2.2=some (.frz q<|.own a)/\q.data=.fields j/\j[1]? =some (.str f.2.2.1 e)/\H g=some (.tbl<|List.toArray [.none])/\Iv q f.2.2.2 g)
 | .met f x=>h.get? a=some (PySem.W.methodObj (.ref f)<|.ref x)
 | .ext z=>z h/\(∃o,h.get? a=some o)/\∀x q:lX,z x->(∀o,x.get? a=some o->q.get? a=some o)->z q
def oj(H:Hp)(h:lX):Prop:=∀a o,H a=some o->Yc P w H h a o
end
section
def Yc.lt(x:Yc P w H h a o):a<h.objs.size:=by
 cases o with
 | lst r=>obtain⟨_,_,_,_,e⟩:=x;show nI e
 | tup r=>obtain⟨_,_,_,p⟩:=x;show p.lt
 | dK s=>obtain⟨_,_,_,_,o,_,_,e,_⟩:=x;show nI e
 | dT s=>obtain⟨_,_,_,_,o,_,_,e,_⟩:=x;show nI e
 | set S n=>obtain⟨o,_,_,_,e,_⟩:=x;show nI e
 | ins C z fs=>obtain⟨_,_,_,e,_⟩:=x;show nI e
 | own y=>obtain⟨_,e⟩:=x;show nI e
 | xd fs=>obtain⟨_,⟨_,_,_,e,_⟩,_⟩:=x;show nI e
 | rng lo z=>obtain⟨_,_,_,e⟩:=x;show nI e
 | frz z u=>obtain⟨e,_⟩:=x;show nI e
 | tbl z =>
  obtain⟨_,e,_⟩:=x;show nI e
 | met f y=>show nI (show h.get? a=some _ from x)
 | ext z=>obtain⟨_,⟨_,e⟩,_⟩:=x;show nI e
theorem Paired.mapP{z y:Type}{F G:z->y->Prop}:∀{l₁:lP z}{l₂:lP y},Paired F l₁ l₂->(∀a b,F a b->G a b)->Paired G l₁ l₂
 | _,_,.nil,_=>.nil
 | _,_,.cons r t,f=>.cons (f _ _ r)<|Paired.mapP t f
def Yc.stay(x:Yc P w H h a o)(k:∀b u,(b=a\/H b=some (.own a))->h.get? b=some u->h'.get? b=some u)
  (J:∀b,H b=some (.own a)->g b=some (.own a)) (I:∀b xs,H b=some (.tup xs)->g b=some (.tup xs))
  (G:∀b o,H b=some (.frz o<|.own a)->g b=some (.frz o<|.own a):=by first|show λ_ _ q=>q|(intro b o q;rw[Ze (Zg q<|by assumption)];show q))
  (E:∀b ps,H b=some (.tbl ps)->g b=some (.tbl ps):=by first|show λ_ _ q=>q|(intro b o q;rw[Ze (Zg q<|by assumption)];show q)):Yc P w g h' a o:=by
 induction o with
 | lst xs=>obtain⟨y,Y,n,r,e⟩:=x;show#[y,Y,n,r,k _ _ (.inl rfl) e]
 | tup xs=>obtain⟨y,Y,r,l,e,c⟩:=x;show#[y,Y,r,l,k _ _ (.inl rfl) e,c]
 | dK U=>obtain⟨y,s,Q,r,l,j,i,e,c⟩:=x;show#[y,s,Q,r,l,j,i,k _ _ (.inl rfl) e,c]
 | dT U =>
  obtain⟨y,s,xs,r,l,j,i,e,c⟩:=x;show#[y,s,xs,Paired.mapP r λp q y=>#[y.1,I _ _ y.2.1,y.2.2],l,j,i,k _ _ (.inl rfl) e,c]
 | set S n=>obtain⟨l,j,i,t,e,c⟩:=x;show#[l,j,i,t,k _ _ (.inl rfl) e,c]
 | ins C D fs =>
  obtain⟨d,y,z,e,N,⟨M,j,i,L,c⟩,r⟩:=x;show#[J _ d,y,z,k _ _ (.inl rfl) e,N,#[M,j,i,k _ _ (.inr d) L,c],r]
 | own s=>obtain⟨l,e⟩:=x;show#[l,k _ _ (.inl rfl) e]
 | xd fs=>obtain⟨N,⟨M,j,i,e,c⟩,r⟩:=x;show#[N,#[M,j,i,k _ _ (.inl rfl) e,c],r]
 | rng lo z=>obtain⟨t,u,v,e⟩:=x;show#[t,u,v,k _ _ (.inl rfl) e]
 | frz l u z=>obtain⟨e,q⟩:=x;show#[k _ _ (.inl rfl) e,z q]
 | tbl ps =>
  obtain⟨z,e,q⟩:=x;show#[z,k a _ (.inl rfl) e,q.imp_right λ⟨d,fs,D,L,C,q⟩=>#[d,fs,D,L,C,λf B=>let⟨A,oc,Q,tt,Pn,f1,f2,f3,f4,f5⟩:=q f B;#[A,oc,Q,tt,Pn,G _ _ f1,f2,f3,E _ _ f4,f5]]]
 | met f s =>
  have e:h.get? a=some (PySem.W.methodObj (.ref f)<|.ref s):=x;change h'.get? a=some (PySem.W.methodObj (.ref f)<|.ref s);show k a _ (.inl rfl) e
 | ext z=>obtain⟨p,⟨o,e⟩,st⟩:=x;show#[st _ _ p λo q=>k _ _ (.inl rfl) q,#[o,k _ _ (.inl rfl) e],st]
def oj.lt(x:oj P w H h)(e:H a=some o):a<h.objs.size:=(x a o e).lt
def oj.fresh(x:oj P w H h)(e:h.objs.size<=a):H a=none:=by
 cases q:H a with
 | none=>rfl
 | some u=>show absurd (pM (x.lt q) e)<|qR _
def oj.kept(x:oj P w H h)(k:∀b u,h.get? b=some u->h'.get? b=some u):oj P w H h':=λa o e =>
 (x a o e).stay (λb u _ q=>k b u q) (λ_ q=>q) λ_ _ q=>q
def oj.laid(x:oj P w H h)(k:∀b u,h.get? b=some u->h'.get? b=some u)(s:h.objs.size<=a)(new:Yc P w (mH H a o) h' a o):oj P w (mH H a o) h':=λb u e=>by
 have z:=x.fresh s
 by_cases y:b=a
 ·subst y;rw[Zd]at e;cases e;show new
 ·rw[Ze y]at e;show(x b u e).stay (λc v _ q=>k c v q) (λc q=>by rw[Ze (Zg q z)];show q) λc r q=>by rw[Ze (Zg q z)];show q
end
def Rd(H:Hp)(a:lR)(u:HO):Prop:=H a=some u\/∃o,H a=some (.frz o u)
def Rd.ok(r:Rd H a u)(x:oj P w H h):Yc P w H h a u:=by
 rcases r with r|⟨o,r⟩
 ·show x a u r
 ·obtain⟨_,q⟩:=x a _ r;show q
def Aw:lU HO->Prop
 | some (.lst _)=>True
 | some (.dK _)=>True
 | some (.dT _)=>True
 | some (.set _ _)=>True
 | some (.ins _ _ _)=>True
 | some (.ext _)=>True
 | _=>False
section
def oj.write(ok:oj P w H h)(p:Aw (H x))(he:e=x\/H e=some (.own x))(k:∀b u,b≠e->h.get? b=some u->h'.get? b=some u)(a:∃u,h'.get? e=some u)
  (new:Yc P w (mH H x o') h' x o'):oj P w (mH H x o') h':=λb u q=>by
 have n:∀c y,H c=some (.own y)->c≠x:=λc y r z=>by subst z;rw[r]at p;show p
 have l:∀c i,H c=some (.tup i)->c≠x:=λc i r z=>by subst z;rw[r]at p;show p
 have j:∀c o y,H c=some (.frz o<|.own y)->c≠x:=λc o y r z=>by subst z;rw[r]at p;show p
 by_cases g:b=x
 ·subst g;rw[Zd]at q;cases q;show new
 ·rw[Ze g]at q
  by_cases s:b=e
  ·have d:H b=some (.own x):=by
    rcases he with z|z
    ·show absurd (s.trans z) g
    ·rw[s];show z
   rw[q]at d;cases d;obtain⟨v,Y⟩:=a;show#[v,by rw[s];show Y]
  ·refine(ok b u q).stay (λc v d r=>k c v ?_ r) (λc r=>by rw[Ze (n c b r)];show r) (λc i r=>by rw[Ze (l c i r)];show r) (λc o r=>by rw[Ze (j c o b r)];show r) (λc Y r=>by rw[Ze λz=>by subst z;rw[r]at p;show p];show r);rcases d with rfl|d
   ·show s
   ·rintro rfl;rcases he with z|z
    ·show n c b d z
    ·rw[d]at z;cases z;show g rfl
end
structure Un(fs ex:List Addr)(H H':Hp)(h h':Heap):Prop where
 keep:∀b o,h.get? b=some o->H b=none->b∉fs->b∉ex->h'.get? b=some o
 slot:∀b o,h.get? b=some o->H b=none->b∈fs->b∉ex->∃sl,h'.get? b=some {o with slots:=sl}
 free:∀b o,h.get? b=some o->H b=none->b∉ex->H' b=none
 there:∀b o,h.get? b=some o->b∉ex->∃o',h'.get? b=some o'
 tups:∀b xs,H b=some (.tup xs)->H' b=some (.tup xs)
 frzs:∀b o u,H b=some (.frz o u)->H' b=some (.frz o u)
 tbls:∀b ps,H b=some (.tbl ps)->∃more,H' b=some (.tbl<|ps++more)
section
def Un.any(u:Un fs x H r h w)(q:h.get? b=some ob)(n:H b=none)(z:b∉x):∃s,w.get? b=some {ob with slots:=s}:=by
 by_cases y:b∈fs
 ·show u.slot b ob q n y z
 ·show#[ob.slots,u.keep b ob q n y z]
def Un.kept(k:∀b u,h.get? b=some u->h'.get? b=some u):Un fs y H H h h' :=
 #[λb z q _ _ _=>k b z q,λb z q _ _ _=>#[z.slots,k b z q],λ_ _ _ n _=>n,λb z q _=>#[z,k b z q],λ_ _ q=>q,λ_ _ _ q=>q,λ_ x q=>#[#[],by rw[q];simp]]
def Un.refl:Un fs z H H h h:=Un.kept λ_ _ q=>q
def Un.laid(k:∀b u,h.get? b=some u->h'.get? b=some u)(y:h.objs.size<=a)(z:H a=none):Un fs w H (mH H a o) h h' where
 keep:=λb u q _ _ _=>k b u q
 slot:=λb u q _ _ _=>#[u.slots,k b u q]
 free:=λb u q n _=>by rw[Ze (nR<|pM (nI q) y)];show n
 there:=λb u q _=>#[u,k b u q]
 tups:=λb x q=>by rw[Ze (Zg q z)];show q
 frzs:=λb u x q=>by rw[Ze (Zg q z)];show q
 tbls:=λb s q=>#[#[],by rw[Ze (Zg q z),q];simp]
def Un.write(w:Aw (H x))(he:e=x\/H e=some (.own x))(k:∀b u,b≠e->h.get? b=some u->h'.get? b=some u)(s:∃u,h'.get? e=some u):Un fs g H (mH H x o) h h':=by
 have l:∀b,H b=none->b≠x:=λb n z=>by subst z;rw[n]at w;show w
 have j:∀b,H b=none->b≠e:=λb n z=>by
  subst z;rcases he with r|r
  ·show l b n r
  ·rw[n]at r;cases r
 have p:∀b u,H b=some u->¬Aw (some u)->b≠x:=λb u q nm z=>by subst z;rw[q]at w;show nm w
 refine#[λb u q n _ _=>k b u (j b n) q,λb u q n _ _=>#[u.slots,k b u (j b n) q],λb u q n _=>by rw[Ze (l b n)];show n,λb u q _=>?_,
  λb i q=>by rw[Ze (p b _ q λz=>z)];show q,λb u i q=>by rw[Ze (p b _ q λz=>z)];show q,λb d q=>#[#[],by rw[Ze (p b _ q λz=>z),q];simp]]
 by_cases y:b=e
 ·subst y;show s
 ·show#[u,k b u y q]
end
def uc(h:lX)(H:Hp):lP lR:=(List.range h.objs.size).filter λa=>(H a).isSome
def vK(h:lX)(H:Hp):lX:=PySem.W.hideAll h<|uc h H
def UF(h:lX)(H:Hp):(vK h H).objs.size=h.objs.size:=PySem.W.hideAll_size _ _
def Zyx(e:h.get? b=some o)(n:H b=none):(vK h H).get? b=some o :=
 IA _ e λz=>by
  have q:(H b).isSome=true:=(vA.mp z).2;rw[n]at q;simp at q
def Yct(e:(vK h H).get? b=some o):h.get? b=some o/\H b=none:=by
 have y:h.get? b=some o:=DK (uc h H) e;refine#[y,?_];cases q:H b with
 | none=>rfl
 | some x =>
  have w:b∈uc h H:=vA.mpr #[zI.mpr<|nI y,by simp[q]];have z:(vK h H).get? b=none:=JQ (uc h H) w;rw[z]at e;cases e
def Ui(g h:lX)(L:lR):lP (lR×Obj):=(List.range h.objs.size).filterMap λa=>if a=L\/(g.get? a).isSome=true then none else(h.get? a).map λo=>(a,o)
def Zs(g h:lX)(L d:lR):lP (lR×Obj):=(Ui g h L).filter λp=>decide<|p.1≠d
def OV(x:lQ->lU lS)(h:lX):Prop:=∃y z,x "__builtins__"=some (.ref y)/\y≠builtinsNs/\h.get? y=some z/\z.cls=.type "module"/\z.dict=some builtinsNs/\z.data=.plain
structure Mod(K:Frag)(mg:Str->Option Value)(mB:Heap):Prop where
 kin:K.In mB
 glob:mB.Ns mainGlobals mg
 blt:∃mb,mB.Ns builtinsNs mb/\∀x:Str,x≠ "__name__"->mb x=bootBuiltins x
 nolimit:mB.NoLimit
 bm:OV mg mB
structure Cx where
 prog:Program
 w:World
 K:Frag
 mg:Str->Option Value
 mB:Heap
 A:Around
 N:List Str
 mf:Shared
 mi:Hp
 env:Env
 my:List Env
 stack:List Env
 ex:List Addr
 fn:Str->Bool
 calm:Bool
 pn:List (Addr×Obj)
 xe:Value->Shared->Prop
def nX(l:lP Env):lP lR:=l.filterMap (·.frame)
abbrev Cx.fs(X:Cx):lP lR:=nX X.my
def BV(z:Scope)(x:lQ):Prop:=z.names.lookup x=some .local\/z.names.lookup x=some .cell\/z.names.lookup x=some .free
def vB(z:Scope)(x:lQ):Prop:=z.names.lookup x=some .local\/z.names.lookup x=some .cell
def Yig(env:Env)(h:lX)(m:lQ->lU lS)(x:lQ)(u:lS):Prop :=
 (env.kindOf x=some .local/\m x=some u)\/((env.kindOf x=some .cell\/env.kindOf x=some .free)/\∃c,env.cells.lookup x=some c/\h.IsCell c (some u))
structure Cx.Ok(X:Cx):Prop where
 mod:Mod X.K X.mg X.mB
 kind:X.env.scope.kind=.function
 glob:X.env.globals=mainGlobals
 blt:X.env.builtins=builtinsNs
 above:X.mf.heap.objs.size<=X.env.locals
 inj:∀x y c,X.env.cells.lookup x=some c->X.env.cells.lookup y=some c->x=y
 has:∀x,(X.env.kindOf x=some .cell\/X.env.kindOf x=some .free)->∃c,X.env.cells.lookup x=some c
 cab:∀x c,X.fn x=true->X.env.cells.lookup x=some c->X.mf.heap.objs.size<=c
 hd:X.calm=true->X.A.handled=none
 frames:X.A.frames=some X.stack
 stk:X.stack=X.my\/(X.stack=X.env ::X.my/\X.env.frame=some X.env.locals)
 exf:∀b∈X.ex,b≠X.env.locals/\∀x c,X.env.cells.lookup x=some c->c≠b
 bs:∀b o,X.mB.get? b=some o->X.mf.heap.get? b=some o/\X.mi b=none
 bsz:X.mB.objs.size<=X.mf.heap.objs.size
 noex:∀b o,X.mB.get? b=some o->b∉X.ex
 exfs:∀b∈X.ex,b∉X.fs
 funs:X.mf.heap.FunFrames X.mB X.my
 frf:∀b∈X.fs,X.mi b=none
structure mG(X:Cx)(c7:List (Addr×Obj))(σ:List (Option V))(H:Hp)(s:Shared):Prop where
 ok:X.Ok
 os:s.os=X.mf.os
 bare:AllBare s.gens
 mB:Un X.fs X.ex X.mi H X.mf.heap s.heap
 loc:∃m,s.heap.Ns X.env.locals m/\∀(i:Nat)(x:Str)(v:V),X.N[i]? =some x->σ[i]? =some (some v)->BV X.env.scope x->∃u,Yj v u/\Yig X.env s.heap m x u
 cell:∀x c,X.env.cells.lookup x=some c->∃v,s.heap.IsCell c v
 free:H X.env.locals=none
 freeC:∀x c,X.env.cells.lookup x=some c->H c=none
 pin:∀p∈X.pn++c7,s.heap.get? p.1=some p.2/\H p.1=none/\p.1≠X.env.locals/\p.1∉X.fs/\∀v,p.2.data≠.cell v
 hok:oj X.prog X.w H s.heap
 len:σ.length=X.N.length
variable {X:Cx}
def Cx.Ok.nofr(ok:X.Ok)(e:X.mB.get? b=some o):b∉X.fs:=λz=>by
 have:=(ok.funs.mem z).1;rw[e]at this;cases this
def mG.bs(I:mG X y z H s):∀b o,X.mB.get? b=some o->s.heap.get? b=some o/\H b=none:=λb o e =>
 #[I.mB.keep b o (I.ok.bs b o e).1 (I.ok.bs b o e).2 (I.ok.nofr e) (I.ok.noex b o e),I.mB.free b o (I.ok.bs b o e).1 (I.ok.bs b o e).2 (I.ok.noex b o e)]
def mG.bk(I:mG X y z H s):∀b o,X.mB.get? b=some o->s.heap.get? b=some o:=λb o e=>(I.bs b o e).1
def mG.mod(I:mG X y z H s):Mod X.K X.mg X.mB:=I.ok.mod
def mG.kIn(I:mG X y z H s):X.K.In s.heap:=I.ok.mod.kin.keeps I.bk
def mG.fr(I:mG X x z H s):∃m,Fr X.mB X.env.locals s.heap m :=
 let⟨m,y,_⟩:=I.loc
 #[m,y,I.bk,oi I.ok.bsz I.ok.above]
def mG.lt(I:mG X x z H s):X.env.locals<#v[s]:=let⟨_,y,_⟩:=I.loc;y.lt
def mG.sz(I:mG X y z H s):X.mf.heap.objs.size<=#v[s]:=oi I.ok.above<|uW I.lt
def mG.nofs(I:mG X w z H s)(h:#v[s]<=a):a∉X.fs:=λy=>by
 obtain⟨_,o,x,_⟩:=I.ok.funs.mem y;show absurd (pM (nI x)<|oi I.sz h)<|qR _
def mG.cne(I:mG X q z H s):∀x c,X.env.cells.lookup x=some c->c≠X.env.locals:=λx c e y=>by
 obtain⟨v,o,r,hd⟩:=I.cell x c e;obtain⟨m,⟨p,o,n,w,u,_⟩,_⟩:=I.loc;rw[y,w]at r;cases r;rw[u]at hd;cases hd
def mG.funs(I:mG X d z H s):s.heap.FunFrames X.mB X.my:=by
 have all:∀(l:lP Env),(∀b∈nX l,b∈X.fs)->X.mf.heap.FunFrames X.mB l->s.heap.FunFrames X.mB l:=by
  intro l
  induction l with
  | nil=>intro _ _;trivial
  | cons env r p =>
   intro q n;obtain⟨j,⟨L,o,x,i,h,hd⟩,g⟩:=n;have w:L∈X.fs:=q L (by unfold nX;rw[Iw,x];show oM);obtain⟨c,e⟩:=I.mB.slot L o h (I.ok.frf L w) w λy=>I.ok.exfs L y w
   show#[j,#[L,_,x,i,e,hd],p (λb u=>q b (by unfold nX;rw[Iw,x];show pc _ u)) g]
 show all X.my (λ_ u=>u) I.ok.funs
def mG.stack(I:mG X w z H s):s.heap.FunFrames X.mB X.stack:=by
 rcases I.ok.stk with e|⟨e,y⟩
 ·rw[e];show I.funs
 ·rw[e];obtain⟨m,x,_⟩:=I.loc;refine .cons (by rw[I.ok.kind];decide) y x ?_ I.funs;show ye<|oi I.ok.bsz I.ok.above
def mG.stkSub(I:mG X w z H s):∀b∈nX X.stack,b∈X.env.locals ::X.fs:=λb y=>by
 rcases I.ok.stk with e|⟨e,x⟩
 ·rw[e]at y;show pc _ y
 ·rw[e]at y;unfold nX at y;rw[Iw,x]at y;show y
def mG.stkFree(I:mG X u z H s):∀b∈nX X.stack,H b=none:=λb x=>by
 rcases nQ.mp (I.stkSub b x)with e|x
 ·rw[e];show I.free
 ·obtain⟨_,o,w,_⟩:=I.ok.funs.mem x;show I.mB.free b o w (I.ok.frf b x) λy=>I.ok.exfs b y x
def mG.step{g':Array GenState}{t':Nat}{d':Drawn}{ch:lP lR}(I:mG X B z H s)
  (Q:∀b∈ch,(b∈X.ex\/X.mf.heap.objs.size<=b)/\b≠X.env.locals/\(∀x c,X.env.cells.lookup x=some c->c≠b)/\∀p∈X.pn++B,p.1≠b)
  (keep:∀b o,b≠X.env.locals->b∉X.fs->b∉ch->s.heap.get? b=some o->H b=none->h'.get? b=some o)
  (slot:∀b o,b≠X.env.locals->b∈X.fs->b∉ch->s.heap.get? b=some o->H b=none->∃D,h'.get? b=some {o with slots:=D}) (free:∀b o,b∉ch->s.heap.get? b=some o->H b=none->N b=none)
  (there:∀b o,b∉ch->s.heap.get? b=some o->∃o',h'.get? b=some o')
  (M:∀b xs,H b=some (.tup xs)->N b=some (.tup xs)) (L:∀b o u,H b=some (.frz o u)->N b=some (.frz o u)) (J:∀b ps,H b=some (.tbl ps)->∃more,N b=some (.tbl<|ps++more))
  (ns:∀m,s.heap.Ns X.env.locals m->h'.Ns X.env.locals m) (C:oj X.prog X.w N h') (hg:AllBare g') :
  mG X B z N {s with heap:=h',gens:=g',drawn:=d',toks:=t'}:=by
 have G:∀b o,X.mf.heap.get? b=some o->b≠X.env.locals:=λb o e=>nR<|pM (nI e) I.ok.above
 have g:∀b o,X.mf.heap.get? b=some o->b∉X.ex->b∉ch:=λb o e w Y=>by
  rcases(Q b Y).1 with y|y
  ·show w y
  ·show absurd (pM (nI e) y)<|qR _
 have j:∀x c,X.env.cells.lookup x=some c->∀v,s.heap.IsCell c v->h'.IsCell c v:=λx c e v ⟨o,U,hd⟩=>by
  have h:c∉ch:=λy=>(Q c y).2.2.1 x c e rfl
  by_cases A:c∈X.fs
  ·obtain⟨D,q⟩:=slot c o (I.cne x c e) A h U<|I.freeC x c e;show#[_,q,hd]
  ·show#[o,keep c o (I.cne x c e) A h U<|I.freeC x c e,hd]
 refine#[I.ok,I.os,hg,#[λb o e n Y w=>?_,λb o e n Y w=>?_,λb o e n w=>?_,λb o e w=>?_,λb xs e=>M b xs<|I.mB.tups b xs e,λb o xs e=>L b o xs<|I.mB.frzs b o xs e,λb ps e=>?_],?_,λx c e=>?_,?_,λx c e=>?_,λp hp=>?_,C,I.len]
 ·show keep b o (G b o e) Y (g b o e w) (I.mB.keep b o e n Y w)<|I.mB.free b o e n w
 ·obtain⟨D,a⟩:=I.mB.slot b o e n Y w;obtain⟨r,E⟩:=slot b _ (G b o e) Y (g b o e w) a<|I.mB.free b o e n w;show#[r,E]
 ·obtain⟨o',a⟩:=I.mB.there b o e w;show free b o' (g b o e w) a<|I.mB.free b o e n w
 ·obtain⟨o',a⟩:=I.mB.there b o e w;show there b o' (g b o e w) a
 ·obtain⟨r,a⟩:=I.mB.tbls b ps e;obtain⟨q,E⟩:=J b _ a;show#[r++q,by rw[E,Array.append_assoc]]
 ·obtain⟨m,q,d⟩:=I.loc;refine#[m,ns m q,λi x v a E e3=>?_];obtain⟨u,r,l⟩:=d i x v a E e3;refine#[u,r,?_];rcases l with l|⟨k,c,e,y⟩
  ·show .inl l
  ·show .inr #[k,c,e,j x c e _ y]
 ·obtain⟨v,y⟩:=I.cell x c e;show#[v,j x c e v y]
 ·obtain⟨m,⟨o,_,_,U,_⟩,_⟩:=I.loc;show free _ o (λy=>(Q _ y).2.1 rfl) U I.free
 ·obtain⟨v,o,U,hd⟩:=I.cell x c e;show free c o (λy=>(Q c y).2.2.1 x c e rfl) U<|I.freeC x c e
 ·obtain⟨e,n,r,q,d⟩:=I.pin p hp;have h:p.1∉ch:=λy=>(Q p.1 y).2.2.2 p hp rfl
  show#[keep p.1 p.2 r q h e n,free p.1 p.2 h e n,r,q,d]
def mG.un{t':Nat}(I:mG X l z H s)(u:Un X.fs [] H q s.heap h')(x:oj X.prog X.w q h'):mG X l z q {s with heap:=h',toks:=t'}:=by
 obtain⟨m,⟨o,y,i,p,r⟩,_⟩:=id I.loc;obtain⟨y,j⟩:=u.any p I.free (by simp);show I.step (g':=s.gens) (d':=s.drawn) (ch:=[]) (λ_ y=>nomatch y) (λb o _ w _ e n=>u.keep b o e n w<|by simp) (λb o _ w _ e n=>u.slot b o e n w<|by simp) (λb o _ e n=>u.free b o e n<|by simp) (λb o _ e=>u.there b o e<|by simp) u.tups u.frzs u.tbls (λd i=>by
  obtain⟨c,h,r,y,g⟩:=i;rw[p]at y;cases y;show#[_,h,r,j,g]) x I.bare
def mG.call{g':Array GenState}{t':Nat}{d':Drawn}{ch:lP lR}(I:mG X i z H s)(u:Un (nX X.stack) ch H h s.heap h')(q:oj X.prog X.w h h')(a:AllBare g')
  (g:∀b∈ch,(b∈X.ex\/X.mf.heap.objs.size<=b)/\b≠X.env.locals/\(∀x c,X.env.cells.lookup x=some c->c≠b)/\∀p∈X.pn++i,p.1≠b) :
  mG X i z h {s with heap:=h',gens:=g',drawn:=d',toks:=t'}:=by
 obtain⟨m,⟨o,j,Y,d,r⟩,_⟩:=id I.loc;obtain⟨r,l⟩:=u.any d I.free λy=>(g _ y).2.1 rfl
 show I.step (ch:=ch) g (λb o l r w e n=>u.keep b o e n (λy=>(nQ.mp<|I.stkSub b y).elim l r) w) (λb o _ _ w e n=>u.any e n w) (λb o w e n=>u.free b o e n w) (λb o w e=>u.there b o e w) u.tups u.frzs u.tbls (λN Y=>by
  obtain⟨M,U,j,r,Q⟩:=Y;rw[d]at r;cases r;show#[_,U,j,l,Q]) q a
def mG.turned{t':Nat}{it:lR}(I:mG X j z H s)(k:∀b o,b≠it->s.heap.get? b=some o->h'.get? b=some o)(h:H it=none)(i:it≠X.env.locals)
  (g:it∈X.ex\/X.mf.heap.objs.size<=it) (d:∀x c,X.env.cells.lookup x=some c->c≠it) (a:∀p∈X.pn++j,p.1≠it):mG X j z H {s with heap:=h',toks:=t'}:=by
 have l:∀b u,H b=some u->b≠it:=λb u e y=>by rw[y,h]at e;cases e
 refine I.step (g':=s.gens) (d':=s.drawn) (ch:=[it]) (λb Y=>?_) (λb o _ _ w e _=>k b o (λy=>w<|by simp[y]) e) (λb o _ _ w e _=>#[o.slots,k b o (λy=>w<|by simp[y]) e]) (λ_ _ _ _ n=>n)
  (λb o w e=>#[o,k b o (λy=>w<|by simp[y]) e]) (λ_ _ e=>e) (λ_ _ _ e=>e) (λb r e=>#[#[],by rw[e];simp]) (λm U=>?_) (λb u e=>?_) I.bare
 ·have e:b=it:=by simpa using Y
  subst e;show#[g,i,d,a]
 ·obtain⟨o,q,n,Q,r⟩:=U;show#[o,q,n,k _ o (pb i) Q,r]
 ·refine(I.hok b u e).stay (λc v w q=>k c v ?_ q) (λ_ q=>q) λ_ _ q=>q
  rcases w with y|y
  ·rw[y];show l b u e
  ·show l c _ y
def mG.tok(I:mG X y z H s)(t:Nat):mG X y z H {s with toks:=t}:=I.un (h':=s.heap) (t':=t) Un.refl I.hok
def mG.kept(I:mG X y z H s)(k:∀b u,s.heap.get? b=some u->h'.get? b=some u):mG X y z H {s with heap:=h',toks:=t'}:=I.un (Un.kept k)<|I.hok.kept k
def mG.laid(I:mG X x z H s)(k:∀b u,s.heap.get? b=some u->h'.get? b=some u)(y:#v[s]<=a)(new:Yc X.prog X.w (mH H a o) h' a o) :
  mG X x z (mH H a o) {s with heap:=h',toks:=t'}:=I.un (Un.laid k y<|I.hok.fresh y)<|I.hok.laid k y new
def mG.write(I:mG X r z H s)(w:Aw (H x))(he:e=x\/H e=some (.own x))(k:∀b u,b≠e->s.heap.get? b=some u->h'.get? b=some u)(y:∃u,h'.get? e=some u)
  (new:Yc X.prog X.w (mH H x o) h' x o):mG X r z (mH H x o) {s with heap:=h',toks:=t'}:=I.un (Un.write w he k y)<|I.hok.write w he k y new
def mG.weak(I:mG X u z H s)(r:y.length=z.length)(w:∀(i:Nat) v,y[i]? =some (some v)->z[i]? =some (some v)):mG X u y H s :=
 #[I.ok,I.os,I.bare,I.mB,let⟨m,q,p⟩:=I.loc;#[m,q,λi x v o n l=>p i x v o (w i v n) l],I.cell,I.free,I.freeC,I.pin,I.hok,r.trans I.len]
def mG.pins_of(I:mG X u z H s)(h:∀p∈x,s.heap.get? p.1=some p.2/\H p.1=none/\p.1≠X.env.locals/\p.1∉X.fs/\∀v,p.2.data≠.cell v):mG X x z H s :=
 #[I.ok,I.os,I.bare,I.mB,I.loc,I.cell,I.free,I.freeC,λp w=>(ou.mp w).elim (λy=>I.pin p<|vT _ y) (h p),I.hok,I.len]
def KL{N:lP lQ}(z:N.Nodup){i j:Nat}{x:lQ}(a:N[i]? =some x)(b:N[j]? =some x):i=j:=by
 obtain⟨u,y⟩:=oN.mp a;obtain⟨u,w⟩:=oN.mp b;show(List.getElem_inj z).mp (y.trans w.symm)
def Zwu{M:Model}{A:md}{E:lS->lT->Prop}{i:Nat}{x:lQ}{v:V}{u:lS}{Q:Unit->lT->Prop}(I:mG X c7 z H s)(hN:X.N.Nodup)(B:X.N[i]? =some x)(U:vB X.env.scope x)(r:Yj v u)
  (h:∀s',mG X c7 (z.set i<|some v) H s'->(∃a,Heap.SameBut a s.heap s'.heap/\(a=X.env.locals\/X.env.cells.lookup x=some a))->Q () s') (hf:X.fn x=true\/X.env.scope.names.lookup x=some .local:=by first|show .inl rfl|show .inr rfl|assumption):wpAny M A (storeName X.env x u) Q E s:=by
 obtain⟨m,hn,hl⟩:=id I.loc;have hcls:(X.env.scope.kind ==.class || (X.env.scope.kind ==.module && X.env.locals !=X.env.globals))=false:=by rw[I.ok.kind];rfl
 have L:i<z.length:=by rw[I.len];show(oN.mp B).1
 have cne:=I.cne;have S3:∀{a:lR}{C:lX},(∃o,s.heap.get? a=some o/\H a=none)->Heap.SameBut a s.heap C->oj X.prog X.w H C:=λ{a C} ha l b ob e=>by
  obtain⟨_,_,A7⟩:=ha;refine(I.hok b ob e).stay (λc w' Y q=>(l.2 c ?_).trans q) (λ_ q=>q) λ_ _ q=>q
  rintro rfl;rcases Y with rfl|Y
  ·rw[A7]at e;cases e
  ·rw[A7]at Y;cases Y
 rcases U with J|J
 ·refine wpAny_storeName_local J hn (λC hn' l=>?_) hcls;obtain⟨oL,_,_,hoL,_⟩:=id hn;refine h _ #[I.ok,I.os,I.bare,#[λb o e n G U=>?_,λb o e n G U=>?_,I.mB.free,λb o e U=>?_,I.mB.tups,I.mB.frzs,I.mB.tbls],#[_,hn',λj y v' g N e3=>?_],λy c e=>?_,I.free,I.freeC,λp hp=>?_,S3 #[oL,hoL,I.free] l,by simpa using I.len] #[_,l,.inl rfl]
  ·show(l.2 b<|nR<|pM (nI e) I.ok.above).trans (I.mB.keep b o e n G U)
  ·obtain⟨sl,g⟩:=I.mB.slot b o e n G U;show#[sl,(l.2 b<|nR<|pM (nI e) I.ok.above).trans g]
  ·obtain⟨o',g⟩:=I.mB.there b o e U;show#[o',(l.2 b<|nR<|pM (nI e) I.ok.above).trans g]
  ·by_cases D:j=i
   ·subst D;rw[B]at g;cases g;rw[FK L]at N;cases N;show#[u,r,.inl #[J,by simp]]
   ·rw[Io (pb D)]at N;obtain⟨u',r',q⟩:=hl j y v' g N e3;refine#[u',r',?_];rcases q with⟨k,e⟩|⟨k,c,e,w⟩
    ·refine .inl #[k,?_];have:y≠x:=λe=>D<|KL hN g<|e ▸ B
     simp[this,e]
    ·show .inr #[k,c,e,w.sameBut l<|cne y c e]
  ·obtain⟨w',w⟩:=I.cell y c e;show#[w',w.sameBut l<|cne y c e]
  ·obtain⟨e,n,ne,nf,d⟩:=I.pin p hp;show#[(l.2 p.1 ne).trans e,n,ne,nf,d]
 ·have O1:X.fn x=true:=by
   rcases hf with w|w
   ·show w
   ·rw[w]at J;cases J
  obtain⟨c,Y⟩:=I.ok.has x<|.inl J;obtain⟨w',w⟩:=I.cell x c Y;refine wpAny_storeName_cell I.ok.kind J Y w λC Q7 l=>?_;obtain⟨oc,hoc,hocd⟩:=id w;refine h {s with heap:=C} #[I.ok,I.os,I.bare,#[λb o e n G U=>?_,λb o e n G U=>?_,I.mB.free,λb o e U=>?_,I.mB.tups,I.mB.frzs,I.mB.tbls],#[m,hn.sameBut l<|pb<|cne x c Y,λj y v' g N e3=>?_],λy c' e=>?_,I.free,I.freeC,λp hp=>?_,S3 #[oc,hoc,I.freeC x c Y] l,by simpa using I.len] #[c,l,.inr Y]
  ·show(l.2 b<|nR<|pM (nI e)<|I.ok.cab x c O1 Y).trans (I.mB.keep b o e n G U)
  ·obtain⟨sl,g⟩:=I.mB.slot b o e n G U;show#[sl,(l.2 b<|nR<|pM (nI e)<|I.ok.cab x c O1 Y).trans g]
  ·obtain⟨o',g⟩:=I.mB.there b o e U;show#[o',(l.2 b<|nR<|pM (nI e)<|I.ok.cab x c O1 Y).trans g]
  ·by_cases D:j=i
   ·subst D;rw[B]at g;cases g;rw[FK L]at N;cases N;show#[u,r,.inr #[.inl J,c,Y,Q7]]
   ·rw[Io (pb D)]at N;obtain⟨u',r',q⟩:=hl j y v' g N e3;refine#[u',r',?_];rcases q with q|⟨k,c',e,z'⟩
    ·show .inl q
    ·refine .inr #[k,c',e,z'.sameBut l ?_];rintro rfl;show D<|KL hN g<|I.ok.inj _ _ _ e Y ▸ B
  ·by_cases hcc:c'=c
   ·subst hcc;show#[_,Q7]
   ·obtain⟨w2,z2⟩:=I.cell y c' e;show#[w2,z2.sameBut l hcc]
  ·obtain⟨e,n,ne,nf,d⟩:=I.pin p hp;refine#[(l.2 p.1 ?_).trans e,n,ne,nf,d];intro q;rw[q,hoc]at e;have q':oc=p.2:=oo e;show d w' (by rw[<-q'];show hocd)
def Ew{E:lS->lT->Prop}{Q:Unit->lT->Prop}(I:mG X y z H s)(w:X.N.Nodup)(q:X.N[i]? =some x)(p:vB X.env.scope x)(r:Yj v u)
  (h:∀s',mG X y (z.set i<|some v) H s'->Q () s') (o:X.fn x=true\/X.env.scope.names.lookup x=some .local:=by first|show .inl rfl|show .inr rfl|assumption):wpAny M A (storeName X.env x u) Q E s :=
 Zwu I w q p r (λs' n _=>h s' n) o
def mG.call'(I:mG X w z H s)(q:s'.os=s.os)(u:Un (nX X.stack) ch H r s.heap s'.heap)(y:oj X.prog X.w r s'.heap)(o:AllBare s'.gens)
  (n:∀b∈ch,(b∈X.ex\/X.mf.heap.objs.size<=b)/\b≠X.env.locals/\(∀x c,X.env.cells.lookup x=some c->c≠b)/\∀p∈X.pn++w,p.1≠b):mG X w z r s':=by
 obtain⟨g,l,j,i,h⟩:=s';have e:h=s.os:=q;subst e;show I.call (g':=l) (t':=i) (d':=j) u y o n
abbrev XK:=lS->lU lR->Hp->Prop
abbrev St:=lP<|lU V
abbrev VK:=V->Hp->Prop
abbrev TE:=St->Hp->VK->Prop
abbrev TT:=St->Hp->(Bool->Hp->Prop)->Prop
abbrev TA:=St->Hp->(lP V->Hp->Prop)->Prop
structure pX where
 nx:St->Hp->Prop
 rt:VK
 bk:St->Hp->Prop:=λ_ _=>False
 ct:St->Hp->Prop:=λ_ _=>False
abbrev TS:=pX->St->Hp->Prop
def EP(X:Cx)(x:lP (lR×Obj))(z:St)(Q:VK)(u:lS)(s':lT):Prop:=∃v y,mG X x z y s'/\Yj v u/\Q v y
def TP(X:Cx)(x:lP (lR×Obj))(z:St)(Q:Bool->Hp->Prop)(b:Bool)(s':lT):Prop:=∃y,mG X x z y s'/\Q b y
def AP(X:Cx)(w:lP (lR×Obj))(z:St)(Q:lP V->Hp->Prop)(us:lP lS)(s':lT):Prop:=∃y x,mG X w z x s'/\Z6 y us/\Q y x
def SP(X:Cx)(x:lP (lR×Obj))(D:pX)(f:Flow)(s':lT):Prop :=
 match f with
 | .next=>∃z y,mG X x z y s'/\D.nx z y
 | .brk=>∃z y,mG X x z y s'/\D.bk z y
 | .cont=>∃z y,mG X x z y s'/\D.ct z y
 | .ret u=>∃v z y,mG X x z y s'/\Yj v u/\D.rt v y
def PE(X:Cx)(e:lZ)(t:TE):Prop :=
 ∀(y:lP (lR×Obj)) (s:lT) (z:St) (H:Hp) (Q:VK),mG X y z H s->t z H Q->∅ (eval e X.env) (EP X y z Q) X.xe s
def PT(X:Cx)(e:lZ)(t:TT):Prop :=
 ∀(y:lP (lR×Obj)) (s:lT) (z:St) (H:Hp) (Q:Bool->Hp->Prop),mG X y z H s->t z H Q->∅ (isTrue e X.env<|eval e X.env) (TP X y z Q) X.xe s
def PW(X:Cx)(e:lZ)(t:TT):Prop :=
 ∀(x:Sem lS)(y:lP (lR×Obj)) (s:lT) (z:St) (H:Hp) (Q:Bool->Hp->Prop),mG X y z H s->t z H Q->∅ (isTrue e X.env x) (TP X y z Q) X.xe s
def PW.pt(h:PW X e t):PT X e t:=h _
def PA(X:Cx)(w:lP lZ)(t:TA):Prop :=
 ∀(y:Pos)(x:lP (lR×Obj)) (s:lT) (z:St) (H:Hp) (Q:lP V->Hp->Prop),mG X x z H s->t z H Q->∅ (spliced<|backTo y<|starEach w X.env) (AP X x z Q) X.xe s
def PS(X:Cx)(st:lW)(t:TS):Prop :=
 ∀(y:lP (lR×Obj)) (s:lT) (z:St) (H:Hp) (D:pX),mG X y z H s->t D z H->∅ (exec st X.env) (SP X y D) X.xe s
def qZ(X:Cx)(st:lP lW)(t:TS):Prop :=
 ∀(y:lP (lR×Obj)) (s:lT) (z:St) (H:Hp) (D:pX),mG X y z H s->t D z H->∅ (execs st X.env) (SP X y D) X.xe s
def mX{z:Type}{t:Sem z}{Q y:z->lT->Prop}{E:lS->lT->Prop}(h:wpAny M A t Q E s)(w:∀a s,Q a s->y a s):wpAny M A t y E s:=pT h w λ_ _ x=>x
section
variable {X:Cx}
def ER(n:PE X a l)(j:PE X b i){R:V->V->Hp->Prop}(I:mG X p z H s)(h:l z H λx o=>i z o λw r=>R x w r)
  {y:Type} {Q:y->lT->Prop} {f:lS->lS->Sem y}
  (g:∀v u q x w r,mG X p z r q->Yj x v->Yj w u->R x w r->∅ (f v u) Q X.xe q) :
  ∅ (eval a X.env) (λv e=>∅ (eval b X.env) (λu d=>∅ (f v u) Q X.xe d) X.xe e) X.xe s:=by
 refine mX (n p s z H _ I h) λv c ⟨x,o,Y,U,N⟩=>?_
 refine mX (j p c z o _ Y N) λu q ⟨w,r,M,L,J⟩=>?_
 show g v u q x w r M U L J
def oB:V->(Bool->Prop)->Prop
 | .bl c,k=>k c
 | _,_=>False
def oB.out{x:V}{k:Bool->Prop}(h:oB x k):∃c,x=.bl c/\k c:=by cases x<;>first|show#[_,rfl,h]|show False.elim h
def oB.t{b:Bool}{k:Bool->Prop}(e:b=true)(h:k true):oB (.bl b) k:=by subst e;show h
def oB.f{b:Bool}{k:Bool->Prop}(e:b=false)(h:k false):oB (.bl b) k:=by subst e;show h
def oI:V->(Int->Prop)->Prop
 | .int i,k=>k i
 | _,_=>False
def oI.out{x:V}{k:Int->Prop}(h:oI x k):∃i,x=.int i/\k i:=by cases x<;>first|show#[_,rfl,h]|show False.elim h
def oC:lP V->(V->lP V->Prop)->Prop
 | v ::r,k=>k v r
 | [],_=>False
theorem oC.out:∀{l:lP V}{k:V->lP V->Prop},oC l k->∃v r,l=v ::r/\k v r
 | _ ::_,_,h=>#[_,_,rfl,h]
def oV:lU (lU V)->(V->Prop)->Prop
 | some (some v),k=>k v
 | _,_=>False
def oV.of{o:lU (lU V)}{k:V->Prop}{v:V}(e:o=some (some v))(h:k v):oV o k:=by subst e;show h
theorem oV.out:∀{o:lU (lU V)}{k:V->Prop},oV o k->∃v,o=some (some v)/\k v
 | some (some _),_,h=>#[_,rfl,h]
 | some none,_,h=>nomatch h
 | none,_,h=>nomatch h
def rO(i:Nat):TE:=λz H Q=>oV z[i]? λv=>Q v H
def tC(v:V):TE:=λ_ H Q=>Q v H
def Ye6(p:X.N[i]? =some x)(o:BV X.env.scope x)(hd:(x ==("__debug__":lQ))=false:=by lk)(n:(x ==("__classdict__":lQ))=false:=by lk):PE X (.Name x pos) (rO i):=by
 intro j s z H Q I h;obtain⟨v,e,h⟩:=oV.out h;obtain⟨m,g,d⟩:=I.loc;obtain⟨u,r,l⟩:=d i x v p e o;have fin:EP X j z Q u s:=#[v,H,I,r,h]
 rcases l with⟨w,a⟩|⟨w,c,q,y⟩
 ·show wpAny_Name (wpAny_loadName_local I.ok.kind w g a fin) hd
 ·rcases w with w|w
  ·show wpAny_Name (wpAny_loadName_cell I.ok.kind w q y fin) hd
  ·show wpAny_Name (wpAny_loadName_free I.ok.kind w q y fin n) hd
def Zc{i j pos}:PE X (.Constant (.int i) j pos) (tC<|.int i):=λ_ _ _ H _ I h=>wpAny_Constant_int #[.int i,H,I.tok _,#[_,rfl],h]
def qr{b j pos}:PE X (.Constant (.bool b) j pos) (tC<|.bl b):=λ_ _ _ H _ I h=>Constant_bool #[.bl b,H,I,rfl,h]
def rN{j pos}:PE X (.Constant .none j pos) (tC .non):=λ_ _ _ H _ I h=>Constant_none #[.non,H,I,rfl,h]
def Zf{x j pos}:PE X (.Constant (.str x) j pos) (tC<|.str x):=λ_ _ _ H _ I h=>Calls.Constant_str #[.str x,H,I.tok _,#[_,rfl],h]
def Gl(X:Cx)(x:lQ):Prop:=X.env.kindOf x=some .globalImplicit
def xv{E:lS->lT->Prop}{Q:lS->lT->Prop}(I:mG X r z H s)(y:Gl X x)(w:X.mg x=some u)(h:Q u s)
  (hd:(x ==("__debug__":lQ))=false:=by lk):∅ (eval (.Name x pos) X.env) Q E s :=
 MR I.ok.kind y (Calls.loadGlobal_global (by rw[I.ok.glob];show I.mod.glob.keeps I.bk) w h) hd
def xf{E:lS->lT->Prop}{Q:lS->lT->Prop}(I:mG X n z H s)(y:Gl X x)(w:X.mg x=none)(r:bootBuiltins x=some u)(h:Q u s)
  (q:x≠ "__name__":=by lk) (hd:(x ==("__debug__":lQ))=false:=by lk):∅ (eval (.Name x pos) X.env) Q E s:=by
 obtain⟨l,p,o⟩:=I.mod.blt;show MR I.ok.kind y (Calls.loadGlobal_builtin (by rw[I.ok.glob];show I.mod.glob.keeps I.bk) w (by rw[I.ok.blt];show p.keeps I.bk) ((o x q).trans r) h) hd
def X4(z:Gl X x)(y:X.mg x=some u)(r:Yj v u)(hd:(x ==("__debug__":lQ))=false:=by lk):PE X (.Name x pos) (tC v) :=
 λ_ _ _ H _ I h=>xv I z y #[v,H,I,r,h] hd
def Ov(z:Gl X x)(y:X.mg x=none)(w:bootBuiltins x=some u)(r:Yj v u)(s:x≠ "__name__":=by lk)(hd:(x ==("__debug__":lQ))=false:=by lk):PE X (.Name x pos) (tC v) :=
 λ_ _ _ H _ I h=>xf I z y w #[v,H,I,r,h] s hd
variable {a b:lZ} {ta tb:TE} {pos:Pos}
def tB(t:TE):TT:=λz H Q=>t z H λx y=>oB x λc=>Q c y
def Yk(h:PE X e t)(he:∀y,isTrue e X.env y=(do let v <-y;standAt e.pos;holding [v] (truthy v)):=by intro _;rfl):PT X e (tB t):=by
 intro w s z H Q I u;refine isTrue_plain (mX (h w s z H _ I u) λv l ⟨x,r,p,o,n⟩=>?_)<|he _;obtain⟨d,rfl,q⟩:=oB.out n;cases o;show uP #[r,p,q]
variable {tA tB':TT} {Zs:lP lZ}
def Sc(t u:TT):TT:=λz H Q=>t z H λc y=>if c=true then u z y Q else Q false y
def YE(t u:TT):TT:=λz H Q=>t z H λc y=>if c=true then Q true y else u z y Q
def Yi1(t:TT):TT:=λz H Q=>t z H λc y=>Q (!c) y
def wj(y:PT X a tA):PW X (.BoolOp .And [a] pos) tA:=by
 intro w x s z H Q I h;refine isTrue_and<|mX (y x s z H Q I h) λc u e=>?_;cases c with
 | true=>show isTrue_and_nil e
 | false=>show e
def Wv(y:PT X a tA):PW X (.BoolOp .Or [a] pos) tA:=by
 intro w x s z H Q I h;refine isTrue_or<|mX (y x s z H Q I h) λc u e=>?_;cases c with
 | false=>show isTrue_or_nil e
 | true=>show e
def vU(r:PT X a tA)(q:PW X (.BoolOp .And (b ::Zs) pos) tB'):PW X (.BoolOp .And (a ::b ::Zs) pos) (Sc tA tB'):=by
 intro p y s z H Q I h;refine isTrue_and<|mX (r y s z H _ I h) λc o ⟨x,w,u⟩=>?_;cases c with
 | true=>show q p y o z x Q w u
 | false=>show#[x,w,u]
def W0(r:PT X a tA)(q:PW X (.BoolOp .Or (b ::Zs) pos) tB'):PW X (.BoolOp .Or (a ::b ::Zs) pos) (YE tA tB'):=by
 intro p y s z H Q I h;refine isTrue_or<|mX (r y s z H _ I h) λc o ⟨x,w,u⟩=>?_;cases c with
 | true=>show#[x,w,u]
 | false=>show q p y o z x Q w u
def Y5(y:PT X a tA):PT X (.UnaryOp .Not a pos) (Yi1 tA):=by
 intro x s z H Q I h;show isTrue_not<|y x s z H (λc w=>Q (!c) w) I h
def YX(ta tb:TE):TE:=λz H Q=>ta z H λx y=>oB x λc=>if c=true then tb z y Q else Q (.bl false) y
def Yiq(ta tb:TE):TE:=λz H Q=>ta z H λx y=>oB x λc=>if c=true then Q (.bl true) y else tb z y Q
def yz{op}(h:PE X a t):PE X (.BoolOp op [a] pos) t:=λy s z H Q I x=>BoolOp_one<|h y s z H Q I x
def wn(q:PE X a ta)(p:PE X (.BoolOp .And (b ::Zs) pos) tb):PE X (.BoolOp .And (a ::b ::Zs) pos) (YX ta tb):=by
 intro w s z H Q I h;refine BoolOp_and<|mX (q w s z H _ I h) λv o ⟨x,u,r,n,y⟩=>?_;obtain⟨c,rfl,y⟩:=oB.out y;cases n;refine uP ?_;cases c with
 | true=>show p w o z u Q r y
 | false=>show#[.bl false,u,r,rfl,y]
def TR(q:PE X a ta)(p:PE X (.BoolOp .Or (b ::Zs) pos) tb):PE X (.BoolOp .Or (a ::b ::Zs) pos) (Yiq ta tb):=by
 intro w s z H Q I h;refine BoolOp_or<|mX (q w s z H _ I h) λv o ⟨x,u,r,n,y⟩=>?_;obtain⟨c,rfl,y⟩:=oB.out y;cases n;refine uP ?_;cases c with
 | false=>show p w o z u Q r y
 | true=>show#[.bl true,u,r,rfl,y]
def VT(t:TT)(ta tb:TE):TE:=λz H Q=>t z H λc y=>if c=true then ta z y Q else tb z y Q
def uQ(q:PT X c tA)(p:PE X a ta)(o:PE X b tb):PE X (.IfExp c a b pos) (VT tA ta tb):=by
 intro y s z H Q I h;refine wpAny_IfExp<|mX (q y s z H _ I h) λd x ⟨w,u,r⟩=>?_;cases d with
 | true=>show p y x z w Q u r
 | false=>show o y x z w Q u r
end
def SqL(K:lV)(H:Hp)(a:lR)(xs:lP V):Prop :=
 Rd H a (.lst xs)\/
  ∃(o:Obj)(z:Array lS)(n:Nat),K.lookup a=some o/\o.cls=.type "list"/\o.dict=none/\o.data=.seq z n/\z.size<=sizeLine/\Z6 xs z.toList
def SqT(K:lV)(H:Hp)(a:lR)(xs:lP V):Prop :=
 Rd H a (.tup xs)\/
  ∃(o:Obj)(z:Array lS)(n:Nat),K.lookup a=some o/\o.cls=.type "tuple"/\o.data=.seq z n/\z.size<=sizeLine/\Z6 xs z.toList
def VW:lS->lU V
 | .none=>some .non
 | .bool b=>some (.bl b)
 | .int i _=>some (.int i)
 | .str x _=>some (.str x)
 | .bytes b _=>some (.byt b)
 | .float b _=>some (.flt b)
 | .ref a=>some (.ref a)
 | .type n=>some (.ty n)
 | _=>none
def Yj.abs(r:Yj x u):VW u=some x:=by
 cases x with
 | non=>cases r;rfl
 | bl _=>cases r;rfl
 | int _=>obtain⟨t,rfl⟩:=r;rfl
 | str _=>obtain⟨t,rfl⟩:=r;rfl
 | byt _=>obtain⟨t,rfl⟩:=r;rfl
 | flt _=>obtain⟨t,rfl⟩:=r;rfl
 | ref _=>cases r;rfl
 | ty _=>cases r;rfl
def Yj.inj(r:Yj x u)(q:Yj y u):x=y:=oo<|r.abs.symm.trans q.abs
def Z6.inj{xs z:lP V}{us:lP lS}(h:Z6 xs us)(h':Z6 z us):xs=z:=by
 induction h generalizing z with
 | nil=>cases h';rfl
 | cons r t y=>cases h' with
  | cons x w=>rw[r.inj x,y w]
def SqL.of{K:lV}(h:H a=some (.lst xs)):SqL K H a xs:=.inl<|.inl h
def SqT.of{K:lV}(h:H a=some (.tup xs)):SqT K H a xs:=.inl<|.inl h
def mG.list(I:mG X p z H s)(h:SqL X.K H a xs):∃x:lP lS,Z6 xs x/\PlainL s.heap a x.toArray/\xs.length<=sizeLine:=by
 rcases h with h|⟨o,x,n,w,u,hd,q,y,r⟩
 ·obtain⟨y,x,n,r,e⟩:=h.ok I.hok;show#[x,r,#[_,n,e,rfl,rfl,rfl],y]
 ·refine#[x.toList,r,#[o,n,I.kIn a o w,u,hd,by simpa using q],?_];have e:=r.length;simp only[ue]at e;lia
def mG.tuple(I:mG X l z H s)(h:SqT X.K H a xs):∃x:lP lS,Z6 xs x/\IsTup s.heap a x.toArray/\xs.length<=sizeLine:=by
 rcases h with h|⟨o,x,n,w,u,q,y,r⟩
 ·obtain⟨y,x,r,p⟩:=h.ok I.hok;show#[x,r,p,y]
 ·refine#[x.toList,r,#[o,I.kIn a o w,u,n,by simpa using q],?_];have e:=r.length;simp only[ue]at e;lia
def mG.list_inj(I:mG X j z H s)(h:SqL X.K H a xs)(h':SqL X.K H a u):xs=u:=by
 obtain⟨q,r,⟨o,n,e,_,_,d⟩,_⟩:=I.list h;obtain⟨y,p,⟨o,n,x,_,_,w⟩,_⟩:=I.list h';rw[e]at x;cases x;rw[d]at w
 injection w with l _
 have:q=y:=by simpa using oJ Array.toList l
 subst this;show r.inj p
def mG.tuple_inj(I:mG X j z H s)(h:SqT X.K H a xs)(h':SqT X.K H a u):xs=u:=by
 obtain⟨q,r,⟨o,e,_,n,d⟩,_⟩:=I.tuple h;obtain⟨y,p,⟨o,x,_,n,w⟩,_⟩:=I.tuple h';rw[e]at x;cases x;rw[d]at w
 injection w with l _
 have:q=y:=by simpa using oJ Array.toList l
 subst this;show r.inj p
abbrev Cx.wish(X:Cx)(E:lS->lT->Prop):Cx:={X with xe:=E}
abbrev Cx.nox(X:Cx):Cx:=X.wish λ_ _=>False
def Cx.Ok.wish{X:Cx}(ok:X.Ok)(E:lS->lT->Prop):(X.wish E).Ok :=
 #[ok.mod,ok.kind,ok.glob,ok.blt,ok.above,ok.inj,ok.has,ok.cab,ok.hd,ok.frames,ok.stk,ok.exf,ok.bs,ok.bsz,ok.noex,ok.exfs,ok.funs,ok.frf]
def Cx.Ok.unwish{X:Cx}{E:lS->lT->Prop}(ok:(X.wish E).Ok):X.Ok :=
 #[ok.mod,ok.kind,ok.glob,ok.blt,ok.above,ok.inj,ok.has,ok.cab,ok.hd,ok.frames,ok.stk,ok.exf,ok.bs,ok.bsz,ok.noex,ok.exfs,ok.funs,ok.frf]
section
variable {E:lS->lT->Prop}
def mG.wish(I:mG X y z H s)(E:lS->lT->Prop):mG (X.wish E) y z H s:=#[I.ok.wish E,I.os,I.bare,I.mB,I.loc,I.cell,I.free,I.freeC,I.pin,I.hok,I.len]
def mG.unwish(I:mG (X.wish E) y z H s):mG X y z H s:=#[I.ok.unwish,I.os,I.bare,I.mB,I.loc,I.cell,I.free,I.freeC,I.pin,I.hok,I.len]
def SP.unwish(h:SP (X.wish E) x D f s'):SP X x D f s':=by
 cases f with
 | next=>obtain⟨z,y,I,q⟩:=h;show#[z,y,I.unwish,q]
 | brk=>obtain⟨z,y,I,q⟩:=h;show#[z,y,I.unwish,q]
 | cont=>obtain⟨z,y,I,q⟩:=h;show#[z,y,I.unwish,q]
 | ret u=>obtain⟨v,z,y,I,r,q⟩:=h;show#[v,z,y,I.unwish,r,q]
def qZ.nox{st:lP lW}{t:TS}(h:qZ X.nox st t):qZ X st t:=λx s z H D I w =>
 pT (h x s z H D (I.wish _) w) (λ_ _ q=>q.unwish) λ_ _ y=>False.elim y
end
section
variable {st:lW} {Zs:lP lW} {t u:TS} {e:lZ} {te:TE} {pos:Pos}
def Yhu:TS:=λD z H=>D.nx z H
def QY(t u:TS):TS:=λD z H=>t {D with nx:=u D} z H
def Zi:qZ X [] Yhu:=λ_ _ z H _ I h=>Av #[z,H,I,h]
def Uk(w:PS X st t)(r:qZ X Zs u):qZ X (st ::Zs) (QY t u):=by
 intro x s z H D I h;refine CA<|mX (w x s z H {D with nx:=u D} I h) λf p q=>?_;cases f with
 | next =>
  obtain⟨y,o,n,q⟩:=q;show r x p y o D n q
 | ret v=>show q
 | brk=>show q
 | cont=>show q
def Ybu(y:PS X st t):qZ X [st] t:=by
 intro x s z H D I h;refine CA<|mX (y x s z H D I h) λf w q=>?_;cases f with
 | next=>show Av q
 | ret v=>show q
 | brk=>show q
 | cont=>show q
def WL:TS:=λD z H=>D.ct z H
def TF:PS X (.Continue pos) WL:=λ_ _ z H _ I h=>wpAny_Continue #[z,H,I,h]
def mG.quiet(I:mG X y z H s):interactive X.env=false:=by simp[interactive,I.ok.kind]
def UO(te:TE):TS:=λD z H=>te z H λ_ y=>D.nx z y
def Z3(he:PE X e te)(y:swapsWith e none pos.line X.env=pure false:=by rfl):PS X (.Expr e pos) (UO te):=by
 intro w s z H D I h;show wpAny_Expr_any (mX (he w s z H _ I h) λv o ⟨x,r,q,n,p⟩=>#[z,r,q,p]) I.quiet y
def Yix(te:TE):TS:=λD z H=>te z H D.rt
def Zl(he:PE X e te):PS X (.Return (some e) pos) (Yix te):=by
 intro y s z H D I h;show wpAny_Return_some<|mX (he y s z H _ I h) λv o ⟨x,w,r,q,p⟩=>#[x,z,w,r,q,p]
def QZ:TS:=λD _ H=>D.rt .non H
def OD:PS X (.Return none pos) QZ:=λ_ _ z H _ I h=>wpAny_Return_none #[.non,z,H,I,rfl,h]
def WA(c:TT)(t u:TS):TS:=λD z H=>c z H λb y=>if b=true then t D z y else u D z y
def Zr(p:PT X c o)(n:qZ X a t)(l:qZ X b u):PS X (.If c a b pos) (WA o t u):=by
 intro y s z H D I h;refine wpAny_If<|mX (p y s z H _ I h) λd x ⟨w,r,q⟩=>?_;cases d with
 | true=>show n y x z w D r q
 | false=>show l y x z w D r q
end
abbrev TG:=V->St->Hp->(St->Hp->Prop)->Prop
abbrev xB:=lP V->St->Hp->(St->Hp->Prop)->Prop
def PG(X:Cx)(r:lZ)(t:TG):Prop :=
 ∀(x:lP (lR×Obj)) (s:lT) (z:St) (H:Hp) (v:V) (u:lS) (Q:St->Hp->Prop),mG X x z H s->Yj v u->t v z H Q->
  ∅ (assign r X.env u) (λ_ q=>∃y w,mG X x y w q/\Q y w) X.xe s
def yW(X:Cx)(ts:lP lZ)(t:xB):Prop :=
 ∀(x:lP (lR×Obj)) (s:lT) (z:St) (H:Hp) (w:lP V) (u:lP lS) (Q:St->Hp->Prop),mG X x z H s->Z6 w u->t w z H Q->
  ∅ (assignInOrder ((assignEach ts X.env).map (·.2)) u) (λ_ q=>∃y r,mG X x y r q/\Q y r) X.xe s
def qW(i:Nat):TG:=λv z H Q=>Q (z.set i<|some v) H
def Ig(y:X.N.Nodup)(w:X.N[i]? =some x)(q:vB X.env.scope x)(p:X.fn x=true\/X.env.scope.names.lookup x=some .local:=by first|show .inl rfl|show .inr rfl|assumption):PG X (.Name x pos) (qW i):=by
 intro n s z H v u Q I r h;show wpAny_assign_Name<|Ew I y w q r (λl o=>#[_,H,o,h]) p
def LR:xB:=λy z H Q=>y=[]/\Q z H
def Iq(t:TG)(u:xB):xB:=λx z H Q=>oC x λv r=>t v z H λy w=>u r y w Q
def Xq:yW X [] LR:=by
 intro y s z H x w Q I r h;obtain⟨e,h⟩:=h;subst e;cases r;show assignInOrder_nil #[z,H,I,h]
def Zy(q:PG X e t)(p:yW X y u)
  (o:(assignEach (e ::y) X.env).map (·.2)=assign e X.env ::(assignEach y X.env).map (·.2):=by rfl):yW X (e ::y) (Iq t u):=by
 intro w s z H c a Q I r h;obtain⟨v,x,n,h⟩:=oC.out h;subst n;cases r with
 | cons r l =>
  rw[o];refine assignInOrder_cons<|mX (q w s z H _ _ _ I r h) λ_ j ⟨x,i,g,d⟩=>?_;show p w j x i _ _ Q g l d
inductive GT(S:Hp->Addr->List V->Prop)(n:Nat)(H:Hp)(k:List V->Prop):V->Prop
 | mk {a xs}:S H a xs->xs.length=n->k xs->GT S n H k (.ref a)
def FG(K:lV)(n:Nat)(t:xB):TG:=λv z H Q=>GT (SqT K) n H (λy=>t y z H Q) v
def sI(p:X.calm=true)(h:yW X y t)
  (l:(assignEach y X.env).length=n:=by rfl) (j:(assignEach y X.env).findIdx? (·.1)=none:=by rfl):PG X (.Tuple y k pos) (FG X.K n t):=by
 intro w s z H v u Q I r x;obtain@⟨a,i,g,d,x⟩:=x;cases r;obtain⟨a,q,c,M⟩:=I.tuple g;refine assign_Tuple_tuple (I.ok.hd p) c (by simp[l,<-d,q.length]) j λY U=>?_
 have N:mG X w z H {s with heap:=Y}:=I.kept (t':=s.toks) λb o e=>U b o (nR<|nI e) e
 show h w _ z H i _ Q N (by simpa using q) x
def zD(y:TE)(g:TG):TS:=λD z H=>y z H λx w=>g x z w D.nx
def Mc(he:PE X e u)(r:PG X y g)(p:swapsWithSole [y] e pos.line X.env=pure false:=by rfl)(o:swappedStores [y] e X.env=pure none:=by rfl)
  (n:(assignEach [y] X.env).map (·.2)=[assign y X.env]:=by rfl):PS X (.Assign [y] e pos) (zD u g):=by
 intro w s z H D I h;refine wpAny_Assign_stores (mX (he w s z H _ I h) λv l ⟨x,j,i,d,c⟩=>?_) p o;rw[n];show mX (r w l z j x v _ i d c) λ_ a q=>q
def XZ(w:X.N.Nodup)(u:X.N[i]? =some x)(r:vB X.env.scope x)(he:PE X e q)(p:swapsWith e (some<|.Name x o) pos.line X.env=pure false:=by rfl)(n:X.fn x=true\/X.env.scope.names.lookup x=some .local:=by first|show .inl rfl|show .inr rfl|assumption) :
  PS X (.Assign [.Name x o] e pos) (zD q<|qW i):=by
 intro l s z H D I h;refine wpAny_Assign_Name (mX (he l s z H _ I h) λv a ⟨y,j,g,d,c⟩=>?_) p;show Ew g w u r d (λa y=>#[_,j,y,c]) n
structure It where
 go:Nat->Hp->Prop
 yld:Nat->Hp->V->Hp->Prop
 stop:Nat->Hp->Prop
def tF(X:Cx)(z:lP (lR×Obj))(H:Hp)(b:lR):Prop :=
 H b=none/\b≠X.env.locals/\b∉X.fs/\(b∈X.ex\/X.mf.heap.objs.size<=b)/\(∀x c,X.env.cells.lookup x=some c->c≠b)/\∀p∈X.pn++z,p.1≠b
def mG.fpOk(I:mG X u z H s)(w:#v[s]<=b)(r:o b=none):tF X u o b:=by
 refine#[r,wX<|pM I.lt w,I.nofs w,.inr<|oi I.sz w,λx c e y=>?_,λp n y=>?_]
 ·obtain⟨v,q⟩:=I.cell x c e;show absurd (pM q.lt (by rw[y];show w))<|qR _
 ·show absurd (pM (nI (I.pin p n).1) (by rw[y];show w))<|qR _
structure vV(P:Program)(w:World)(K:Frag)(tg:Expr)(J:It)(fp:List Addr)(it:Addr)(tn:Nat->Heap->Prop):Prop where
 mem:it∈fp
 obj:∀i h,tn i h->∀b∈fp,∃o,h.get? b=some o/\∀v,o.data≠.cell v
 keep:∀i h h',tn i h->(∀b∈fp,∀o,h.get? b=some o->h'.get? b=some o)->tn i h'
 item:∀(X:Cx),X.prog=P->X.w=w->X.K=K->X.calm=true->∀(i:Nat)(c7:List (Addr×Obj)) (s:Shared) (σ:St) (H:Hp) (E:Value->Shared->Prop),mG X c7 σ H s->(∀b∈fp,tF X c7 H b)->tn i s.heap->J.go i H->
  wpAny (model P w) X.A (pyNext<|.ref it) (λr s1=>∃u,r=some u/\
   wpAny (model P w) X.A (letOwnedTupleGo tg (.ref it) u) (λ_ s2=>∃x H',mG X c7 σ H' s2/\Yj x u/\J.yld i H x H'/\tn (i+1) s2.heap/\∀b∈fp,H' b=none) E s1) E s
 done:∀(X:Cx),X.prog=P->X.w=w->X.K=K->X.calm=true->∀(i:Nat)(c7:List (Addr×Obj)) (s:Shared) (σ:St) (H:Hp) (E:Value->Shared->Prop),mG X c7 σ H s->(∀b∈fp,tF X c7 H b)->tn i s.heap->J.stop i H->
  wpAny (model P w) X.A (pyNext<|.ref it) (λr s1=>r=none/\mG X c7 σ H s1) E s
 self:∀(A:Around)(i:Nat)(s:Shared)(Q:Value->Shared->Prop)(E:Value->Shared->Prop),tn i s.heap->Q (.ref it) s->wpAny (model P w) A (pyIter<|.ref it) Q E s
abbrev TI:=St->Hp->(It->Hp->Prop)->Prop
def Ol(X:Cx)(w:lP (lR×Obj))(z:St)(p:lZ)(R:It->Hp->Prop)(y:lS)(u:lT):Prop :=
 ∃(s:lR)(r:lP lR)(q:Nat->lX->Prop)(J:It)(x:Hp),y=.ref s/\mG X w z x u/\vV X.prog X.w X.K p J r s q/\q 0 u.heap/\(∀b∈r,tF X w x b)/\R J x
def PI(X:Cx)(x w:lZ)(u:TI):Prop :=
 ∀(y:lP (lR×Obj)) (s:lT) (z:St) (H:Hp) (R:It->Hp->Prop),mG X y z H s->u z H R->
  ∅ (eval w X.env) (λv r=>∅ (pyIter v) (Ol X y z x R) X.xe r) X.xe s
def zY{E:lS->lT->Prop}{Q:Unit->lT->Prop}(y:s.heap.get? it=some o)(x:o.cls=.type n)(hd:o.data=.fields vs)
    (w:["enumerate","zip","dict_itemiterator","dict_reverseitemiterator","odict_iterator","itertools.zip_longest","itertools.pairwise"].contains n=false) (z:Q () s):wpAny M A (letOwnedTupleGo r (.ref it) u) Q E s:=by
  unfold letOwnedTupleGo;cases r<;>first
    | show nq z
    | (cases u<;>first
        | show nq z
        | (refine mP<|wpAny_load y ?_
           rw[x,hd];change wpAny M A (if(["enumerate","zip","dict_itemiterator","dict_reverseitemiterator","odict_iterator","itertools.zip_longest","itertools.pairwise"].contains n && vs[0]? ==some (rawInt _))=true then _ else _) Q E s;rw[mS (by intro h;rw[w,Bool.false_and]at h;cases h)];show nq z))
def tW(K:lV)(a:lR):It :=
 #[λi H=>∃z x,SqL K H a z/\z[i]? =some x,λi H x y=>y=H/\∀z,SqL K H a z->z[i]? =some x,λi H=>∃z,SqL K H a z/\z.length<=i]
def zt(K:lV)(a:lR):It :=
 #[λi H=>∃z x,SqT K H a z/\z[i]? =some x,λi H x y=>y=H/\∀z,SqT K H a z->z[i]? =some x,λi H=>∃z,SqT K H a z/\z.length<=i]
def wa(lo:Int)(n:Nat):It:=#[λi _=>i<n,λi H x z=>z=H/\x=.int (lo+i),λi _=>n<=i]
def SJ{P:ma}{w:lY}{K:lV}{tg:lZ}(a it:lR):vV P w K tg (tW K a) [it] it (λi h=>h.IsListIter it a i) where
 mem:=by simp
 obj:=λi h st b r=>by
  have e:b=it:=by simpa using r
  subst e;obtain⟨o,e,c,d⟩:=st;show#[o,e,λv y=>by rw[d]at y;cases y]
 keep:=λi h q st k=>st.at λo e=>k it (by simp) o e
 item:=by
  intro X j g Y C i B s z H E I n st U;subst j g Y;obtain⟨xs,x,l,Q⟩:=U;obtain⟨c8,N,p,hz⟩:=I.list l;obtain⟨u,hu,ru⟩:=N.get Q;obtain⟨M,L,f2,J,G,D⟩:=n it (by simp);refine EZ st p.isList (x:=u) (by simpa using hu) λq A sb=>?_
  have I1:mG X B z H {s with heap:=q}:=I.turned (t':=s.toks) (λb o r e=>(sb.2 b r).trans e) M L J G D;obtain⟨o,e,c,d⟩:=id A;show#[u,rfl,zY (s:={s with heap:=q}) e c d (by lk) #[x,H,I1,ru,#[rfl,λys y=>by rw[I.list_inj y l];show Q],A,λb r=>(n b r).1]]
 done:=by
  intro X j g Y C i B s z H E I n st U;subst j g Y;obtain⟨xs,l,Q⟩:=U;obtain⟨c8,N,p,hz⟩:=I.list l;obtain⟨M,L,f2,J,G,D⟩:=n it (by simp);have hl:=N.length;show GN (I.ok.hd C) st p.isList (by simp;lia) λq eb=>#[rfl,I.turned (t':=s.toks) (λb o r e=>eb b o r e) M L J G D]
 self:=λ_ _ _ _ _ st h=>wpAny_pyIter_listiter st h
def UZ{P:ma}{w:lY}{K:lV}{tg:lZ}(a it:lR):vV P w K tg (zt K a) [it] it (λi h=>h.IsTupleIter it a i) where
 mem:=by simp
 obj:=λi h st b r=>by
  have e:b=it:=by simpa using r
  subst e;obtain⟨o,e,c,d⟩:=st;show#[o,e,λv y=>by rw[d]at y;cases y]
 keep:=λi h q st k=>st.at λo e=>k it (by simp) o e
 item:=by
  intro X j g Y B i A s z H E I n st U;subst j g Y;obtain⟨xs,x,l,Q⟩:=U;obtain⟨N,M,p,hz⟩:=I.tuple l;obtain⟨u,hu,ru⟩:=M.get Q;obtain⟨L,J,f2,G,D,C⟩:=n it (by simp);refine wpAny_pyNext_tuple_item st (show s.heap.IsTuple a N.toArray from p) (x:=u) (by simpa using hu) λq J5 sb=>?_
  have I1:mG X A z H {s with heap:=q}:=I.turned (t':=s.toks) (λb o r e=>(sb.2 b r).trans e) L J G D C;obtain⟨o,e,c,d⟩:=id J5;show#[u,rfl,zY (s:={s with heap:=q}) e c d (by lk) #[x,H,I1,ru,#[rfl,λys y=>by rw[I.tuple_inj y l];show Q],J5,λb r=>(n b r).1]]
 done:=by
  intro X j g Y B i A s z H E I n st U;subst j g Y;obtain⟨xs,l,Q⟩:=U;obtain⟨N,M,p,hz⟩:=I.tuple l;obtain⟨L,J,f2,G,D,C⟩:=n it (by simp);have hl:=M.length;show wpAny_pyNext_tuple_end (I.ok.hd B) st (show s.heap.IsTuple a N.toArray from p) (by simp;lia) λq eb=>#[rfl,I.turned (t':=s.toks) (λb o r e=>eb b o r e) L J G D C]
 self:=λ_ _ _ _ _ st h=>wpAny_pyIter_tupleiter st h
def Rv{P:ma}{w:lY}{K:lV}{L:lZ}(it:lR)(lo:Int)(n:Nat):vV P w K L (wa lo n) [it] it (λi h=>IsRangeIter h it (lo+(i:Nat) * 1) ((n:Int)-(i:Nat)) 1) where
 mem:=by simp
 obj:=λi h st b x=>by
  have e:b=it:=by simpa using x
  subst e;show#[_,st,λv y=>by
   have J:Data.fields _=Data.cell v:=y;cases J]
 keep:=λi h u st k=>k it (by simp) _ st
 item:=by
  intro X q p l j i Q s z H E I r st g;subst q p l;obtain⟨d,c,G,a,Y,U⟩:=r it (by simp);have W:=Walks.range (prog:=X.prog) (w:=X.w) (I.ok.hd j) it lo 1 n;refine W.item i s _ _ g st λv u N D M C=>?_
  obtain⟨t,rfl⟩:=D;have B:mG X Q z H {s with heap:=u,toks:=N}:=I.turned (λb o x e=>C b o (by simpa using x) e) d c a Y U;refine#[_,rfl,zY (s:={s with heap:=u,toks:=N}) (n :="range_iterator") M rfl rfl (by lk) #[.int<|lo+i,H,B,#[t,?_],#[rfl,rfl],M,λb x=>(r b x).1]];rw[Int.mul_one]
 done:=by
  intro X q p l j i Q s z H E I r st g;subst q p l;obtain⟨d,c,G,a,Y,U⟩:=r it (by simp);show wpAny_pyNext_range_end (I.ok.hd j) st (by have:n<=i:=g;lia) λu A=>#[rfl,I.turned (t':=s.toks) (λb o x e=>A b o x e) d c a Y U]
 self:=λ_ _ _ _ _ st h=>wpAny_pyIter_rangeiter st h
inductive HK(S:Hp->Addr->List V->Prop)(I:Addr->It)(R:It->Hp->Prop)(H:Hp):V->Prop
 | mk {a xs}:S H a xs->R (I a) H->HK S I R H (.ref a)
def WM(K:lV)(y:TE):TI:=λz H R=>y z H λx w=>HK (SqL K) (tW K) R w x
def TZ(K:lV)(y:TE):TI:=λz H R=>y z H λx w=>HK (SqT K) (zt K) R w x
def Yn{l:lZ}{u:TE}(r:PE X l u):PI X Y l (WM X.K u):=by
 intro n s z H R I h;refine mX (r n s z H _ I h) λv y ⟨x,j,w,i,g⟩=>?_
 obtain@⟨a,x,d,q⟩:=g;cases i;obtain⟨x,o,p,U⟩:=w.list d;refine xC p.isList ?_;refine#[#v[y],[#v[y]],_,_,j,rfl,w.kept (t':=y.toks) λb o e=>nO _ e,SJ a _,#[_,oK _ rfl,rfl,rfl],λb c=>?_,q];have e:b=#v[y]:=by simpa using c
 subst e;show w.fpOk (nw _)<|w.hok.fresh<|nw _
def xo{l:lZ}{u:TE}(r:PE X l u):PI X U l (TZ X.K u):=by
 intro n s z H R I h;refine mX (r n s z H _ I h) λv y ⟨x,j,w,i,g⟩=>?_
 obtain@⟨a,x,d,q⟩:=g;cases i;obtain⟨c,x,p,o⟩:=w.tuple d;refine wpAny_pyIter_tuple (show y.heap.IsTuple a c.toArray from p) ?_;refine#[#v[y],[#v[y]],_,_,j,rfl,w.kept (t':=y.toks) λb o e=>nO _ e,UZ a _,#[_,oK _ rfl,rfl,rfl],λb Y=>?_,q];have e:b=#v[y]:=by simpa using Y
 subst e;show w.fpOk (nw _)<|w.hok.fresh<|nw _
def JW{x:lP (lR×Obj)}{z:St}{H:Hp}{s:lT}{R:It->Hp->Prop}{E:lS->lT->Prop}{lo y:Int}{t u v:Tok}{w:Nat}(I:mG X x z H s)(p:-(2 ^ 62)<=lo)(n:lo<2 ^ 62)(l:-(2 ^ 62)<=y)(j:y<2 ^ 62)
  (q:R (wa lo (y-lo).toNat) H):∅ (pyIter<|.ref #v[s]) (Ol X x z d R) E {s with heap:=s.heap.push {cls:=.type "range",data:=.fields (List.toArray [.int lo t,.int y u,.int 1 v])},toks:=w}:=by
 refine wpAny_pyIter_range (IsRange.new ..) (small_one p n l j) ?_;have r:mG X x z H {s with heap:=s.heap.push {cls:=.type "range",data:=.fields (List.toArray [.int lo t,.int y u,.int 1 v])},toks:=w}:=I.kept λb o e=>nO _ e
 refine#[(s.heap.push {cls:=.type "range",data:=.fields (List.toArray [.int lo t,.int y u,.int 1 v])}).objs.size,[(s.heap.push {cls:=.type "range",data:=.fields (List.toArray [.int lo t,.int y u,.int 1 v])}).objs.size],_,_,H,rfl,
  r.kept (t':=w) λb o e=>nO _ e,Rv _ lo (y-lo).toNat,?_,λb i=>?_,q]
 ·have h:lo+((0:Nat):Int) * 1=lo:=by simp
  have g:(((y-lo).toNat:Nat):Int)-((0:Nat):Int)=Builtin.Range.rangeSize lo y 1:=by rw[rangeSize_one];split<;>lia
  change IsRangeIter _ _ (lo+((0:Nat):Int) * 1) ((((y-lo).toNat:Nat):Int)-((0:Nat):Int)) 1;rw[h,g];show oK _ rfl
 ·have e:b=(s.heap.push {cls:=.type "range",data:=.fields (List.toArray [.int lo t,.int y u,.int 1 v])}).objs.size:=by simpa using i
  subst e;show r.fpOk (nw _)<|r.hok.fresh<|nw _
def Yhv(y:TA):TI:=λz H R=>y z H λx w=>∃j:Int,x=[.int j]/\-(2 ^ 62)<=j/\j<2 ^ 62/\R (wa 0 j.toNat) w
def UR(y:TA):TI:=λz H R=>y z H λx w=>∃i j:Int,x=[.int i,.int j]/\(-(2 ^ 62)<=i/\i<2 ^ 62/\-(2 ^ 62)<=j/\j<2 ^ 62)/\R (wa i (j-i).toNat) w
def Ld{a:lZ}{x:TA}{p pos:Pos}(w:Gl X "range")(u:X.mg "range"=none)(o:PA X [a] x)(n:starEach [a] X.env=[(false,eval a X.env)]:=by rfl):PI X c (.Call (.Name "range" p) [a] [] pos) (Yhv x):=by
 intro l s z H R I h;refine Call_<|xf I w u boot_range<|zQ (mX (o pos l s z H _ I h) λr j ⟨Y,U,i,g,y⟩=>?_) n rfl;obtain⟨j,e,y,d,q⟩:=y;subst e;cases g with
 | cons r j =>
  cases j;obtain⟨t,rfl⟩:=r;show call_range_1 (JW i (by lia) (by lia) y d<|by simpa using q)
def zU(u:Gl X "range")(o:X.mg "range"=none)(n:PA X [a,b] l)(g:starEach [a,b] X.env=[(false,eval a X.env),(false,eval b X.env)]:=by rfl)(y:starEach [b] X.env=[(false,eval b X.env)]:=by rfl) :
  PI X M (.Call (.Name "range" p) [a,b] [] pos) (UR l):=by
 intro d s z H R I h;refine Call_ (xf I u o boot_range<|zQ (mX (n pos d s z H _ I h) λw r ⟨j,i,c,Y,x⟩=>?_) (by rw[g,y])<|by rw[y];rfl);obtain⟨i,j,e,⟨x,U,Q,N⟩,q⟩:=x;subst e;cases Y with
 | cons r w =>
  cases w with
  | cons j w =>
   cases w;obtain⟨t,rfl⟩:=r;obtain⟨i,rfl⟩:=j;show call_range_2<|JW c x U Q N q
def Yio(r:TI)(g:TG)(q:TS):TS:=λD z H=>r z H λJ p=>∃W:Nat->Nat->St->Hp->Prop,(∃m,W 0 m z p)/\∀i m z H,W i m z H->
 (J.stop i H/\D.nx z H)\/(J.go i H/\∃N:St->Hp->Prop,(∀y w,N y w->∃s,s<m/\W (i+1) s y w)/\∀x w,J.yld i H x w->g x z w λu o=>q {D with nx:=N,ct:=N,bk:=D.nx} u o)
def yX(z:lP lR)(h:lX):lP (lR×Obj):=z.filterMap λb=>(h.get? b).map λo=>(b,o)
def yp(z:b∈y)(e:h.get? b=some o):(b,o)∈yX y h:=yu.mpr #[b,z,by rw[e];rfl]
def VL(z:p∈yX y h):p.1∈y/\h.get? p.1=some p.2:=by
 obtain⟨b,x,e⟩:=yu.mp z;cases q:h.get? b with
 | none=>rw[q]at e;cases e
 | some o =>
  rw[q]at e;have w:(b,o)=p:=oo e;subst w;show#[x,q]
def mG.pinned(I:mG X x z H s)(q:∀b∈w,tF X x H b)(n:∀b∈w,∃o,s.heap.get? b=some o/\∀v,o.data≠.cell v):mG X (x++yX w s.heap) z H s :=
 I.pins_of λp l=>(ou.mp l).elim (λy=>I.pin p<|qc _ y) λy=>by
  obtain⟨u,e⟩:=VL y;obtain⟨j,i,h,_⟩:=q p.1 u;obtain⟨o,r,d⟩:=n p.1 u;rw[e]at r;cases r;show#[e,j,i,h,d]
def mG.unpinned(I:mG X (y++pl) z H s):mG X y z H s:=I.pins_of λp x=>I.pin p<|qc _<|vT _ x
def Y9(U:PassesOwn (model X.prog X.w) X.A X.env X.xe)(hc:X.calm=true)(hi:PI X tg u7 wi)(hg:PG X tg g)(w:qZ X body tb)
  (hs:∀x,foldedSetIterable u7 X.env x=pure x:=by intro _;rfl):PS X (.For tg u7 body [] pos) (Yio wi g tb):=by
 intro Y s z H D I h;refine wpAny_For (mX (hi Y s z H _ I h) λv o y=>mX y λu l h2=>?_) hs;obtain⟨y,Q,tn,J,H2,e,I2,T,d7,f2,W,⟨m0,w0⟩,M7⟩:=h2;subst e;have E:∀{c:Hp},(∀b∈Q,c b=none)->∀b∈Q,tF X Y c b:=λhn b w=>#[hn b w,(f2 b w).2]
 refine codeAny_forLoop_any (λn y=>∃i q c,mG X Y q c y/\tn i y.heap/\(∀b∈Q,c b=none)/\W i n q c) ?_ m0 #[0,z,H2,I2,d7,λb w=>(f2 b w).1,w0];rintro n s3 ⟨i,p,G,I3,v6,M,w3⟩;rcases M7 i n p G w3 with⟨stop,qn⟩|⟨go,N,hN,step⟩
 ·refine xg U<|mX (T.done X rfl rfl rfl hc i Y s3 p G X.xe I3 (E M) v6 stop) λr s4 ⟨C,y⟩=>?_;subst C;show Av #[p,G,y,qn]
 ·refine xg U<|mX (T.item X rfl rfl rfl hc i Y s3 p G X.xe I3 (E M) v6 go) λr s4 ⟨u,C,h4⟩=>?_;subst C;refine xg U<|mX h4 λ_ s5 h9=>?_;obtain⟨x,H5,I5,r5,y5,J,B⟩:=h9;have A:=I5.pinned (E B)<|T.obj _ _ J;refine xg U<|mX (hg _ s5 p H5 x u _ A r5<|step x H5 y5) λ_ s6 ⟨σ6,H6,I6,q6⟩=>?_;refine xg U<|mX (w _ s6 σ6 H6 _ I6 q6) λf s7 a=>?_;have C5:∀{y:St}{l:Hp},mG X (Y++yX Q s5.heap) y l s7->N y l->∃m,m<n/\∃i q c,mG X Y q c s7/\tn i s7.heap/\(∀b∈Q,c b=none)/\W i m q c:=λ{y l} j L=>by
   obtain⟨m',hm,w7⟩:=hN y l L;refine#[m',hm,i+1,y,l,j.unpinned,T.keep _ _ _ J λb w o e=>(j.pin (b,o)<|qc _<|qc _<|yp w e).1,λb w=>?_,w7];obtain⟨o,e,d⟩:=T.obj _ _ J b w;show(j.pin (b,o)<|qc _<|qc _<|yp w e).2.1
  cases f with
  | next=>obtain⟨y,l,j,L⟩:=a;show C5 j L
  | cont=>obtain⟨y,l,j,L⟩:=a;show C5 j L
  | brk=>obtain⟨y,l,j,a⟩:=a;show#[y,l,j.unpinned,a]
  | ret v=>obtain⟨d,y,l,j,r7,a⟩:=a;show#[d,y,l,j.unpinned,r7,a]
def W2{K:lV}{a:lR}{xs:lP V}{g:TG}{n:TS}{D:pX}{z:St}{H:Hp}(Pv:Nat->St->Hp->Prop)(j:Pv 0 z H)(h:∀i z H,i<=xs.length->Pv i z H->SqL K H a xs)
  (d:∀i x z H,xs[i]? =some x->Pv i z H->g x z H λw r=>n {D with nx:=Pv<|i+1,ct:=Pv<|i+1,bk:=D.nx} w r) (hd:∀z H,Pv xs.length z H->D.nx z H) :
  ∃W:Nat->Nat->St->Hp->Prop,(∃m,W 0 m z H)/\∀i m z H,W i m z H->
   ((tW K a).stop i H/\D.nx z H)\/((tW K a).go i H/\∃N:St->Hp->Prop,(∀u s,N u s->∃l,l<m/\W (i+1) l u s)/\∀x s,(tW K a).yld i H x s->g x z s λw r=>n {D with nx:=N,ct:=N,bk:=D.nx} w r):=by
 refine#[λi m z H=>m=xs.length-i/\i<=xs.length/\Pv i z H,#[xs.length,by simp,pH _,j],?_];rintro i m z H ⟨rfl,c,p⟩;have q:=h i z H c p
 by_cases o:i<xs.length
 ·refine .inr #[#[xs,xs[i],q,oA o],Pv<|i+1,λu s Y=>#[xs.length-(i+1),tX _ _ o,rfl,o,Y],λx s y=>?_];obtain⟨e,y⟩:=y;subst e;show d i x z _ (y xs q) p
 ·have e:i=xs.length:=by lia
  subst e;show .inl #[#[xs,q,nw _],hd z H p]
def BN{K:lV}{a:lR}{xs:lP V}{g:TG}{n:TS}{D:pX}{z:St}{H:Hp}(Pv:Nat->St->Hp->Prop)(j:Pv 0 z H)(h:∀i z H,i<=xs.length->Pv i z H->SqT K H a xs)
  (d:∀i x z H,xs[i]? =some x->Pv i z H->g x z H λw r=>n {D with nx:=Pv<|i+1,ct:=Pv<|i+1,bk:=D.nx} w r) (hd:∀z H,Pv xs.length z H->D.nx z H) :
  ∃W:Nat->Nat->St->Hp->Prop,(∃m,W 0 m z H)/\∀i m z H,W i m z H->
   ((zt K a).stop i H/\D.nx z H)\/((zt K a).go i H/\∃N:St->Hp->Prop,(∀u s,N u s->∃l,l<m/\W (i+1) l u s)/\∀x s,(zt K a).yld i H x s->g x z s λw r=>n {D with nx:=N,ct:=N,bk:=D.nx} w r):=by
 refine#[λi m z H=>m=xs.length-i/\i<=xs.length/\Pv i z H,#[xs.length,by simp,pH _,j],?_];rintro i m z H ⟨rfl,c,p⟩;have q:=h i z H c p
 by_cases o:i<xs.length
 ·refine .inr #[#[xs,xs[i],q,oA o],Pv<|i+1,λu s Y=>#[xs.length-(i+1),tX _ _ o,rfl,o,Y],λx s y=>?_];obtain⟨e,y⟩:=y;subst e;show d i x z _ (y xs q) p
 ·have e:i=xs.length:=by lia
  subst e;show .inl #[#[xs,q,nw _],hd z H p]
def wS{lo:Int}{n:Nat}{g:TG}{o:TS}{D:pX}{z:St}{H:Hp}(Pv:Nat->St->Hp->Prop)(j:Pv 0 z H)
  (h:∀i z H,i<n->Pv i z H->g (.int<|lo+i) z H λw q=>o {D with nx:=Pv<|i+1,ct:=Pv<|i+1,bk:=D.nx} w q) (hd:∀z H,Pv n z H->D.nx z H) :
  ∃W:Nat->Nat->St->Hp->Prop,(∃m,W 0 m z H)/\∀i m z H,W i m z H->
   ((wa lo n).stop i H/\D.nx z H)\/((wa lo n).go i H/\∃N:St->Hp->Prop,(∀u s,N u s->∃l,l<m/\W (i+1) l u s)/\∀x s,(wa lo n).yld i H x s->g x z s λw q=>o {D with nx:=N,ct:=N,bk:=D.nx} w q):=by
 refine#[λi m z H=>m=n-i/\i<=n/\Pv i z H,#[n,by simp,pH _,j],?_];rintro i m z H ⟨rfl,y,p⟩
 by_cases r:i<n
 ·refine .inr #[r,Pv<|i+1,λu s d=>#[n-(i+1),tX _ _ r,rfl,r,d],λx s y=>?_];obtain⟨e,y⟩:=y;subst e y;show h i z _ r p
 ·have e:i=n:=by lia
  subst e;show .inl #[nw _,hd z H p]
abbrev R2:=V->V->Hp->VK->Prop
def nV(X:Cx)(f:lS->lS->Sem lS)(r:R2):Prop :=
 ∀(w:lP (lR×Obj)) (s:lT) (z:St) (H:Hp) (x y:V) (v u:lS) (Q:VK),mG X w z H s->Yj x v->Yj y u->r x y H Q->
  ∅ (f v u) (EP X w z Q) X.xe s
def FS(X:Cx)(f:lS->Sem lS)(r:V->Hp->VK->Prop):Prop :=
 ∀(y:lP (lR×Obj)) (s:lT) (z:St) (H:Hp) (x:V) (v:lS) (Q:VK),mG X y z H s->Yj x v->r x H Q->
  ∅ (f v) (EP X y z Q) X.xe s
def Xd(X:Cx)(f:lS)(r:lP V->Hp->VK->Prop):Prop :=
 ∀(y:lP (lR×Obj)) (s:lT) (z:St) (H:Hp) (x:lP V) (w:lP lS) (Q:VK),mG X y z H s->Z6 x w->r x H Q->
  ∅ (call f w) (EP X y z Q) X.xe s
def Yi4(X:Cx)(r:V->Hp->(Bool->Hp->Prop)->Prop):Prop :=
 ∀(y:lP (lR×Obj)) (s:lT) (z:St) (H:Hp) (x:V) (v:lS) (Q:Bool->Hp->Prop),mG X y z H s->Yj x v->r x H Q->
  ∅ (truthy v) (TP X y z Q) X.xe s
def qU(r:R2)(w u:TE):TE:=λz H Q=>w z H λx s=>u z s λy q=>r x y q Q
def tUn(r:V->Hp->VK->Prop)(y:TE):TE:=λz H Q=>y z H λx w=>r x w Q
def rI(C:Int->Int->Prop)(g:Int->Int->V):R2:=λx y H Q=>oI x λi=>oI y λj=>C i j/\Q (g i j) H
def vm(g:Int->Int->V):R2:=λx y H Q=>oI x λi=>oI y λj=>Q (g i j) H
def rU(g:Int->V):V->Hp->VK->Prop:=λx H Q=>oI x λi=>Q (g i) H
def En(o:PE X a n)(l:PE X b j){R:V->V->Hp->Prop}(I:mG X q z H s)
  (h:n z H λx p=>j z p λy w=>R x y w) {Q:lS->lT->Prop} {f:lS->lS->Sem lS}
  (i:∀v u r x y w,mG X q z w r->Yj x v->Yj y u->R x y w->∅ (f v u) Q X.xe r) :
  ∅ (eval a X.env) (λv g=>∅ (eval b X.env) (λu e=>∅ (f v u) Q X.xe e) X.xe g) X.xe s:=by
 refine mX (o q s z H _ I h) λv d ⟨x,p,c,Y,U⟩=>?_
 refine mX (l q d z p _ c U) λu r ⟨y,w,N,M,L⟩=>?_
 show i v u r x y w N Y M L
def Zp(w:nV X (binaryOp op) r)(p:PE X a o)(n:PE X b l):PE X (.BinOp a op b pos) (qU r o l):=by
 intro j s z H Q I h;show wpAny_BinOp<|En p n I h λv u i x y g e d c q=>w j i z g x y v u Q e d c q
def vi{r:V->Hp->VK->Prop}(w:FS X (unaryOp op) r)(u:PE X a q):PE X (.UnaryOp op a pos) (tUn r q):=by
 intro y s z H Q I h;show UnaryOp_<|mX (u y s z H _ I h) λv p ⟨x,o,n,l,j⟩=>w y p z o x v Q n l j
def GZ{f:lS->lS->Sem lS}{C:Int->Int->Prop}{g:Int->Int->Int}
  (w:∀(i j:Int)(t u:Tok)(s:lT)(Q:lS->lT->Prop)(E:lS->lT->Prop),C i j->Q (.int (g i j) s.toks) {s with toks:=s.toks+1}->∅ (f (.int i t)<|.int j u) Q E s) :
  nV X f (rI C λi j=>.int<|g i j):=by
 intro e s z H x y v u Q I r p h;obtain⟨i,rfl,o⟩:=oI.out h;obtain⟨j,rfl,n,q⟩:=oI.out (x:=y) o;obtain⟨t,rfl⟩:=r;obtain⟨l,rfl⟩:=p;show w i j t l s _ _ n #[.int<|g i j,H,I.tok _,#[_,rfl],q]
def QJ{f:lS->lS->Sem lS}{g:Int->Int->Int}
  (w:∀(i j:Int)(t u:Tok)(s:lT)(Q:lS->lT->Prop)(E:lS->lT->Prop),Q (.int (g i j) s.toks) {s with toks:=s.toks+1}->∅ (f (.int i t)<|.int j u) Q E s) :
  nV X f (vm λi j=>.int<|g i j):=by
 intro l s z H x y v u Q I r p h;obtain⟨i,rfl,o⟩:=oI.out h;obtain⟨j,rfl,q⟩:=oI.out (x:=y) o;obtain⟨t,rfl⟩:=r;obtain⟨n,rfl⟩:=p;show w i j t n s _ _ #[.int<|g i j,H,I.tok _,#[_,rfl],q]
def Hz{f:lS->lS->Sem lS}{g:Int->Int->Bool}
  (w:∀(i j:Int)(t u:Tok)(s:lT)(Q:lS->lT->Prop)(E:lS->lT->Prop),Q (.bool<|g i j) s->∅ (f (.int i t)<|.int j u) Q E s) :
  nV X f (vm λi j=>.bl<|g i j):=by
 intro l s z H x y v u Q I r p h;obtain⟨i,rfl,o⟩:=oI.out h;obtain⟨j,rfl,q⟩:=oI.out (x:=y) o;obtain⟨t,rfl⟩:=r;obtain⟨n,rfl⟩:=p;show w i j t n s _ _ #[.bl<|g i j,H,I,rfl,q]
def Vx(i j:Int):Prop:=0<j/\j<1073741824
def Ia(i j:Int):Prop:=(-(2 ^ 64)<i/\i<2 ^ 64)\/(-(2 ^ 64)<j/\j<2 ^ 64)
def Ia.ok(h:Ia i j):IntMulOk i j:=by
 rcases h with⟨z,y⟩|⟨z,y⟩
 ·show .of_left<|intBits_le_64 z y
 ·show .of_right<|intBits_le_64 z y
def UN:nV X (binaryOp .Add) (vm λi j=>.int<|i+j):=QJ λ_ _ _ _ _ _ _ q=>add_int q
def Ej:nV X (binaryOp .Sub) (vm λi j=>.int<|i-j):=QJ λ_ _ _ _ _ _ _ q=>sub_int q
def xc:nV X (binaryOp .Mult) (rI Ia λi j=>.int<|i * j):=GZ λ_ _ _ _ _ _ _ z q=>mul_int q z.ok
def Yi:nV X (binaryOp .FloorDiv) (rI Vx λi j=>.int<|i / j):=GZ λi j _ _ _ _ _ z q=>by
 have y:(0:Int)<j:=z.1;have x:j<1073741824:=z.2;show floordiv_int (by lia) (by rw[Int.fdiv_eq_ediv_of_nonneg i (by lia)];show q) (.inl<|PyProof.noPylong_small<|by lia)
def Ye:nV X (binaryOp .Mod) (rI (λ_ j=>0<j) λi j=>.int<|i%j):=GZ λi j _ _ _ _ _ z q=>by
 have y:(0:Int)<j:=z;show mod_int' (by lia) (by rw[Int.fmod_eq_emod_of_nonneg i (by lia)];show q)
def unI{f:lS->Sem lS}{g:Int->Int}
  (y:∀(i:Int)(t:Tok)(s:lT)(Q:lS->lT->Prop)(E:lS->lT->Prop),Q (.int (g i) s.toks) {s with toks:=s.toks+1}->∅ (f<|.int i t) Q E s) :
  FS X f (rU λi=>.int<|g i):=by
 intro u s z H x v Q I w h;obtain⟨i,rfl,q⟩:=oI.out h;obtain⟨t,rfl⟩:=w;show y i t s _ _ #[.int<|g i,H,I.tok _,#[_,rfl],q]
def vF:FS X (unaryOp .USub) (rU λi=>.int (-i)):=unI λ_ _ _ _ _ q=>neg_int q
def On:V->V->Bool
 | .non,.non=>true|.non,.int _=>true|.int _,.non=>true|.non,.bl _=>true|.bl _,.non=>true|.non,.str _=>true|.str _,.non=>true
 | .int _,.int _=>true|.bl _,.bl _=>true|.str _,.str _=>true|.byt _,.byt _=>true
 | .int _,.str _=>true|.str _,.int _=>true|.bl _,.str _=>true|.str _,.bl _=>true
 | _,_=>false
def MB:R2:=λx y H Q=>On x y=true/\Q (.bl<|decide<|x=y) H
def KB:R2:=λx y H Q=>On x y=true/\Q (.bl (!decide (x=y))) H
def Kt:decide (V.int i=V.int j)=(i ==j):=by
 rw[sj];simp
def LG:decide (V.bl i=V.bl j)=(i ==j):=by
 rw[sj];simp
def MN:decide (V.str i=V.str j)=(i ==j):=by
 rw[sj];simp
def JT:decide (V.byt i=V.byt j)=(i.toList ==j.toList):=by
 rw[sj];cases i;cases j;simp
def Yx(I:mG X y z H s)(q:Q (.bl k) H)(e:k=x):EP X y z Q (.bool x) s:=by
 subst e;show#[.bl k,H,I,rfl,q]
def MS:nV X (compareOp .Eq) MB:=by
 intro n s z H x y v u Q I o w h;obtain⟨p,q⟩:=h;cases x with
 | non =>
  cases o;cases y with
  | non=>cases w;show PySem.EqNone.eq_none_none (Yx I q<|by simp)
  | bl j=>cases w;show PySem.EqNone.eq_none_bool (Yx I q<|by simp)
  | int j=>obtain⟨r,rfl⟩:=w;show PySem.EqNone.eq_none_int (Yx I q<|by simp)
  | str j=>obtain⟨r,rfl⟩:=w;show PySem.EqNone.eq_none_str (Yx I q<|by simp)
  | _=>show absurd (show false=true from p) oH
 | bl i =>
  cases o;cases y with
  | non=>cases w;show PySem.EqNone.eq_bool_none (Yx I q<|by simp)
  | bl j=>cases w;show eq_bool (Yx I q LG)
  | str j=>obtain⟨r,rfl⟩:=w;show PySem.EqMixed.eq_bool_str (Yx I q<|by simp)
  | _=>show absurd (show false=true from p) oH
 | int i =>
  obtain⟨t,rfl⟩:=o;cases y with
  | non=>cases w;show PySem.EqNone.eq_int_none (Yx I q<|by simp)
  | int j=>obtain⟨r,rfl⟩:=w;show eq_int (Yx I q Kt)
  | str j=>obtain⟨r,rfl⟩:=w;show PySem.EqMixed.eq_int_str (Yx I q<|by simp)
  | _=>show absurd (show false=true from p) oH
 | str i =>
  obtain⟨t,rfl⟩:=o;cases y with
  | non=>cases w;show PySem.EqNone.eq_str_none (Yx I q<|by simp)
  | bl j=>cases w;show PySem.EqMixed.eq_str_bool (Yx I q<|by simp)
  | int j=>obtain⟨r,rfl⟩:=w;show PySem.EqMixed.eq_str_int (Yx I q<|by simp)
  | str j=>obtain⟨r,rfl⟩:=w;show eq_str (Yx I q MN)
  | _=>show absurd (show false=true from p) oH
 | byt i =>
  obtain⟨t,rfl⟩:=o;cases y with
  | byt j=>obtain⟨r,rfl⟩:=w;show PySem.W.eq_bytes (Yx I q JT)
  | _=>show absurd (show false=true from p) oH
 | _=>cases y<;>show absurd (show false=true from p) oH
def Vn:nV X (compareOp .NotEq) KB:=by
 intro n s z H x y v u Q I o w h;obtain⟨p,q⟩:=h;cases x with
 | non =>
  cases o;cases y with
  | non=>cases w;show PySem.EqNone.ne_none_none (Yx I q<|by simp)
  | bl j=>cases w;show PySem.EqNone.ne_none_bool (Yx I q<|by simp)
  | int j=>obtain⟨r,rfl⟩:=w;show PySem.EqNone.ne_none_int (Yx I q<|by simp)
  | str j=>obtain⟨r,rfl⟩:=w;show PySem.EqNone.ne_none_str (Yx I q<|by simp)
  | _=>show absurd (show false=true from p) oH
 | bl i =>
  cases o;cases y with
  | non=>cases w;show PySem.EqNone.ne_bool_none (Yx I q<|by simp)
  | bl j=>cases w;show ne_bool (Yx I q<|oJ not LG)
  | str j=>obtain⟨r,rfl⟩:=w;show PySem.EqMixed.ne_bool_str (Yx I q<|by simp)
  | _=>show absurd (show false=true from p) oH
 | int i =>
  obtain⟨t,rfl⟩:=o;cases y with
  | non=>cases w;show PySem.EqNone.ne_int_none (Yx I q<|by simp)
  | int j=>obtain⟨r,rfl⟩:=w;show ne_int (Yx I q<|oJ not Kt)
  | str j=>obtain⟨r,rfl⟩:=w;show PySem.EqMixed.ne_int_str (Yx I q<|by simp)
  | _=>show absurd (show false=true from p) oH
 | str i =>
  obtain⟨t,rfl⟩:=o;cases y with
  | non=>cases w;show PySem.EqNone.ne_str_none (Yx I q<|by simp)
  | bl j=>cases w;show PySem.EqMixed.ne_str_bool (Yx I q<|by simp)
  | int j=>obtain⟨r,rfl⟩:=w;show PySem.EqMixed.ne_str_int (Yx I q<|by simp)
  | str j=>obtain⟨r,rfl⟩:=w;show ne_str (Yx I q<|oJ not MN)
  | _=>show absurd (show false=true from p) oH
 | byt i =>
  obtain⟨t,rfl⟩:=o;cases y with
  | byt j=>obtain⟨r,rfl⟩:=w;show PySem.W.ne_bytes (Yx I q<|oJ not JT)
  | _=>show absurd (show false=true from p) oH
 | _=>cases y<;>show absurd (show false=true from p) oH
def ug:nV X (compareOp .Lt) (vm λi j=>.bl<|decide<|i<j):=Hz λ_ _ _ _ _ _ _ q=>lt_int q
def vc:nV X (compareOp .LtE) (vm λi j=>.bl<|decide<|i<=j):=Hz λ_ _ _ _ _ _ _ q=>le_int q
def yH:nV X (compareOp .Gt) (vm λi j=>.bl<|decide<|j<i):=Hz λ_ _ _ _ _ _ _ q=>gt_int q
def Rw:nV X (compareOp .In) (λx y H Q=>∃i j,x=.str i/\y=.str j/\Q (.bl (!(Builtin.Str.occurrences j i 0 j.length 1).isEmpty)) H):=by
 intro p s z H x y v u Q I w r h;obtain⟨i,j,rfl,rfl,q⟩:=h;obtain⟨t,rfl⟩:=w;obtain⟨o,rfl⟩:=r;show in_str<|Yx I q rfl
def xK:nV X (compareOp .Is) (λx y H Q=>y=.non/\Q (.bl<|decide<|x=.non) H):=by
 intro p s z H x y v u Q I w r h;obtain⟨rfl,q⟩:=h;cases r;refine is_none_gen<|Yx I q ?_;cases x<;>first
  | (cases w;rfl)
  | (obtain⟨t,rfl⟩:=w;rfl)
def RQ:nV X (compareOp .IsNot) (λx y H Q=>y=.non/\Q (.bl (!decide (x=.non))) H):=by
 intro p s z H x y v u Q I w r h;obtain⟨rfl,q⟩:=h;cases r;refine isnot_none_gen<|Yx I q ?_;cases x<;>first
  | (cases w;rfl)
  | (obtain⟨t,rfl⟩:=w;rfl)
def nV.or{f:lS->lS->Sem lS}(h:nV X f r)(h':nV X f n):nV X f (λx y H Q=>r x y H Q\/n x y H Q):=by
 intro w s z H x y v u Q I p o q;rcases q with q|q
 ·show h w s z H x y v u Q I p o q
 ·show h' w s z H x y v u Q I p o q
def Ym(b:lZ)(h:op≠.In:=by lk)(z:op≠.NotIn:=by lk):behindInMarks op b=false:=by
 have y:(op ==CmpOp.In)=false:=by cases op<;>first|rfl|show absurd rfl h
 have x:(op ==CmpOp.NotIn)=false:=by cases op<;>first|rfl|show absurd rfl z
 cases b<;>simp[behindInMarks,y,x]
def zo(w:nV X (compareOp op) r)(p:PE X a o)(n:PE X b l)(j:behindInMarks op b=false):PE X (.Compare a [op] [b] pos) (qU r o l):=by
 intro i s z H Q I h;show wpAny_Compare1 (En p n I h λv u g x y e d c Y q=>w i g z e x y v u Q d c Y q) j
def xM(t:TE):TT:=λz H Q=>t z H λx y=>oB x λk=>Q k y
def Z2(o:nV X (compareOp op) r)(n:PE X a l)(j:PE X b i)(g:behindInMarks op b=false):PT X (.Compare a [op] [b] pos) (xM<|qU r l i):=by
 intro q s z H Q I h;refine wpAny_isTrue_Compare1 (mX (n q s z H _ I h) λv d ⟨x,Y,U,N,M⟩=>mX (j q d z Y _ U M) λu L ⟨y,J,G,E,D⟩ =>
  mX (o q L z J x y v u _ G N E D) λc s3 ⟨w,C,B,A,p⟩=>?_) g
 obtain⟨k,e,p⟩:=oB.out p;subst e;cases A;show uP #[C,B,p]
def YW(r s:R2)(q p o:TE):TE:=λz H Q=>q z H λx n=>p z n λy l=>r x y l λw u=>oB w λk =>
 (if k=true then o z u λj i=>s y j i Q else Q (.bl false) u)
def AQ(g:nV X (compareOp op) r)(n:nV X (compareOp q) Y)(U:PE X a N)(M:PE X b L)(J:PE X c G)
  (E:lastMarks [op,q] [b,c]=false:=by with_unfolding_all rfl):PT X (.Compare a [op,q] [b,c] pos) (xM<|YW r Y N L G):=by
 intro p s z H Q I h;refine isTrue_chain (mX (U p s z H _ I h) λv D ⟨x,C,B,A,q1⟩=>test_link (mX (M p D z C _ B q1) λu s2 ⟨y,H2,I2,l,q2⟩ =>
  mX (g p s2 z H2 x y v u _ I2 A l q2) λd s3 ⟨w,j,i,r3,o⟩=>?_)) E
 obtain⟨k,e,o⟩:=oB.out o;subst e;cases r3;refine uP ?_;cases k with
 | false =>
  show ite_ff #[j,i,o]
 | true =>
  refine ite_tt<|test_last<|mX (J p s3 z j _ i o) λw d ⟨D,C,B,A,q4⟩=>mX (n p d z C y D u w _ B l A q4) λd' s5 ⟨z2,H5,I5,r5,x⟩=>?_;obtain⟨w,e2,x⟩:=oB.out x;subst e2;cases r5;show uP #[H5,I5,x]
def Lw(K:lV)(x:V)(H:Hp)(k:Bool):Prop :=
 match x with
 | .non=>k=false
 | .bl b=>k=b
 | .int i=>k=(i !=0)
 | .str y=>y.length<=sizeLine/\k=((y.length:Int) !=0)
 | .byt y=>y.size<=sizeLine/\k=((y.size:Int) !=0)
 | .ref p=>(∃z,SqL K H p z/\k=!z.isEmpty)\/(∃z,SqT K H p z/\k=!z.isEmpty)\/∃w,H p=some (.dK w)/\k=!w.isEmpty
 | _=>False
def TY{z:Type}{kvs:lP (z×V)}{vs:lP (z×lS)}(r:KV kvs vs):(!vs.isEmpty)=!kvs.isEmpty:=by
 cases r<;>rfl
def Lr(r:Z6 xs z):(!z.toArray.isEmpty)=!xs.isEmpty:=by
 cases r<;>simp
def yA:(sizeLine:Nat)<2 ^ 63:=by rw[tU];decide
def Uz:Yi4 X (λx H Q=>∃k,Lw X.K x H k/\Q k H):=by
 intro U s z H x v Q I n h;obtain⟨k,e,q⟩:=h;have N:=yA;have M:sizeLine=16777216:=tU;cases x with
 | non =>
  cases n;have w:k=false:=e;subst w;show truthy_none #[H,I,q]
 | bl b =>
  cases n;have w:k=b:=e;subst w;show uP #[H,I,q]
 | int i =>
  obtain⟨t,rfl⟩:=n;have w:k=(i !=0):=e;subst w;show PySem.P.truthy_int #[H,I,q]
 | str y =>
  obtain⟨t,rfl⟩:=n;obtain⟨c,w⟩:y.length<=sizeLine/\k=((y.length:Int) !=0):=e;subst w;show PySem.P.truthy_str (by lia) #[H,I.tok _,q]
 | byt y =>
  obtain⟨t,rfl⟩:=n;obtain⟨c,w⟩:y.size<=sizeLine/\k=((y.size:Int) !=0):=e;subst w;show PySem.W.truthy_bytes (by lia) #[H,I.tok _,q]
 | ref p =>
  cases n;have w:(∃o,SqL X.K H p o/\k=!o.isEmpty)\/(∃o,SqT X.K H p o/\k=!o.isEmpty)\/∃u,H p=some (.dK u)/\k=!u.isEmpty:=e;rcases w with⟨o,l,w⟩|⟨o,l,w⟩|⟨u,l,w⟩
  ·subst w;obtain⟨a,r,i,g⟩:=I.list l;have d:=r.length;show wpAny_truthy_list i.isList (by simp only[oz];lia) #[H,I.tok _,by rw[Lr r];show q]
  ·subst w;obtain⟨a,r,i,g⟩:=I.tuple l;have d:=r.length;show truthy_tuple i (by simp only[oz];lia) #[H,I.tok _,by rw[Lr r];show q]
  ·subst w;obtain⟨g,Y,j,r,m⟩:u.length<=sizeLine/\(p ==sysModules)=false/\∃j,KV u j/\s.heap.DictOf (Z4 X.prog X.w) p j:=I.hok p _ l;have d:u.length=j.length:=nG r;show wpAny_truthy_dict Y m (by lia) #[H,I.tok _,by rw[TY r];show q]
 | _=>show(show False from e).elim
def Vv(r:PE X a q)(he:∀y,isTrue a X.env y=(do let v <-y;standAt a.pos;holding [v] (truthy v))) :
  PT X a (λz H Q=>q z H λx w=>∃k,Lw X.K x w k/\Q k w):=by
 intro u s z H Q I h;show isTrue_plain (mX (r u s z H _ I h) λv p ⟨x,o,n,l,j⟩=>Uz u p z o x v Q n l j)<|he _
def Zt4:nV X (binaryOp .Add) (λx y H Q=>∃i j,x=.str i/\y=.str j/\i.length+j.length<=sizeLine/\Q (.str<|i++j) H):=by
 intro n s z H x y v u Q I w r h;obtain⟨i,j,rfl,rfl,p,q⟩:=h;obtain⟨t,rfl⟩:=w;obtain⟨o,rfl⟩:=r;show add_str (λo l=>#[.str<|i++j,H,I.tok _,#[_,rfl],q]) p
def qg(r:Z6 [x] us):∃u,us=[u]/\Yj x u:=by
 cases r with
 | cons z y=>cases y;show#[_,rfl,z]
def ww(r:Z6 [x,y] us):∃u z,us=[u,z]/\Yj x u/\Yj y z:=by
 cases r with
 | cons w s =>
  cases s with
  | cons q p=>cases p;show#[_,_,rfl,w,q]
def Zx5(x:X.calm=true):Xd X (.builtin "max") (λxs H Q=>∃i j,xs=[.int i,.int j]/\Q (.int<|if j >i then j else i) H):=by
 intro w s z H xs p Q I r h;obtain⟨i,j,rfl,q⟩:=h;obtain⟨u,o,rfl,⟨t,rfl⟩,⟨n,rfl⟩⟩:=ww r;refine max_two_ints (I.ok.hd x) λl g k=>#[_,H,I.kept k,?_,q]
 by_cases y:j >i
 ·rw[mT y,mT y];show#[_,rfl]
 ·rw[mS y,mS y];show#[_,rfl]
def Sg(x:X.calm=true):Xd X (.builtin "min") (λxs H Q=>∃i j,xs=[.int i,.int j]/\Q (.int<|if j<i then j else i) H):=by
 intro w s z H xs p Q I r h;obtain⟨i,j,rfl,q⟩:=h;obtain⟨u,o,rfl,⟨t,rfl⟩,⟨n,rfl⟩⟩:=ww r;refine min_two_ints (I.ok.hd x) λl g k=>#[_,H,I.kept k,?_,q]
 by_cases y:j<i
 ·rw[mT y,mT y];show#[_,rfl]
 ·rw[mS y,mS y];show#[_,rfl]
def Ic:Xd X (.type "int") (λxs H Q=>(∃i,xs=[.int i]/\Q (.int i) H)\/∃k,xs=[.bl k]/\Q (.int<|if k then 1 else 0) H):=by
 intro x s z H xs w Q I r h;rcases h with⟨i,rfl,q⟩|⟨k,rfl,q⟩
 ·obtain⟨u,rfl,t,rfl⟩:=qg r;show call_int_int #[.int i,H,I,#[_,rfl],q]
 ·obtain⟨u,rfl,y⟩:=qg r;cases y;show call_int_bool #[.int<|if k then 1 else 0,H,I.tok _,#[_,rfl],q]
def Bp:Xd X (.type "str") (λxs H Q=>∃i,xs=[.int i]/\i.natAbs.log2<1920/\Q (.str<|toString i) H):=by
 intro x s z H xs w Q I r h;obtain⟨i,rfl,y,q⟩:=h;obtain⟨u,rfl,t,rfl⟩:=qg r;show PySem.P.str_of_int y #[.str _,H,I.tok _,#[_,rfl],q]
structure xu(h:Heap)(x dx C:Addr)(mA:Str->Option Value):Prop where
 obj:h.get? x=some (PySem.W.instObj C dx)
 ns:h.Ns1 dx mA
 ne:dx≠x
def GV{h:lX}{x:lR}{w:lQ->lU lS}(n:h.Ns1 x w):∃od,h.get? x=some od/\∀name,PySem.W.lookIn name od=some (w name):=by
 obtain⟨o,u,g,s,hd,r,_,p⟩:=n;refine#[o,s,λname=>?_];have e:=p name;unfold nsFind findBy at e;rw[<-Array.find?_toList]at e;unfold PySem.W.lookIn;rw[hd];dsimp only;split
 ·rename_i y q;rw[q]at e;show oJ some e
 ·rename_i q;rw[q]at e;have a:u.toList.any (·.refKey)=false:=by
   rw[List.any_eq_false];intro y l;obtain⟨z,t,j⟩:=r y<|AD.mp l;simp[DictEntry.refKey,j]
  have i:¬u.toList.any (·.refKey)=true:=by rw[a];show oH
  rw[mS i];show oJ some e
def xu.look{z:lQ->lU lS}(I:xu h x y C z):∃od,PySem.W.InstAt h x (PySem.W.instObj C y) C (some od)/\∀name,PySem.W.lookIn name od=some (z name) :=
 let⟨od,w,u⟩:=GV I.ns
 #[od,#[I.obj,rfl,rfl,w],u]
section
variable {prog:ma} {w:lY} {A:md} {E:lS->lT->Prop} {s:lT} {K:lV} {x dx C f:lR} {mA:lQ->lU lS} {name:lQ} {v:lS}
def WH{Q:lS->lT->Prop}(X:K.In s.heap)(I:xu s.heap x dx C mA)(y:PySem.W.plainGet K C name=true)(u:PySem.W.hasDictIn K C=true)
  (r:findIn K (.ref C) name=some none) (q:mA name=some v) (z:PySem.W.handedIn v=true) (h:Q v {s with toks:=s.toks+1}) :
  wpAny (model prog w) A (getAttr (.ref x) name expr) Q E s:=by
 obtain⟨o,J,p⟩:=I.look;show PySem.W.get_value X J (EQ y).1 (PC u r rfl<|by rw[p,q]) z h
def Tf{Q:lS×lP lS->lT->Prop}(X:K.In s.heap)(I:xu s.heap x dx C mA)(z:PySem.W.plainGet K C name=true)
  (y:findIn K (.ref C) name=some (some<|.ref f)) (u:PySem.W.isFn K (.ref f)=true) (r:mA name=none) (h:Q (.ref f,[.ref x]) s) :
  wpAny (model prog w) A (getMethod (.ref x) name pl) Q E s:=by
 obtain⟨q,J,p⟩:=I.look;show PySem.W.method_fn X J (EQ z).1 (EQ z).2 y (rG.mp u) (by change(PySem.W.lookIn name q).map (·.isSome)=some false;rw[p,r];rfl) h
def ZR{Q:Unit->lT->Prop}(X:K.In s.heap)(I:xu s.heap x dx C mA)
  (l:findIn K (.ref C) "__setattr__"=some (some<|.builtin "object.__setattr__")) (j:PySem.W.plainOver K C=true) (i:PySem.W.takerIn K C name=some none) (g:PySem.W.hasDictIn K C=true)
  (e:PySem.Within mA ns) (hsz:ns.length<=sizeLine)
  (h:∀h',xu h' x dx C (λy=>if y=name then some v else mA y)->Heap.SameBut dx s.heap h'->Q () {s with heap:=h',toks:=s.toks+2}) :
  wpAny (model prog w) A (setAttr (.ref x) name v) Q E s:=by
 obtain⟨Y,J,U⟩:=I.look;refine PySem.W.set_plain X J l<|PySem.W.osa_open (s:={s with toks:=s.toks+1}) (r:=none) X J j i λb=>?_;obtain⟨Y,d,q⟩:=PySem.W.any_some g;have c:s.heap.get? x=some #[.ref C,some dx,.plain,#[]]:=I.obj;refine mP<|nq<|mP<|mP<|Fw c<|mP<|PySem.W.Looks.here (s:={s with toks:=s.toks+1}) (FY X d) ?_;rw[q];refine nq (a:=some dx)<|mP<|nq<|mP ?_;refine wpAny_nsSet1 (s:={s with toks:=s.toks+1}) I.ns λh' z u=>?_
 obtain⟨N,Y,U,p,o,n⟩:=z.count<|PySem.Within.cons name v e;refine mP<|wpAny_lookBehind p (by rw[o];show pastItsLine_dict<|oi n<|by rw[pi];lia) ?_;show nq<|h _ #[(u.2 _<|pb I.ne).trans I.obj,z,I.ne] u
def Zyc{R:Result->lT->Prop}(X:K.In s.heap)(y:PySem.W.makesIn K C=true)
  (u:findIn K (.ref C) "__init__"=some (some<|.ref f)) (r:PySem.W.typeIn K (.ref f)=some (.type "function"))
  (h:codeAny (model prog w) (A.under<|.builtin "type.__call__" #[.ref C ::vs,z]) (.call (.ref f) #[.ref (#v[s]+1) ::vs,z]) (PySem.W.InitBack (#v[s]+1) R)
   {s with heap:=(s.heap.push PySem.W.emptyDict).push (PySem.W.instObj C #v[s])}) :
  codeAny (model prog w) A (.call (.ref C) #[vs,z]) R s:=by
 obtain⟨q,g,d,t,os⟩:=s;show PySem.W.make_core (PySem.W.makes_of X y) (Bb X u) (λself=>PySem.W.bind_fn X self r) (.inl rfl) h
end
def rn(f:lQ)(v:V):lP (lQ×V)->lP (lQ×V)
 | []=>[(f,v)]
 | (g,x) ::r=>if g=f then(g,v) ::r else(g,x) ::rn f v r
theorem Ph(f g:lQ)(v:V):∀fs:lP (lQ×V),(rn f v fs).lookup g=if g=f then some v else fs.lookup g
 | []=>by
  change List.lookup g [(f,v)]=_
  by_cases h:g=f
  ·have z:(g ==f)=true:=rG.mpr h;simp only[List.lookup,z,mT h]
  ·have z:(g ==f)=false:=sF.mpr h;simp only[List.lookup,z,mS h]
 | (k,x) ::r=>by
  have w:=Ph f g v r;rw[show rn f v ((k,x) ::r)=(if k=f then(k,v) ::r else(k,x) ::rn f v r)from rfl]
  by_cases y:k=f
  ·rw[mT y]
   by_cases h:g=k
   ·have z:(g ==k)=true:=rG.mpr h;simp only[List.lookup,z,mT<|h.trans y]
   ·have z:(g ==k)=false:=sF.mpr h;simp only[List.lookup,z,mS (λe:g=f=>h<|e.trans y.symm)]
  ·rw[mS y]
   by_cases h:g=k
   ·have z:(g ==k)=true:=rG.mpr h;simp only[List.lookup,z,mS (λe:g=f=>y<|h.symm.trans e)]
   ·have z:(g ==k)=false:=sF.mpr h;simp only[List.lookup,z];show w
theorem HU(f:lQ)(v:V):∀fs:lP (lQ×V),f∈(rn f v fs).map (·.1)/\∀g,g∈fs.map (·.1)->g∈(rn f v fs).map (·.1)
 | []=>#[by simp[rn],λg h=>by simp at h]
 | (k,x) ::r=>by
  obtain⟨y,w⟩:=HU f v r;rw[show rn f v ((k,x) ::r)=(if k=f then(k,v) ::r else(k,x) ::rn f v r)from rfl]
  by_cases z:k=f
  ·rw[mT z];subst z;show#[by simp,λg h=>by simpa using h]
  ·rw[mS z];refine#[?_,λg h=>?_]
   ·rw[nS];show pc _ y
   ·rw[nS]at h ⊢;rcases nQ.mp h with e|e
    ·show nQ.mpr<|.inl e
    ·show pc _<|w g e
theorem JP(f:lQ)(v:V):∀fs:lP (lQ×V),(rn f v fs).length<=fs.length+1
 | []=>by simp[rn]
 | (k,x) ::r=>by
  have y:=JP f v r;rw[show rn f v ((k,x) ::r)=(if k=f then(k,v) ::r else(k,x) ::rn f v r)from rfl]
  by_cases z:k=f
  ·rw[mT z,pi,pi];lia
  ·rw[mS z,pi,pi];lia
def qi.some_of(r:qi (some v) o):∃u,o=some u/\Yj v u:=by
 cases o with
 | none=>show(show False from r).elim
 | some u=>show#[u,rfl,r]
def qi.none_of(r:qi none o):o=none:=by
 cases o with
 | none=>rfl
 | some u=>show(show False from r).elim
def IM(r:Yj v u):PySem.W.handedIn u=true:=by
 cases v with
 | non=>cases(show u=Value.none from r);rfl
 | bl b=>cases(show u=Value.bool b from r);rfl
 | int i=>obtain⟨t,e⟩:=(show ∃t,u=Value.int i t from r);cases e;rfl
 | str x=>obtain⟨t,e⟩:=(show ∃t,u=Value.str x t from r);cases e;rfl
 | byt b=>obtain⟨t,e⟩:=(show ∃t,u=Value.bytes b t from r);cases e;rfl
 | flt b=>obtain⟨t,e⟩:=(show ∃t,u=Value.float b t from r);cases e;rfl
 | ref a=>cases(show u=Value.ref a from r);rfl
 | ty n=>cases(show u=Value.type n from r);rfl
section
def Db(x:oj P w H h)(e:H a=some (.ins C u fs)):∃y,xu h a u C y/\(∀f,qi (fs.lookup f)<|y f)/\PySem.Within y (fs.map (·.1))/\fs.length<=1000/\H u=some (.own a):=by
 obtain⟨d,z,s,p,y,n,r,q⟩:=(show Yc P w H h a (.ins C u fs)from x a _ e)
 show#[y,#[p,n,s],r,q,z,d]
end
structure pO(K:Frag)(C:Addr):Prop where
 pg:PySem.W.plainGet K C Str.empty=true
 hd:PySem.W.hasDictIn K C=true
 po:PySem.W.plainOver K C=true
 sa:findIn K (.ref C) "__setattr__"=some (some<|.builtin "object.__setattr__")
def pO.get{K:lV}{C:lR}(c:pO K C)(f:lQ):PySem.W.plainGet K C f=true:=c.pg
def mU(K:lV)(C:lR)(f:lQ):Prop:=findIn K (.ref C) f=some none
def mU.taker{K:lV}{C:lR}{f:lQ}(n:mU K C f):PySem.W.takerIn K C f=some none:=by
 unfold PySem.W.takerIn;rw[show findIn K (.ref C) f=some none from n]
 rfl
structure Xa(K:Frag)(C:Addr)(m:Str)(f:Addr):Prop where
 at_:findIn K (.ref C) m=some (some<|.ref f)
 fn:PySem.W.isFn K (.ref f)=true
 kp:keepIn K (.ref f)=true
section
variable {E:lS->lT->Prop}
def Zto{Q:lS->lT->Prop}(I:mG X x z H s)(e:H a=some (.ins C p fs))(c:pO X.K C)(n:mU X.K C f)(l:fs.lookup f=some v)
  (h:∀u s',mG X x z H s'->Yj v u->Q u s'):wpAny (model X.prog X.w) A (getAttr (.ref a) f b) Q E s:=by
 obtain⟨w,O,r,_,_,_⟩:=Db I.hok e;obtain⟨u,q,y⟩:=qi.some_of (v:=v) (o:=w f) (by rw[<-l];show r f);show WH I.kIn O (c.get f) c.hd n q (IM y)<|h u _ (I.tok _) y
def Hg{Q:lS×lP lS->lT->Prop}(I:mG X w z H s)(e:H a=some (.ins C u fs))(c:pO X.K C)(k:Xa X.K C m g)(l:fs.lookup m=none)
  (h:Q (.ref g,[.ref a]) s):wpAny (model X.prog X.w) A (getMethod (.ref a) m pl) Q E s:=by
 obtain⟨y,O,r,_,_,_⟩:=Db I.hok e;have x:y m=none:=qi.none_of (by rw[<-l];show r m);show Tf I.kIn O (c.get m) k.at_ k.fn x h
def Zuq{Q:Unit->lT->Prop}(I:mG X Y z H s)(e:H a=some (.ins C p fs))(c:pO X.K C)(n:mU X.K C f)(B:fs.length<1000)(U:Yj y u)
  (h:∀s',mG X Y z (mH H a<|.ins C p<|rn f y fs) s'->Q () s'):wpAny (model X.prog X.w) A (setAttr (.ref a) f u) Q E s:=by
 obtain⟨j,O,r,i,_,d⟩:=Db I.hok e;have N:(fs.map (·.1)).length<=sizeLine:=by rw[mI,tU];lia
 refine ZR I.kIn O c.sa c.po n.taker c.hd i N λM l L=>h _ ?_
 have hd:∃o,M.get? p=some o:=let⟨o,_,_,J,_⟩:=l.ns;#[o,J];refine I.write (x:=a) (e:=p) (by rw[e];show rR) (.inr d) (λb q G w=>(L.2 b G).trans w) hd ?_;refine#[by rw[Ze O.ne];show d,?_,O.ne,l.obj,_,l.ns,λg=>?_,λg D=>?_]
 ·have:=JP f y fs;lia
 ·change qi ((rn f y fs).lookup g) (if g=f then some u else j g);rw[Ph]
  by_cases q:g=f
  ·rw[mT q,mT q];show U
  ·rw[mS q,mS q];show r g
 ·by_cases q:g=f
  ·rw[q];show(HU f y fs).1
  ·refine(HU f y fs).2 g (i g λw=>D ?_);change(if g=f then some u else j g)=none;rw[mS q];show w
def mG.made(I:mG X r z H s):mG X r z (mH (mH H #v[s] (.own<|#v[s]+1)) (#v[s]+1)<|.ins C #v[s] [])
  {s with heap:=(s.heap.push PySem.W.emptyDict).push (PySem.W.instObj C #v[s])}:=by
 have x:(s.heap.push PySem.W.emptyDict).get? #v[s]=some PySem.W.emptyDict:=oK s.heap rfl;have p:((s.heap.push PySem.W.emptyDict).push (PySem.W.instObj C #v[s])).get? (#v[s]+1)=some (PySem.W.instObj C #v[s]):=by
  have:=oK (s.heap.push PySem.W.emptyDict) (o:=PySem.W.instObj C #v[s]) rfl;rwa[ur]at this
 have n:(s.heap.push PySem.W.emptyDict).Ns #v[s] (λ_=>none):=#[PySem.W.emptyDict,#[],_,x,rfl,(λe he=>absurd he<|by simp),λ_=>rfl]
 have l:=I.laid (a:=#v[s]) (o:=.own<|#v[s]+1) (h':=s.heap.push PySem.W.emptyDict) (t':=s.toks) (λb u q=>nO _ q) (nw _) #[_,x];refine l.laid (a:=#v[s]+1) (o:=.ins C #v[s] []) (t':=s.toks) (λb u q=>nO _ q) (wr<|ur _ _) ?_;have w:#v[s]≠#v[s]+1:=nR<|As _;refine#[by rw[Ze w,Zd],pH _,w,p,λ_=>none,(Heap.Ns1.of_empty n).at λo q=>nO _ q,λ_=>rR,λy j=>absurd rfl j]
def Mt{Q:lS->lT->Prop}(z:attributeBase e f env (eval e env)=eval e env)
  (h:wpAny (model prog w) A (eval e env) (λo y=>wpAny (model prog w) A (getAttr o f true) Q E y) E s):wpAny (model prog w) A (eval (.Attribute e f pos) env) Q E s :=
 Attribute_any_ h (by rw[arm_eval_Attribute,z])
end
inductive Qq(K:Frag)(f:Str)(Q:VK)(H:Hp):V->Prop
 | mk {a C dx fs v}:H a=some (.ins C dx fs)->pO K C->mU K C f->fs.lookup f=some v->Q v H->Qq K f Q H (.ref a)
def Ta(K:lV)(y:TE)(f:lQ):TE:=λz H Q=>y z H λx w=>Qq K f Q w x
inductive SF(K:Frag)(f:Str)(y:V)(H:Hp)(k:Hp->Prop):V->Prop
 | mk {a C dx fs}:H a=some (.ins C dx fs)->pO K C->mU K C f->fs.length<1000->k (mH H a<|.ins C dx<|rn f y fs)->SF K f y H k (.ref a)
def ZU(K:lV)(w u:TE)(f:lQ):TS:=λD z H=>u z H λy s=>w z s λx r=>SF K f y r (D.nx z) x
def Yd(he:PE X e y)(w:attributeBase e f X.env (eval e X.env)=eval e X.env):PE X (.Attribute e f pos) (Ta X.K y f):=by
 intro r s z H Q I h;refine Mt w<|mX (he r s z H _ I h) λu x p=>?_;obtain⟨x,o,j,i,@⟨a,C,U,fs,v,g,c,n,l,q⟩⟩:=p;obtain rfl:u=Value.ref a:=i;show Zto j g c n l λN M d Y=>#[v,o,d,Y,q]
def Wz(r:PE X o p)(j:PE X value i)(g:swapsWith value (some<|.Attribute o f e) pos.line X.env=pure false):PS X (.Assign [.Attribute o f e] value pos) (ZU X.K p i f):=by
 intro w s z H D I h;refine JL (mX (j w s z H _ I h) λu x ⟨y,d,Y,U,q⟩=>mX (r w x z d _ Y q) λQ C N=>?_) g;obtain⟨x,y,M,L,@⟨a,C,u,fs,J,c,n,l,G⟩⟩:=N;obtain rfl:Q=Value.ref a:=L;show Zuq M J c n l U λB E=>#[z,_,E,G]
def Yd5{pl:Sem Bool}{m:lQ}{w:Pos}{args:lP lZ}{r:lP (lR×Obj)}{s:lT}{z:St}{H:Hp}{Q:lS->lT->Prop}{o:TE}(he:PE X e o)(I:mG X r z H s)
  (h:o z H λx p=>∃a C n fs g,x=.ref a/\p a=some (.ins C n fs)/\pO X.K C/\Xa X.K C m g/\fs.lookup m=none/\
   ∀y,mG X r z p y->∅ (callWith pos (.ref g) [.ref a] (backTo pos<|starEach args X.env) (backToKw pos<|keywordEach [] X.env)) Q X.xe y)
  (d:eval (.Call (.Attribute e m w) args [] pos) X.env=(do
   let j <-eval e X.env
   standAt w.atName
   let(f,first) <-holding [j] (getMethod j m pl)
   callWith pos f first (backTo pos<|starEach args X.env) (backToKw pos<|keywordEach [] X.env))) :
  ∅ (eval (.Call (.Attribute e m w) args [] pos) X.env) Q X.xe s:=by
 refine Ga (pl:=pl) (mX (he r s z H _ I h) λu y Y=>?_) d;obtain⟨x,p,i,U,a,C,n,fs,g,N,M,c,k,l,q⟩:=Y;subst N;obtain rfl:u=Value.ref a:=U;show Hg i M c k l<|q y i
section
variable {E:lS->lT->Prop} {Q:lS->lT->Prop}
inductive Xi(K:Frag)(H:Hp):V->Value->Prop where
 | non:Xi K H .non (.type "NoneType")
 | bl (x:Bool):Xi K H (.bl x) (.type "bool")
 | int (i:Int):Xi K H (.int i) (.type "int")
 | str (x:Str):Xi K H (.str x) (.type "str")
 | flt (x:UInt64):Xi K H (.flt x) (.type "float")
 | lst {a:Addr} {xs:List V} (e:H a=some (.lst xs)):Xi K H (.ref a) (.type "list")
 | frz {a:Addr} {o:Obj} {xs:List V} (e:H a=some (.frz o<|.lst xs)):Xi K H (.ref a) (.type "list")
 | tup {a:Addr} {xs:List V} (e:H a=some (.tup xs)):Xi K H (.ref a) (.type "tuple")
 | dK {a:Addr} {kvs:List (mZ×V)} (e:H a=some (.dK kvs)):Xi K H (.ref a) (.type "dict")
 | dT {a:Addr} {kvs:List (List mZ×V)} (e:H a=some (.dT kvs)):Xi K H (.ref a) (.type "dict")
 | ins {a C dx:Addr} {fs:List (Str×V)} (e:H a=some (.ins C dx fs)) (cl:pO K C) (ha:findIn K (.ref C) "__class__"=some (some<|.builtin "object.__class__"))
   (hn:PySem.W.specialIn K (.builtin "object.__class__") "__get__"=some (some<|.builtin "getset_descriptor.__get__")) (htk:PySem.W.takesIn K (.builtin "object.__class__")=some true)
   (hm:PySem.W.mroIn K C (.type "object")=some true):Xi K H (.ref a) (.ref C)
def Kz(I:mG X c7 z H s)(r:Yj x u)(N:Xi X.K H x t)(e:kitOne X.K t c=some b)(h:∀M,Q (.bool b) {s with toks:=M}) :
  wpAny (model X.prog X.w) A (call (.builtin "isinstance") [u,c]) Q E s:=by
 cases N with
 | non=>cases(show u=Value.none from r);show rF PySem.W.kitx_none I.kIn rR e (λy=>nomatch y) h
 | bl w=>cases(show u=Value.bool w from r);show rF PySem.W.kitx_bool I.kIn rR e (λy=>nomatch y) h
 | int i=>obtain⟨t,q⟩:=(show ∃t,u=Value.int i t from r);cases q;show rF PySem.W.kitx_int I.kIn rR e (λy=>nomatch y) h
 | str w=>obtain⟨t,q⟩:=(show ∃t,u=Value.str w t from r);cases q;show rF PySem.W.kitx_str I.kIn rR e (λy=>nomatch y) h
 | flt w=>obtain⟨t,q⟩:=(show ∃t,u=Value.float w t from r);cases q;show rF PySem.W.kitx_float I.kIn rR e (λy=>nomatch y) h
 | @lst a d l =>
  cases(show u=Value.ref a from r);obtain⟨_,_,n,_,j⟩:=(show Yc X.prog X.w H s.heap a (.lst d)from I.hok a _ l)
  show rF PySem.W.kitx_list I.kIn #[_,j,rfl] e (λy=>nomatch y) h
 | @frz a i d l =>
  cases(show u=Value.ref a from r);obtain⟨_,_,_,n,_,j⟩:=(show Yc X.prog X.w H s.heap a (.frz i<|.lst d)from I.hok a _ l)
  show rF PySem.W.kitx_list I.kIn #[_,j,rfl] e (λy=>nomatch y) h
 | @tup a d l =>
  cases(show u=Value.ref a from r);obtain⟨_,_,_,p⟩:=(show Yc X.prog X.w H s.heap a (.tup d)from I.hok a _ l)
  obtain⟨o,j,Y,_⟩:=p;show rF PySem.W.kitx_tuple I.kIn #[o,j,Y] e (λy=>nomatch y) h
 | @dK a g l =>
  cases(show u=Value.ref a from r);obtain⟨_,_,i,_,p⟩:=(show Yc X.prog X.w H s.heap a (.dK g)from I.hok a _ l)
  obtain⟨o,L,G,j,Y,_⟩:=p;show rF PySem.W.kitx_dict I.kIn #[o,j,Y.1] e (λy=>nomatch y) h
 | @dT a g l =>
  cases(show u=Value.ref a from r);obtain⟨_,_,d,_,o,L,G,j,Y,_⟩:=(show Yc X.prog X.w H s.heap a (.dT g)from I.hok a _ l)
  show rF PySem.W.kitx_dict I.kIn #[o,j,Y.1] e (λy=>nomatch y) h
 | @ins a C dx fs l U D B i hm =>
  cases(show u=Value.ref a from r);obtain⟨mA,O,_⟩:=Db I.hok l;obtain⟨od,J,_⟩:=O.look;show rF (PySem.W.kitx_own (U.get _) U.hd D B i hm) I.kIn J e (λy=>nomatch y) h
end
structure Y6(k:Nat)(A:Around):Prop where
 hd:A.handled=none
 dp:A.depth+3 * k+5<recursionLimit
 un:A.units+16 * k+200<cLine
 gd:A.guards=some []
def Y6.mono(r:Y6 k A)(h:j<=k):Y6 j A:=#[r.hd,by have:=r.dp;lia,by have:=r.un;lia,r.gd]
def Y6.m{j k:Nat}{A:md}(r:Y6 k A)(h:j<=k:=by lk):Y6 j A:=r.mono h
def Y6.deeper(r:Y6 (k+1) A)(env:Env):Y6 k (A.deeper env) :=
 #[r.hd,by have:=r.dp;change A.depth+1+3 * k+5<_;lia,by have:=r.un;change A.units+3+16 * k+200<_;lia,r.gd]
def Zt7{A:md}{C:lR}{us:lP lS}{z:lP (lQ×lS)}:(A.under<|.builtin "type.__call__" #[.ref C ::us,z]).depth=A.depth+1:=by
 first|rfl|simp[Around.under,Code.weight,Code.isCreation,Code.isGuard,Code.isCaller,Code.frames,Code.isFrame,guardIds]
def Zui{A:md}{C:lR}{us:lP lS}{z:lP (lQ×lS)}:(A.under<|.builtin "type.__call__" #[.ref C ::us,z]).units=A.units+1:=by
 first|rfl|simp[Around.under,Code.cUnits,Code.frames,Code.isFrame]
def SZ{A:md}{C:lR}{us:lP lS}{z:lP (lQ×lS)}:(A.under<|.builtin "type.__call__" #[.ref C ::us,z]).guards=A.guards:=by
 first|rfl|simp[Around.under,Code.guards,Code.isGuard,guardIds,pushGuards]
def Y6.make{k:Nat}{A:md}(r:Y6 (k+1) A)(C:lR)(us:lP lS)(z:lP (lQ×lS)):Y6 k (A.under<|.builtin "type.__call__" #[.ref C ::us,z]) :=
 #[r.hd,by have:=r.dp;rw[Zt7];lia,by have:=r.un;rw[Zui];lia,SZ.trans r.gd]
def Y6.depth(r:Y6 k A):A.depth<recursionLimit:=by have:=r.dp;lia
def Y6.units(r:Y6 k A):A.units+64<cLine:=by have:=r.un;lia
def wD:TA:=λ_ H Q=>Q [] H
def uk(y:TE)(w:TA):TA:=λz H Q=>y z H λx u=>w z u λs r=>Q (x ::s) r
def Za:PA X [] wD:=λ_ _ _ _ H Q I h=>BU #[[],H,I,.nil,h]
def ZS(q:PE X e p)(o:PA X w t)(n:starEach (e ::w) X.env=(false,eval e X.env) ::starEach w X.env:=by rfl):PA X (e ::w) (uk p t):=by
 intro y r s z H Q I h;rw[n];change wpAny _ _ (spliced<|(false,eval e X.env) ::backTo y (starEach w X.env)) _ _ s;refine Ag<|mX (q r s z H _ I h) λu l ⟨x,j,i,g,d⟩=>?_;show mX (o y r l z j _ i d) λM L ⟨c,a,Y,U,N⟩=>#[x ::c,a,Y,.cons g U,N]
abbrev Sp:=lP V->Hp->VK->XK->Prop
abbrev vI:=lP Env->Hp->lT->XK->lS->lT->Prop
structure vd(P:Program)(w:World)(K:Frag)(mg:Str->Option Value)(mB:Heap)(A:Around)(my:List Env)(s:Shared)(H:Hp):Prop where
 frames:A.frames=some my
 mod:Mod K mg mB
 bs:∀b o,mB.get? b=some o->s.heap.get? b=some o/\H b=none
 bsz:mB.objs.size<=#v[s]
 funs:s.heap.FunFrames mB my
 frf:∀b∈nX my,H b=none
 hok:oj P w H s.heap
 bare:AllBare s.gens
def CE(y:lP Env)(P:ma)(w:lY)(H:Hp)(s:lT)(Q:VK)(u:lS)(s':lT):Prop :=
 ∃v z,s'.os=s.os/\AllBare s'.gens/\Un (nX y) [] H z s.heap s'.heap/\oj P w z s'.heap/\Yj v u/\Q v z
def CR(y:vI)(z:lP Env)(P:ma)(w:lY)(H:Hp)(s:lT)(Q:VK)(E:XK)(r:Result)(s':lT):Prop :=
 match r with
 | .ok (.ret u)=>CE z P w H s Q u s'
 | .ok _=>False
 | .error e=>y z H s E e s'
structure Xf(P:Program)(w:World)(K:Frag)(mg:Str->Option Value)(mB:Heap)(CX:vI)(k:Nat)(f:Addr)(fd:FuncData)(ps:List Str)(sp:Sp):Prop where
 len:∀vs H Q E,sp vs H Q E->vs.length=ps.length
 run:∀(A:Around)(my:List Env)(s:Shared)(H:Hp)(args:Args)(us:List Value)(vs:List V)(Q:VK)(E:XK),Y6 k A->vd P w K mg mB A my s H->BindsTo s fd args (ps.zip us)->Z6 vs us->sp vs H Q E->
  codeAny (model P w) A (.call (.ref f) args) (CR CX my P w H s Q E) s
def Xf.mono{P:ma}{w:lY}{K:lV}{z:lQ->lU lS}{mB:lX}{y:vI}{j k:Nat}{f:lR}{fd:me}{ps:lP lQ}{x:Sp}(F:Xf P w K z mB y j f fd ps x)(h:j<=k) :
  Xf P w K z mB y k f fd ps x:=#[F.len,λA u s H args r q Q E p=>F.run A u s H args r q Q E<|p.mono h]
def vd.make{P:ma}{w:lY}{K:lV}{z:lQ->lU lS}{mB:lX}{A:md}{y:lP Env}{s:lT}{H:Hp}(e:vd P w K z mB A y s H)(C:lR)(us:lP lS)(x:lP (lQ×lS)) :
  vd P w K z mB (A.under<|.builtin "type.__call__" #[.ref C ::us,x]) y s H:=#[by first|show e.frames|(simpa[Around.under,Code.envs,Code.isFrame,pushEnvs]using e.frames),e.mod,e.bs,e.bsz,e.funs,e.frf,e.hok,e.bare]
def mG.env0(I:mG X y z H s):vd X.prog X.w X.K X.mg X.mB X.A X.stack s H :=
 #[I.ok.frames,I.ok.mod,I.bs,oi I.ok.bsz I.sz,I.stack,I.stkFree,I.hok,I.bare]
def mG.after(I:mG X o z H s)(h:CE X.stack X.prog X.w H s Q u s'):EP X o z Q u s':=by
 obtain⟨v,n,os,x,un,w,r,q⟩:=h;obtain⟨l,g,d,t,p⟩:=s';obtain rfl:p=s.os:=os;show#[v,n,I.call (h':=l) (g':=g) (d':=d) (t':=t) (ch:=[]) un w x (λb y=>absurd y<|by simp),r,q]
def QE(y:Sp)(x:lP V)(E:XK)(t:TA):TE:=λz H Q=>t z H λw u=>y (w++x) u Q E
inductive MI(C:Addr)(m:Str)(H:Hp)(k:V->Prop):V->Prop
 | mk {a dx fs}:H a=some (.ins C dx fs)->fs.lookup m=none->k (.ref a)->MI C m H k (.ref a)
def Et(C:lR)(m:lQ)(w:Sp)(u:lP V)(E:XK)(s:TE)(t:TA):TE:=λz H Q=>s z H λx y=>MI C m y (λx=>t z y λr q=>w (x ::(r++u)) q Q E) x
def qv(K:lV)(fd:me)(ps:lP lQ)(ds:lP lS):Prop :=
 ∀(s:lT)(z:lP lS),K.In s.heap->(z++ds).length=ps.length->BindsTo s fd #[z,[]] (ps.zip<|z++ds)
def qv.all{K:lV}{fd:me}{ps:lP lQ}(h:∀us:lP lS,us.length=ps.length->bindArgs fd #[us,[]]=pure (ps.zip us)):qv K fd ps []:=λs us _ z=>by
 rw[qf]at z ⊢;show .of_eq<|h us z
def sK(x:vI)(X:Cx)(E:XK):Prop:=∀(w:lP (lR×Obj)) (z:St) (H:Hp) (s:lT) (e:lS) (y:lT),mG X w z H s->x X.stack H s E e y->X.xe e y
def FA(F:Xf X.prog X.w X.K X.mg X.mB p k f fd ps o)(n:Y6 k X.A)(l:qv X.K fd ps ds)(hd:Z6 x ds)(j:sK p X E)
  (I:mG X w z H s) (r:Z6 vs us) (h:o (vs++x) H Q E):∅ (call (.ref f) us) (EP X w z Q) X.xe s:=by
 have q:Z6 (vs++x) (us++ds):=r.append hd;have i:(us++ds).length=ps.length:=by rw[<-q.length];show F.len _ _ _ _ h
 refine uC<|vw (F.run X.A X.stack s H #[us,[]] (us++ds) (vs++x) Q E n I.env0 (l s us I.kIn i) q h) λr g y=>?_;cases r with
 | error e=>show j w z H s e g I y
 | ok e =>
  cases e with
  | ret u=>show I.after y
  | next=>show False.elim y
  | brk=>show False.elim y
  | cont=>show False.elim y
def Xs(F:Xf X.prog X.w X.K X.mg X.mB u k f fd ps o)(n:Y6 k X.A)(l:Gl X x)(j:X.mg x=some (.ref f))(i:keepIn X.K (.ref f)=true)(g:qv X.K fd ps ds)(hd:Z6 d ds)(c:sK u X E)
  (a:PA X (e ::y) t) (Y:(x ==("__debug__":lQ))=false:=by lk) (he:starEach (e ::y) X.env=(false,eval e X.env) ::starEach y X.env:=by rfl) (U:(backTo pos<|starEach y X.env).any (·.1)=false:=by rfl) :
  PE X (.Call (.Name x p) (e ::y) [] pos) (QE o d E t):=by
 intro N s z H Q I h;refine vR<|xv I l j ?_ Y;refine zG (h₀:=X.mB) I.ok.mod.kin i (mX (a pos N s z H _ I h) λM L ⟨J,G,w,r,q⟩=>#[w.kIn,?_]) he U;show FA F n g hd c w r q
def Ya(he:PE X o d)(c:pO X.K C)(w:Xa X.K C m f)(F:Xf X.prog X.w X.K X.mg X.mB Y k f fd ps U)(N:Y6 k X.A)(M:qv X.K fd ps ds)(hd:Z6 L ds)(J:sK Y X E)(G:PA X (e ::y) t)
  (D:starEach (e ::y) X.env=(false,eval e X.env) ::starEach y X.env:=by rfl) (B:(backTo pos<|starEach y X.env).any (·.1)=false:=by rfl)
  (A:eval (.Call (.Attribute o m p) (e ::y) [] pos) X.env=(do
   let n <-eval o X.env
   standAt p.atName
   let(f,first) <-holding [n] (getMethod n m pl)
   callWith pos f first (backTo pos<|starEach (e ::y) X.env) (backToKw pos<|keywordEach [] X.env)):=by rfl) :
  PE X (.Call (.Attribute o m p) (e ::y) [] pos) (Et C m U L E d t):=by
 intro j s z H Q I h;refine Ga (pl:=pl) (mX (he j s z H _ I h) λu s1 h9=>?_) A;obtain⟨x,H1,i,rx,@⟨a,dx,fs,ea,l,q⟩⟩:=h9;obtain rfl:u=Value.ref a:=rx;refine Hg i ea c w l ?_;refine zG (first:=[.ref a]) (h₀:=X.mB) I.ok.mod.kin w.kp (mX (G pos j s1 z H1 _ i q) λus x ⟨vs,H2,g,r,q2⟩=>#[g.kIn,?_]) D B;show FA (us:=.ref a ::us) (vs:=.ref a ::vs) F N M hd J g (.cons rfl r) q2
def Yh{pl:Sem Bool}(he:PE X o n)(c:pO X.K C)(w:Xa X.K C m f)(F:Xf X.prog X.w X.K X.mg X.mB j k f fd ps i)(g:Y6 k X.A)(e:qv X.K fd ps ds)(hd:Z6 d ds)(Y:sK j X E)
  (U:eval (.Call (.Attribute o m r) [] [] pos) X.env=(do
   let p <-eval o X.env
   standAt r.atName
   let(f,first) <-holding [p] (getMethod p m pl)
   callWith pos f first (backTo pos<|starEach [] X.env) (backToKw pos<|keywordEach [] X.env)):=by rfl) :
  PE X (.Call (.Attribute o m r) [] [] pos) (Et C m i d E n wD):=by
 intro N s z H Q I h;refine Ga (pl:=pl) (mX (he N s z H _ I h) λu x M=>?_) U;obtain⟨x,G,y,L,@⟨a,D,fs,J,l,q⟩⟩:=M;obtain rfl:u=Value.ref a:=L;refine Hg y J c w l ?_;show PySem.W.callWith_K0 (first:=[.ref a]) y.kIn w.kp<|FA (us:=[.ref a]) (vs:=[.ref a]) F g e hd Y y (.cons rfl .nil) q
structure Mk(K:Frag)(C f:Addr):Prop where
 makes:PySem.W.makesIn K C=true
 init:findIn K (.ref C) "__init__"=some (some<|.ref f)
 fn:PySem.W.isFn K (.ref f)=true
 kp:keepIn K (.ref C)=true
def RG(M:Mk X.K C f)(F:Xf X.prog X.w X.K X.mg X.mB j k f fd ps i)(g:Y6 (k+1) X.A)(d:qv X.K fd ps ds)(hd:Z6 p ds)
  (c:sK j X E) (I:mG X o z H s) (r:Z6 vs us)
  (h:∀x w,H x=none->H w=none->w≠x->i (.ref x ::(vs++p)) (mH (mH H w<|.own x) x<|.ins C w []) (λv a=>v=.non/\Q (.ref x) a) E) :
  ∅ (call (.ref C) us) (EP X o z Q) X.xe s:=by
 have n:=h (#v[s]+1) #v[s] (I.hok.fresh<|tw _) (I.hok.fresh<|nw _) (nR<|As _);have q:=mG.made (C:=C) I;have l:Z6 (V.ref (#v[s]+1) ::(vs++p)) (Value.ref (#v[s]+1) ::(us++ds)):=.cons rfl<|r.append hd;have Y:(Value.ref (#v[s]+1) ::us++ds).length=ps.length:=by
  have e:=l.length;rw[F.len _ _ _ _ n]at e;show e.symm
 refine uC (Zyc (f:=f) I.kIn M.makes M.init (rG.mp M.fn) (vw (F.run _ X.stack _ _ #[Value.ref (#v[s]+1) ::us,[]] (Value.ref (#v[s]+1) ::(us++ds)) _ _ E (g.make C us [])
  (q.env0.make C us []) (d _ (Value.ref (#v[s]+1) ::us) q.kIn Y) l n) λr U y=>?_))
 cases r with
 | error e=>show c o z _ _ e U q y
 | ok N =>
  cases N with
  | ret u =>
   obtain⟨v,L,J,G,D,B⟩:=q.after y;subst D;show#[G,#[V.ref<|#v[s]+1,L,J,rfl,B]]
  | next=>show False.elim y
  | brk=>show False.elim y
  | cont=>show False.elim y
structure Zx(N P:List Str)(sc:Scope):Prop where
 kind:sc.kind=.function:=by rfl
 co:sc.isCoroutine=false:=by rfl
 gen:sc.isGenerator=false:=by rfl
 nd:N.Nodup:=by left
 pre:N.take P.length=P:=by rfl
 par:∀x∈P,sc.names.lookup x=some .local\/sc.names.lookup x=some .cell:=by left
 nofree:∀y∈sc.names,y.2≠.free:=by left
theorem Jl{kindOf:lQ->lU NameKind}:∀{binds:lP (lQ×lS)}{m:lQ->lU lS},(∀v,(x,v)∉binds)->bindL kindOf binds m x=m x
 | [],_,_=>rfl
 | (n,v) ::r,m,h=>by
  unfold bindL;rw[Jl λw z=>h w<|pc _ z];split
  ·have:x≠n:=by rintro rfl;show h v oM
   simp[this]
  ·rfl
theorem Np{kindOf:lQ->lU NameKind}:∀{binds:lP (lQ×lS)}{m:lQ->lU lS},(∀v,(x,v)∉binds)->bindC kindOf binds m x=m x
 | [],_,_=>rfl
 | (n,v) ::r,m,h=>by
  unfold bindC;rw[Np λw z=>h w<|pc _ z];split
  ·rfl
  ·have:x≠n:=by rintro rfl;show h v oM
   simp[this]
theorem LS{kindOf:lQ->lU NameKind} :∀{P:lP lQ}{vs:lP lS}{i:Nat}{m:lQ->lU lS},P.Nodup->P[i]? =some x->vs[i]? =some v->kindOf x=some .local->
  bindL kindOf (P.zip vs) m x=some v
 | [],_,_,_,_,h,_,_=>by simp at h
 | _ ::_,[],_,_,_,_,h,_=>by simp at h
 | p ::P,w ::vs,0,m,u,z,y,s=>by
  simp at z y;subst z;subst y;change bindL kindOf ((p,w) ::P.zip vs) m p=_;unfold bindL;rw[Jl λv r=>(pN.mp u).1 (tz r).1,mT s];simp
 | p ::P,w ::vs,i+1,m,u,z,y,s=>by
  change bindL kindOf ((p,w) ::P.zip vs) m x=_;unfold bindL;show LS (i:=i) (pN.mp u).2 (by simpa using z) (by simpa using y) s
theorem MM{kindOf:lQ->lU NameKind} :∀{P:lP lQ}{vs:lP lS}{i:Nat}{m:lQ->lU lS},P.Nodup->P[i]? =some x->vs[i]? =some v->kindOf x≠some .local->
  bindC kindOf (P.zip vs) m x=some v
 | [],_,_,_,_,h,_,_=>by simp at h
 | _ ::_,[],_,_,_,_,h,_=>by simp at h
 | p ::P,w ::vs,0,m,u,z,y,s=>by
  simp at z y;subst z;subst y;change bindC kindOf ((p,w) ::P.zip vs) m p=_;unfold bindC;rw[Np λv r=>(pN.mp u).1 (tz r).1,mS s];simp
 | p ::P,w ::vs,i+1,m,u,z,y,s=>by
  change bindC kindOf ((p,w) ::P.zip vs) m x=_;unfold bindC;show MM (i:=i) (pN.mp u).2 (by simpa using z) (by simpa using y) s
def start(N:lP lQ)(vs:lP V):St:=vs.map some++List.replicate (N.length-vs.length) none
def oW(x:vI)(P:ma)(w:lY)(K:lV)(mg:lQ->lU lS)(mB:lX)(N:lP lQ)(qual:lQ)(scope:Scope)(f:lR)(y:lS)(A:md)(my:lP Env)(s:lT)(H:Hp)(E:XK):Cx where
 prog:=P
 w:=w
 K:=K
 mg:=mg
 mB:=mB
 A:=A.deeper (envOfC qual scope #v[s] f y)
 N:=N
 mf:=s
 mi:=H
 env:=envOfC qual scope #v[s] f y
 my:=my
 stack:=envOfC qual scope #v[s] f y ::my
 ex:=[]
 calm:=true
 fn:=λ_=>true
 pn:=[]
 xe:=λe u=>wpAny (model P w) (A.deeper<|envOfC qual scope #v[s] f y) (leaving (envOfC qual scope #v[s] f y) e) (λ_ z=>x my H s E e z) (λr z=>x my H s E r z) u
def NQ{z:Scope}{n:Nat}{x:lQ}(h:z.names.lookup x=some .cell):∃c,(cellsFrom n z.names []).lookup x=some c:=by
 have q:=EW z.names n [] (.inl h);show Hr.mp q
def Kk{J:vI}{P:ma}{w:lY}{K:lV}{M:lQ->lU lS}{mB:lX}{N ps:lP lQ}{qual:lQ}{scope:Scope}{f:lR}{Y:lS}{A:md}{L:lP Env}{s I:lT}{H:Hp}{E:XK}{us:lP lS}{vs:lP V}
  (S:Zx N ps scope) (hd:A.handled=none) (l:vd P w K M mB A L s H) (hl:vs.length=ps.length) (r:Z6 vs us)
  (x:InCallC s #v[s] (bindL (envOfC qual scope #v[s] f Y).kindOf (ps.zip us) λ_=>none) (cellsFrom (#v[s]+1) scope.names []) (bindC (envOfC qual scope #v[s] f Y).kindOf (ps.zip us) λ_=>none) I) :
  mG (oW J P w K M mB N qual scope f Y A L s H E) [] (start N vs) H I:=by
 have p0:ps.length<=N.length:=by have:=oJ List.length S.pre;rw[oq]at this;lia
 obtain⟨U,u,rfl,G⟩:=x.done;have j:∀b:lR,b∉(oW J P w K M mB N qual scope f Y A L s H E).ex:=λb z=>absurd (show b∈([]:lP lR)from z) (by simp)
 refine#[#[l.mod,S.kind,rfl,rfl,nw _,λy z c U o=>?_,λy g=>?_,λy c _ h=>?_,λ_=>hd,EC l.frames,.inr #[rfl,rfl],λb z=>absurd z<|j b,l.bs,l.bsz,λb _ _=>j b,λb z=>absurd z<|j b,l.funs,l.frf],
  rfl,l.bare,Un.kept G,#[_,x.toInCall.ns,λi y v U o u=>?_],λy c h=>#[_,x.cell y c h],l.hok.fresh<|nw _,λy c h=>?_,λp d=>absurd (show p∈([]:lP (lR×Obj))from d) (by simp),l.hok.kept G,?_]
 ·show name_of_addr x.apart (rL U)<|rL o
 ·have g:scope.names.lookup y=some .cell\/scope.names.lookup y=some .free:=g;rcases g with g|g
  ·show NQ g
  ·show absurd rfl<|S.nofree _<|rL g
 ·show uW<|x.above y c<|rL h
 ·have Q:i<vs.length:=by
   unfold start at o
   by_cases Q:i<vs.length
   ·show Q
   ·rw[Ci (by simpa using Q)]at o;rw[EI]at o;split at o<;>cases o
  have C:vs[i]? =some v:=by
   unfold start at o;rw[Gx (by simpa using Q),nK]at o;cases e:vs[i]? with
   | none=>rw[e]at o;cases o
   | some a=>rw[e]at o;cases o;rfl
  obtain⟨u,D,B⟩:=r.get C;have d:ps[i]? =some y:=by
   rw[<-S.pre,List.getElem?_take_of_lt<|by lia];show U
  have p:ps.Nodup:=by rw[<-S.pre];show S.nd.sublist<|List.take_sublist _ _
  refine#[u,B,?_];rcases S.par y (pe d)with k|k
  ·show .inl #[k,LS p d D k]
  ·obtain⟨c,e⟩:=NQ (n:=#v[s]+1) k;refine .inr #[.inl k,c,e,?_];have q:=x.cell y c e;rw[MM p d D (by change scope.names.lookup y≠_;rw[k];decide)]at q;show q
 ·show l.hok.fresh<|uW<|x.above y c<|rL h
 ·unfold start;change _=N.length;rw[nW,mI,Mv];lia
def Ea{d:vI}{P:ma}{w:lY}{K:lV}{c:lQ->lU lS}{mB:lX}{k:Nat}{f:lR}{name qual:lQ}{params:Arguments}{body:lP lW}{scope:Scope}{G kV D C l B oc:lS}{an od:lU lR}
  {O7:Array (lU lS)} {N ps:lP lQ} {a:Sp} (lk:K.lookup f=some #[oc,od,.func<|fnOf name qual params body scope G kV D C an l B,O7]) (E6:codeIn K l qual=true) (S:Zx N ps scope)
  (len:∀vs H Q E,a vs H Q E->vs.length=ps.length)
  (u8:∀(A:md)(i:lP Env)(s:lT)(H:Hp)(vs:lP V)(Q:VK)(E:XK),Y6 k (A.deeper<|envOfC qual scope #v[s] f l)->a vs H Q E->
   ∃t,qZ (oW d P w K c mB N qual scope f l A i s H E) body t/\t {nx:=λ_ p=>Q .non p,rt:=Q} (start N vs) H) :
  Xf P w K c mB d (k+1) f (fnOf name qual params body scope G kV D C an l B) ps a:=by
 refine#[len,λA i s H args us vs Q E Y g hb r T5=>?_];have hl:=len _ _ _ _ T5;have KX:K.In s.heap:=g.mod.kin.keeps λb o e=>(g.bs b o e).1
 have U:s.heap.NoLimit:=g.mod.nolimit.keeps λb o e=>(g.bs b o e).1
 have j:∀y∈ps.zip us,scope.names.lookup y.1=some .local\/(scope.names.lookup y.1=some .cell/\((cellsFrom (#v[s]+1) scope.names []).lookup y.1).isSome=true):=λ⟨n,v⟩ hy=>by
  rcases S.par n (tz hy).1 with q|q
  ·show .inl q
  ·show .inr #[q,EW _ _ _<|.inl q]
 refine codeAny_call_function Y.depth (KX _ _ lk) rfl S.co S.gen rfl (Ms KX E6)<|hb _ _ _ _ ?_;refine Lp S.kind j λenv he s1 x=>?_
 subst he;refine#[U.keeps x.toInCall.keep,codeAny_func ?_];obtain⟨t,ht,hq⟩:=u8 A i s H vs Q E (Y.deeper _) T5;have I:mG (oW d P w K c mB N qual scope f l A i s H E) [] (start N vs) H s1:=Kk S Y.hd g hl r x;refine pT (ht [] s1 (start N vs) H _ I hq) (λfl M h=>?_) λe M h=>h
 have fin:∀{z:St}{p:Hp}{v:V}{u:lS},mG (oW d P w K c mB N qual scope f l A i s H E) [] z p M->Yj v u->Q v p->CE i P w H s Q u M :=
  λ{z p v u} J L q=>#[v,p,J.os,J.bare,J.mB,J.hok,L,q]
 cases fl with
 | ret u =>
  obtain⟨v,z,p,J,L,q⟩:=h;show fin J L q
 | next =>
  obtain⟨z,p,J,q⟩:=h;show fin (v:=V.non) (u:=Value.none) J rfl q
 | brk =>
  obtain⟨_,_,_,q⟩:=h;show False.elim q
 | cont =>
  obtain⟨_,_,_,q⟩:=h;show False.elim q
section
variable {x:lQ} {p pos:Pos} {e:lZ} {es:lP lZ} {t:TA} {id T:String} {r:lP V->Hp->VK->Prop}
def xY(r:lP V->Hp->VK->Prop)(t:TA):TE:=λz H Q=>t z H λy w=>r y w Q
def Z7(w:Xd X (.builtin id) r)(u:Gl X x)(q:X.mg x=none)(o:bootBuiltins x=some (.builtin id))(n:PA X (e ::es) t)(l:x≠ "__name__":=by lk)(j:(x ==("__debug__":lQ))=false:=by lk)
  (he:starEach (e ::es) X.env=(false,eval e X.env) ::starEach es X.env:=by rfl) (i:(backTo pos<|starEach es X.env).any (·.1)=false:=by rfl):PE X (.Call (.Name x p) (e ::es) [] pos) (xY r t):=by
 intro y s z H Q I h;refine vR<|xf I u q o ?_ l j;show PyProof.Rows.callWith_builtin1 (mX (n pos y s z H _ I h) λg d ⟨c,a,Y,U,N⟩=>w y d z a c g Q Y U N) he i
def Yu(w:Xd X (.type T) r)(u:Gl X x)(q:X.mg x=none)(o:bootBuiltins x=some (.type T))(n:PA X (e ::es) t)(l:x≠ "__name__":=by lk)(j:(x ==("__debug__":lQ))=false:=by lk)
  (he:starEach (e ::es) X.env=(false,eval e X.env) ::starEach es X.env:=by rfl) (i:(backTo pos<|starEach es X.env).any (·.1)=false:=by rfl):PE X (.Call (.Name x p) (e ::es) [] pos) (xY r t):=by
 intro y s z H Q I h;refine vR<|xf I u q o ?_ l j;show zQ (mX (n pos y s z H _ I h) λg d ⟨c,a,Y,U,N⟩=>w y d z a c g Q Y U N) he i
end
end L2
namespace HT
open PySem PyProof.Rows
section
variable {E:lS->lT->Prop}
def sIx(n d:Nat):lU Int->Nat
 | none=>d
 | some v=>if v<0 then(v+(n:Int)).toNat else min v.toNat n
def sIx_none(n d:Nat):sIx n d none=d:=rfl
def sIx_nat(n d k:Nat):sIx n d (some (k:Int))=min k n:=by
 change(if(k:Int)<0 then((k:Int)+(n:Int)).toNat else min (k:Int).toNat n)=min k n;rw[mS (by lia),zL]
def Yfb(n d:Nat)(hd:d<=n)(o:lU Int):sIx n d o<=n:=by
 cases o with
 | none=>show hd
 | some v =>
  change(if v<0 then(v+(n:Int)).toNat else min v.toNat n)<=n
  by_cases z:v<0
  ·rw[mT z];lia
  ·rw[mS z];show Nat.min_le_right _ _
def Jg(v:Int)(n d:Nat):(if v<0 then max (v+(n:Int)) 0 else min v (n:Int))=((sIx n d (some v):Nat):Int):=by
 change(if v<0 then max (v+(n:Int)) 0 else min v (n:Int))=(((if v<0 then(v+(n:Int)).toNat else min v.toNat n):Nat):Int)
 by_cases z:v<0
 ·simp only[mT z];lia
 ·simp only[mS z];lia
def TX(lo z:lU Int)(n:Nat):Builtin.Slice.sliceAdjust lo z 1 (n:Int)=(((sIx n 0 lo:Nat):Int),((sIx n n z:Nat):Int)):=by
 have y:¬((1:Int)<0):=by lia
 unfold Builtin.Slice.sliceAdjust;simp only[y,rD];refine Prod.ext ?_ ?_
 ·cases lo with
  | none=>rfl
  | some v=>show Jg v n 0
 ·cases z with
  | none=>rfl
  | some v=>show Jg v n n
def YI(i j:Nat):Builtin.Slice.slicePlaces (i:Int) (j:Int) 1=j-i:=by
 unfold Builtin.Slice.slicePlaces;have z:(1:Int)>0:=by lia
 simp only[z,tI,Int.ediv_one];split<;>lia
def Nq{Q:lU Int->lT->Prop}(p:IsPart v o)(h:Q o s):wpAny (model prog w) A (Builtin.Slice.slicePartIndex v) Q E s:=by
 cases p with
 | none=>show slicePart_none h
 | int i t=>show slicePart_int h
def Sf{p:lR}{r q:lS}{lo z:lU Int}{n:Nat}{Q:Int×Int×Nat->lT->Prop}(o:s.heap.IsSliceOf p r q .none)(pl:IsPart r lo)(l:IsPart q z)
  (h:Q (((sIx n 0 lo:Nat):Int),1,sIx n n z-sIx n 0 lo) s):wpAny (model prog w) A (Builtin.Slice.sliceApplied (.ref p)<|pure (n:Int)) Q E s:=by
 obtain⟨os,y,j,u⟩:=id o;unfold Builtin.Slice.sliceApplied Builtin.Slice.sliceFields;refine mP<|mP<|xR y u (x:=r) rfl<|mP<|xR y u (x:=q) rfl<|mP<|xR y u (x:=.none) rfl<|nq ?_;refine mP<|slicePart_none ?_;change wpAny _ _ (if((1:Int) ==0)=true then _ else _) _ _ s;rw[mS (by lk)];refine mP<|Nq pl<|mP<|Nq l<|mP<|nq ?_;change wpAny _ _ (match Builtin.Slice.sliceAdjust lo z 1 (n:Int)with|(lo,z)=>pure (lo,(1:Int),Builtin.Slice.slicePlaces lo z 1)) _ _ s;rw[TX lo z n];change wpAny _ _ (pure (((sIx n 0 lo:Nat):Int),(1:Int),Builtin.Slice.slicePlaces ((sIx n 0 lo:Nat):Int) ((sIx n n z:Nat):Int) 1)) _ _ s;rw[YI];show nq h
def Uo(xs:Array lS)(i k:Nat):((List.range k).filterMap λ(m:Nat)=>xs[((i:Int)+(m:Int) * 1).toNat]?).toArray=((xs.toList.drop i).take k).toArray:=by
 have e:(λ(m:Nat)=>xs[((i:Int)+(m:Int) * 1).toNat]?)=λm=>xs[i+m]? :=by
  funext m
  have:((i:Int)+(m:Int) * 1).toNat=i+m:=by lia
  rw[this]
 rw[e];have:=pick_run xs i k;rw[List.filterMap_map]at this;have z:((λx=>xs[x]?) ∘ λx=>i+x)=λm=>xs[i+m]? :=rfl
 rw[z]at this;rw[this]
def getItem_tuple_cut{t r:lR}{z:Array lS}{n l:lS}{lo y:lU Int}{Q:lS->lT->Prop}(x:IsTup s.heap t z)(j:s.heap.IsSliceOf r n l .none)(pl:IsPart n lo)(i:IsPart l y)
  (g:¬(sIx z.size 0 lo=0/\sIx z.size z.size y=z.size))
  (h:Q (.ref #v[s]) {s with heap:=s.heap.push {cls:=.type "tuple",data:=.seq ((z.toList.drop<|sIx z.size 0 lo).take (sIx z.size z.size y-sIx z.size 0 lo)).toArray}})
  (hsz:z.size<=sizeLine):wpAny (model prog w) A (getItem (.ref t)<|.ref r) Q E s:=by
 have u:sizeOk (.seq ((z.toList.drop<|sIx z.size 0 lo).take (sIx z.size z.size y-sIx z.size 0 lo)).toArray):=by
  change((z.toList.drop<|sIx z.size 0 lo).take (sIx z.size z.size y-sIx z.size 0 lo)).toArray.size<=sizeLine;rw[oz,oq,zr,ue];show oi (Nat.min_le_right ..)<|oi (Nat.sub_le ..) hsz
 have a:sIx z.size z.size y<=z.size:=Yfb _ _ (nw _) y;obtain⟨os,p,e,d⟩:=id j;have o:s.TypeIs (.ref r) "slice":=#[os,p,e]
 unfold getItem
 try with_reducible refine qH ?_
 first|refine mP (nq ?_)|skip
 refine mP<|wpAny_sequenceKey x.typeIs (by lk) ?_;refine mP (wpAny_callSpecial?_slot (name:=Str.ofString "__getitem__") x.typeIs Dh
  (BK Dh x.typeIs entry_tuple_getitem ?_<|args_tuple_getitem _ _))
 change wpAny _ _ (Builtin.Tuple.tupleItemsOf (.ref t)>>=_) _ _ s;refine mP<|tupleItemsOf_ x ?_;refine mP<|xF o ?_;rw[mT (by lk)];refine mP<|Sf j pl i ?_;have c:¬((((sIx z.size 0 lo:Nat):Int) ==0 && (1:Int) ==1 && (sIx z.size z.size y-sIx z.size 0 lo) ==z.size)=true):=by
  intro q;rw[qx,qx]at q;have Y:((sIx z.size 0 lo:Nat):Int)=0:=eq_of_beq q.1.1;have U:sIx z.size z.size y-sIx z.size 0 lo=z.size:=eq_of_beq q.2;show g #[by lia,by lia]
 change wpAny _ _ (if(((sIx z.size 0 lo:Nat):Int) ==0 && (1:Int) ==1 && (sIx z.size z.size y-sIx z.size 0 lo) ==z.size)=true then _ else _) _ _ s;rw[mS c,Uo]
 first
  | show mP (m:=Builtin.Tuple.tupleExact _) (vP (nq #[_,rfl,nq h]) u)
  | show mP (m:=Builtin.Tuple.tupleExact _) (vP (mP<|nq<|nq #[_,rfl,nq h]) u)
  | show mP (mP (m:=Builtin.Tuple.tupleExact _)<|vP (nq<|nq #[_,rfl,nq h]) u)
  | show mP<|mP (m:=Builtin.Tuple.tupleExact _)<|vP (nq #[_,rfl,nq h]) u
end
end HT
namespace L2
open PySem PySem.Spec PyProof.Rows
abbrev TO:=St->Hp->(lU Int->Hp->Prop)->Prop
def PO(X:Cx)(e:lU lZ)(t:TO):Prop :=
 ∀(y:lP (lR×Obj)) (s:lT) (z:St) (H:Hp) (Q:lU Int->Hp->Prop),mG X y z H s->t z H Q->
  ∅ (evalPart e X.env) (λu w=>∃o x,mG X y z x w/\IsPart u o/\Q o x) X.xe s
def Vf:TO:=λ_ H Q=>Q none H
def Yh6(t:TE):TO:=λz H Q=>t z H λx y=>oI x λi=>Q (some i) y
section
variable {X:Cx} {e:lZ} {te:TE} {lo hi:lU lZ} {tl th:TO} {pos p2:Pos}
def X5:PO X none Vf:=by
 intro y s z H Q I h;rw[evalPart_none];show nq #[none,H,I,.none,h]
def X2(h:PE X e te):PO X (some e) (Yh6 te):=by
 intro y s z H Q I w;rw[evalPart_some];refine mX (h y s z H _ I w) λu l ⟨x,r,p,o,n⟩=>?_
 obtain⟨i,rfl,q⟩:=oI.out n;obtain⟨t,rfl⟩:=o;show#[some i,r,p,.int i t,q]
def sv(X:Cx)(r:V->lU Int->lU Int->Hp->VK->Prop):Prop :=
 ∀(y:lP (lR×Obj)) (s:lT) (z:St) (H:Hp) (x:V) (v w u:lS) (lo hi:lU Int) (q:lR) (Q:VK),mG X y z H s->Yj x v->s.heap.IsSliceOf q w u .none->IsPart w lo->IsPart u hi->r x lo hi H Q->
  ∃T id,typeLookup (.type T) "__getitem__"=pure (some<|.builtin id)/\s.TypeIs v T/\∅ (getItem v<|.ref q) (EP X y z Q) X.xe s
def sv.or{r y:V->lU Int->lU Int->Hp->VK->Prop}(h:sv X r)(h':sv X y):sv X (λx lo hi H Q=>r x lo hi H Q\/y x lo hi H Q):=by
 intro w s z H x v u p lo hi o Q I n l j i q;rcases q with q|q
 ·show h w s z H x v u p lo hi o Q I n l j i q
 ·show h' w s z H x v u p lo hi o Q I n l j i q
def US(r:V->lU Int->lU Int->Hp->VK->Prop)(te:TE)(tl th:TO):TE:=λz H Q=>te z H λx y=>tl z y λl w=>th z w λu s=>r x l u s Q
def Xp{r:V->lU Int->lU Int->Hp->VK->Prop}(n:sv X r)(he:PE X e te)(j:PO X lo tl)(i:PO X hi th):PE X (.Subscript e (.Slice lo hi none p2) pos) (US r te tl th):=by
 intro y s z H Q I h;refine Subscript_<|mX (he y s z H _ I h) λv g ⟨x,d,c,a,Y⟩=>?_;refine wpAny_Slice<|mX (j y g z d _ c Y) λw U ⟨l,N,M,L,J⟩=>mX (i y U z N _ M J) λp s3 ⟨u,o,G,E,D⟩=>?_;rw[evalPart_none];refine nq ?_;have C:mG X y z o {s3 with heap:=s3.heap.push {cls:=.type "slice",data:=.fields (List.toArray [w,p,.none])}}:=G.kept (t':=s3.toks) λb ob q=>nO _ q
 obtain⟨T,id,B,A,hg⟩:=n y {s3 with heap:=s3.heap.push {cls:=.type "slice",data:=.fields (List.toArray [w,p,.none])}} z o x v w p l u #v[s3] Q C a (Heap.IsSliceOf.new ..) L E D;change ∅ (subscriptTail e (.Slice lo hi none p2) v<|.ref #v[s3]) (EP X y z Q) X.xe {s3 with heap:=s3.heap.push {cls:=.type "slice",data:=.fields (List.toArray [w,p,.none])}};show tail_any (ops:=[.ref #v[s3],v]) A B hg (by with_unfolding_all rfl)
def rh(xs:lP V)(lo hi:lU Int):lP V:=(xs.drop<|HT.sIx xs.length 0 lo).take (HT.sIx xs.length xs.length hi-HT.sIx xs.length 0 lo)
def NB(xs:lP V)(lo hi:lU Int):(rh xs lo hi).length<=xs.length:=by
 unfold rh;rw[oq,zr];lia
def Rq(K:lV):V->lU Int->lU Int->Hp->VK->Prop:=λx lo hi H Q=>∃a z,x=.ref a/\SqT K H a z/\
 ¬(HT.sIx z.length 0 lo=0/\HT.sIx z.length z.length hi=z.length)/\∀p,H p=none->Q (.ref p) (mH H p<|.tup<|rh z lo hi)
def VC:sv X (Rq X.K):=by
 intro Y s z H x v U N lo hi M Q I n l j i h;obtain⟨a,y,rfl,g,d,q⟩:=h;cases n;obtain⟨c,r,u,p⟩:=I.tuple g;have w:c.toArray.size=y.length:=by rw[oz];show r.length.symm
 refine#["tuple",_,Dh.lookup,u.typeIs,?_];refine HT.getItem_tuple_cut u l j i (by rw[w];show d) ?_ (by rw[w];show p);rw[w];refine#[.ref #v[s],_,I.laid (t':=s.toks) (o:=.tup<|rh y lo hi) (λb a q=>nO _ q) (nw _) ?_,rfl,q _<|I.hok.fresh<|nw _];show#[oi (NB y lo hi) p,_,(r.drop<|HT.sIx y.length 0 lo).take (HT.sIx y.length y.length hi-HT.sIx y.length 0 lo),IsTup.new _ _]
end
def vZ(n:Nat)(i:Int):lU Nat:=if 0<=i then(if i<n then some i.toNat else none)else if -(n:Int)<=i then some (i+n).toNat else none
def oy{z:Type}(xs:lP z)(i:Int):lU z:=(vZ xs.length i).bind λj=>xs[j]?
def Uh(h:vZ n i=some j):seqIndex? i n=some j/\j<n/\-(n:Int)<=i/\i<n:=by
 unfold vZ at h
 by_cases y:0<=i
 ·rw[mT y]at h
  by_cases z:i<n
  ·rw[mT z]at h;have e:i.toNat=j:=oo h;show#[by rw[seqIndex_of y z,e],by lia,by lia,z]
  ·rw[mS z]at h;cases h
 ·rw[mS y]at h
  by_cases z:-(n:Int)<=i
  ·rw[mT z]at h;have e:(i+n).toNat=j:=oo h;show#[by rw[seqIndex_neg (by lia) z,e],by lia,z,by lia]
  ·rw[mS z]at h;cases h
def EG{z:Type}{xs:lP z}{v:z}(h:oy xs i=some v):∃j,seqIndex? i xs.length=some j/\xs[j]? =some v/\j<xs.length/\-(xs.length:Int)<=i/\i<xs.length:=by
 unfold oy at h;cases e:vZ xs.length i with
 | none=>rw[e]at h;cases h
 | some j =>
  rw[e]at h;obtain⟨y,x,w,u⟩:=Uh e;show#[j,y,h,x,w,u]
def Zm{z:Type}{xs:lP z}{j:Nat}{v:z}(h:xs[j]? =some v):oy xs (j:Int)=some v:=by
 have y:j<xs.length:=(oN.mp h).1;have e:vZ xs.length (j:Int)=some j:=by
  unfold vZ;rw[mT (by lia),mT<|by lia];simp
 unfold oy;rw[e];show h
def FE(b:lZ):Prop:=∀o i,subscripted b false o i=operate [o,i] (getItem o i)
def vN(X:Cx)(r:R2):Prop :=
 ∀(value slice:lZ)(w:lP (lR×Obj)) (s:lT) (z:St) (H:Hp) (x y:V) (v u:lS) (Q:VK),mG X w z H s->Yj x v->Yj y u->r x y H Q->
  subscripted slice false v u=operate [v,u] (getItem v u)->∅ (subscriptTail value slice v u) (EP X w z Q) X.xe s
def Aq(X:Cx)(id:String)(r:V->lP V->Hp->VK->Prop):Prop :=
 ∀(y:lP (lR×Obj)) (s:lT) (z:St) (H:Hp) (x:V) (w:lP V) (v:lS) (u:lP lS) (Q:VK),mG X y z H s->Yj x v->Z6 w u->r x w H Q->
  ∅ (call (.builtin id)<|v ::u) (EP X y z Q) X.xe s
section
variable {X:Cx} {a b:lZ} {ta tb:TE} {pos:Pos}
def vN.or(h:vN X r)(h':vN X l):vN X (λx y H Q=>r x y H Q\/l x y H Q):=by
 intro value slice w s z H x y v u Q I p o q n;rcases q with q|q
 ·show h value slice w s z H x y v u Q I p o q n
 ·show h' value slice w s z H x y v u Q I p o q n
def OU(w:vN X r)(p:PE X a ta)(o:PE X b tb)(n:FE b):PE X (.Subscript a b pos) (qU r ta tb):=by
 intro l s z H Q I h;show Subscript_<|En p o I h λv u j x y i g e d q=>w a b l j z i x y v u Q g e d q<|n _ _
inductive Gh(S:Hp->Addr->List V->Prop)(H:Hp)(Q:VK):V->V->Prop
 | mk {p xs i v}:S H p xs->oy xs i=some v->Q v H->Gh S H Q (.ref p) (.int i)
def Oz(K:lV):R2:=λx y H Q=>Gh (SqL K) H Q x y
def Lo(K:lV):R2:=λx y H Q=>Gh (SqT K) H Q x y
def Pl:R2:=λx y H Q=>∃z i c,x=.str z/\y=.int i/\z.length<=sizeLine/\oy z.cps.toList i=some c/\Q (.str #[(List.toArray [c])]) H
def Ycm:vN X (Oz X.K):=by
 intro value slice e s z H x y v u Q I U N h d;obtain@⟨p,B,i,w,M,he,q⟩:=h;cases U;obtain⟨t,rfl⟩:=N;obtain⟨L,r,l,p⟩:=I.list M;obtain⟨j,n,J,p,G,E⟩:=EG he;obtain⟨o,c,D⟩:=r.get J;have C:=r.length;have A:=yA;have fin:EP X e z Q o s:=#[w,H,I,D,q]
 by_cases Y:0<=i
 ·have g:i.toNat=j:=by
   rw[seqIndex_of Y E]at n;show oo n
  show item_listR l.isList Y (by lia) (by rw[g];simpa using c) fin d
 ·have g:(i+(L.toArray.size:Int)).toNat=j:=by
   rw[seqIndex_neg (by lia) G]at n;rw[oz,<-C];show oo n
  show subscriptTail_builtinR (x:=o) l.isList.typeIs Eu.lookup
   (wpAny_getItem_list_neg (Q:=λr p=>r=o/\EP X e z Q r p) l.isList (by lia) (by rw[oz]<;>lia) (by lia) (by rw[g];simpa using c) #[rfl,fin]) d
def Vt:vN X (Lo X.K):=by
 intro value slice n s z H x y v u Q I g e h d;obtain@⟨p,J,i,w,c,he,q⟩:=h;cases g;obtain⟨t,rfl⟩:=e;obtain⟨p,r,l,i⟩:=I.tuple c;obtain⟨j,Y,U,p,i,J⟩:=EG he;obtain⟨o,N,M⟩:=r.get U;have L:=r.length;have G:=yA;have fin:EP X n z Q o s:=#[w,H,I,M,q]
 show subscriptTail_builtinR (x:=o) l.typeIs Dh.lookup
  (getItem_tuple (j:=j) (Q:=λr p=>r=o/\EP X n z Q r p) l (by lia) (by lia) (by rw[oz,<-L];show Y) (by simpa using N) #[rfl,fin]) d
def QR:vN X Pl:=by
 intro value slice U s z H x y v u Q I p o h n;obtain⟨w,i,c,rfl,rfl,j,he,q⟩:=h;obtain⟨t,rfl⟩:=p;obtain⟨j,rfl⟩:=o;obtain⟨j,r,l,Y,g,e⟩:=EG he;have d:w.cps.toList.length=w.length:=by simp[Str.length]
 rw[d]at r g e;have N:=yA;show tail_any (xj s w t) slot_str_getitem.lookup (getItem_str (c:=c) (by
  have j:decide (i < -(2 ^ 63:Int))=false:=og (by lia);have Y:decide (i ≥ 2 ^ 63)=false:=og (by lia);rw[j,Y,Bool.or_false]) (by rw[r];simpa using l) #[.str #[(List.toArray [c])],H,I.tok _,#[_,rfl],q]) n
def zh(K:lV):R2:=λx y H Q=>Oz K x y H Q\/Lo K x y H Q\/Pl x y H Q
def LC:vN X (zh X.K):=Ycm.or<|Vt.or QR
def Zqg(lo z:lU Int)(n:Nat):(sliceBounds lo z none n).1=((HT.sIx n 0 lo:Nat):Int)/\(sliceBounds lo z none n).2.1=((HT.sIx n n z:Nat):Int)/\(sliceBounds lo z none n).2.2=1:=by
 refine#[?_,?_,rfl]
 ·cases lo with
  | none=>simp[sliceBounds,HT.sIx]
  | some i =>
   simp only[sliceBounds,HT.sIx,Option.getD_none,show(1:Int)>0 by lk,tI]
   by_cases h:i<0
   ·simp only[h,tI]<;>lia
   ·simp only[h,rD]<;>lia
 ·cases z with
  | none=>simp[sliceBounds,HT.sIx]
  | some i =>
   simp only[sliceBounds,HT.sIx,Option.getD_none,show(1:Int)>0 by lk,tI]
   by_cases h:i<0
   ·simp only[h,tI]<;>lia
   ·simp only[h,rD]<;>lia
def Rr(z:lP lS)(lo y:lU Int):slicePick z.toArray lo y none=((z.drop<|HT.sIx z.length 0 lo).take (HT.sIx z.length z.length y-HT.sIx z.length 0 lo)).toArray:=by
 obtain⟨x,w,u⟩:=Zqg lo y z.toArray.size;unfold slicePick;rw[x,w,u];simp only[sliceRange_one,pick_run,oz]<;>rfl
def Us(K:lV):V->lU Int->lU Int->Hp->VK->Prop:=λx lo y H Q=>∃a z,x=.ref a/\SqL K H a z/\∀p,H p=none->Q (.ref p) (mH H p<|.lst<|rh z lo y)
def YN:sv X (Us X.K):=by
 intro d s z H x v c Y lo w U Q I p n l j h;obtain⟨a,y,rfl,i,q⟩:=h;cases p;obtain⟨N,r,u,g⟩:=I.list i;have e:=r.length;refine#["list",_,Eu.lookup,u.isList.typeIs,?_];refine MK u.isList n l j .none (by simp) ?_ (by rw[oz]<;>lia);rw[Rr,<-e];refine#[.ref #v[s],_,I.laid (t':=s.toks) (o:=.lst<|rh y lo w) (λb N q=>nO _ q) (nw _) ?_,rfl,q _<|I.hok.fresh<|nw _];show#[oi (NB y lo w) g,_,0,(r.drop<|HT.sIx y.length 0 lo).take (HT.sIx y.length y.length w-HT.sIx y.length 0 lo),oK _ rfl]
def sX:V->Bool
 | .non=>true
 | .bl _=>true
 | .int _=>true
 | .str _=>true
 | _=>false
def rc:V->V->Bool
 | .non,.non=>true
 | .bl a,.bl b=>a ==b
 | .bl a,.int b=>(if a then 1 else 0) ==b
 | .int a,.bl b=>a ==(if b then 1 else 0)
 | .int a,.int b=>a ==b
 | .str a,.str b=>a ==b
 | _,_=>false
def Ap(r:Yj y u)(z:Yj x v)(p:sX y=true)(q:sX x=true):SeqAt.EqAt A s u v (rc y x):=by
 cases y with
 | non =>
  cases r;cases x with
  | non=>cases z;show Br _
  | bl b=>cases z;show SeqAt.EqAt.none_bool b
  | int b=>obtain⟨t,rfl⟩:=z;show SeqAt.EqAt.none_int b t
  | str b=>obtain⟨t,rfl⟩:=z;show SeqAt.EqAt.none_str b t
  | _=>show absurd (show false=true from q) oH
 | bl a =>
  cases r;cases x with
  | non=>cases z;show SeqAt.EqAt.bool_none a
  | bl b=>cases z;show EM a b
  | int b=>obtain⟨t,rfl⟩:=z;show SeqAt.EqAt.bool_int a b t
  | str b=>obtain⟨t,rfl⟩:=z;show SeqAt.EqAt.bool_str a b t
  | _=>show absurd (show false=true from q) oH
 | int a =>
  obtain⟨w,rfl⟩:=r;cases x with
  | non=>cases z;show SeqAt.EqAt.int_none a w
  | bl b=>cases z;show SeqAt.EqAt.int_bool a w b
  | int b=>obtain⟨t,rfl⟩:=z;show SeqAt.EqAt.int_int a w b t
  | str b=>obtain⟨t,rfl⟩:=z;show SeqAt.EqAt.int_str a w b t
  | _=>show absurd (show false=true from q) oH
 | str a =>
  obtain⟨w,rfl⟩:=r;cases x with
  | non=>cases z;show SeqAt.EqAt.str_none a w
  | bl b=>cases z;show SeqAt.EqAt.str_bool a w b
  | int b=>obtain⟨t,rfl⟩:=z;show SeqAt.EqAt.str_int a w b t
  | str b=>obtain⟨t,rfl⟩:=z;show SeqAt.EqAt.str_str a w b t
  | _=>show absurd (show false=true from q) oH
 | _=>show absurd (show false=true from p) oH
def rK(x:V)(u:lS):Bool:=match u with
 | .none=>rc .non x
 | .bool b=>rc (.bl b) x
 | .int i _=>rc (.int i) x
 | .str z _=>rc (.str z) x
 | _=>false
def Lb(r:Yj y u)(f:sX y=true):rK x u=rc y x:=by
 cases y with
 | non=>cases r;rfl
 | bl b=>cases r;rfl
 | int i=>obtain⟨t,rfl⟩:=r;rfl
 | str z=>obtain⟨t,rfl⟩:=r;rfl
 | _=>show absurd (show false=true from f) oH
theorem zM:∀{xs:lP V}{us:lP lS},Z6 xs us->xs.all sX=true->us.any (rK x)=xs.any λy=>rc y x
 | _,_,.nil,_=>rfl
 | y ::xs,u ::us,.cons r t,f=>by
  rw[FT,qx]at f;rw[xN,xN,Lb r f.1,zM t f.2]
theorem AW(w:Yj x v)(q:sX x=true):∀{xs:lP V}{us:lP lS},Z6 xs us->xs.all sX=true->∀u∈us,SeqAt.EqAt A s u v (rK x u)
 | _,_,.nil,_=>λu z=>by cases z
 | y ::xs,u ::us,.cons r t,f=>λp z=>by
  rw[FT,qx]at f;rcases nQ.mp z with rfl|z
  ·rw[Lb r f.1];show Ap r w f.1 q
  ·show AW w q t f.2 p z
def ud(x:V)(xs:lP V):Bool:=xs.any λy=>rc y x
inductive Qa(K:Frag)(neg:Bool)(x:V)(H:Hp)(Q:VK):V->Prop
 | mk {p xs}:(SqL K H p xs\/SqT K H p xs)->sX x=true->xs.all sX=true->Q (.bl<|if neg then !ud x xs else ud x xs) H->Qa K neg x H Q (.ref p)
def zB(K:lV)(neg:Bool):R2:=λx y H Q=>Qa K neg x H Q y
def OT:nV X (compareOp .In) (zB X.K false):=by
 intro c s z H x y v u Q I i e h;obtain@⟨p,Y,o,g,fs,q⟩:=h;cases e;rcases o with o|o
 ·obtain⟨n,r,l,d⟩:=I.list o;refine SeqAt.in_listAt (rK x) l.isList (λw j=>AW i g r fs w<|by simpa using j) #[.bl _,H,I,rfl,?_];rw[show n.toArray.any (rK x)=n.any (rK x) by simp,zM r fs];show q
 ·obtain⟨n,r,l,d⟩:=I.tuple o;refine SeqAt.in_tupleAt (rK x) l (λw j=>AW i g r fs w<|by simpa using j) #[.bl _,H,I,rfl,?_];rw[show n.toArray.any (rK x)=n.any (rK x) by simp,zM r fs];show q
def Zqy:nV X (compareOp .NotIn) (zB X.K true):=by
 intro c s z H x y v u Q I i e h;obtain@⟨p,Y,o,g,fs,q⟩:=h;cases e;rcases o with o|o
 ·obtain⟨n,r,l,d⟩:=I.list o;refine SeqAt.notIn_listAt (rK x) l.isList (λw j=>AW i g r fs w<|by simpa using j) #[.bl _,H,I,rfl,?_];rw[show n.toArray.any (rK x)=n.any (rK x) by simp,zM r fs];show q
 ·obtain⟨n,r,l,d⟩:=I.tuple o;refine SeqAt.notIn_tupleAt (rK x) l (λw j=>AW i g r fs w<|by simpa using j) #[.bl _,H,I,rfl,?_];rw[show n.toArray.any (rK x)=n.any (rK x) by simp,zM r fs];show q
def Th:Xd X (.builtin "len") (λxs H Q=>∃p y,xs=[.ref p]/\(SqL X.K H p y\/SqT X.K H p y)/\Q (.int y.length) H):=by
 intro g s z H xs e Q I r h;obtain⟨p,y,rfl,x,q⟩:=h;obtain⟨u,rfl,l⟩:=qg r;cases l;have d:=yA;rcases x with x|x
 ·obtain⟨j,w,o,i⟩:=I.list x;have n:=w.length;show Calls.call_len_list o.isList (by simp only[oz]<;>lia) #[.int y.length,H,I.tok _,#[s.toks+1,by rw[oz,n]],q]
 ·obtain⟨j,w,o,i⟩:=I.tuple x;have n:=w.length;show len_tuple o (by simp only[oz]<;>lia) #[.int y.length,H,I.tok _,#[s.toks+1,by rw[oz,n]],q]
def ZM:Xd X (.builtin "len") (λxs H Q=>∃y,xs=[.str y]/\y.length<=sizeLine/\Q (.int y.length) H):=by
 intro x s z H xs w Q I r h;obtain⟨y,rfl,u,q⟩:=h;obtain⟨u,rfl,t,rfl⟩:=qg r;have p:=yA;show len_str (by lia) #[.int y.length,H,I.tok _,#[_,rfl],q]
def Xd.or{r y:lP V->Hp->VK->Prop}(h:Xd X f r)(h':Xd X f y):Xd X f (λxs H Q=>r xs H Q\/y xs H Q):=by
 intro x s z H xs w Q I u q;rcases q with q|q
 ·show h x s z H xs w Q I u q
 ·show h' x s z H xs w Q I u q
def Zq0:Xd X (.type "list") (λxs H Q=>∃p w,xs=[.ref p]/\(SqL X.K H p w\/SqT X.K H p w)/\∀l,H l=none->Q (.ref l) (mH H l<|.lst w)):=by
 intro M s z H xs G Q I r h;obtain⟨p,w,rfl,g,q⟩:=h;obtain⟨u,rfl,L⟩:=qg r;cases L;have fin:∀(x:lP lS),Z6 w x->w.length<=sizeLine->∀(y:lX)(j:Nat),(∀b u,s.heap.get? b=some u->y.get? b=some u)->
   y.get? #v[s]=some {cls:=.type "list",dict:=none,data:=.seq x.toArray j,slots:=#[]}->EP X M z Q (.ref #v[s]) {s with heap:=y}:=λx i d y j c e =>
  #[.ref #v[s],_,I.laid (t':=s.toks) c (nw _) (show Yc X.prog X.w _ y _ (.lst w)from#[d,x,j,i,e]),rfl,q _<|I.hok.fresh<|nw _]
 rcases g with g|g
 ·obtain⟨x,i,Y,d⟩:=I.list g;have J:=i.length;obtain⟨o,U,N,n,hd⟩:=Y.isList;show call_list_seq p (.inl rfl) U N hd (λy j c e=>fin x i d y j c e) (by simp only[oz]<;>lia)
 ·obtain⟨x,i,Y,d⟩:=I.tuple g;have J:=i.length;obtain⟨o,U,N,n,hd⟩:=Y;show call_list_seq p (.inr rfl) U N hd (λy j c e=>fin x i d y j c e) (by simp only[oz]<;>lia)
def EF(K:lV)(T:String)(x:V)(H:Hp):Prop:=match x with
 | .str _=>T ="str"
 | .int _=>T ="int"
 | .ref p=>(T ="list"/\∃z,SqL K H p z)\/(T ="tuple"/\∃o,K.lookup p=some o/\o.cls=.type "tuple"/\o.dict=none)\/
   (T ="dict"/\((∃z,H p=some (.dK z))\/∃z,H p=some (.dT z)))\/(T ="set"/\∃S n,H p=some (.set S n))
 | _=>False
def PQ(I:mG X d z H s)(r:Yj x v)(q:EF X.K T x H) :
  s.TypeIs v T/\∀a,v=.ref a->∃h,s.heap.get? a=some h/\h.dict=none:=by
 cases x with
 | str y =>
  obtain⟨t,rfl⟩:=r;cases(show T ="str" from q);show#[xj s y t,λ_ e=>nomatch e]
 | int i =>
  obtain⟨t,rfl⟩:=r;cases(show T ="int" from q);show#[typeIs_int s i t,λ_ e=>nomatch e]
 | ref p =>
  cases r;rcases q with⟨rfl,l,i⟩|⟨rfl,o,w,g,hd⟩|⟨rfl,w⟩|⟨rfl,S,n,w⟩
  ·obtain⟨c,_,l,_⟩:=I.list i;refine#[l.isList.typeIs,λa e=>?_];cases e;obtain⟨o,n,e,c,hd,_⟩:=l;show#[o,e,hd]
  ·refine#[#[o,I.kIn p o w,g],λa e=>?_];cases e;show#[o,I.kIn _ o w,hd]
  ·have y:∃o,s.heap.get? p=some o/\o.ExactDict:=by
    rcases w with⟨l,w⟩|⟨l,w⟩
    ·obtain⟨_,_,_,_,o,_,_,e,u,_⟩:=I.hok p _ w;show#[o,e,u]
    ·obtain⟨_,_,_,_,o,_,_,e,u,_⟩:=I.hok p _ w;show#[o,e,u]
   obtain⟨o,e,u⟩:=y;refine#[#[o,e,u.1],λa j=>?_];cases j;show#[o,e,u.2.1]
  ·obtain⟨o,_,_,_,e,u,_⟩:=I.hok p _ w;refine#[#[o,e,u.1],λa j=>?_];cases j;show#[o,e,u.2.1]
 | _=>show False.elim q
def Pw(K:lV)(T:String)(r:V->lP V->Hp->VK->Prop)(to:TE)(t:TA):TE:=λz H Q=>to z H λx y=>EF K T x y/\t z y λw u=>r x w u Q
variable {o e:lZ} {es:lP lZ} {to:TE} {t:TA} {name:lQ} {u0 g9:Pos} {T id:String} {r:V->lP V->Hp->VK->Prop}
def Ah(j:PlainAttrs T)(slot:Slot T name id)(u:typeOf (.builtin id)=pure (.type "method_descriptor"))(i:Aq X id r)(g:PE X o to)(d:PA X (e ::es) t)
  (c:attributeBase o name X.env (eval o X.env)=eval o X.env:=by rfl)
  (w:((backTo g9<|starEach (e ::es) X.env).all (λx=>!x.1) && (backToKw g9<|keywordEach [] X.env).all (λx=>x.1.isSome)
   && decide ((e ::es).length+([]:lP Keyword).length+(if([]:lP Keyword).isEmpty then 0 else 1)<30))=true:=by rfl)
  (Y:(u0.endLine ==g9.line)=true:=by rfl) (U:starEach (e ::es) X.env=(false,eval e X.env) ::starEach es X.env:=by rfl) (y:(backTo g9<|starEach es X.env).any (·.1)=false:=by rfl) :
  PE X (.Call (.Attribute o name u0) (e ::es) [] g9) (Pw X.K T r to t):=by
 intro q s z H Q I h;refine wpAny_Call_method_late c w Y rfl<|mX (g q s z H _ I h) λv N M=>?_;obtain⟨x,L,p,n,J,G⟩:=M;obtain⟨E,D⟩:=PQ p n J;refine#[T,id,j,slot,u,E,D,?_];have l:=d g9 q N z L _ p G;rw[U]at l ⊢;refine yt (by change(false || (backTo g9<|starEach es X.env).any (·.1))=false;rw[y]<;>rfl)<|Ct ?_;show mX l λC B ⟨A,H2,I2,r2,q2⟩=>i q B z H2 x A v C Q I2 n r2 q2
/- xs.append(e),list.index on a module's tuple .. are Aq facts of 06m -/
end
def BQ(X:Cx)(id:String)(r:V->lP V->Hp->VK->Prop):Prop :=
 ∀(y:lP (lR×Obj)) (s:lT) (z:St) (H:Hp) (x:V) (w:lP V) (v:lS) (u:lP lS) (Q:VK),mG X y z H s->Yj x v->Z6 w u->r x w H Q->
  ∅ (call (.builtin id)<|v ::u) (EP X y z Q) X.xe s
def Z6.one{x:V}{us:lP lS}(h:Z6 [x] us):∃u,us=[u]/\Yj x u:=by
 cases h with
 | cons r t=>cases t;show#[_,rfl,r]
theorem Z6.eraseIdx:∀{xs:lP V}{us:lP lS}(i:Nat),Z6 xs us->Z6 (xs.eraseIdx i) (us.eraseIdx i)
 | _,_,_,.nil=>.nil
 | _,_,0,.cons _ t=>t
 | _,_,i+1,.cons r t=>.cons r<|Z6.eraseIdx i t
theorem OB{z:Type}:∀(l:lP z)(i:Nat),(l.eraseIdx i).length<=l.length
 | [],_=>nw _
 | _ ::_,0=>tw _
 | _ ::r,i+1=>Nat.succ_le_succ<|OB r i
variable {X:Cx}
def mG.lset{y its':lP lS}{n:Nat}{f:Array lS->Array lS}{t':Nat}(I:mG X r z H s)(p:H l=some (.lst xs))
  (e:s.heap.get? l=some {cls:=.type "list",data:=.seq y.toArray n}) (o:f y.toArray=its'.toArray) (j:Z6 w its') (i:w.length<=sizeLine) :
  mG X r z (mH H l<|.lst w) {s with heap:=s.heap.update l<|Obj.mapSeq f,toks:=t'}:=by
 have q:=PySem.IsL.update e f;rw[o]at q;refine I.write (x:=l) (e:=l) (by rw[p];show trivial) (.inl rfl) (λd u h g=>(uf s.heap (Obj.mapSeq f)<|pb h).trans g) #[_,q] ?_;show#[i,its',_,j,q]
def mG.lnew(I:mG X w z H s)(u:Z6 y x)(r:y.length<=sizeLine) :
  mG X w z (mH H #v[s] (.lst y)) {s with heap:=s.heap.push {cls:=.type "list",data:=.seq x.toArray},toks:=t'} :=
 I.laid (λ_ _ q=>nO _ q) (nw _) #[r,x,0,u,oK _ rfl]
def mG.fresh(I:mG X y z H s):H #v[s]=none:=I.hok.fresh<|nw _
def mG.lstM(I:mG X u z H s)(w:H l=some (.lst xs)):xs.length<=sizeLine/\∃(x:lP lS)(n:Nat),Z6 xs x/\xs.length=x.length/\s.heap.get? l=some {cls:=.type "list",data:=.seq x.toArray n}:=by
 obtain⟨y,x,n,r,e⟩:=I.hok l _ w;show#[y,x,n,r,r.length,e]
def Vj(h:n<=sizeLine):Builtin.List.listTooLong n=false:=by
 unfold Builtin.List.listTooLong;show og (by lia)
inductive Jd(H:Hp)(Q:VK):V->List V->Prop
 | mk {l xs y}:H l=some (.lst xs)->xs.length<sizeLine->Q .non (mH H l<|.lst<|xs++[y])->Jd H Q (.ref l) [y]
def Jj:V->lP V->Hp->VK->Prop:=λx z H Q=>Jd H Q x z
def GQ:BQ X "list.append" Jj:=by
 intro g s z H x d v c Q I o j h;obtain@⟨l,a,y,w,Y,q⟩:=h;cases o;obtain⟨u,rfl,i⟩:=j.one;obtain⟨y,p,n,r,a,e⟩:=I.lstM w;refine zq PV #[_,e,rfl] F.entry_list_append (F.args_list_append_2 _ _) (PySem.list_append l p.toArray n u<|by rw[oz];lia) #[e,?_];refine#[.non,_,I.lset (its':=p++[u]) w e (by simp) (r.append<|.cons i .nil) ?_,rfl,q];rw[nW,xl];lia
def Sh:V->lP V->Hp->VK->Prop:=λx w H Q=>∃l b z y,x=.ref l/\w=[.ref b]/\H l=some (.lst z)/\H b=some (.lst y)/\z.length+y.length<=sizeLine/\Q .non (mH H l<|.lst<|z++y)
def Ygc:BQ X "list.extend" Sh:=by
 intro M s z H x L v J Q I g d h;obtain⟨l,b,y,u,rfl,rfl,i,c,G,q⟩:=h;cases g;obtain⟨u,rfl,a⟩:=d.one;cases a;obtain⟨y,p,n,r,u,e⟩:=I.lstM i;obtain⟨y,o,Y,U,u,N⟩:=I.lstM c;have j:p.toArray.size+o.toArray.size<=sizeLine:=by rw[oz,oz];lia
 have w:¬(!p.toArray.isEmpty && Builtin.List.listTooLong (p.toArray.size+o.toArray.size))=true:=by
  rw[Vj j,Bool.and_false];show oH
 refine zq F.slot_list_extend #[_,e,rfl] F.entry_list_extend (F.args_list_extend_2 _ _)
  (AutoSeq1.list_extend_list_list_0 l p.toArray n b o.toArray Y w (by rw[oz];lia)<|by lia) #[e,N,?_]
 refine#[.non,_,I.lset (its':=p++o) i e (by simp) (r.append U) ?_,rfl,q];rw[nW];lia
def RV:V->lP V->Hp->VK->Prop:=λx w H Q=>∃l z i k y,x=.ref l/\w=[.int i]/\H l=some (.lst z)/\-(2 ^ 63)<=i/\i<2 ^ 63/\seqIndex? i z.length=some k/\z[k]? =some y/\Q y (mH H l<|.lst<|z.eraseIdx k)
def Mb:BQ X "list.pop" RV:=by
 intro E s z H x D v C Q I g d h;obtain⟨l,c,i,k,y,rfl,rfl,j,a,Y,U,N,q⟩:=h;cases g;obtain⟨u,rfl,M⟩:=d.one;obtain⟨t,rfl⟩:=M;obtain⟨w,o,n,r,L,e⟩:=I.lstM j;obtain⟨p,J,G⟩:=r.get N;refine zq Ao #[_,e,rfl] F.entry_list_pop (F.args_list_pop_2 _ _)
  (MeetsSeq.list_pop_at l o.toArray n i t k p (fitsIndex_both a Y) (by rw[oz,<-L];show U) (by rw[<-wL];show J)<|by rw[oz];lia) #[e,?_]
 refine#[y,_,I.lset (its':=o.eraseIdx k) j e ?_ (r.eraseIdx k) ?_,G,q]
 ·change o.toArray.eraseIdxIfInBounds k=(o.eraseIdx k).toArray;rw[Qd]
 ·have:=OB c k;lia
def Yiu:R2:=λx y H Q=>∃l b z w,x=.ref l/\y=.ref b/\H l=some (.lst z)/\H b=some (.lst w)/\z.length+w.length<=sizeLine/\∀p,H p=none->Q (.ref p) (mH H p<|.lst<|z++w)
def Yfv:nV X (binaryOp .Add) Yiu:=by
 intro U s z H x y v u Q I j i h;obtain⟨l,b,w,n,rfl,rfl,g,d,N,q⟩:=h;cases j;cases i;obtain⟨w,p,n,r,l,e⟩:=I.lstM g;obtain⟨w,o,n,c,l,a⟩:=I.lstM d;refine PySem.P.add_list e a ?_ (by rw[oz,oz];lia);have Y:p.toArray++o.toArray=(p++o).toArray:=by simp
 rw[Y];show#[.ref _,_,I.lnew (t':=s.toks) (r.append c) (by rw[nW];lia),rfl,q _ I.fresh]
section
variable {κ:Type} [DecidableEq κ]
def Xm(kvs:lP (κ×V))(k:κ):lU V:=(kvs.find? λkv=>decide<|kv.1=k).map (·.2)
def Wy(kvs:lP (κ×V))(k:κ)(v:V):lP (κ×V) :=
 if(kvs.any λkv=>decide<|kv.1=k)=true then kvs.map (λkv=>if kv.1=k then(kv.1,v)else kv)else kvs++[(k,v)]
def yV{p:κ×V}{r:lP (κ×V)}{k:κ}(e:p.1=k):Xm (p ::r) k=some p.2:=by simp[Xm,we,e]
def wF{p:κ×V}{r:lP (κ×V)}{k:κ}(e:¬p.1=k):Xm (p ::r) k=Xm r k:=by simp[Xm,we,e]
theorem CO(k:κ):∀kvs:lP (κ×V),(kvs.any λkv=>decide<|kv.1=k)=(Xm kvs k).isSome
 | []=>rfl
 | p ::r=>by
  rw[xN]
  by_cases e:p.1=k
  ·simp only[yV e,nM e,Bool.true_or,Option.isSome_some]
  ·rw[wF e,og e,GC];show CO k r
def BB(kvs:lP (κ×V))(k:κ)(v:V):(Wy kvs k v).length<=kvs.length+1:=by
 unfold Wy;split
 ·rw[mI];lia
 ·rw[nW,pi,Ff];lia
def JM{kvs:lP (κ×V)}{k:κ}(v:V)(h:Xm kvs k=none):Wy kvs k v=kvs++[(k,v)]:=by
 unfold Wy;rw[CO,h];show mS (by lk)
def qi.isSome_eq(r:qi o u):o.isSome=u.isSome:=by
 cases o with
 | none=>cases u with
  | none=>rfl
  | some _=>show(show False from r).elim
 | some _=>cases u with
  | none=>show(show False from r).elim
  | some _=>rfl
def qi.getD(r:qi o u)(rd:Yj d d'):Yj (o.getD d) (u.getD d'):=by
 cases o with
 | none=>cases u with
  | none=>show rd
  | some _=>show(show False from r).elim
 | some _=>cases u with
  | none=>show(show False from r).elim
  | some _=>show r
def KV.val{kvs:lP (κ×V)}{vs:lP (κ×lS)}(r:KV kvs vs)(k:κ):qi (Xm kvs k) (valueAt vs k):=by
 unfold KV at r
 induction r with
 | nil=>show rR
 | @cons p q o y h t u =>
  obtain⟨w,s⟩:=h
  by_cases e:p.1=k
  ·have x:q.1=k:=w.symm.trans e;have b:valueAt (q ::y) k=some q.2:=by simp[valueAt,we,x]
   rw[yV e,b];show s
  ·have x:¬q.1=k:=λz=>e<|w.trans z
   have b:valueAt (q ::y) k=valueAt y k:=by simp[valueAt,we,x]
   rw[wF e,b];show u
def KV.any{kvs:lP (κ×V)}{vs:lP (κ×lS)}(r:KV kvs vs)(k:κ):(kvs.any λkv=>decide<|kv.1=k)=vs.any λkv=>decide (kv.1=k):=by
 unfold KV at r
 induction r with
 | nil=>rfl
 | cons h t z=>rw[xN,xN,z,h.1]
def KV.repl{kvs:lP (κ×V)}{vs:lP (κ×lS)}(r:KV kvs vs)(k:κ)(w:Yj y u) :
  KV (kvs.map λkv=>if kv.1=k then(kv.1,y)else kv) (vs.map λkv=>if kv.1=k then(kv.1,u)else kv):=by
 unfold KV at r ⊢
 induction r with
 | nil=>show .nil
 | @cons p q n l h t s =>
  rw[nS,nS];refine .cons ?_ s;obtain⟨x,o⟩:=h
  by_cases e:p.1=k
  ·rw[mT e,mT<|x.symm.trans e];show#[x,w]
  ·rw[mS e,mS λz=>e<|x.trans z];show#[x,o]
def KV.put{kvs:lP (κ×V)}{vs:lP (κ×lS)}(r:KV kvs vs)(k:κ)(z:Yj y u):KV (Wy kvs k y) (stored vs k u):=by
 unfold Wy stored;rw[r.any k]
 by_cases e:(vs.any λkv=>decide<|kv.1=k)=true
 ·rw[mT e,mT e];show r.repl k z
 ·rw[mS e,mS e];show Dc r #[rfl,z]
def KV.length{kvs:lP (κ×V)}{vs:lP (κ×lS)}(r:KV kvs vs):kvs.length=vs.length:=nG r
end
def wg(r:Yj (kV k) u):(Z4 P w).is k u=true:=by
 cases k with
 | inl i=>obtain⟨t,e⟩:=(show ∃t,u=Value.int i t from r);subst e;show Zs3 P w i t
 | inr x=>obtain⟨t,e⟩:=(show ∃t,u=Value.str x t from r);subst e;show XW P w x t
theorem Gc :∀{z:lP mZ}{us:lP lS},Z6 (z.map kV) us->ItemsAre (Z4 P w) z us
 | [],_,r=>by rw[uH]at r;cases r;show .nil
 | k ::z,_,r=>by
  rw[nS]at r;cases r with
  | cons h t=>show .cons (wg h)<|Gc t
abbrev KT(H:Hp):lP (lP mZ×V)->lP (lP mZ×lR×lS)->Prop:=Paired λp q=>p.1=q.1/\H q.2.1=some (.tup<|p.1.map kV)/\Yj p.2 q.2.2
def KT.val(r:KT H kvs xs)(k:lP mZ):qi (Xm kvs k) ((atKey xs k).map (·.2)):=by
 induction r with
 | nil=>show rR
 | @cons p q o y h t u =>
  obtain⟨w,_,s⟩:=h
  by_cases e:p.1=k
  ·have x:q.1=k:=w.symm.trans e;have b:atKey (q ::y) k=some q.2:=by simp[atKey,we,x]
   rw[yV e,b];show s
  ·have x:¬q.1=k:=λz=>e<|w.trans z
   have b:atKey (q ::y) k=atKey y k:=by simp[atKey,we,x]
   rw[wF e,b];show u
def KT.repl(r:KT H kvs xs)(k:lP mZ)(s:Yj y u) :
  KT H (kvs.map λkv=>if kv.1=k then(kv.1,y)else kv) (xs.map<|putAt k u):=by
 induction r with
 | nil=>show .nil
 | @cons p q l j h t o =>
  rw[nS,nS];refine .cons ?_ o;obtain⟨x,w,n⟩:=h;unfold putAt
  by_cases e:p.1=k
  ·rw[mT e,mT<|x.symm.trans e];show#[x,w,s]
  ·rw[mS e,mS λz=>e<|x.trans z];show#[x,w,n]
def KT.put(r:KT H kvs xs)(k:lP mZ)(x:H b=some (.tup<|k.map kV))(z:Yj y u) :
  KT H (Wy kvs k y) (storedH xs k b u):=by
 have e:(kvs.any λkv=>decide<|kv.1=k)=(atKey xs k).isSome:=by
  rw[CO,(r.val k).isSome_eq,EU]
 unfold Wy storedH;rw[e]
 by_cases q:(atKey xs k).isSome=true
 ·rw[mT q,mT q];show r.repl k z
 ·rw[mS q,mS q];show Dc r #[rfl,x,z]
def KT.keeps(r:KT H kvs xs)(x:∀b y,H b=some (.tup y)->w b=some (.tup y)):KT w kvs xs :=
 Paired.mapP r λ_ _ z=>#[z.1,x _ _ z.2.1,z.2.2]
section
def KP(ok:oj P w H h)(e:Rd H a u):Yc P w H h a u:=e.ok ok
def rg(ok:oj P w H h)(e:Rd H a (.dK kvs)):kvs.length<=sizeLine/\(a ==sysModules)=false/\∃vs,KV kvs vs/\h.DictOf (Z4 P w) a vs :=
 show Yc P w H h a (.dK kvs)from KP ok e
def BJ(ok:oj P w H h)(e:H a=some (.dK kvs)):kvs.length<=sizeLine/\(a ==sysModules)=false/\∃vs,KV kvs vs/\h.DictOf (Z4 P w) a vs:=rg ok<|.inl e
def yT(ok:oj P w H h)(e:H a=some (.tup<|z.map kV)):(tupleKind<|Z4 P w).is h z a:=by
 obtain⟨_,y,r,o,x,u,n,s⟩:=(show Yc P w H h a (.tup<|z.map kV)from ok a _ e)
 show#[o,y.toArray,n,x,u,s,by simpa using Gc r]
def wU(ok:oj P w H h)(e:Rd H a (.dT kvs)):kvs.length<=sizeLine/\(a ==sysModules)=false/\
  ∃xs,KT H kvs xs/\h.DictOfH (tupleKind<|Z4 P w) a xs:=by
 obtain⟨z,y,xs,r,o,n,j,i,g,d,c,Y⟩:=(show Yc P w H h a (.dT kvs)from KP ok e)
 refine#[z,y,xs,r,o,n,j,i,g,d,c,λx u=>?_,Y];have all:∀{l:lP (lP mZ×V)}{m:lP (lP mZ×lR×lS)},KT H l m->∀x∈m,(tupleKind<|Z4 P w).is h x.1 x.2.1:=by
  intro l m q
  induction q with
  | nil=>intro x u;show nomatch u
  | @cons p q Q N s t U =>
   intro x u;rcases nQ.mp u with e|u
   ·subst e;show yT ok (by rw[<-s.1];show s.2.1)
   ·show U x u
 show all r x u
def MH(ok:oj P w H h)(e:H a=some (.dT kvs)):kvs.length<=sizeLine/\(a ==sysModules)=false/\
  ∃xs,KT H kvs xs/\h.DictOfH (tupleKind<|Z4 P w) a xs:=wU ok<|.inl e
end
def Xz(H:Hp)(a:lR)(y:V)(r:lU V):Prop :=
 (∃z k,Rd H a (.dK z)/\y=kV k/\r=Xm z k)\/∃z k b,Rd H a (.dT z)/\y=.ref b/\H b=some (.tup<|k.map kV)/\r=Xm z k
def qN(H:Hp)(a:lR)(y v:V)(x:Hp):Prop :=
 (∃z k,H a=some (.dK z)/\y=kV k/\z.length<sizeLine/\x=mH H a (.dK<|Wy z k v))\/
 ∃z k b,H a=some (.dT z)/\y=.ref b/\H b=some (.tup<|k.map kV)/\z.length<sizeLine/\x=mH H a (.dT<|Wy z k v)
def Xz.k{H:Hp}{a:lR}{kvs:lP (mZ×V)}{k:mZ}(e:H a=some (.dK kvs)):Xz H a (kV k) (Xm kvs k):=.inl #[kvs,k,.inl e,rfl,rfl]
def Xz.t{H:Hp}{a b:lR}{kvs:lP (lP mZ×V)}{k:lP mZ}(e:H a=some (.dT kvs))(z:H b=some (.tup<|k.map kV)):Xz H a (.ref b) (Xm kvs k):=.inr #[kvs,k,b,.inl e,rfl,z,rfl]
def qN.k{H:Hp}{a:lR}{kvs:lP (mZ×V)}{k:mZ}{v:V}(e:H a=some (.dK kvs))(z:kvs.length<sizeLine):qN H a (kV k) v (mH H a<|.dK<|Wy kvs k v):=.inl #[kvs,k,e,rfl,z,rfl]
def qN.t{H:Hp}{a b:lR}{kvs:lP (lP mZ×V)}{k:lP mZ}{v:V}(e:H a=some (.dT kvs))(z:H b=some (.tup<|k.map kV))(y:kvs.length<sizeLine) :
  qN H a (.ref b) v (mH H a<|.dT<|Wy kvs k v):=.inr #[kvs,k,b,e,rfl,z,y,rfl]
section
variable {E:lS->lT->Prop}
def mG.big(I:mG X y z H s):sysModules<#v[s]:=by
 have h:mainGlobals<#v[s]:=(I.mod.glob.keeps I.bk).lt;show ri (by lk) h
def YF{Q:lS->lT->Prop}(Y:A.units+1<cLine)(I:mG X U z H s)(g:Xz H a y (some v))(c:Yj y u)(h:∀w s',mG X U z H s'->Yj v w->Q w s') :
  wpAny (model X.prog X.w) A (getItem (.ref a) u) Q E s:=by
 rcases g with⟨r,k,e,q,l⟩|⟨r,k,b,e,q,N,l⟩
 ·subst q;obtain⟨x,hd,p,n,j⟩:=rg I.hok e;obtain⟨w,i,d⟩:=qi.some_of (v:=v) (o:=valueAt p k) (by rw[l];show n.val k);show wpAny_getItem_of (wg c) j.mapOf i<|h w _ (I.tok _) d
 ·subst q;cases(show u=Value.ref b from c);obtain⟨x,hd,M,n,j⟩:=wU I.hok e;obtain⟨w,i,d⟩:=qi.some_of (v:=v) (o:=(atKey M k).map (·.2)) (by rw[l];show n.val k);obtain⟨p,L,J⟩:=nU.mp i;refine wpAny_getItem_heap (zi Y) (yT I.hok N) j L ?_;rw[J];show h w _ (I.tok _) d
def Yis{Q:lS->lT->Prop}(i:A.units+1<cLine)(I:mG X d z H s)(g:Xz H a y o)(j:Yj y u)(h:∀s',mG X d z H s'->Q (.bool o.isSome) s') :
  wpAny (model X.prog X.w) A (compareOp .In u<|.ref a) Q E s:=by
 rcases g with⟨w,k,e,r,l⟩|⟨w,k,b,e,r,c,l⟩
 ·subst r;obtain⟨x,hd,q,p,n⟩:=rg I.hok e;refine wpAny_in_of (wg j) hd n.mapOf ?_;rw[<-(p.val k).isSome_eq,<-l];show h _<|I.tok _
 ·subst r;cases(show u=Value.ref b from j);obtain⟨x,hd,Y,p,n⟩:=wU I.hok e;refine wpAny_in_heap (zi i) (yT I.hok c) hd n ?_;have q:=(p.val k).isSome_eq;rw[EU]at q;rw[<-q,<-l];show h _<|I.tok _
def Ybx{Q:lS->lT->Prop}(i:A.units+1<cLine)(I:mG X d z H s)(g:Xz H a y o)(j:Yj y u)(h:∀s',mG X d z H s'->Q (.bool (!o.isSome)) s') :
  wpAny (model X.prog X.w) A (compareOp .NotIn u<|.ref a) Q E s:=by
 rcases g with⟨w,k,e,r,l⟩|⟨w,k,b,e,r,c,l⟩
 ·subst r;obtain⟨x,hd,q,p,n⟩:=rg I.hok e;refine wpAny_notIn_of (wg j) hd n.mapOf ?_;rw[<-(p.val k).isSome_eq,<-l];show h _<|I.tok _
 ·subst r;cases(show u=Value.ref b from j);obtain⟨x,hd,Y,p,n⟩:=wU I.hok e;refine wpAny_notIn_heap (zi i) (yT I.hok c) hd n ?_;have q:=(p.val k).isSome_eq;rw[EU]at q;rw[<-q,<-l];show h _<|I.tok _
def Jv(I:mG X u z H s)(r:Aw (H a))(p:Heap.SameBut a s.heap h')(he:∃q,h'.get? a=some q)(new:Yc X.prog X.w (mH H a w) h' a w) :
  mG X u z (mH H a w) {s with heap:=h',toks:=t'} :=
 I.write (x:=a) (e:=a) r (.inl rfl) (λb q o y=>(p.2 b o).trans y) he new
def Dj(z:kvs.length<=sizeLine)(hd:(a ==sysModules)=false)(y:KV kvs vs)(dd:h'.DictOf (Z4 P w) a vs) :
  Yc P w x h' a (.dK kvs):=#[z,hd,vs,y,dd]
def Zxo{Q:Unit->lT->Prop}(C:A.units+1<cLine)(I:mG X B z H s)(g:qN H a y v H')(M:Yj y u)(L:Yj v r)(h:∀s',mG X B z H' s'->Q () s') :
  wpAny (model X.prog X.w) A (setItem (.ref a) u r) Q E s:=by
 rcases g with⟨w,k,e,j,l,i⟩|⟨w,k,b,e,j,J,l,i⟩
 ·subst j i;obtain⟨x,hd,c,o,d⟩:=BJ I.hok e;have Y:c.length<=sizeLine:=by rw[<-o.length];show x
  have U:(Wy w k v).length<=sizeLine:=by have:=BB w k v;lia
  refine wpAny_setItem_pairs (hsz:=Y) (wg M) d λG p N=>h _ ?_
  have he:∃q,G.get? a=some q:=let⟨q,_,_,n,_⟩:=p;#[q,n];show Jv I (by rw[e];show rR) N he<|Dj U hd (o.put k L) p
 ·subst j i;cases(show u=Value.ref b from M);obtain⟨x,hd,xs,o,d⟩:=MH I.hok e;have Y:xs.length<=sizeLine:=by rw[<-nG o];show x
  have U:(Wy w k v).length<=sizeLine:=by have:=BB w k v;lia
  refine wpAny_setItem_heap (hsz:=Y) (zi C) (yT I.hok J) d λG p N=>h _ ?_
  obtain⟨q,es,ep,n,h2,h3,h4,_,h5⟩:=p;refine Jv I (by rw[e];show rR) N #[q,n] #[U,hd,_,(o.put k J L).keeps λc ys D=>?_,q,es,ep,n,h2,h3,h4,h5];rw[Ze (Pd D e (λx=>nomatch x))];show D
def TD{Q:lS->lT->Prop}(I:mG X w z H s)(e:Rd H a (.dK kvs))(h:∀t s',mG X w z H s'->Q (.int kvs.length t) s'):wpAny (model X.prog X.w) A (call (.builtin "len") [.ref a]) Q E s:=by
 obtain⟨y,hd,r,x,u⟩:=rg I.hok e;refine call_len_dict hd u (by rw[<-x.length];rw[tU]at y;lia) ?_;rw[<-x.length];show h _ _<|I.tok _
end
def Qx(i:lZ):Prop:=∀z y,subscripted i false z y=operate [z,y] (getItem z y)
def VX{prog:ma}{w:lY}{A:md}{E:lS->lT->Prop}{s:lT}{env:Env}{value slice:lZ}{pos:Pos}{T id:String}{Q:lS->lT->Prop}
  (l:typeLookup (.type T) "__getitem__"=pure (some<|.builtin id)) (j:Qx slice)
  (h:wpAny (model prog w) A (eval value env) (λo q=>wpAny (model prog w) A (eval slice env) (λi y=>y.TypeIs o T/\wpAny (model prog w) A (getItem o i) Q E y) E q) E s) :
  wpAny (model prog w) A (eval (.Subscript value slice pos) env) Q E s:=by
 refine Subscript_<|pT h (λo q z=>pT z (λi y u=>?_) λ_ _ x=>x) λ_ _ x=>x;obtain⟨p,u⟩:=u;unfold subscriptTail;refine mP ?_;rw[getitemInPython_of_ne p.not_modules];refine mP<|wpAny_specialOf p l ?_;have fin:wpAny (model prog w) A (subscripted slice false o i) (λr n=>wpAny (model prog w) A (letTemporaryGo value o r >>=λ_=>pure r) Q E n) E y:=by
  rw[j o i];show wpAny_operating<|pT u (λr n z=>mP<|wpAny_letTemporaryGo<|nq z) λ_ _ x=>x
 first
  | show nq (mP fin)
  | show mP (nq<|mP fin)
  | show mP fin
def WK(I:mG X u z H s)(g:Xz H a y o):s.TypeIs (.ref a) "dict":=by
 rcases g with⟨x,k,e,_,_⟩|⟨x,k,b,e,_,_,_⟩
 ·obtain⟨_,_,r,_,w⟩:=rg I.hok e;show w.typeIs
 ·obtain⟨_,_,r,_,w⟩:=wU I.hok e;show w.typeIs
inductive vS(H:Hp)(y:V)(Q:VK):V->Prop
 | mk {a v}:Xz H a y (some v)->Q v H->vS H y Q (.ref a)
def UW(w u:TE):TE:=λz H Q=>w z H λx s=>u z s λy r=>vS r y Q x
inductive QG(H:Hp)(y v:V)(k:Hp->Prop):V->Prop
 | mk {a H4}:qN H a y v H4->k H4->QG H y v k (.ref a)
def Su(w u s:TE):TS:=λD z H=>s z H λv r=>w z r λx q=>u z q λy p=>QG p y v (D.nx z) x
def W5(q:X.A.units+1<cLine)(p:PE X o n)(l:PE X i j)(e:Qx i):PE X (.Subscript o i pos) (UW n j):=by
 intro w s z H Q I h;refine VX PySem.F.slot_dict_getitem.lookup e<|mX (p w s z H _ I h) λu y ⟨x,d,c,Y,U⟩=>mX (l w y z d _ c U) λG E N=>?_;obtain⟨y,M,r,L,@⟨a,v,g,J⟩⟩:=N;obtain rfl:u=Value.ref a:=Y;show#[WK r g,YF q r g L λd c y x=>#[v,M,y,x,J]]
def tT(q:X.A.units+1<cLine)(p:PE X o n)(l:PE X i j)(e:PE X value d)(c:swapsWith value (some<|.Subscript o i Y) pos.line X.env=pure false) :
  PS X (.Assign [.Subscript o i Y] value pos) (Su n j d):=by
 intro w s z H D I h;refine wpAny_Assign_Subscript (mX (e w s z H _ I h) λr y ⟨v,U,Q,N,M⟩=>mX (p w y z U _ Q M) λu L ⟨x,J,G,E,C⟩=>mX (l w L z J _ G C) λiv s3 B=>?_) c;obtain⟨y,x,A,ry,@⟨a,H4,g,q3⟩⟩:=B;obtain rfl:u=Value.ref a:=E;show Zxo q A g ry N λs4 I4=>#[z,H4,I4,q3]
def Zz8(h:lX)(z:sysModules<h.objs.size):Yc P w H (h.push {cls:=.type "dict",data:=.dict #[]}) h.objs.size (.dK []) :=
 #[pH _,sF.mpr<|pb<|nR z,[],.nil,Heap.DictOf.new h]
def UL(h:lX)(z:sysModules<h.objs.size):Yc P w H (h.push {cls:=.type "dict",data:=.dict #[]}) h.objs.size (.dT []) :=
 #[pH _,sF.mpr<|pb<|nR z,[],.nil,_,#[],0,oK _ rfl,#[rfl,rfl,rfl],rfl,rfl,ul]
def XC:TE:=λ_ H Q=>∀p,H p=none->Q (.ref p) (mH H p<|.dK [])
def Tc:TE:=λ_ H Q=>∀p,H p=none->Q (.ref p) (mH H p<|.dT [])
def VH:PE X (.Dict [] [] pos) XC:=λy s z H Q I h =>
 wpAny_Dict_empty #[.ref #v[s],_,I.laid (a:=#v[s]) (o:=.dK []) (t':=s.toks) (λ_ _ q=>nO _ q) (nw _)<|Zz8 s.heap I.big,rfl,h _<|I.hok.fresh<|nw _]
def Zyy:PE X (.Dict [] [] pos) Tc:=λy s z H Q I h =>
 wpAny_Dict_empty #[.ref #v[s],_,I.laid (a:=#v[s]) (o:=.dT []) (t':=s.toks) (λ_ _ q=>nO _ q) (nw _)<|UL s.heap I.big,rfl,h _<|I.hok.fresh<|nw _]
def zu(kvs more:lP (mZ×V)):lP (mZ×V):=more.foldl (λz kv=>Wy z kv.1 kv.2) kvs
def KV.merge:∀{more:lP (mZ×V)}{z:lP (mZ×lS)}{kvs:lP (mZ×V)}{vs:lP (mZ×lS)},KV more z->KV kvs vs->KV (zu kvs more) (merged vs z):=by
 intro more z kvs vs r;unfold KV at r
 induction r generalizing kvs vs with
 | nil=>intro q;show q
 | @cons p q w u h t y =>
  intro x;have e:KV (Wy kvs p.1 p.2) (stored vs q.1 q.2):=by
   have:=x.put p.1 h.2;rw[<-h.1];show this
  show y e
theorem IT:∀(more kvs:lP (mZ×V)),(zu kvs more).length<=kvs.length+more.length
 | [],kvs=>by change kvs.length<=kvs.length+0;lia
 | p ::r,kvs=>by
  have z:=IT r<|Wy kvs p.1 p.2;have y:=BB kvs p.1 p.2;change(zu (Wy kvs p.1 p.2) r).length<=_;rw[pi];lia
structure M1(X:Cx)(o:Expr)(m:Str)(u0:Pos)(e:Expr)(g9:Pos):Prop where
 mB:attributeBase o m X.env (eval o X.env)=eval o X.env
 few:((backTo g9<|starEach [e] X.env).all (λx=>!x.1) && (backToKw g9<|keywordEach [] X.env).all (λx=>x.1.isSome)
  && decide (([e]:List Expr).length+([]:List Keyword).length+(if([]:List Keyword).isEmpty then 0 else 1)<30))=true
 line:(u0.endLine ==g9.line)=true
 trees:backTo g9 (starEach [e] X.env)=[(false,eval e X.env)]
structure M2(X:Cx)(o:Expr)(m:Str)(u0:Pos)(e f:Expr)(g9:Pos):Prop where
 mB:attributeBase o m X.env (eval o X.env)=eval o X.env
 few:((backTo g9<|starEach [e,f] X.env).all (λx=>!x.1) && (backToKw g9<|keywordEach [] X.env).all (λx=>x.1.isSome)
  && decide (([e,f]:List Expr).length+([]:List Keyword).length+(if([]:List Keyword).isEmpty then 0 else 1)<30))=true
 line:(u0.endLine ==g9.line)=true
 trees:backTo g9 (starEach [e,f] X.env)=[(false,eval e X.env),(false,eval f X.env)]
def Gw(H:Hp)(a:lR):Prop:=(∃z,Rd H a<|.dK z)\/∃z,Rd H a<|.dT z
def Nj(I:mG X p z H s)(d:Gw H a) :
  s.TypeIs (.ref a) "dict"/\(∀b,Value.ref a=.ref b->∃y,s.heap.get? b=some y/\y.dict=none)/\(a ==sysModules)=false:=by
 rcases d with⟨w,e⟩|⟨w,e⟩
 ·obtain⟨_,hd,o,_,x⟩:=rg I.hok e;refine#[x.typeIs,λb q=>?_,hd];cases q;obtain⟨y,_,_,u,r,_⟩:=x;show#[y,u,r.2.1]
 ·obtain⟨_,hd,o,_,x⟩:=wU I.hok e;refine#[x.typeIs,λb q=>?_,hd];cases q;obtain⟨y,_,_,u,r,_⟩:=x;show#[y,u,r.2.1]
section
variable {E:lS->lT->Prop}
def RZ{Q:lS->lT->Prop}(c:A.units+1<cLine)(I:mG X Y z H s)(g:Xz H a y o)(j:Yj y u)(rd:Yj d r)(h:∀i s',mG X Y z H s'->Yj (o.getD d) i->Q i s') :
  wpAny (model X.prog X.w) A (call (.builtin "dict.get") [.ref a,u,r]) Q E s:=by
 rcases g with⟨q,k,e,p,l⟩|⟨q,k,b,e,p,U,l⟩
 ·subst p;obtain⟨x,hd,N,n,w⟩:=rg I.hok e;refine Bi HR w.typeIs Po (MC _ _ _) (meets_dict_get_default (Z4 X.prog X.w) a (wg j) hd r) #[_,w.mapOf,h _ _ (I.tok _) ?_];rw[l];show(n.val k).getD rd
 ·subst p;cases(show u=Value.ref b from j);obtain⟨x,hd,N,n,w⟩:=wU I.hok e;refine Bi HR w.typeIs Po (MC _ _ _) (meetsH_dict_get_default (tupleKind<|Z4 X.prog X.w) a b hd r) #[zi c,k,N,yT I.hok U,w,h _ _ (I.tok _) ?_];rw[l];show(n.val k).getD rd
end
def UK(r q p:TE):TE:=λz H Q=>r z H λx u=>∃a,x=.ref a/\Gw u a/\q z u λy n=>p z n λw s=>∃o,Xz s a y o/\Q (o.getD w) s
def yq(q:X.A.units+1<cLine)(p:PE X o n)(he:PE X e l)(j:PE X f i)(m:M2 X o "get" c e f Y):PE X (.Call (.Attribute o "get" c) [e,f] [] Y) (UK n l i):=by
 intro w s z H Q I h;refine wpAny_Call_method m.mB m.few m.line CU HR PySem.F.type_dict_get<|mX (p w s z H _ I h) λu U N=>?_;obtain⟨x,M,r,L,a,J,d,G⟩:=N;subst J;obtain rfl:u=Value.ref a:=L;obtain⟨E,D,_⟩:=Nj r d;refine#[E,D,?_];rw[m.trees];refine yt rfl (Ct (Ag (mX (he w U z M _ r G) λiv x ⟨y,C,B,A,q2⟩ =>
  Ag (mX (j w x z C _ B q2) λfv s3 ⟨y,H3,I3,rz,ov,g,q3⟩=>BU ?_))))
 show RZ q I3 g A rz λw' s4 I4 C8=>#[_,H3,I4,C8,q3]
section
variable {E:lS->lT->Prop}
def UP{Q:lS->lT->Prop}(I:mG X r z H s)(e:Rd H a (.dK kvs))(h:∀p s',H p=none->mG X r z (mH H p<|.dK kvs) s'->Q (.ref p) s'):wpAny (model X.prog X.w) A (call (.type "dict") [.ref a]) Q E s:=by
 obtain⟨y,hd,q,w,n⟩:=rg I.hok e;refine kt_call_dict hd n (by rw[<-w.length];show y) λj x l=>?_
 refine h _ _ (I.hok.fresh<|nw _)<|I.laid (a:=#v[s]) (o:=.dK kvs) (t':=s.toks) (λb q u=>?_) (nw _)<|Dj y (sF.mpr<|pb<|nR I.big) w x;show(l.2 b<|nR<|nI u).trans (nO _ u)
end
end L2
namespace Att
open PySem PySem.W PySem.Calls PyProof.Rows
def TC :∀(ns:lP Int)(vs:lP lS),WellAll P h vs (ns.map WData.int)->IntsAre vs ns:=by
 intro ns
 induction ns with
 | nil =>
  intro vs w;rw[uH]at w;cases w;show .nil
 | cons n ns z =>
  intro vs w;rw[nS]at w;cases w with
  | cons a b =>
   cases a;show .cons _ _<|z _ b
def XN{l:OpenLaw}{n:Nat}(p:l.most=some n){P:Params}{h:lX}{args:lP WData}{vals:lP lS}
  (z:l.row.toRowW.claim.pre args=true) (w:WellAll P h vals args) :
  ∃a vs ns,vals=[Value.ref a]/\args=[WData.list (ns.map WData.int)]/\h.get? a=some {cls:=.type "list",data:=.seq vs.toArray}/\IntsAre vs ns/\ns.length<=n:=by
 have u:WShape.hasAll [] args [.list .int]=true:=(pre_splitW z).1;have s:l.pre.holds [] {args:=args}=true:=(pre_splitW z).2;obtain⟨d,r,rfl,o,j⟩:=hasAllW_cons u;obtain rfl:=hasAllW_nil j;obtain⟨r,rfl,i⟩:=hasW_list o;obtain⟨ns,rfl⟩:=items_int i;have g:ns.length<=n:=by
  unfold OpenLaw.pre at s;have y:(WTm.not<|.lt (.lit<|.int (n:Int))<|.len<|.arg 0).holds [] {args:=[.list (ns.map .int)]}=true:=by
   have y:=(holds_andW s).1;rw[p]at y;show y
  have x:=condW_of y<|w_not<|w_lt w_lit<|w_len_list<|w_arg rfl;rw[mI]at x;refine Nat.le_of_not_lt λq=>?_
  have e:(n:Int)<((ns.length:Nat):Int):=by lia
  first
   | (rw[nM e]at x;show absurd x<|by lk)
   | (simp at x;lia)
 cases w with
 | cons r d =>
  cases d;cases r with
  | list c Y=>show#[_,_,ns,rfl,rfl,c,TC ns _ Y,g]
def WD(l:OpenLaw)(args:lP WData):l.row.toRowW.claim.post args (.bool true) args=true :=
 postW_of (r:=l.row.toRowW) (X:=(true ==true))
  (show WShape.has [] (.bool true) .bool=true by first|rfl|decide|simp[WShape.has,WShape.arms,WShape.armsAll])
  (show(WTm.eq .res<|.lit<|.bool true).value [] {args:=args,res:=some<|.bool true,after:=args}=some (.bool<|true ==true)from w_eq_bool (w_res rfl) w_lit) rfl
def attach_call{l:OpenLaw}{n:Nat}{q:ma}{N:lP lQ}{M:(lQ->lU lS)->lX->Prop}{L:lY->lX->Prop}{d:DefRec}
  (H:l.most=some n) (i:d.params.defaults=[])
  (call:∀(w:lY)(h z:lT)(p g:lQ->lU lS)(x:lR)(o:Obj)(e j c:lS)(a:lR)(vs:lP lS)(ns:lP Int),
   Ground q N [] M w h p g z.heap->L w z.heap->
   z.heap.get? x=some o->o.data=.func (docDef d.name d.params d.body d.scope e j c)->z.heap.CodeRec j d.name->p d.name=some (.ref x)->
   z.heap.get? a=some {cls:=.type "list",data:=.seq vs.toArray}->IntsAre vs ns->ns.length<=n->z.gens=#[]->
   codeAny (model l.prog w) callerA (.call (.ref x) #[[.ref a],[]]) (λr s'=>r=.ok (.ret<|.bool true)/\OldK z.heap s'.heap/\s'.os=z.os/\AllBare s'.gens) z) :
  WalkO q N M L l.row.toRowW d [] (λf vs=>PySem.call f vs):=by
 intro w h z p g G Y x o e j c E kV D hd C J U B args vals as u I A Q hlo;obtain rfl:E=.none:=Dflts.none J i;obtain rfl:kV=.none:=Dflts.noKw J;obtain⟨a,vs,ns,rfl,rfl,s,y,d9⟩:=XN H u Q;refine enter_call<|vw (call w h z p g x o e j c a vs ns G Y D (fd_plain hd) C U s y d9 B) λr s' hq=>?_;obtain⟨rfl,h2,h3,h4⟩:=hq;show#[.inl #[.bool true,.bool true,[],rfl,λ_=>rfl,.bool true,WD l _,λ_=>#[List.Pairwise.nil,λ_ hm=>(nomatch hm)]],h2,h3,h4]
end Att
namespace L2
open PySem PySem.Spec PyProof.Rows
theorem NP:∀{vs:lP lS}{ns:lP Int},IntsAre vs ns->Z6 (ns.map V.int) vs
 | _,_,.nil=>.nil
 | _,_,.cons n t h=>.cons #[t,rfl]<|NP h
end L2
/- THE LAST THEOREM (shape;LID,My.* are yours):
   My.Adr:a structure of the addresses that your layer names (classes,functions);My.Txt K t:a structure (Prop) of the equations over K;
   My.txt_mk:{K} {implicit addresses ..} (e1:nsIn K mainGlobals "law"=some (some<|.ref f)) (e2:K.lookup f=some #[oc,od,.func<|fnOf "law" "law" params body scope dV kV A0 pm an d6 ct,sl]) (e3:codeIn K d6 "law"=true) .. :∃t,My.Txt K t
(the tactic k_is has no namespace:write k_is) -/
namespace L2
open PySem PySem.Spec PyProof.Rows
def Z8(s:lW)(j:Nat):lW:=match s with
 | .ClassDef _ _ _ body _ _ _ _ _ _ _=>body.getD j (.Pass #[0,0,0,0])
 | _=>.Pass #[0,0,0,0]
def W8(s:lW):Arguments:=match s with
 | .FunctionDef _ a _ _ _ _ _ _ _ _=>a
 | _=>{posonlyargs:=[],args:=[],vararg:=none,kwonlyargs:=[],kw_defaults:=[],kwarg:=none,defaults:=[]}
def Y3(s:lW):lP lW:=match s with
 | .FunctionDef _ _ b _ _ _ _ _ _ _=>b
 | _=>[]
def Zk(s:lW):Scope:=match s with
 | .FunctionDef _ _ _ _ _ _ z _ _ _=>z
 | _=>{kind:=.function,names:=[],isGenerator:=false,isCoroutine:=false}
abbrev oP:vI:=λ_ _ _ _ _ _=>False
abbrev E0:XK:=λ_ _ _=>False
def Zz:sK oP X E0:=λ_ _ _ _ _ _ _ h=>h.elim
structure qX(K:Frag)(x qual:Str)(st:Stmt)(f:Addr)(fd:FuncData):Prop where
 ex:∃(oc:Value)(od:Option Addr)(kV A0 pm:Value)(an:Option Addr)(d6 ct:Value)(O7:Array (Option Value)),
  fd=fnOf x qual (W8 st) (Y3 st) (Zk st) .none kV A0 pm an d6 ct/\K.lookup f=some #[oc,od,.func fd,O7]/\codeIn K d6 qual=true
 kp:keepIn K (.ref f)=true
section
variable {P:ma} {w:lY} {K:lV} {mg:lQ->lU lS} {mB:lX}
def qX.ok{x qual:lQ}{st:lW}{f:lR}{fd:me}{N ps:lP lQ}{k:Nat}{y:Sp}(F:qX K x qual st f fd)(S:Zx N ps (Zk st))(len:∀vs H Q E,y vs H Q E->vs.length=ps.length)
  (r:∀(z:lS)(A:md)(u:lP Env)(s:lT)(H:Hp)(vs:lP V)(Q:VK)(E:XK),Y6 k (A.deeper<|envOfC qual (Zk st) #v[s] f z)->y vs H Q E->
   ∃t,qZ (oW oP P w K mg mB N qual (Zk st) f z A u s H E).nox (Y3 st) t/\t {nx:=λ_ p=>Q .non p,rt:=Q} (start N vs) H):Xf P w K mg mB oP (k+1) f fd ps y:=by
 obtain⟨j,i,kV,g,e,d,z,c,a,rfl,lk,o⟩:=F.ex;refine Ea lk o S len λA u s H vs Q E n l=>?_
 obtain⟨t,h,q⟩:=r z A u s H vs Q E n l;show#[t,h.nox,q]
def qX.binds{x qual:lQ}{st:lW}{f:lR}{fd:me}{ps:lP lQ}(F:qX K x qual st f fd)
  (h:∀(kV z y:lS)(u:lU lR)(s r:lS)(us:lP lS),us.length=ps.length->bindArgs (fnOf x qual (W8 st) (Y3 st) (Zk st) .none kV z y u s r) #[us,[]]=pure (ps.zip us)):qv K fd ps []:=by
 obtain⟨q,p,kV,z,y,u,s,r,o,rfl,lk,n⟩:=F.ex;show .all<|h kV z y u s r
def Fg{x qual:lQ}{st:lW}{f:lR}{q:lS}{od y:lU lR}{p:Array (lU lS)}{kV u s z r:lS}(l:K.lookup f=some #[q,od,.func<|fnOf x qual (W8 st) (Y3 st) (Zk st) .none kV u s y z r,p])
  (c:codeIn K z qual=true) (k:keepIn K (.ref f)=true):qX K x qual st f (fnOf x qual (W8 st) (Y3 st) (Zk st) .none kV u s y z r):=#[#[q,od,kV,u,s,y,z,r,p,rfl,l,c],k]
end
def Xo(z:Y6 k A):A.units+1<cLine:=Gq (Nat.add_le_add_left (by lk:1<=64) _) z.units
def Zq(h:n<=1000):n<sizeLine:=Gq h (by lk)
variable {X:Cx}
def pv(i:Nat)(z:X.N[i]? =some x:=by rfl)(y:BV X.env.scope x:=by first|show yM rfl|show zm (yM rfl)|show zm<|zm rfl)(hd:(x ==("__debug__":lQ))=false:=by lk)
  (w:(x ==("__classdict__":lQ))=false:=by lk):PE X (.Name x pos) (rO i):=Ye6 z y hd w
def TN:Xd X (.builtin "len") (λxs H Q=>∃a kvs,xs=[V.ref a]/\H a=some (.dK kvs)/\Q (.int kvs.length) H):=by
 intro p s z H xs o Q I r h;obtain⟨a,kvs,rfl,y,q⟩:=h;obtain⟨u,rfl,x⟩:=qg r;cases x;show TD I (.inl y) λt n w=>#[.int kvs.length,H,w,#[t,rfl],q]
def Yf{c A B:Prop}[Decidable c](z:c->A)(y:¬c->B):if c then A else B:=by
 by_cases h:c
 ·rw[mT h];show z h
 ·rw[mS h];show y h
def mz(H z:Hp):Prop:=∀b o,H b=some o->z b=some o
def mz.refl(H:Hp):mz H H:=λ_ _ h=>h
def mz.trans(a:mz H z)(b:mz z y):mz H y:=λc o h=>b c o<|a c o h
def mz.free(e:mz H z)(h:z l=Option.none):H l=Option.none:=by
 cases q:H l with
 | none=>rfl
 | some o =>
  rw[e l o q]at h;cases h
def mz.seq{K:lV}{H z:Hp}{a:lR}{xs:lP V}(e:mz H z)(h:SqL K H a xs):SqL K z a xs:=by
 rcases h with(h|⟨o,h⟩)|h
 ·show .inl<|.inl<|e _ _ h
 ·show .inl<|.inr #[o,e _ _ h]
 ·show .inr h
end L2
section
namespace L2
open PySem PySem.Spec PyProof.Rows
section
variable {R:Result->lT->Prop}
def Kc(I:Nat->lT->Prop)
  (Q:∀n s,I n s->wpAny (model prog w) A (pyNext it) (λr i=>match r with
   | none=>R (.ok .next) i
   | some v=>wpAny (model prog w) A (letOwnedTupleGo g it v) (λ_ z=>wpAny (model prog w) A (assign g env v) (λ_ d =>
     wpAny (model prog w) A (forIn a true λc r=>if r=true then do let ok <-isTrue c env (eval c env);pure (ForInStep.yield ok)else pure (ForInStep.yield r)) (λok e =>
      if ok=true then wpAny (model prog w) A (eval Y env) (λx u =>
       wpAny (model prog w) A (call (.builtin "list.append") [l,x]) (λ_ q=>∃m,m<n/\I m q) (λ_ _=>False) u) (λ_ _=>False) e
      else ∃m,m<n/\I m e) (λ_ _=>False) d) (λ_ _=>False) z) (λ_ _=>False) i) (λ_ _=>False) s)
  (n:Nat) (h:I n s) :
  codeAny (model prog w) A (.compLoop (.ListComp Y [#[g,N,a,0]] scope pos) 0 it l env) R s:=by
 refine codeAny_loop rfl I (λn s M=>?_) n h;change wpAny _ A ((compTurn (.ListComp Y [#[g,N,a,0]] scope pos) 0 it l env).onRaise (λx=>do noteFrame x env;theTreesLotGoes x)) _ _ s;refine wpAny_noted ?_;rw[compTurn_list];refine mP<|AC<|mP<|pT (Q n s M) (λr i p=>?_) λ_ _ y=>y.elim;cases r with
 | none=>show nq p
 | some v =>
  refine mP<|pT p (λ_ z o=>?_) λ_ _ y=>y.elim;refine mP<|pT o (λ_ d j=>mP<|pT j (λok e U=>?_) λ_ _ y=>y.elim) λ_ _ y=>y.elim;cases ok with
  | false=>show nq #[rfl,U]
  | true =>
   show mP<|mP<|pT U (λx u j=>mP<|pT j (λ_ q L=>nq<|nq #[rfl,L]) λ_ _ y=>y.elim) λ_ _ y=>y.elim
end
def Y0(X:Cx)(scope:Scope)(z:lP (lQ×lR))(y:lP lQ)(s:lT)(H:Hp)(C:lR)(ex:lP lR):Cx where
 prog:=X.prog
 w:=X.w
 K:=X.K
 mg:=X.mg
 mB:=X.mB
 A:=X.A
 N:=y
 mf:=s
 mi:=H
 env:=compEnvC scope z C X.env
 my:=X.stack
 stack:=X.stack
 ex:=ex
 fn:=λ_=>false
 calm:=X.calm
 pn:=[]
 xe:=λ_ _=>False
structure Wt(X:Cx)(scope:Scope)(cl:List (Str×Addr))(N':List Str)(fr:St->St):Prop where
 kind:scope.kind=.function
 cell:∀y∈scope.names,y.2≠.cell
 names:∀y∈scope.names,y.2=.local->scope.names.lookup y.1=some .local
 clos:closureFor scope X.env=pure cl
 sub:∀x c,cl.lookup x=some c->X.env.cells.lookup x=some c
 has:∀x,((relabel scope X.env).names.lookup x=some .cell\/(relabel scope X.env).names.lookup x=some .free)->∃c,cl.lookup x=some c
 len:∀σ:St,σ.length=X.N.length->(fr σ).length=N'.length
 fr:∀(σ:St)(i:Nat)(x:Str)(v:V),N'[i]? =some x->(fr σ)[i]? =some (some v)->BV (relabel scope X.env) x->
  ((relabel scope X.env).names.lookup x=some .cell\/(relabel scope X.env).names.lookup x=some .free)/\
  (X.env.kindOf x=some .cell\/X.env.kindOf x=some .free)/\∃j:Nat,X.N[j]? =some x/\σ[j]? =some (some v)
def Wl(a b:St):Prop:=∀(i:Nat)(v:V),a[i]? =some (some v)->b[i]? =some (some v)
def Wl.set(h:a[i]? =some none):Wl a (a.set i<|some v):=λj u e=>by
 by_cases z:i=j
 ·subst z;rw[h]at e;cases e
 ·rw[Io z];show e
def Wl.trans(h:Wl a b)(k:Wl b c):Wl a c:=λi v e=>k i v<|h i v e
def PF(X:Cx)(x:lP lZ)(t:TT):Prop :=
 ∀(y:lP (lR×Obj)) (s:lT) (z:St) (H:Hp) (Q:Bool->Hp->Prop),mG X y z H s->t z H Q->
  ∅ (forIn x true λc r=>if r=true then do let ok <-isTrue c X.env (eval c X.env);pure (ForInStep.yield ok)else pure (ForInStep.yield r)) (TP X y z Q) X.xe s
def Ay:TT:=λ_ H Q=>Q true H
def Wh:PF X [] Ay:=λ_ _ _ H _ I h=>wpAny_tests_nil #[H,I,h]
def uY(h:PT X c t):PF X [c] t:=λy s z H Q I x=>wpAny_tests_one<|h y s z H Q I x
def sw(J:It)(fr:St->St)(g:TG)(n:TT)(l:TE)(Q:VK)(z:St)(j:Hp)(D:lR):Prop :=
 ∃W:Nat->Nat->lP V->Hp->Prop,(∃m,W 0 m [] (mH j D<|.lst []))/\∀i m u H,W i m u H->
  (J.stop i H/\Q (.ref D) H)\/(J.go i H/\∃N:lP V->Hp->Prop,(∀r s,N r s->∃q,q<m/\W (i+1) q r s)/\
   ∀x s,J.yld i H x s->g x (fr z) s λw h=>Wl (fr z) w/\n w h λb p =>
    if b=true then l w p λy o=>o D=some (.lst u)/\u.length<sizeLine/\N (u++[y]) (mH o D<|.lst<|u++[y])else N u p)
def Dt(x:TI)(fr:St->St)(g:TG)(w:TT)(u:TE):TE:=λz H Q=>x z H λJ y=>∀D,y D=none->sw J fr g w u Q z y D
section
variable {X:Cx} {fr:St->St}
def Yb0(I:mG X l z H s)(S:Wt X scope j i fr)(p:#v[s]<=C)(r:∀b∈n,tF X l H b)(g:∀b∈n,∃o,s.heap.get? b=some o):(Y0 X scope j i s H C n).Ok where
 mod:=I.ok.mod
 kind:=S.kind
 glob:=I.ok.glob
 blt:=I.ok.blt
 above:=p
 inj:=λx y c d a=>I.ok.inj x y c (S.sub x c d) (S.sub y c a)
 has:=λx h=>S.has x h
 cab:=λx c h=>absurd (show false=true from h) oH
 hd:=I.ok.hd
 frames:=I.ok.frames
 stk:=.inl rfl
 exf:=λb u=>by
  obtain⟨o,e⟩:=g b u;refine#[nR<|pM (nI e) p,λx c h=>(r b u).2.2.2.2.1 x c (S.sub x c h)]
 bs:=I.bs
 bsz:=oi I.ok.bsz I.sz
 noex:=λb o e u=>by
  rcases(r b u).2.2.2.1 with w|w
  ·show I.ok.noex b o e w
  ·show absurd (pM (nI e)<|oi I.ok.bsz w) (qR _)
 exfs:=λb u w=>by
  rcases nQ.mp (I.stkSub b w)with q|q
  ·show(r b u).2.1 q
  ·show(r b u).2.2.1 q
 funs:=I.stack
 frf:=I.stkFree
def IJ{n:lQ->lU lS}(I:mG X M z H s)(S:Wt X scope L J fr)(g:#v[s]<C)(h:D=#v[s])(G:∀b∈Y,tF X M H b)(E:∀b∈Y,∃o,s.heap.get? b=some o)
  (w:∀b o,s.heap.get? b=some o->h₁.get? b=some o) (B:h₁.get? D=some {cls:=.type "list",data:=.seq ([]:lP lS).toArray 0}) (A:h₁.Ns C n) (hCz:h₁.objs.size<=C+1) :
  mG (Y0 X scope L J s H C Y) [] (fr z) (mH H D<|.lst []) {s with heap:=h₁,toks:=tk}:=by
 have fD:H D=none:=I.hok.fresh<|wr h.symm;have fC:H C=none:=I.hok.fresh<|uW g;have a:D≠C:=by rw[h];show nR g
 refine#[Yb0 I S (uW g) G E,rfl,I.bare,Un.laid w (wr h.symm) fD,#[n,A,λi x v e1 e2 e3=>?_],λx c e=>?_,?_,λx c e=>?_,λp u=>absurd (show p∈([]:lP (lR×Obj))from u) (by simp),?_,S.len z I.len]
 ·obtain⟨p,U,j,j1,j2⟩:=S.fr z i x v e1 e2 e3;obtain⟨c,Q⟩:=S.has x p;have Q7:=S.sub x c Q;obtain⟨m,_,S7⟩:=I.loc;obtain⟨u,r,l⟩:=S7 j x v j1 j2 (by rcases U with k|k;show .inr<|.inl k;show .inr<|.inr k);refine#[u,r,.inr #[p,c,Q,?_]];rcases l with⟨k,_⟩|⟨_,c2,N,o,y,d⟩
  ·rcases U with q|q<;>(rw[k]at q;cases q)
  ·rw[Q7]at N;cases N;show#[o,w _ _ y,d]
 ·obtain⟨v,o,y,d⟩:=I.cell x c<|S.sub x c e;show#[v,o,w _ _ y,d]
 ·change mH H D (.lst []) C=none;rw[Ze a.symm];show fC
 ·change mH H D (.lst []) c=none;rw[Ze (λy=>?_)]
  ·show I.freeC x c<|S.sub x c e
  ·obtain⟨v,o,q,d⟩:=I.cell x c<|S.sub x c e;have:=nI q;rw[y,h]at this;show qR _ this
 ·show I.hok.laid w (wr h.symm) #[pH _,[],0,.nil,B]
def Jb(I:mG X h z H s)(d:#v[s]<C)(a:∀b∈p,tF X h H b)(J:mG (Y0 X scope D B s H C p) [] (fr z) x s2)(l:Heap.SameBut C s2.heap h') :
  mG X h z x {s2 with heap:=h'}:=by
 have g:x C=none:=J.free;have u:Un (nX X.stack) p H x s.heap s2.heap:=J.mB;have j:∀b o,s.heap.get? b=some o->b≠C:=λb o e=>nR<|ri (nI e) d
 have Y:Un (nX X.stack) p H x s.heap h':=by
  refine#[λb o e n w r=>?_,λb o e n w r=>?_,u.free,λb o e r=>?_,u.tups,u.frzs,u.tbls]
  ·rw[l.2 b (j b o e)];show u.keep b o e n w r
  ·obtain⟨U,q⟩:=u.slot b o e n w r;show#[U,by rw[l.2 b (j b o e)];show q]
  ·obtain⟨U,q⟩:=u.there b o e r;show#[U,by rw[l.2 b (j b o e)];show q]
 have i:oj X.prog X.w x h':=λb o e=>by
  refine(J.hok b o e).stay (λc v Q q=>?_) (λ_ q=>q) λ_ _ q=>q
  have N:c≠C:=by
   rintro rfl;rcases Q with y|y
   ·rw[<-y,g]at e;cases e
   ·rw[g]at y;cases y
  rw[l.2 c N];show q
 refine I.call' (s':={s2 with heap:=h'}) (ch:=p) J.os Y i J.bare λb w=>?_
 obtain⟨_,M,U,L,G,E⟩:=a b w;show#[L,M,G,E]
end
def Yba{fr:St->St}
  (hc:X.calm=true) (S:Wt X scope U L fr) (hi:PI X tg u7 wi) (hg:∀s H C ex,PG (Y0 X scope U L s H C ex) tg g) (hf:∀s H C ex,PF (Y0 X scope U L s H C ex) M9 tf)
  (he:∀s H C ex,PE (Y0 X scope U L s H C ex) O8 te) (hs:∀x,foldedSetIterable u7 X.env x=pure x:=by intro _;rfl):PE X (.ListComp O8 [#[tg,u7,M9,0]] scope pos) (Dt wi fr g tf te):=by
 intro c7 s z H Q I h;rw[eval_ListComp];refine NO (use:=none) rfl hs S.clos S.kind S.names<|mX (hi c7 s z H _ I h) λv d u=>mX u λr s2 h2=>?_;obtain⟨it,a,tn,J,Y,e,I2,T,d7,f2,q⟩:=h2;subst e;refine vP<|Bt S.cell (by intro y u;simp at u) (λl Q8 E5=>?_) S.kind;dsimp only at Q8 E5 ⊢;generalize hP:s2.heap.push {cls:=.type "list",dict:=none,data:=.seq ([]:lP lS).toArray}=P at Q8 E5 ⊢;have hPz:P.objs.size=#v[s2]+1:=by rw[<-hP,ur]
 have G:#v[s2]<P.objs.size:=by rw[hPz];show As _
 have S8:∀b∈a,∃o,s2.heap.get? b=some o:=λb j=>let⟨o,e,_⟩:=T.obj _ _ d7 b j;#[o,e]
 have O9:∀b,b<#v[s2]->b≠P.objs.size:=λb j=>nR<|ri j G
 have old:∀b o,s2.heap.get? b=some o->l.get? b=some o:=λb o e=>E5.extBut b o (O9 b<|nI e)<|nO _<|hP ▸ nO _ e
 have D1:l.get? #v[s2]=some {cls:=.type "list",data:=.seq ([]:lP lS).toArray 0}:=E5.extBut _ _ (nR G)<|nO _<|hP ▸ oK _ rfl;have fD:Y #v[s2]=none:=I2.hok.fresh<|nw _;obtain⟨W,⟨m0,w0⟩,M7⟩:=q #v[s2] fD;have hz:l.objs.size<=P.objs.size+1:=by
  have e:=E5.1;rw[ur]at e;show wr e
 have V3:tn 0 l:=T.keep _ _ _ d7 λb j o e=>old b o e
 have E9:∀{x9:lP (lR×Obj)}{M:Hp},(∀p∈x9,p.1∉a)->(∀b∈a,M b=none)->∀b∈a,tF (Y0 X scope U L s2 Y P.objs.size a) x9 M b:=λ{x9 M} hp hn b j=>by
  obtain⟨o,e⟩:=S8 b j;obtain⟨_,f1,f2',u,f4,r⟩:=f2 b j;refine#[hn b j,O9 b<|nI e,λw=>?_,.inl j,λx c h=>f4 x c<|S.sub x c h,λp C9 w=>?_]
  ·rcases nQ.mp (I2.stkSub b w)with q|q
   ·show f1 q
   ·show f2' q
  ·have u:p∈x9:=by simpa[Y0]using C9
   show hp p u (by rw[w];show j)
 have E:∀A:lT,A={s2 with heap:=l,toks:=s2.toks+([]:lP (lQ×lS)).length}->
   codeAny (model X.prog X.w) X.A (.compLoop (.ListComp O8 [#[tg,u7,M9,0]] scope pos) 0 (.ref it) (.ref #v[s2])<|compEnvC scope U P.objs.size X.env) (compPost (model X.prog X.w) X.A X.xe none (EP X c7 z Q) (.ref #v[s2]) P.objs.size) A:=by
  rintro A rfl;have I3:mG (Y0 X scope U L s2 Y P.objs.size a) [] (fr z) (mH Y #v[s2] (.lst [])) {s2 with heap:=l,toks:=s2.toks+([]:lP (lQ×lS)).length}:=IJ I2 S G rfl f2 S8 old D1 Q8 hz;refine Kc (λn u=>∃i ys M,mG (Y0 X scope U L s2 Y P.objs.size a) [] (fr z) M u/\tn i u.heap/\(∀b∈a,M b=none)/\W i n ys M) ?_ m0 #[0,[],_,I3,V3,λb j=>?_,w0]
  ·rintro n A ⟨i,ys,H3,I3,v6,fr3,w3⟩;rcases M7 i n ys H3 w3 with⟨stop,qn⟩|⟨go,N,hN,step⟩
   ·refine mX (T.done (Y0 X scope U L s2 Y P.objs.size a) rfl rfl rfl hc i [] A (fr z) H3 _ I3 (E9 (by simp) fr3) v6 stop) λr s4 ⟨hr,d⟩=>?_
    subst hr;obtain⟨c,u,_⟩:=d.loc;show#[c,u,λD J=>#[.ref #v[s2],H3,Jb I2 G f2 d J,rfl,qn]]
   ·refine mX (T.item (Y0 X scope U L s2 Y P.objs.size a) rfl rfl rfl hc i [] A (fr z) H3 _ I3 (E9 (by simp) fr3) v6 go) λr s4 ⟨u,hr,h4⟩=>?_
    subst hr;refine mX h4 λ_ s5 h9=>?_
    obtain⟨x,H5,I5,r5,y5,A5,fr5⟩:=h9;have I5':=I5.pinned (E9 (by simp) fr5)<|T.obj _ _ A5;refine mX (hg s2 Y P.objs.size a _ s5 (fr z) H5 x u _ I5' r5<|step x H5 y5) λ_ s6 ⟨J,H6,I6,kp,q6⟩=>?_
    refine mX (hf s2 Y P.objs.size a _ s6 J H6 _ I6 q6) λok s7 ⟨H7,I7,q7⟩=>?_
    have C5:∀{D:St}{B:Hp}{s8:lT}{c:lP V},Wl (fr z) D->mG (Y0 X scope U L s2 Y P.objs.size a) ([]++yX a s5.heap) D B s8->N c B->
      ∃m,m<n/\∃i ys M,mG (Y0 X scope U L s2 Y P.objs.size a) [] (fr z) M s8/\tn i s8.heap/\(∀b∈a,M b=none)/\W i m ys M:=λ{D B s8 c} kp8 I8 n8=>by
     obtain⟨m',hm,w8⟩:=hN c B n8;refine#[m',hm,i+1,c,B,(I8.unpinned).weak (by rw[I8.len];show S.len z I2.len) kp8,T.keep _ _ _ A5 λb j o e=>(I8.pin (b,o)<|qc _<|qc _<|yp j e).1,λb j=>?_,w8];obtain⟨o,e,d⟩:=T.obj _ _ A5 b j;show(I8.pin (b,o)<|qc _<|qc _<|yp j e).2.1
    cases ok with
    | false=>show C5 kp I7 q7
    | true =>
     refine mX (he s2 Y P.objs.size a _ s7 J H7 _ I7 q7) λuy s8 h9=>?_
     obtain⟨y,B,I8,r8,d,hz8,q8⟩:=h9;show mX (GQ _ s8 J B (.ref #v[s2]) [y] (.ref #v[s2]) [uy] (λ_ H9=>N (ys++[y]) H9) I8 rfl (.cons r8 .nil) #[d,hz8,q8]) λ_ s9 ⟨v9,H9,I9,_,q9⟩=>C5 kp I9 q9
  ·change mH Y #v[s2] (.lst []) b=none;obtain⟨o,e⟩:=S8 b j;rw[Ze (nR<|nI e)];show(f2 b j).1
 show codeAny_compStart_list (E _ rfl)<|T.self X.A 0 _ _ _ V3<|E _ rfl
section
variable {K:lV} {a:lR} {fr:St->St} {g:TG} {tf:TT} {te:TE} {Q:VK} {σ:St} {H1:Hp} {D:lR}
def qG(fr:St->St)(g:TG)(tf:TT)(te:TE)(σ:St)(D:lR)(x:V)(w:lP V)(H:Hp)(N:lP V->Hp->Prop):Prop :=
 g x (fr σ) H λz r=>Wl (fr σ) z/\tf z r λb u=>if b=true then te z u λy s=>s D=some (.lst w)/\w.length<sizeLine/\N (w++[y]) (mH s D<|.lst<|w++[y])else N w u
def Xc(Pv:Nat->lP V->Hp->Prop)(u:Pv 0 [] (mH H1 D<|.lst []))(s:∀i z H,i<=xs.length->Pv i z H->SqL K H a xs)
  (r:∀i x z H,xs[i]? =some x->Pv i z H->qG fr g tf te σ D x z H (Pv<|i+1)) (hd:∀z H,Pv xs.length z H->Q (.ref D) H):sw (tW K a) fr g tf te Q σ H1 D:=by
 refine#[λi m z H=>m=xs.length-i/\i<=xs.length/\Pv i z H,#[xs.length,by simp,pH _,u],?_];rintro i m z H ⟨rfl,o,p⟩;have q:=s i z H o p
 by_cases w:i<xs.length
 ·refine .inr #[#[xs,xs[i],q,oA w],Pv<|i+1,λj n l=>#[xs.length-(i+1),tX _ _ w,rfl,w,l],λx n y=>?_];obtain⟨e,y⟩:=y;subst e;show r i x z _ (y xs q) p
 ·have e:i=xs.length:=by lia
  subst e;show .inl #[#[xs,q,nw _],hd z H p]
def FI(Pv:Nat->lP V->Hp->Prop)(u:Pv 0 [] (mH H1 D<|.lst []))(s:∀i z H,i<=xs.length->Pv i z H->SqT K H a xs)
  (r:∀i x z H,xs[i]? =some x->Pv i z H->qG fr g tf te σ D x z H (Pv<|i+1)) (hd:∀z H,Pv xs.length z H->Q (.ref D) H):sw (zt K a) fr g tf te Q σ H1 D:=by
 refine#[λi m z H=>m=xs.length-i/\i<=xs.length/\Pv i z H,#[xs.length,by simp,pH _,u],?_];rintro i m z H ⟨rfl,o,p⟩;have q:=s i z H o p
 by_cases w:i<xs.length
 ·refine .inr #[#[xs,xs[i],q,oA w],Pv<|i+1,λj n l=>#[xs.length-(i+1),tX _ _ w,rfl,w,l],λx n y=>?_];obtain⟨e,y⟩:=y;subst e;show r i x z _ (y xs q) p
 ·have e:i=xs.length:=by lia
  subst e;show .inl #[#[xs,q,nw _],hd z H p]
def MP{lo:Int}{n:Nat}(Pv:Nat->lP V->Hp->Prop)(u:Pv 0 [] (mH H1 D<|.lst []))
  (s:∀i z H,i<n->Pv i z H->qG fr g tf te σ D (.int<|lo+i) z H (Pv<|i+1)) (hd:∀z H,Pv n z H->Q (.ref D) H):sw (wa lo n) fr g tf te Q σ H1 D:=by
 refine#[λi m z H=>m=n-i/\i<=n/\Pv i z H,#[n,by simp,pH _,u],?_];rintro i m z H ⟨rfl,y,p⟩
 by_cases w:i<n
 ·refine .inr #[w,Pv<|i+1,λo r q=>#[n-(i+1),tX _ _ w,rfl,w,q],λx r y=>?_];obtain⟨e,y⟩:=y;subst e y;show s i z _ w p
 ·have e:i=n:=by lia
  subst e;show .inl #[nw _,hd z H p]
def Ek(x:lQ):It:=#[λi _=>i<x.cps.size,λi H v z=>z=H/\∃c,x.cps[i]? =some c/\v=.str #[(List.toArray [c])],λi _=>x.cps.size<=i]
def Vd(Pv:Nat->lP V->Hp->Prop)(u:Pv 0 [] (mH H1 D<|.lst []))
  (s:∀i c z H,x.cps[i]? =some c->Pv i z H->qG fr g tf te σ D (.str #[(List.toArray [c])]) z H (Pv<|i+1)) (hd:∀z H,Pv x.cps.size z H->Q (.ref D) H):sw (Ek x) fr g tf te Q σ H1 D:=by
 refine#[λi m z H=>m=x.cps.size-i/\i<=x.cps.size/\Pv i z H,#[x.cps.size,by simp,pH _,u],?_];rintro i m z H ⟨rfl,y,p⟩
 by_cases w:i<x.cps.size
 ·refine .inr #[w,Pv<|i+1,λl r q=>#[x.cps.size-(i+1),tX _ _ w,rfl,w,q],λv r y=>?_];obtain⟨e,c,o,n⟩:=y;subst e n;show s i c z _ o p
 ·have e:i=x.cps.size:=by lia
  subst e;show .inl #[nw _,hd z H p]
end
def Ug{P:ma}{w:lY}{K:lV}{D:lZ}(it:lR)(x:lQ)(t:Tok):vV P w K D (Ek x) [it] it (λi h=>h.IsStrIter it "str_ascii_iterator" x t i) where
 mem:=by simp
 obj:=λi h st b u=>by
  have e:b=it:=by simpa using u
  subst e;obtain⟨o,e,c,d⟩:=st;show#[o,e,λv y=>by rw[d]at y;cases y]
 keep:=λi h q st k=>by
  obtain⟨o,e,r⟩:=st;show#[o,k it (by simp) o e,r]
 item:=by
  intro X n l j M i L s z H E I p st g;subst n l j;obtain⟨a,Y,C,U,Q,N⟩:=p it (by simp);have J:i<x.cps.size:=g;refine wpAny_pyNext_ascii_item st (c:=x.cps[i]) (by simp[J]) λq G B=>?_
  have A:mG X L z H {s with heap:=q,toks:=s.toks+1}:=I.turned (λb o u e=>(B.2 b u).trans e) a Y U Q N;obtain⟨o,e,c,d⟩:=id G;show#[_,rfl,zY (s:={s with heap:=q,toks:=s.toks+1}) e c d (by lk) #[.str #[(List.toArray [x.cps[i]])],H,A,#[_,rfl],#[rfl,_,by simp[J],rfl],G,λb u=>(p b u).1]]
 done:=by
  intro X n l j M i L s z H E I p st g;subst n l j;obtain⟨a,Y,C,U,Q,N⟩:=p it (by simp);have G9:x.cps.size<=i:=g;show wpAny_pyNext_ascii_end (I.ok.hd M) st (by simp[G9]) λq eb=>#[rfl,I.turned (t':=s.toks) (λb o u e=>eb b o u e) a Y U Q N]
 self:=λ_ _ _ _ _ st h=>wpAny_pyIter_striter_ascii st h
def YV(y:TE):TI:=λz H R=>y z H λv w=>∃x,v=.str x/\x.cps.all (· < 128)=true/\R (Ek x) w
def Ul{X:Cx}{p l:lZ}{r:TE}(n:PE X l r):PI X p l (YV r):=by
 intro j s z H R I h;refine mX (n j s z H _ I h) λv w ⟨y,i,u,g,d⟩=>?_
 obtain⟨x,e,c,q⟩:=d;subst e;obtain⟨t,rfl⟩:=g;refine wpAny_pyIter_ascii c ?_;refine#[#v[w],[#v[w]],_,_,i,rfl,u.kept (t':=w.toks) λb o e=>nO _ e,Ug _ x t,#[_,oK _ rfl,rfl,rfl],λb a=>?_,q];have e:b=#v[w]:=by simpa using a
 subst e;show u.fpOk (nw _)<|u.hok.fresh<|nw _
theorem Z6.at_bool:∀{bs:lP Bool}{us:lP lS}{i:Nat}{u:lS},Z6 (bs.map V.bl) us->us[i]? =some u->∃b,bs[i]? =some b/\u=.bool b
 | [],_,_,_,.nil,e=>by simp at e
 | b ::bs,_,0,u,.cons r _,e=>by
  simp at e;subst e;show#[b,rfl,r]
 | b ::bs,_,i+1,u,.cons _ t,e=>by
  obtain⟨c,z,y⟩:=Z6.at_bool (i:=i) t (by simpa using e);show#[c,by simpa using z,y]
def UH(bs:lP Bool):(List.range bs.length).all (λi=>bs.getD i false)=bs.all id:=by
 have e:(List.range bs.length).map (λi=>bs.getD i false)=bs:=by
  apply List.ext_getElem
  ·simp
  ·intro i z y;simp at z;simp[z]
 calc (List.range bs.length).all (λi=>bs.getD i false)=((List.range bs.length).map (λi=>bs.getD i false)).all id:=by rw[List.all_map];rfl
  _=bs.all id:=by rw[e]
def RT(l:X.calm=true):Xd X (.builtin "all") (λxs H Q=>∃(p:lR)(bs:lP Bool),xs=[.ref p]/\SqL X.K H p (bs.map V.bl)/\Q (.bl<|bs.all id) H):=by
 intro N s z H xs M Q I r h;obtain⟨p,bs,rfl,j,q⟩:=h;obtain⟨u,rfl,g⟩:=qg r;cases g;obtain⟨x,n,w,y⟩:=I.list j;have d:p<#v[s]:=by obtain⟨_,_,e,_⟩:=w;show nI e
 refine call_all_walk<|xC w.isList ?_;refine#[#v[s],_,_,x.toArray.size,_,_,λi=>bs.getD i false,rfl,Cu (A:=X.A.in1) (show X.A.in1.handled=none from I.ok.hd l) #v[s] p (nR d) x.toArray,#[#[_,oK _ rfl,rfl,rfl],w.isList.push _],?_,λy c k=>?_]
 ·intro i v u o L a Y;obtain⟨b,U,rfl⟩:=Z6.at_bool (i:=i) n (by simpa using a);refine uP ?_;have e:bs.getD i false=b:=by rw[tN,U];rfl
  have y:o (bs.getD i false) u:=Y;rw[e]at y;show y
 ·have u:=n.length;rw[mI]at u;refine#[.bl<|bs.all id,H,?_,?_,q]
  ·refine I.kept (t':=c) λb o e=>k b o ?_<|nO _ e
   have:=nI e;intro y;have a:b=#v[s]:=by simpa using y
   rw[a]at this;show qR _ this
  ·change Value.bool ((List.range x.toArray.size).all λi=>bs.getD i false)=Value.bool (bs.all id);rw[oz,<-u,UH]
def Zst:Xd X (.builtin "isinstance") (λxs H Q=>∃x c b t,xs=[x,c]/\Xi X.K H x t/\((∃n,c=.ty n/\kitOne X.K t (.type n)=some b)\/∃a,c=.ref a/\kitOne X.K t (.ref a)=some b)/\Q (.bl b) H):=by
 intro l s z H xs j Q I r h;obtain⟨x,c,b,t,rfl,w,k,q⟩:=h;obtain⟨u,i,rfl,p,o⟩:=ww r;rcases k with⟨n,rfl,k⟩|⟨a,rfl,k⟩
 ·cases o;show Kz I p w k λy=>#[.bl b,H,I.tok y,rfl,q]
 ·cases o;show Kz I p w k λy=>#[.bl b,H,I.tok y,rfl,q]
def Oh:V->lU Int->lU Int->Hp->VK->Prop:=λx lo y H Q=>∃z,x=.str z/\z.length<=sizeLine/\Q (.str<|Txt.slice z lo y) H
def ZZ:sv X Oh:=by
 intro U s z H x v N M lo L J Q I c a Y e h;obtain⟨y,rfl,r,q⟩:=h;obtain⟨t,rfl⟩:=c;refine#["str",_,F.slot_str_getitem.lookup,xj _ _ _,?_];obtain⟨o,p,n,hd⟩:=a;cases Y with
 | none =>
  cases e with
  | none=>show Ed (l:=none) (u:=none) (st:=none) #[o,p,n,hd] rfl (DA #[oi (Cd y none none) r,λw k=>#[.str<|Txt.slice y none none,H,I.tok k,#[w,rfl],q]])
  | int j g=>show Ed (l:=none) (u:=some (j,g)) (st:=none) #[o,p,n,hd] rfl (DA #[oi (Cd y none<|some j) r,λw k=>#[.str<|Txt.slice y none<|some j,H,I.tok k,#[w,rfl],q]])
 | int i d =>
  cases e with
  | none=>show Ed (l:=some (i,d)) (u:=none) (st:=none) #[o,p,n,hd] rfl (DA #[oi (Cd y (some i) none) r,λw k=>#[.str<|Txt.slice y (some i) none,H,I.tok k,#[w,rfl],q]])
  | int j g=>show Ed (l:=some (i,d)) (u:=some (j,g)) (st:=none) #[o,p,n,hd] rfl<|DA #[oi (Cd y (some i)<|some j) r,λw k=>#[.str<|Txt.slice y (some i)<|some j,H,I.tok k,#[w,rfl],q]]
def Ju(M:St->Hp->St->Hp->Prop)(t:TS):TS:=λD z H=>t {D with nx:=M z H} z H/\∀y x,M z H y x->D.nx y x
def UG{X:Cx}{st:lW}{t:TS}(M:St->Hp->St->Hp->Prop)(h:PS X st t):PS X st (Ju M t):=by
 intro r s z H D I x;refine mX (h r s z H {D with nx:=M z H} I x.1) λf p q=>?_
 cases f with
 | next=>obtain⟨y,w,u,m⟩:=q;show#[y,w,u,x.2 y w m]
 | brk=>show q
 | cont=>show q
 | ret u=>show q
def AG:lZ->Bool
 | .Starred .. =>false
 | _=>true
def AJ(h:AG e=true):starEach (e ::z) env=(false,eval e env) ::starEach z env:=by
 cases e<;>first
  | rfl
  | show absurd h oH
def Zb(z:PE X e y)(x:PA X w t)(h:AG e=true:=by rfl):PA X (e ::w) (uk y t):=ZS z x<|AJ h
structure WSs(X:Cx)(b:List Stmt)(D:pX)(σ:St)(H:Hp):Prop where
 run:∀(c7:List (Addr×Obj)) (s:Shared),mG X c7 σ H s->∅ (execs b X.env) (SP X c7 D) X.xe s
structure WS(X:Cx)(st:Stmt)(D:pX)(σ:St)(H:Hp):Prop where
 run:∀(c7:List (Addr×Obj)) (s:Shared),mG X c7 σ H s->∅ (exec st X.env) (SP X c7 D) X.xe s
structure WE(X:Cx)(e:Expr)(σ:St)(H:Hp)(Q:VK):Prop where
 run:∀(c7:List (Addr×Obj)) (s:Shared),mG X c7 σ H s->∅ (eval e X.env) (EP X c7 σ Q) X.xe s
section
variable {X:Cx} {b Zs:lP lW} {st:lW} {e:lZ} {D:pX} {σ:St} {H:Hp} {t:TS} {te:TE} {Q:VK}
def Zn:qZ X b (WSs X b):=λz s _ _ _ I h=>h.run z s I
def UT:PS X st (WS X st):=λz s _ _ _ I h=>h.run z s I
def AF:PE X e (WE X e):=λz s _ _ _ I h=>h.run z s I
def WSs.of(h:qZ X b t)(q:t D σ H):WSs X b D σ H:=#[λz s I=>h z s σ H D I q]
def WS.of(h:PS X st t)(q:t D σ H):WS X st D σ H:=#[λz s I=>h z s σ H D I q]
def WE.of(h:PE X e te)(q:te σ H Q):WE X e σ H Q:=#[λz s I=>h z s σ H Q I q]
def WSs.step(h:PS X st t)(q:t {D with nx:=WSs X Zs D} σ H):WSs X (st ::Zs) D σ H:=WSs.of (Uk h Zn) q
def WSs.last(h:PS X st t)(q:t D σ H):WSs X [st] D σ H:=WSs.of (Ybu h) q
def WSs.nil(q:D.nx σ H):WSs X [] D σ H:=WSs.of Zi q
def WSs.cut(M:St->Hp->Prop)(h:WS X st {D with nx:=M} σ H)(k:∀z y,M z y->WSs X Zs D z y):WSs X (st ::Zs) D σ H:=by
 refine WSs.step (t:=Ju (λ_ _=>M)<|WS X st) (UG (λ_ _=>M) UT) #[h,λz y m=>k z y m]
end
def vf{z:Type}(P:z->Prop):lP z->Prop
 | []=>True
 | a ::l=>P a/\vf P l
theorem vf.mem{z:Type}{P:z->Prop}:∀{l:lP z}{a:z},vf P l->a∈l->P a
 | _ ::_,a,h,m=>by
  rcases nQ.mp m with rfl|m
  ·show h.1
  ·show vf.mem h.2 m
theorem Nn{env:Env}:∀{names:lP (lQ×NameKind)}{x:lQ},names.lookup x=some .free->
  (names.map λ(n,k)=>if(k ==NameKind.free && env.scope.kind ==.function && env.kindOf n ==some .cell)then(n,NameKind.cell)else(n,k)).lookup x=some .cell\/
  (names.map λ(n,k)=>if(k ==NameKind.free && env.scope.kind ==.function && env.kindOf n ==some .cell)then(n,NameKind.cell)else(n,k)).lookup x=some .free
 | [],_,h=>by simp at h
 | (n,k) ::r,x,h=>by
  have w:=@Nn env r x
  by_cases z:x ==n
  ·have u:k=.free:=by
    rw[rE,z]at h;show oo h
   subst u
   by_cases y:(NameKind.free ==NameKind.free && env.scope.kind ==.function && env.kindOf n ==some .cell)=true
   ·left
    rw[nS];change List.lookup x ((if _ then(n,NameKind.cell)else(n,NameKind.free)) ::_)=_;rw[mT y,rE,z]
   ·right
    rw[nS];change List.lookup x ((if _ then(n,NameKind.cell)else(n,NameKind.free)) ::_)=_;rw[mS y,rE,z]
  ·have z:(x ==n)=false:=by simpa using z
   rw[rE,z]at h;have q:=w h;rw[nS];have e:∀(b:Bool)(l:lP (lQ×NameKind)),List.lookup x ((if b=true then(n,NameKind.cell)else(n,k)) ::l)=l.lookup x:=λb l=>by
    cases b<;>simp[rE,z]
   rcases q with q|q
   ·show .inl<|(e _ _).trans q
   ·show .inr<|(e _ _).trans q
def Mn{env:Env}:∀{names:lP (lQ×NameKind)}{x:lQ},
    ((names.map λ(n,k)=>if(k ==NameKind.free && env.scope.kind ==.function && env.kindOf n ==some .cell)then(n,NameKind.cell)else(n,k)).lookup x=some .cell\/
     (names.map λ(n,k)=>if(k ==NameKind.free && env.scope.kind ==.function && env.kindOf n ==some .cell)then(n,NameKind.cell)else(n,k)).lookup x=some .free)->
    names.lookup x=some .cell\/names.lookup x=some .free
  | [],_,h=>by simp at h
  | (n,k) ::r,x,h=>by
    have w:=@Mn env r x;rw[nS]at h
    by_cases y:x ==n
    · rw[rE,y];have e:∀(c:Prop) [Decidable c] (l:lP (lQ×NameKind)),List.lookup x ((if c then(n,NameKind.cell)else(n,k)) ::l)=some (if c then .cell else k):=λc _ l=>by
        split<;>rw[rE,y]
      rcases h with h|h
      · have h:=(e _ _).symm.trans h;have h:=oo h;split at h
        · rename_i c
          right
          have:k=.free:=by
            rw[qx,qx]at c;simpa using c.1.1
          rw[this]
        · left;rw[h]
      · have h:=(e _ _).symm.trans h;have h:=oo h;split at h
        · cases h
        · right;rw[h]
    · have y:(x ==n)=false:=by simpa using y
      have e:∀(c:Prop) [Decidable c] (l:lP (lQ×NameKind)),List.lookup x ((if c then(n,NameKind.cell)else(n,k)) ::l)=l.lookup x:=λc _ l=>by
        split<;>rw[rE,y]
      rw[rE,y];show w<|h.imp (λz=>(e _ _).symm.trans z) λz=>(e _ _).symm.trans z
def Wt.std{X:Cx}{scope:Scope}{l:lP (lQ×lR)}{d:lP lQ}(n:Nat)(r:lP Nat)(kind:scope.kind=.function)(cell:∀y∈scope.names,y.2≠.cell)
  (names:∀y∈scope.names,y.2=.local->scope.names.lookup y.1=some .local) (clos:closureFor scope X.env=pure l) (L:vf (λp=>X.env.cells.lookup p.1=some p.2) l)
  (Q:(scope.names.all λy=>y.2 !=.free || ((l.lookup y.1).isSome && (X.env.kindOf y.1 ==some .cell || X.env.kindOf y.1 ==some .free)))=true)
  (J:d.length=n+r.length) (I:vf (λp:Nat×Nat=>∃x,d[n+p.1]? =some x/\X.N[p.2]? =some x/\scope.names.lookup x=some .free) ((List.range r.length).zip r)) :
  Wt X scope l d (λz=>List.replicate n none++r.map λj=>(z[j]?).join) where
 kind:=kind
 cell:=cell
 names:=names
 clos:=clos
 sub:=λx c h=>vf.mem (P:=λp=>X.env.cells.lookup p.1=some p.2) (a:=(x,c)) L (rL h)
 has:=λx h=>by
  rcases Mn (env:=X.env) h with h|h
  ·show absurd rfl<|cell _<|rL h
  ·have q:=wE.mp Q _<|rL h;simp only[DI,GC,qx]at q;show Hr.mp q.1
 len:=λz _=>by simp[J]
 fr:=λz i x v H u _=>by
  have G:n<=i:=by
   rcases yR i n with g|Y
   ·rw[Gx (by simpa using g),EI,mT g]at u;cases u
   ·show Y
  rw[Ci (by simpa using G),Mv,nK]at u;cases s:r[i-n]? with
  | none=>rw[s]at u;cases u
  | some j =>
   rw[s]at u;have u:(z[j]?).join=some v:=oo u;have g:i-n<r.length:=by
    rcases yR (i-n) r.length with w|w
    ·show w
    ·rw[vO w]at s;cases s
   have E:(i-n,j)∈(List.range r.length).zip r:=by
    rw[List.mem_iff_getElem?];refine#[i-n,?_];rw[List.getElem?_zip_eq_some];show#[by simp[g],s]
   obtain⟨o,U,D,N⟩:=vf.mem I E;have e:n+(i-n)=i:=by lia
   simp only[e]at U;rw[H]at U;cases U;have q:=wE.mp Q _<|rL N;simp only[DI,GC,qx,By,rG]at q;refine#[Nn N,q.2,j,D,?_];cases M:z[j]? with
   | none=>rw[M]at u;cases u
   | some o=>rw[M]at u;show oJ some u
inductive Tr where
 | non|int (i:Int)|str (x:Str)|tup (ts:List Tr)|lst (ts:List Tr)
noncomputable instance:DecidableEq Tr:=λ_ _=>Classical.propDecidable _
mutual
inductive Im(K:Frag)(H:Hp):Nat->Tr->V->Prop where
 | non {n:Nat}:Im K H n .non .non
 | int {n:Nat} (i:Int):Im K H n (.int i) (.int i)
 | str {n:Nat} (x:Str):Im K H n (.str x) (.str x)
 | tupI {n:Nat} {a:Addr} {xs:List V} {ts:List Tr}:SqT K H a xs->vh K H n ts xs->Im K H (n+1) (.tup ts) (.ref a)
 | lstI {n:Nat} {a:Addr} {xs:List V} {ts:List Tr}:SqL K H a xs->vh K H n ts xs->Im K H (n+1) (.lst ts) (.ref a)
inductive vh(K:Frag)(H:Hp):Nat->List Tr->List V->Prop where
 | nil {n:Nat}:vh K H n [] []
 | cons {n:Nat} {t:Tr} {v:V} {ts:List Tr} {vs:List V}:Im K H n t v->vh K H n ts vs->vh K H n (t ::ts) (v ::vs)
end
theorem vh.toP{K:lV}{H:Hp}{n:Nat}:∀{ts:lP Tr}{xs:lP V},vh K H n ts xs->Paired (Im K H n) ts xs
 | [],_,h=>by cases h;show .nil
 | _ ::_,_,h=>by
  cases h with
  | cons r t=>show .cons r t.toP
theorem vh.ofP{K:lV}{H:Hp}{n:Nat}:∀{ts:lP Tr}{xs:lP V},Paired (Im K H n) ts xs->vh K H n ts xs
 | _,_,.nil=>.nil
 | _,_,.cons r t=>.cons r<|vh.ofP t
def Im.tup{K:lV}{H:Hp}{n:Nat}{a:lR}{xs:lP V}{ts:lP Tr}(z:SqT K H a xs)(ps:Paired (Im K H n) ts xs):Im K H (n+1) (.tup ts) (.ref a):=.tupI z<|.ofP ps
def Im.lst{K:lV}{H:Hp}{n:Nat}{a:lR}{xs:lP V}{ts:lP Tr}(z:SqL K H a xs)(ps:Paired (Im K H n) ts xs):Im K H (n+1) (.lst ts) (.ref a):=.lstI z<|.ofP ps
theorem Paired.get{z y:Type}{R:z->y->Prop}:∀{l₁:lP z}{l₂:lP y}{i:Nat}{a:z},Paired R l₁ l₂->l₁[i]? =some a->∃b,l₂[i]? =some b/\R a b
 | _,_,_,_,.nil,e=>by simp at e
 | _,_,0,_,.cons r _,e=>by simp at e;subst e;show#[_,rfl,r]
 | _,_,i+1,a,.cons _ t,e=>by
  obtain⟨u,x,w⟩:=Paired.get (i:=i) (a:=a) t (by simpa using e);show#[u,by simpa using x,w]
theorem Paired.get'{y z:Type}{R:y->z->Prop}:∀{l₁:lP y}{l₂:lP z}{i:Nat}{b:z},Paired R l₁ l₂->l₂[i]? =some b->∃a,l₁[i]? =some a/\R a b
 | _,_,_,_,.nil,e=>by simp at e
 | _,_,0,_,.cons r _,e=>by simp at e;subst e;show#[_,rfl,r]
 | _,_,i+1,a,.cons _ t,e=>by
  obtain⟨u,x,w⟩:=Paired.get' (i:=i) (b:=a) t (by simpa using e);show#[u,by simpa using x,w]
def Paired.append{z y:Type}{R:z->y->Prop}{x:lP z}{w:lP y}{u:lP z}{q:lP y}(h:Paired R x w)(s:Paired R u q):Paired R (x++u) (w++q):=by
 induction h with
 | nil=>show s
 | cons r t p=>show .cons r p
theorem Paired.strs{K:lV}{H:Hp}{n:Nat}:∀xs:lP lQ,Paired (Im K H n) (xs.map Tr.str) (xs.map V.str)
 | []=>.nil
 | x ::xs=>.cons (.str x)<|Paired.strs (K:=K) (H:=H) (n:=n) xs
def mz.at(e:mz H z)(h:H b=some o):z b=some o:=e b o h
def mz.new(h:H p=none):mz H (mH H p o):=λb u e=>by rw[Ze (Zg e h)];show e
def Paired.uniq{z y:Type}{R:z->y->Prop}(f:∀a w b,R a b->R w b->a=w){l x:lP z}{m:lP y}(h:Paired R l m)(h':Paired R x m):l=x:=by
 induction h generalizing x with
 | nil=>cases h';rfl
 | cons r t u=>cases h' with
  | cons s q=>rw[f _ _ _ r s,u q]
variable {X:Cx}
def mG.lt_excl(I:mG X u z H s)(h:SqL X.K H a xs)(h':SqT X.K H a r):False:=by
 obtain⟨q,_,x,_⟩:=I.list h;obtain⟨y,_,w,_⟩:=I.tuple h';show SeqAt.ne_of_list_tuple x.isList (show s.heap.IsTuple a y.toArray from w) rfl
def Im.inj(I:mG X g z H s):∀{n:Nat}{t u:Tr}{v:V},Im X.K H n t v->Im X.K H n u v->t=u:=by
 intro n
 induction n with
 | zero=>intro t u v h r;cases h<;>cases r<;>rfl
 | succ n j =>
  intro t u v h r;cases h with
  | non=>cases r;rfl
  | int i=>cases r;rfl
  | str x=>cases r;rfl
  | tupI p o =>
   cases r with
   | tupI q w =>
    have e:=I.tuple_inj p q;subst e;rw[Paired.uniq (R:=Im X.K H n) (λ_ _ _ y l=>j y l) o.toP w.toP]
   | lstI q w=>show(I.lt_excl q p).elim
  | lstI p o =>
   cases r with
   | tupI q w=>show(I.lt_excl p q).elim
   | lstI q w =>
    have e:=I.list_inj p q;subst e;rw[Paired.uniq (R:=Im X.K H n) (λ_ _ _ y l=>j y l) o.toP w.toP]
def Yl(h:SeqAt.EqAt A s u v b)(e:b=z):SeqAt.EqAt A s u v z:=e ▸ h
def Ke(ts us:lP Tr):(((List.range<|min ts.length us.length).all λj=>decide<|ts[j]? =us[j]?) && ts.length ==us.length)=decide (ts=us):=by
 rw[sj];simp only[qx,wE,zI,yf,rG]
 constructor
 ·rintro⟨h,e⟩;refine List.ext_getElem? λi=>?_
  by_cases z:i<ts.length
  ·show h i (by lia)
  ·rw[vO (by lia),vO<|by lia]
 ·rintro rfl;show#[λ_ _=>rfl,rfl]
def Ss{ts us:lP Tr}(h:ts.length=us.length):((List.range ts.length).all λj=>decide<|ts[j]? =us[j]?)=decide (ts=us):=by
 have q:=Ke ts us;rw[h,Nat.min_self,yl,Bool.and_true]at q;rw[h];show q
def Wu(A:md):A.in1.units=A.units+1:=rfl
def BD
  (d:∀{t u:Tr}{x y:V}{l h:lS},Im X.K H n t x->Im X.K H n u y->Yj x l->Yj y h->SeqAt.EqAt A s l h (decide<|t=u))
  (ps:Paired (Im X.K H n) ts xs) (c:Paired (Im X.K H n) us q) (g:Z6 xs z) (e:Z6 q its') :
  ∀j (p:j<z.toArray.size) (o:j<its'.toArray.size),SeqAt.EqAt A s z.toArray[j] its'.toArray[j] (decide<|ts[j]? =us[j]?):=by
 intro j p o;have a:=g.length;have Y:=e.length;have w:j<xs.length:=by simpa[a]using p
 have r:j<q.length:=by simpa[Y]using o
 obtain⟨t,U,Q⟩:=Paired.get' ps (i:=j) (b:=xs[j]) (by simp[w]);obtain⟨u,N,M⟩:=Paired.get' c (i:=j) (b:=q[j]) (by simp[r]);obtain⟨L,J,I⟩:=g.get (i:=j) (x:=xs[j]) (by simp[w]);obtain⟨G,E,D⟩:=e.get (i:=j) (x:=q[j]) (by simp[r]);have C:z.toArray[j]=L:=by
  have:z[j]? =some z.toArray[j]:=by simp[show j<z.length by simpa using p]
  rw[J]at this;show(oo this).symm
 have B:its'.toArray[j]=G:=by
  have:its'[j]? =some its'.toArray[j]:=by simp[show j<its'.length by simpa using o]
  rw[E]at this;show(oo this).symm
 rw[C,B,U,N];refine Yl (d Q M I D) ?_;rw[sj];simp
def Im.tuple_rc(I:mG X G z H s)
  (l:∀{t u:Tr}{x y:V}{i h:lS},Im X.K H n t x->Im X.K H n u y->Yj x i->Yj y h->SeqAt.EqAt A.in1 s i h (decide<|t=u)) (g:A.units<cLine)
  (Y:SqT X.K H a xs) (ps:Paired (Im X.K H n) ts xs) (U:SqT X.K H b Q) (q:Paired (Im X.K H n) us Q) :
  SeqAt.RcAt A s (.ref a) (.ref b) (decide<|Tr.tup ts=Tr.tup us)/\SeqAt.RcNeAt A s (.ref a) (.ref b) (!decide (Tr.tup ts=Tr.tup us)):=by
 obtain⟨r,p,d,_⟩:=I.tuple Y;obtain⟨w,o,c,_⟩:=I.tuple U;have N:=p.length;have M:=o.length;have L:=nG ps;have J:=nG q;have e:((List.range<|min r.toArray.size w.toArray.size).all (λj=>decide<|ts[j]? =us[j]?) && r.toArray.size ==w.toArray.size)=decide (Tr.tup ts=Tr.tup us):=by
  rw[oz,oz,<-N,<-M,<-L,<-J,Ke,sj];simp
 constructor
 ·rw[<-e];show SeqAt.RcAt.tuples (show s.heap.IsTuple a r.toArray from d) (show s.heap.IsTuple b w.toArray from c) g<|BD l ps q p o
 ·rw[<-e];show SeqAt.RcNeAt.tuples (show s.heap.IsTuple a r.toArray from d) (show s.heap.IsTuple b w.toArray from c) g<|BD l ps q p o
def Im.list_rc(I:mG X E z H s){n:Nat}{A:md}{a b:lR}{ts us:lP Tr}{xs c:lP V}
  (Y:∀{t u:Tr}{x y:V}{U Q:lS},Im X.K H n t x->Im X.K H n u y->Yj x U->Yj y Q->SeqAt.EqAt A.in1 s U Q (decide<|t=u)) (p:A.units<cLine)
  (M:SqL X.K H a xs) (ps:Paired (Im X.K H n) ts xs) (L:SqL X.K H b c) (i:Paired (Im X.K H n) us c) :
  SeqAt.RcAt A s (.ref a) (.ref b) (decide<|Tr.lst ts=Tr.lst us)/\SeqAt.RcNeAt A s (.ref a) (.ref b) (!decide (Tr.lst ts=Tr.lst us)):=by
 obtain⟨h,g,o,_⟩:=I.list M;obtain⟨r,d,l,_⟩:=I.list L;have J:=g.length;have D:=d.length;have G:=nG ps;have C:=nG i
 by_cases N:ts.length=us.length
 ·have e:((List.range h.toArray.size).all λj=>decide<|ts[j]? =us[j]?)=decide (Tr.lst ts=Tr.lst us):=by
   rw[oz,<-J,<-G,Ss N,sj];simp
  have q:h.toArray.size=r.toArray.size:=by rw[oz,oz];lia
  constructor
  ·rw[<-e];show SeqAt.RcAt.lists o.isList l.isList q p<|BD Y ps i g d
  ·rw[<-e];show SeqAt.RcNeAt.lists o.isList l.isList q p<|BD Y ps i g d
 ·have e:decide (Tr.lst ts=Tr.lst us)=false:=og λw=>N (by injection w with w;rw[w])
  have q:(h.toArray.size !=r.toArray.size)=true:=by rw[oz,oz];simp;lia
  rw[e];show#[SeqAt.RcAt.lists_lengths o.isList l.isList q p,SeqAt.RcNeAt.lists_lengths o.isList l.isList q p]
def Im.eqAt(I:mG X c7 z H s):∀(n:Nat)(A:md){t u:Tr}{x y:V}{Q N:lS},Im X.K H n t x->Im X.K H n u y->Yj x Q->Yj y N->A.units+n<cLine->SeqAt.EqAt A s Q N (decide<|t=u):=by
 intro n
 induction n with
 | zero =>
  intro A t u x y Q N h M c o C;cases h<;>cases M<;>show Yl (Ap c o rfl rfl) (by rw[sj];(delta rc;simp))
 | succ n B =>
  intro A t u x y Q N h M c o C;have e:A.units<cLine:=by lia
  have D:A.in1.units+n<cLine:=by rw[Wu];lia
  have J:∀{t u:Tr}{x y:V}{Q N:lS},Im X.K H n t x->Im X.K H n u y->Yj x Q->Yj y N->SeqAt.EqAt A.in1 s Q N (decide<|t=u):=λw z' r r'=>B A.in1 w z' r r' D
  cases h with
  | @tupI _ a xs ts L G =>
   cases c;obtain⟨E,rv,U,_⟩:=I.tuple L;cases M with
   | non=>cases o;show Yl (SeqAt.EqAt.tuple_none (show s.heap.IsTuple _ E.toArray from U) e) (og λw=>nomatch w).symm
   | int i=>obtain⟨g,rfl⟩:=o;show Yl (SeqAt.EqAt.tuple_int i g (show s.heap.IsTuple _ E.toArray from U) e) (og λw=>nomatch w).symm
   | str i=>obtain⟨g,rfl⟩:=o;show Yl (SeqAt.EqAt.tuple_str i g (show s.heap.IsTuple _ E.toArray from U) e) (og λw=>nomatch w).symm
   | @tupI _ b ys us l p =>
    cases o
    by_cases Y:a=b
    ·subst Y;rw[Im.inj I (Im.tupI L G) (Im.tupI l p),nM rfl];show Br _
    ·show SeqAt.EqAt.of_refs Y (Im.tuple_rc I J e L G.toP l p.toP).1
   | lstI l p =>
    cases o;obtain⟨q,P9,d,_⟩:=I.list l;show Yl (SeqAt.EqAt.tuple_list (show s.heap.IsTuple _ E.toArray from U) d.isList e) (og λw=>nomatch w).symm
  | @lstI _ a xs ts L G =>
   cases c;obtain⟨E,rv,U,_⟩:=I.list L;cases M with
   | non=>cases o;show Yl (SeqAt.EqAt.list_none U.isList e) (og λw=>nomatch w).symm
   | int i=>obtain⟨g,rfl⟩:=o;show Yl (SeqAt.EqAt.list_int i g U.isList e) (og λw=>nomatch w).symm
   | str i=>obtain⟨g,rfl⟩:=o;show Yl (SeqAt.EqAt.list_str i g U.isList e) (og λw=>nomatch w).symm
   | tupI l p =>
    cases o;obtain⟨q,P9,d,_⟩:=I.tuple l;show Yl (SeqAt.EqAt.list_tuple U.isList (show s.heap.IsTuple _ q.toArray from d) e) (og λw=>nomatch w).symm
   | @lstI _ b ys us l p =>
    cases o
    by_cases Y:a=b
    ·subst Y;rw[Im.inj I (Im.lstI L G) (Im.lstI l p),nM rfl];show Br _
    ·show SeqAt.EqAt.of_refs Y (Im.list_rc I J e L G.toP l p.toP).1
  | non =>
   cases c;cases M with
   | non=>cases o;show Yl (Br _) (nM rfl).symm
   | int i=>obtain⟨g,rfl⟩:=o;show Yl (SeqAt.EqAt.none_int i g) (og λw=>nomatch w).symm
   | str i=>obtain⟨g,rfl⟩:=o;show Yl (SeqAt.EqAt.none_str i g) (og λw=>nomatch w).symm
   | tupI l p=>cases o;obtain⟨q,_,d,_⟩:=I.tuple l;show Yl (SeqAt.EqAt.none_tuple (show s.heap.IsTuple _ q.toArray from d) e) (og λw=>nomatch w).symm
   | lstI l p=>cases o;obtain⟨q,_,d,_⟩:=I.list l;show Yl (SeqAt.EqAt.none_list d.isList e) (og λw=>nomatch w).symm
  | int j =>
   cases M with
   | tupI l p=>obtain⟨g,rfl⟩:=c;cases o;obtain⟨q,_,d,_⟩:=I.tuple l;show Yl (SeqAt.EqAt.int_tuple j g (show s.heap.IsTuple _ q.toArray from d) e) (og λw=>nomatch w).symm
   | lstI l p=>obtain⟨g,rfl⟩:=c;cases o;obtain⟨q,_,d,_⟩:=I.list l;show Yl (SeqAt.EqAt.int_list j g d.isList e) (og λw=>nomatch w).symm
   | _=>show Yl (Ap c o rfl rfl) (by rw[sj];(delta rc;simp))
  | str j =>
   cases M with
   | tupI l p=>obtain⟨g,rfl⟩:=c;cases o;obtain⟨q,_,d,_⟩:=I.tuple l;show Yl (SeqAt.EqAt.str_tuple j g (show s.heap.IsTuple _ q.toArray from d) e) (og λw=>nomatch w).symm
   | lstI l p=>obtain⟨g,rfl⟩:=c;cases o;obtain⟨q,_,d,_⟩:=I.list l;show Yl (SeqAt.EqAt.str_list j g d.isList e) (og λw=>nomatch w).symm
   | _=>show Yl (Ap c o rfl rfl) (by rw[sj];(delta rc;simp))
def Cq(K:lV)(neg:Bool):R2:=λx y H Q=>∃n t u,n<=60/\((∃z w,t=Tr.tup z/\u=Tr.tup w)\/∃z w,t=Tr.lst z/\u=Tr.lst w)/\Im K H n t x/\Im K H n u y/\Q (.bl<|if neg then !decide (t=u)else decide (t=u)) H
def WN{X:Cx}(M:X.A.units+64<cLine):nV X (compareOp .Eq) (Cq X.K false):=by
 intro L s z H x y v u Q I e d h;obtain⟨n,t,J,G,Y,c,a,q⟩:=h;rcases Y with⟨U,N,rfl,rfl⟩|⟨U,N,rfl,rfl⟩
 ·cases c with
  | tupI o l =>
   cases a with
   | tupI j p =>
    cases e;cases d;show(Im.tuple_rc (A:=X.A) I (λw i r g=>Im.eqAt I _ _ w i r g<|by rw[Wu];lia) (by lia) o l.toP j p.toP).1 _ _ _ _ #[.bl _,H,I,rfl,q]
 ·cases c with
  | lstI o l =>
   cases a with
   | lstI j p =>
    cases e;cases d;show(Im.list_rc (A:=X.A) I (λw i r g=>Im.eqAt I _ _ w i r g<|by rw[Wu];lia) (by lia) o l.toP j p.toP).1 _ _ _ _ #[.bl _,H,I,rfl,q]
def Ut{X:Cx}(M:X.A.units+64<cLine):nV X (compareOp .NotEq) (Cq X.K true):=by
 intro L s z H x y v u Q I e d h;obtain⟨n,t,J,G,Y,c,a,q⟩:=h;rcases Y with⟨U,N,rfl,rfl⟩|⟨U,N,rfl,rfl⟩
 ·cases c with
  | tupI o l =>
   cases a with
   | tupI j p =>
    cases e;cases d;show(Im.tuple_rc (A:=X.A) I (λw i r g=>Im.eqAt I _ _ w i r g<|by rw[Wu];lia) (by lia) o l.toP j p.toP).2 _ _ _ _ #[.bl _,H,I,rfl,q]
 ·cases c with
  | lstI o l =>
   cases a with
   | lstI j p =>
    cases e;cases d;show(Im.list_rc (A:=X.A) I (λw i r g=>Im.eqAt I _ _ w i r g<|by rw[Wu];lia) (by lia) o l.toP j p.toP).2 _ _ _ _ #[.bl _,H,I,rfl,q]
def QA(t:TA):TE:=λz H Q=>t z H λx w=>x.length<=sizeLine/\∀p y,mz w y->w p=none->y p=some (.tup x)->Q (.ref p) y
def VG(t:TA):TE:=λz H Q=>t z H λx w=>x.length<=sizeLine/\∀p y,mz w y->w p=none->y p=some (.lst x)->Q (.ref p) y
def Zj{n}(h:PA X l t):PE X (.Tuple l n pos) (QA t):=by
 intro j s z H Q I i;refine wpAny_Tuple_spliced<|mX (h pos j s z H _ I i) λg x ⟨d,w,p,r,y,q⟩=>#[by rw[<-r.length];show y,?_];have o:w #v[x]=none:=p.hok.fresh<|nw _;refine#[.ref #v[x],mH w #v[x] (.tup d),p.laid (t':=x.toks) (λb u e=>nO _ e) (nw _) ?_,rfl,q _ _ (mz.new o) o Zd];show#[y,g,r,#[_,oK _ rfl,rfl,_,rfl]]
def Zo(h:PA X n t):PE X (.List n pos) (VG t):=by
 intro l s z H Q I j;refine wpAny_List_spliced<|mX (h pos l s z H _ I j) λi x ⟨g,w,p,r,y,q⟩=>#[by rw[<-r.length];show y,?_];have o:w #v[x]=none:=p.hok.fresh<|nw _;refine#[.ref #v[x],mH w #v[x] (.lst g),p.laid (t':=x.toks) (λb u e=>nO _ e) (nw _) ?_,rfl,q _ _ (mz.new o) o Zd];show#[y,i,0,r,oK _ rfl]
def nV.imp{f:lS->lS->Sem lS}(h:nV X f r)(g:∀x y H Q,w x y H Q->r x y H Q):nV X f w:=λp s z H x y v u Q I o n q=>h p s z H x y v u Q I o n<|g _ _ _ _ q
def sv.imp{r y:V->lU Int->lU Int->Hp->VK->Prop}(h:sv X r)(g:∀x l u H Q,y x l u H Q->r x l u H Q):sv X y:=λw s z H x v p o lo n j Q I i e d c q=>h w s z H x v p o lo n j Q I i e d c<|g _ _ _ _ _ q
def Xd.imp{r y:lP V->Hp->VK->Prop}(h:Xd X f r)(g:∀xs H Q,y xs H Q->r xs H Q):Xd X f y:=λx s z H xs w Q I u q=>h x s z H xs w Q I u<|g _ _ _ q
def pK(H:Hp)(o:HO)(Q:VK):Prop:=∀p z,mz H z->H p=none->z p=some o->Q (.ref p) z
def pK.at(h:pK H o Q)(p:lR)(z:H p=none):Q (.ref p) (mH H p o):=h p _ (mz.new z) z Zd
inductive Px(H:Hp)(Q:VK):V->V->Prop
 | mk {l b xs zs}:H l=some (.lst xs)->H b=some (.lst zs)->xs.length+zs.length<=sizeLine->pK H (.lst<|xs++zs) Q->Px H Q (.ref l) (.ref b)
def JA:R2:=λx y H Q=>Px H Q x y
def SM:nV X (binaryOp .Add) JA:=Yfv.imp λx y H Q h=>by
 obtain@⟨l,b,z,w,u,s,r,q⟩:=h;show#[l,b,z,w,rfl,rfl,u,s,r,λp o=>q.at p o]
inductive Ll(K:Frag)(lo hi:Option Int)(H:Hp)(Q:VK):V->Prop
 | mk {a xs}:SqT K H a xs->¬(HT.sIx xs.length 0 lo=0/\HT.sIx xs.length xs.length hi=xs.length)->pK H (.tup<|rh xs lo hi) Q->Ll K lo hi H Q (.ref a)
def KA(K:lV):V->lU Int->lU Int->Hp->VK->Prop:=λx lo z H Q=>Ll K lo z H Q x
def VN:sv X (KA X.K):=VC.imp λx l u H Q h=>by
 obtain@⟨a,z,y,w,s⟩:=h;show#[a,z,rfl,y,w,λp r=>s.at p r]
inductive QC(K:Frag)(lo hi:Option Int)(H:Hp)(Q:VK):V->Prop
 | mk {a xs}:SqL K H a xs->pK H (.lst<|rh xs lo hi) Q->QC K lo hi H Q (.ref a)
def Pf(K:lV):V->lU Int->lU Int->Hp->VK->Prop:=λx lo z H Q=>QC K lo z H Q x
def Zze:sv X (Pf X.K):=YN.imp λx l u H Q h=>by
 obtain@⟨a,z,y,w⟩:=h;show#[a,z,rfl,y,λp s=>w.at p s]
def wM(o:lP V->Hp->VK->Prop)(M:Mk X.K C f)
  (F:Xf X.prog X.w X.K X.mg X.mB l k f fd ps j) (i:Y6 (k+1) X.A) (g:Gl X x) (d:X.mg x=some (.ref C)) (c:qv X.K fd ps ds) (hd:Z6 a ds) (Y:sK l X E)
  (u:∀vs H Q,o vs H Q->∀x y,H x=none->H y=none->y≠x->j (.ref x ::(vs++a)) (mH (mH H y<|.own x) x<|.ins C y []) (λv U=>v=.non/\Q (.ref x) U) E)
  (N:PA X (e ::w) t) (L:(x ==("__debug__":lQ))=false:=by lk) (he:starEach (e ::w) X.env=(false,eval e X.env) ::starEach w X.env:=by rfl) (J:(backTo pos<|starEach w X.env).any (·.1)=false:=by rfl) :
  PE X (.Call (.Name x p) (e ::w) [] pos) (xY o t):=by
 intro G s z H Q I h;refine vR<|xv I g d ?_ L;refine zG (h₀:=X.mB) I.ok.mod.kin M.kp (mX (N pos G s z H _ I h) λB A ⟨vs,D,n,r,q⟩=>#[n.kIn,?_]) he J;show RG M F i c hd Y n r<|u vs D Q q
def Rn(w:X.A.units+1<cLine):nV X (compareOp .In) (λy x H Q=>∃a o,x=.ref a/\Xz H a y o/\Q (.bl o.isSome) H):=by
 intro j s z H y x v u Q I r p h;obtain⟨a,n,rfl,g,q⟩:=h;cases p;show Yis w I g r λi l=>#[.bl n.isSome,H,l,rfl,q]
def RN(w:X.A.units+1<cLine):nV X (compareOp .NotIn) (λy x H Q=>∃a o,x=.ref a/\Xz H a y o/\Q (.bl (!o.isSome)) H):=by
 intro j s z H y x v u Q I r p h;obtain⟨a,n,rfl,g,q⟩:=h;cases p;show Ybx w I g r λi l=>#[.bl (!n.isSome),H,l,rfl,q]
def Wo:nV X (binaryOp .Add) (λx y H Q=>vm (λi j=>.int<|i+j) x y H Q\/(∃i j,x=.str i/\y=.str j/\i.length+j.length<=sizeLine/\Q (.str<|i++j) H)\/JA x y H Q):=UN.or<|Zt4.or SM
def sz(h:n<=1000):n<=sizeLine:=uW<|Zq h
structure xh(K:Frag)(x qual:Str)(st:Stmt)(dV:Value)(f:Addr)(fd:FuncData):Prop where
 ex:∃(oc:Value)(od:Option Addr)(kV A0 pm:Value)(an:Option Addr)(d6 ct:Value)(O7:Array (Option Value)),
  fd=fnOf x qual (W8 st) (Y3 st) (Zk st) dV kV A0 pm an d6 ct/\K.lookup f=some #[oc,od,.func fd,O7]/\codeIn K d6 qual=true
 kp:keepIn K (.ref f)=true
section
variable {P:ma} {w:lY} {K:lV} {mg:lQ->lU lS} {mB:lX}
def xh.ok{x qual:lQ}{st:lW}{r:lS}{f:lR}{fd:me}{N ps:lP lQ}{k:Nat}{y:Sp}(F:xh K x qual st r f fd)(S:Zx N ps (Zk st))(len:∀vs H Q E,y vs H Q E->vs.length=ps.length)
  (q:∀(z:lS)(A:md)(u:lP Env)(s:lT)(H:Hp)(vs:lP V)(Q:VK)(E:XK),Y6 k (A.deeper<|envOfC qual (Zk st) #v[s] f z)->y vs H Q E->
   WSs (oW oP P w K mg mB N qual (Zk st) f z A u s H E).nox (Y3 st) {nx:=λ_ p=>Q .non p,rt:=Q} (start N vs) H):Xf P w K mg mB oP (k+1) f fd ps y:=by
 obtain⟨j,i,kV,h,g,e,z,d,c,rfl,lk,o⟩:=F.ex;refine Ea lk o S len λA u s H vs Q E n l=>?_
 show#[_,qZ.nox Zn,q z A u s H vs Q E n l]
def qX.okW{x qual:lQ}{st:lW}{f:lR}{fd:me}{N ps:lP lQ}{k:Nat}{z:Sp}(F:qX K x qual st f fd)(S:Zx N ps (Zk st))
  (y:∀(d6:lS)(A:md)(my:lP Env)(s:lT)(H:Hp)(vs:lP V)(Q:VK)(E:XK),Y6 k (A.deeper<|envOfC qual (Zk st) #v[s] f d6)->z vs H Q E->
   let X:=(oW oP P w K mg mB N qual (Zk st) f d6 A my s H E).nox;let D:pX:={nx:=λ_ u=>Q .non u,rt:=Q};WSs X (Y3 st) D (start N vs) H) (len:∀vs H Q E,z vs H Q E->vs.length=ps.length:=by rintro _ _ _ _ ⟨⟩<;>subst_vars<;>rfl):Xf P w K mg mB oP (k+1) f fd ps z :=
 F.ok S len λd6 A my s H vs Q E hr h=>#[_,Zn,y d6 A my s H vs Q E hr h]
def qX.okA{x qual:lQ}{st:lW}{f:lR}{fd:me}{ps:lP lQ}{k:Nat}{z:Sp}(F:qX K x qual st f fd)
  (y:∀(d6:lS)(A:md)(my:lP Env)(s:lT)(H:Hp)(vs:lP V)(Q:VK)(E:XK),Y6 k (A.deeper<|envOfC qual (Zk st) #v[s] f d6)->z vs H Q E->
   let X:=(oW oP P w K mg mB ps qual (Zk st) f d6 A my s H E).nox;let D:pX:={nx:=λ_ u=>Q .non u,rt:=Q};WSs X (Y3 st) D (start ps vs) H) (len:∀vs H Q E,z vs H Q E->vs.length=ps.length:=by rintro _ _ _ _ ⟨⟩<;>subst_vars<;>rfl) (S:Zx ps ps (Zk st):=by show{}):Xf P w K mg mB oP (k+1) f fd ps z:=F.okW S y len
def Ng{x qual:lQ}{st:lW}{f:lR}{p y:lS}{od u:lU lR}{o:Array (lU lS)}{kV s r z q:lS}(l:K.lookup f=some #[p,od,.func<|fnOf x qual (W8 st) (Y3 st) (Zk st) y kV s r u z q,o])
  (c:codeIn K z qual=true) (k:keepIn K (.ref f)=true):xh K x qual st y f (fnOf x qual (W8 st) (Y3 st) (Zk st) y kV s r u z q):=#[#[p,od,kV,s,r,u,z,q,o,rfl,l,c],k]
end
structure Dn(K:Frag)(x qual:Str)(st:Stmt)(ps:List Str) where
 f:Addr
 fd:FuncData
 F:qX K x qual st f fd
 b:qv K fd ps []
def GM{z:Type}{l:lP z}{a:z}(h:l[i]? =some a):l.drop i=a ::l.drop (i+1):=by
 have x:i<l.length:=by
  rcases yR i l.length with y|y
  ·show y
  ·rw[vO y]at h;cases h
 rw[wo x];rw[oA x]at h;rw[oo h]
theorem Y8:∀l:lP lQ,(l.map V.str).all sX=true
 | []=>rfl
 | _ ::l=>by rw[nS,FT,Y8 l];rfl
theorem Xw(x:lQ):∀l:lP lQ,ud (.str x) (l.map V.str)=decide (x∈l)
 | []=>by simp[ud]
 | y ::l=>by
  have z:=Xw x l;unfold ud at z ⊢;rw[nS,xN,z,sj]
  delta rc
  simp only[By,rG,yf,nQ]
  constructor
  ·rintro(h|h)
   ·show .inl h.symm
   ·show .inr h
  ·rintro(h|h)
   ·show .inl h.symm
   ·show .inr h
end L2
end
section
namespace NM
open PySem L2
def qL:lP Nat:=[97,98,99,100,101,102,103,104,105,106,107,108,109,110,111,112,113,114,115,116,117,118,119,120,121,122]
def BP:("abcdefghijklmnopqrstuvwxyz":lQ).cps.toList=qL:=by left
def Dg:("abcdefghijklmnopqrstuvwxyz":lQ).length=26:=by left
end NM
end
section
namespace L2
open PySem PySem.Spec PyProof.Rows
def Td:HO->Bool
 | .dK _=>true
 | .dT _=>true
 | _=>false
variable {X:Cx}
def oj.retold(x:oj P w H h)(hd:H d=some v)(r:∀y,v≠.own y)(p:∀xs,v≠.tup xs)(n:∀o y,v≠.frz o (.own y))(l:∀ps,v≠.tbl ps)(new:Yc P w (mH H d u) h d u):oj P w (mH H d u) h:=λb q e=>by
 by_cases s:b=d
 ·subst s;rw[Zd]at e;cases e;show new
 ·rw[Ze s]at e;refine(x b q e).stay (λ_ _ _ z=>z) (λc z=>?_) (λc xs z=>?_) (λc j z=>?_) (λc ps z=>?_)
  ·rw[Ze (λy=>by subst y;rw[hd]at z;show r _<|oo z)];show z
  ·rw[Ze (λy=>by subst y;rw[hd]at z;show p _<|oo z)];show z
  ·rw[Ze (λy=>by subst y;rw[hd]at z;show n _ _<|oo z)];show z
  ·rw[Ze (λy=>by subst y;rw[hd]at z;show l _<|oo z)];show z
def IU(hd:H d=some v)(s:∀y,v≠.own y)(r:∀xs,v≠.tup xs)(q:∀o y,v≠.frz o (.own y))(p:∀ps,v≠.tbl ps)(x:Yc P w H h d u):Yc P w (mH H d n) h d u :=
 x.stay (λ_ _ _ z=>z) (λc z=>by rw[Ze (λy=>by subst y;rw[hd]at z;show s _<|oo z)];show z) (λc xs z=>by rw[Ze (λy=>by subst y;rw[hd]at z;show r _<|oo z)];show z) (λc l z=>by rw[Ze (λy=>by subst y;rw[hd]at z;show q _ _<|oo z)];show z) (λc ps z=>by rw[Ze (λy=>by subst y;rw[hd]at z;show p _<|oo z)];show z)
def mG.retell(I:mG X h z H s)(hd:H d=some v)(g:∀y,v≠.own y)(l:∀xs,v≠.tup xs)(a:∀o y,v≠.frz o (.own y))(j:∀ps,v≠.tbl ps)(Y:∀o u,X.mi d≠some (.frz o u))(new:Yc X.prog X.w (mH H d i) s.heap d i) :
  mG X h z (mH H d i) s:=by
 have r:∀b,H b=none->b≠d:=λb n x=>by subst x;rw[n]at hd;cases hd
 refine#[I.ok,I.os,I.bare,?_,I.loc,I.cell,?_,λw c e=>?_,λp U=>?_,I.hok.retold hd g l a j new,I.len]
 ·have b:=I.mB;refine#[b.keep,b.slot,λc q e n Q=>?_,b.there,λc xs e=>?_,λc N q e=>?_,λc ps e=>?_]
  ·have x:=b.free c q e n Q;rw[Ze (r c x)];show x
  ·have x:=b.tups c xs e;rw[Ze (λy=>by subst y;rw[hd]at x;show l _<|oo x)];show x
  ·have x:=b.frzs c N q e;rw[Ze (λy=>by subst y;show Y _ _ e)];show x
  ·obtain⟨m,x⟩:=b.tbls c ps e;show#[m,by rw[Ze (λy=>by subst y;rw[hd]at x;show j _<|oo x)];show x]
 ·rw[Ze (r _ I.free)];show I.free
 ·rw[Ze (r _<|I.freeC w c e)];show I.freeC w c e
 ·obtain⟨Q,q,N⟩:=I.pin p U;show#[Q,by rw[Ze (r _ q)];show q,N]
def mG.notFrz(I:mG X x z H s)(hd:H d=some v)(n:∀o u,v≠.frz o u):∀o u,X.mi d≠some (.frz o u):=λo u y=>by
 have:=I.mB.frzs d o u y;rw[hd]at this;show n _ _<|oo this
def mG.freeze(I:mG X n z H s)(hd:H d=some u)(w:Td u=true)(l:s.heap.get? d=some o):mG X n z (mH H d<|.frz o u) s:=by
 have r:∀y,u≠.own y:=λy x=>by subst x;cases w
 have q:∀j,u≠.tup j:=λy x=>by subst x;cases w
 have p:∀o y,u≠.frz o (.own y):=λo y x=>by subst x;cases w
 refine I.retell hd r q p (λy x=>by subst x;cases w) (I.notFrz hd λ_ _ x=>by subst x;cases w) #[l,IU hd r q p (λy x=>by subst x;cases w)<|I.hok d u hd]
def mG.thaw(I:mG X p z H s)(hd:H d=some (.frz o u))(n:∀o u,X.mi d≠some (.frz o u))(l:∀y,u≠.own y:=by show λ_ x=>nomatch x):mG X p z (mH H d u) s:=by
 obtain⟨_,q⟩:=I.hok d _ hd;have w:∀r y,HO.frz o u≠.frz r (.own y):=λr y x=>l y (HO.frz.inj x).2
 show I.retell hd (λ_ x=>nomatch x) (λ_ x=>nomatch x) w (λ_ x=>nomatch x) n<|IU hd (λ_ x=>nomatch x) (λ_ x=>nomatch x) w (λ_ x=>nomatch x) q
def mz.thaw(hd:H d=some u)(h:mz (mH H d<|.frz o u) y):mz H (mH y d u):=λb q e=>by
 by_cases z:b=d
 ·subst z;rw[hd]at e;cases e;show Zd
 ·rw[Ze z];show h b q (by rw[Ze z];show e)
def mz.rd(e:mz H z)(h:Rd H a u):Rd z a u:=by
 rcases h with h|⟨o,h⟩
 ·show .inl<|e _ _ h
 ·show .inr #[o,e _ _ h]
def Bj(d:lR)(o:Obj)(kvs:lP (mZ×V)):It :=
 #[λi H=>H d=some (.frz o<|.dK kvs)/\i<kvs.length,λi H x z=>z=H/\∃kv,kvs[i]? =some kv/\x=kV kv.1,λi H=>H d=some (.frz o<|.dK kvs)/\kvs.length<=i]
def FM(h:(Z4 P w).is k u=true):Yj (kV k) u:=by
 rcases Xg (show wk k u=true from h)with⟨i,t,rfl,rfl⟩|⟨x,t,rfl,rfl⟩
 ·show#[t,rfl]
 ·show#[t,rfl]
def KV.get{kvs:lP (mZ×V)}{vs:lP (mZ×lS)}{i:Nat}{kv:mZ×V}(r:KV kvs vs)(h:kvs[i]? =some kv):∃u,vs[i]? =some (kv.1,u)/\Yj kv.2 u:=by
 obtain⟨q,z,y,x⟩:=Paired.get r h;show#[q.2,by rw[z,y],x]
def ZG{P:ma}{w:lY}{K:lV}{tg:lZ}{d:lR}{o:Obj}{kvs:lP (mZ×V)}{vs:lP (mZ×lS)}{ep:Nat}(it:lR)(G:KV kvs vs)
  (D:∀h:lX,h.get? d=some o->h.DictAt (Z4 P w) d vs ep):vV P w K tg (Bj d o kvs) [it] it (λi h=>h.IsKeyIter it d i vs.length ep) where
 mem:=by simp
 obj:=λi h st b x=>by
  have e:b=it:=by simpa using x
  subst e;obtain⟨q,e,c,l⟩:=st;show#[q,e,λv y=>by rw[l]at y;cases y]
 keep:=λi h p st k=>st.at λq e=>k it (by simp) q e
 item:=by
  intro X j g a C i B s z H E I n st Y;subst j g a;obtain⟨U,A⟩:=Y;obtain⟨Q,N,f2,M,L,J⟩:=n it (by simp);have r:s.heap.get? d=some o:=(I.hok d _ U).1;obtain⟨u,hu,_⟩:=G.get (i:=i) (kv:=kvs[i]) (by simp[A]);refine wpAny_pyNext_dict_item (knd:=Z4 X.prog X.w) st (D _ r) hu λkey p J6 J5 sb=>?_
  have I1:mG X B z H {s with heap:=p}:=I.turned (t':=s.toks) (λb o x e=>(sb.2 b x).trans e) Q N M L J;obtain⟨q,e,c,l⟩:=id J5;show#[key,rfl,zY (s:={s with heap:=p}) e c l (by lk) #[kV kvs[i].1,H,I1,FM J6,#[rfl,kvs[i],by simp[A],rfl],J5,λb x=>(n b x).1]]
 done:=by
  intro X j g a C i B s z H E I n st Y;subst j g a;obtain⟨U,y⟩:=Y;obtain⟨Q,N,f2,M,L,J⟩:=n it (by simp);have r:s.heap.get? d=some o:=(I.hok d _ U).1;have hl:=KV.length G;show wpAny_pyNext_dict_end (knd:=Z4 X.prog X.w) (I.ok.hd C) st (D _ r) (vO<|by lia) λp eb=>#[rfl,I.turned (t':=s.toks) (λb o x e=>eb b o x e) Q N M L J]
 self:=λ_ _ _ _ _ st h=>wpAny_pyIter_keyiter st h
def NF(X:Cx)(d:lR)(u:HO):Prop:=(∀o u,X.mi d≠some (.frz o u))/\∀y,u≠.own y
def wN(X:Cx)(Q:Hp->Prop)(H:Hp):Prop:=∃d o u,H d=some (.frz o u)/\NF X d u/\Q (mH H d u)
def wN.run{Q:Hp->Prop}(I:mG X w z H s)(h:wN X Q H):∃y,mG X w z y s/\Q y:=by
 obtain⟨d,o,u,hd,x,q⟩:=h;show#[_,I.thaw hd x.1 x.2,q]
inductive Eo(X:Cx)(I:Addr->Obj->List (mZ×V)->It)(R:It->Hp->Prop)(H:Hp):V->Prop
 | mk {d kvs}:H d=some (.dK kvs)->(∀o,NF X d (.dK kvs)->R (I d o kvs) (mH H d<|.frz o<|.dK kvs))->Eo X I R H (.ref d)
def QQ(X:Cx)(y:TE):TI:=λz H R=>y z H λx w=>Eo X Bj R w x
def Ef{P:ma}{w:lY}{h:lX}{d:lR}{o:Obj}{vs:lP (mZ×lS)}(x:h.DictOf (Z4 P w) d vs)(z:h.get? d=some o):∃ep,∀h':lX,h'.get? d=some o->h'.DictAt (Z4 P w) d vs ep:=by
 obtain⟨u,y,ep,e,r⟩:=x;rw[z]at e;cases e;show#[ep,λh' u=>#[o,y,u,r]]
def Yie{X:Cx}{g l:lZ}{p:TE}(c:PE X l p):PI X g l (QQ X p):=by
 intro n s z H R I h;refine mX (c n s z H _ I h) λv s1 ⟨y,a,x,Y,U⟩=>?_
 obtain@⟨d,w,hd,q⟩:=U;cases Y;obtain⟨y,Q,N,kv,j⟩:=BJ x.hok hd;obtain⟨o,_,_,u,_⟩:=id j;obtain⟨M,i⟩:=Ef j u;have r:=x.freeze hd rfl u;refine wpAny_pyIter_dict (knd:=Z4 X.prog X.w) Q (i _ u) ?_;have L:mG X n z (mH a d<|.frz o<|.dK w) {s1 with heap:=s1.heap.push {cls:=.type "dict_keyiterator",data:=.fields (List.toArray [.ref d,.int 0 0,.int N.length 0,.int M 0])}}:=r.kept (t':=s1.toks) λb o e=>nO _ e
 refine#[#v[s1],[#v[s1]],_,_,_,rfl,L,ZG _ kv i,#[_,oK _ rfl,rfl,rfl],λb J=>?_,q o #[x.notFrz hd (λ_ _ y=>nomatch y),λ_ y=>nomatch y]];have e:b=#v[s1]:=by simpa using J
 subst e;show r.fpOk (nw _)<|r.hok.fresh<|nw _
def WG(X:Cx)(t:TS):TS:=λD z H=>t {nx:=λy=>wN X<|D.nx y,rt:=λv=>wN X<|D.rt v,bk:=λy=>wN X<|D.bk y,ct:=λy=>wN X (D.ct y)} z H
def KO{X:Cx}{st:lW}{t:TS}(h:PS X st t):PS X st (WG X t):=by
 intro j s z H D I i;refine mX (h j s z H _ I i) λf g y=>?_
 cases f with
 | next=>obtain⟨x,l,w,q⟩:=y;obtain⟨p,o,n⟩:=q.run w;show#[x,p,o,n]
 | brk=>obtain⟨x,l,w,q⟩:=y;obtain⟨p,o,n⟩:=q.run w;show#[x,p,o,n]
 | cont=>obtain⟨x,l,w,q⟩:=y;obtain⟨p,o,n⟩:=q.run w;show#[x,p,o,n]
 | ret u=>obtain⟨v,x,l,w,r,q⟩:=y;obtain⟨p,o,n⟩:=q.run w;show#[v,x,p,o,r,n]
def So(X:Cx)(t:TE):TE:=λz H Q=>t z H λv=>wN X<|Q v
def IB(h:PE X e t):PE X e (So X t):=by
 intro y s z H Q I x;refine mX (h y s z H _ I x) λu l ⟨v,j,w,r,q⟩=>?_
 obtain⟨p,o,n⟩:=q.run w;show#[v,p,o,r,n]
def Yh3{d:lR}{o:Obj}{kvs:lP (mZ×V)}{g:TG}{l:TS}{D:pX}{z:St}{H:Hp}(Pv:Nat->St->Hp->Prop)(h:Pv 0 z H)(c:∀i z H,i<=kvs.length->Pv i z H->H d=some (.frz o<|.dK kvs))
  (a:∀i kv z H,kvs[i]? =some kv->Pv i z H->g (kV kv.1) z H λw r=>l {D with nx:=Pv<|i+1,ct:=Pv<|i+1,bk:=D.nx} w r) (hd:∀z H,Pv kvs.length z H->D.nx z H) :
  ∃W:Nat->Nat->St->Hp->Prop,(∃m,W 0 m z H)/\∀i m z H,W i m z H->
   ((Bj d o kvs).stop i H/\D.nx z H)\/((Bj d o kvs).go i H/\∃N:St->Hp->Prop,(∀u s,N u s->∃j,j<m/\W (i+1) j u s)/\∀x s,(Bj d o kvs).yld i H x s->g x z s λw r=>l {D with nx:=N,ct:=N,bk:=D.nx} w r):=by
 refine#[λi m z H=>m=kvs.length-i/\i<=kvs.length/\Pv i z H,#[kvs.length,by simp,pH _,h],?_];rintro i m z H ⟨rfl,Y,p⟩;have q:=c i z H Y p
 by_cases n:i<kvs.length
 ·refine .inr #[#[q,n],Pv<|i+1,λu s U=>#[kvs.length-(i+1),tX _ _ n,rfl,n,U],λx s y=>?_];obtain⟨e,kv,Q,M⟩:=y;subst e M;show a i kv z _ Q p
 ·have e:i=kvs.length:=by lia
  subst e;show .inl #[#[q,nw _],hd z H p]
def mG.turnedNew{ch:lP lR}{o:HO}{h':lX}{t':Nat}(I:mG X h z H s)(l:∀b∈ch,tF X h H b)(k:∀b u,b∉ch->s.heap.get? b=some u->h'.get? b=some u)
  (new:Yc X.prog X.w (mH H #v[s] o) h' #v[s] o):mG X h z (mH H #v[s] o) {s with heap:=h',toks:=t'}:=by
 have w:H #v[s]=none:=I.fresh;have j:∀b u,s.heap.get? b=some u->b≠#v[s]:=λb u e=>nR<|nI e
 have uc:∀b u,H b=some u->b∉ch:=λb u e y=>by rw[(l b y).1]at e;cases e
 refine I.step (g':=s.gens) (d':=s.drawn) (ch:=ch) (λb p=>?_) (λb o _ _ x e _=>k b o x e) (λb o _ _ x e _=>#[o.slots,k b o x e]) (λb o _ e n=>by rw[Ze (j b o e)];show n)
  (λb o x e=>#[o,k b o x e]) (λb g e=>by rw[Ze (Zg e w)];show e) (λb i u e=>by rw[Ze (Zg e w)];show e) (λb r e=>#[#[],by rw[Ze (Zg e w),e];simp]) (λm d=>?_) (λb u e=>?_) I.bare
 ·obtain⟨a,r,Y,q,n,c⟩:=l b p;show#[q,r,n,c]
 ·obtain⟨i,q,n,c,r⟩:=d;show#[i,q,n,k _ i (λy=>(l _ y).2.1 rfl) c,r]
 ·by_cases p:b=#v[s]
  ·subst p;rw[Zd]at e;cases e;show new
  ·rw[Ze p]at e;refine(I.hok b u e).stay (λc v x q=>k c v ?_ q) (λc q=>by rw[Ze (Zg q w)];show q) λc g q=>by rw[Ze (Zg q w)];show q
   rcases x with y|y
   ·rw[y];show uc b u e
   ·show uc c _ y
def AH(K:lV)(l:lR):It :=
 #[λi H=>∃z x,SqL K H l z/\z[i]? =some x,λi H x w=>∃p y,x=.ref p/\H p=none/\w=mH H p (.tup [.int (i:Nat),y])/\∀z,SqL K H l z->z[i]? =some y,λi H=>∃z,SqL K H l z/\z.length<=i]
def WQ{P:ma}{w:lY}{K:lV}{S2:lP lZ}{x1:Nat}{pos:Pos}{l:lR}(e it:lR)(A:e≠it) :
  vV P w K (.Tuple S2 x1 pos) (AH K l) [e,it] e (λi h=>(∃r,IsEnum h e it (i:Nat) r)/\h.IsListIter it l i) where
 mem:=by simp
 obj:=λi h st b n=>by
  obtain⟨⟨r,he⟩,j⟩:=st;rcases nQ.mp n with rfl|n
  ·show#[_,he,λv y=>nomatch y]
  ·have q:b=it:=by simpa using n
   subst q;obtain⟨o,e,c,d⟩:=j;show#[o,e,λv y=>by rw[d]at y;cases y]
 keep:=λi h h' st k=>by
  obtain⟨⟨r,he⟩,j⟩:=st;show#[#[r,k e (by simp) _ he],j.at λo q=>k it (by simp) o q]
 item:=by
  intro X U Q N hc i c7 s z H E I a st M;subst U Q N;obtain⟨⟨r,he⟩,j⟩:=st;obtain⟨xs,x,Y,L⟩:=M;obtain⟨c8,J,p,hz⟩:=I.list Y;obtain⟨u,hu,ru⟩:=J.get L;refine wpAny_pyNext_enum_item he j p.isList (x:=u) (by simpa using hu) A λh' ho G ht hsz kk=>?_
  refine#[_,rfl,wpAny_letOwnedTupleGo_enum ho λD C B=>?_];have U2:e<#v[s]:=nI he;have B3:it<#v[s]:=let⟨o,q,_⟩:=j;nI q;have k2:∀b v,b∉[e,it]->s.heap.get? b=some v->D.get? b=some v:=λb v n q=>by
   have b1:b≠e:=λy=>n (by simp[y])
   have b2:b≠it:=λy=>n (by simp[y])
   show(B.2 b b1).trans (kk b v b1 b2 q)
  have g:D.get? #v[s]=some {cls:=.type "tuple",data:=.seq (List.toArray [.int i s.toks,u])}:=(B.2 _<|wX U2).trans ht;have new:Yc X.prog X.w (mH H #v[s] (.tup [.int (i:Nat),x])) D #v[s] (.tup [.int (i:Nat),x]) :=
   #[sz (by simp),[.int i s.toks,u],.cons #[_,rfl]<|.cons ru .nil,#[_,g,rfl,_,rfl]]
  refine#[.ref #v[s],_,I.turnedNew (t':=s.toks+1) a k2 new,rfl,#[_,x,rfl,I.fresh,rfl,λc d=>by rw[I.list_inj d Y];show L],#[#[_,C],?_],λb n=>?_]
  ·show G.at λo q=>(B.2 it A.symm).trans q
  ·rw[Ze ?_]
   ·show(a b n).1
   ·rcases nQ.mp n with rfl|n
    ·show nR U2
    ·have q:b=it:=by simpa using n
     subst q;show nR B3
 done:=by
  intro X U Q N hc i c7 s z H E I a st M;subst U Q N;obtain⟨⟨r,he⟩,j⟩:=st;obtain⟨xs,Y,L⟩:=M;obtain⟨c8,J,p,hz⟩:=I.list Y;obtain⟨f0,f1,d,f3,f4,f5⟩:=a it (by simp);have hl:=J.length;show wpAny_pyNext_enum_end (I.ok.hd hc) he j p.isList (by simp;lia) λh' eb=>#[rfl,I.turned (t':=s.toks) (λb o n e=>eb b o n e) f0 f1 f3 f4 f5]
 self:=λ_ _ _ _ _ st h=>by
  obtain⟨⟨r,he⟩,_⟩:=st;show wpAny_pyIter_enum he h
inductive Mm(K:Frag)(R:It->Hp->Prop)(H:Hp):List V->Prop
 | mk {l xs}:SqL K H l xs->R (AH K l) H->Mm K R H [.ref l]
def UQ(K:lV)(y:TA):TI:=λz H R=>y z H λx w=>Mm K R w x
def xS{X:Cx}{j:lP lZ}{i:Nat}{x:Pos}{a:lZ}{r:TA}{p pos:Pos}(g:Gl X "enumerate")(d:X.mg "enumerate"=none)(c:PA X [a] r)(Y:starEach [a] X.env=[(false,eval a X.env)]:=by rfl) :
  PI X (.Tuple j i x) (.Call (.Name "enumerate" p) [a] [] pos) (UQ X.K r):=by
 intro o s z H R I h;refine Call_<|xf I g d boot_enumerate<|zQ (mX (c pos o s z H _ I h) λu s1 ⟨l,n,y,U,Q⟩=>?_) Y rfl;obtain@⟨l,u,N,q⟩:=Q;obtain⟨u,rfl,M⟩:=qg U;cases M;obtain⟨u,l,L,e⟩:=y.list N;refine call_enumerate_list L.isList λJ he G E D=>wpAny_pyIter_enum he ?_
 have C:mG X o z n {s1 with heap:=J}:=y.kept (t':=s1.toks) D;refine#[#v[s1]+1,[#v[s1]+1,#v[s1]],_,_,n,rfl,C,WQ _ _<|Nat.succ_ne_self _,#[#[_,he],G],λb w=>?_,q];rcases nQ.mp w with rfl|w
 ·show y.fpOk (tw _)<|y.hok.fresh<|tw _
 ·have e:b=#v[s1]:=by simpa using w
  subst e;show y.fpOk (nw _)<|y.hok.fresh<|nw _
def yP{K:lV}{l:lR}{xs:lP V}{g:TG}{j:TS}{D:pX}{z:St}{H:Hp}(Pv:Nat->St->Hp->Prop)(c:Pv 0 z H)(Y:∀i z H,i<=xs.length->Pv i z H->SqL K H l xs)
  (U:∀i x z H,xs[i]? =some x->Pv i z H->∀p r,mz H r->H p=none->r p=some (.tup [.int (i:Nat),x])->g (.ref p) z r λw o=>j {D with nx:=Pv<|i+1,ct:=Pv<|i+1,bk:=D.nx} w o) (hd:∀z H,Pv xs.length z H->D.nx z H) :
  ∃W:Nat->Nat->St->Hp->Prop,(∃m,W 0 m z H)/\∀i m z H,W i m z H->
   ((AH K l).stop i H/\D.nx z H)\/((AH K l).go i H/\∃N:St->Hp->Prop,(∀u s,N u s->∃h,h<m/\W (i+1) h u s)/\∀x s,(AH K l).yld i H x s->g x z s λw o=>j {D with nx:=N,ct:=N,bk:=D.nx} w o):=by
 refine#[λi m z H=>m=xs.length-i/\i<=xs.length/\Pv i z H,#[xs.length,by simp,pH _,c],?_];rintro i m z H ⟨rfl,Q,p⟩;have q:=Y i z H Q p
 by_cases n:i<xs.length
 ·refine .inr #[#[xs,xs[i],q,oA n],Pv<|i+1,λu s M=>#[xs.length-(i+1),tX _ _ n,rfl,n,M],λx s y=>?_];obtain⟨a,y,e,d,L,J⟩:=y;subst e L;show U i y z H (J xs q) p a _ (mz.new d) d Zd
 ·have e:i=xs.length:=by lia
  subst e;show .inl #[#[xs,q,nw _],hd z H p]
def zl(d:lR)(o:Obj)(kvs:lP (mZ×V)):It :=
 #[λi H=>H d=some (.frz o<|.dK kvs)/\i<kvs.length,λi H x z=>∃p kv,x=.ref p/\H p=none/\kvs[i]? =some kv/\z=mH H p (.tup [kV kv.1,kv.2]),λi H=>H d=some (.frz o<|.dK kvs)/\kvs.length<=i]
def Zud{P:ma}{w:lY}{K:lV}{S2:lP lZ}{x1:Nat}{pos:Pos}{d:lR}{o:Obj}{kvs:lP (mZ×V)}{vs:lP (mZ×lS)}{ep:Nat}(it:lR)(M:KV kvs vs)
  (L:∀h:lX,h.get? d=some o->h.DictAt (Z4 P w) d vs ep):vV P w K (.Tuple S2 x1 pos) (zl d o kvs) [it] it (λi h=>∃ok r,IsItemIter h it d i vs.length ep ok r) where
 mem:=by simp
 obj:=λi h st b x=>by
  have e:b=it:=by simpa using x
  subst e;obtain⟨ok,r,e⟩:=st;show#[_,e,λv y=>nomatch y]
 keep:=λi h J st k=>by
  obtain⟨ok,r,e⟩:=st;show#[ok,r,k it (by simp) _ e]
 item:=by
  intro X g c a G i c7 s z H E I j st Y;subst g c a;obtain⟨ok,r,n⟩:=st;obtain⟨U,D⟩:=Y;have p:s.heap.get? d=some o:=(I.hok d _ U).1;obtain⟨u,hu,ru⟩:=M.get (i:=i) (kv:=kvs[i]) (by simp[D]);refine wpAny_pyNext_items_item (knd:=Z4 X.prog X.w) n (L _ p) hu λkey J J6 ho ht hsz kk=>?_
  refine#[_,rfl,wpAny_letOwnedTupleGo_items ho λQ N C=>?_];have B:it<#v[s]:=nI n;have k2:∀b v,b∉[it]->s.heap.get? b=some v->Q.get? b=some v:=λb v x q=>by
   have A:b≠it:=λy=>x (by simp[y])
   show(C.2 b A).trans (kk b v A q)
  have l:Q.get? #v[s]=some {cls:=.type "tuple",data:=.seq (List.toArray [key,u])}:=(C.2 _<|wX B).trans ht;have new:Yc X.prog X.w (mH H #v[s] (.tup [kV kvs[i].1,kvs[i].2])) Q #v[s] (.tup [kV kvs[i].1,kvs[i].2]) :=
   #[sz (by simp),[key,u],.cons (FM J6)<|.cons ru .nil,#[_,l,rfl,_,rfl]]
  refine#[.ref #v[s],_,I.turnedNew (t':=s.toks) j k2 new,rfl,#[_,kvs[i],rfl,I.fresh,by simp[D],rfl],#[_,_,N],λb x=>?_];have e:b=it:=by simpa using x
  subst e;rw[Ze (nR B)];show(j _ x).1
 done:=by
  intro X g c a G i c7 s z H E I j st Y;subst g c a;obtain⟨ok,r,n⟩:=st;obtain⟨U,G9⟩:=Y;obtain⟨f0,f1,f2,f3,f4,f5⟩:=j it (by simp);have p:s.heap.get? d=some o:=(I.hok d _ U).1;have hl:=KV.length M;show wpAny_pyNext_items_end (knd:=Z4 X.prog X.w) (I.ok.hd G) n (L _ p) (vO<|by lia) λJ eb=>#[rfl,I.turned (t':=s.toks) (λb o x e=>eb b o x e) f0 f1 f3 f4 f5]
 self:=λ_ _ _ _ _ st h=>by
  obtain⟨ok,r,n⟩:=st;show PySem.W.kcp_self n h
def Tu(X:Cx)(y:TE):TI:=λz H R=>y z H λx w=>Eo X zl R w x
def Bc{X:Cx}{Y:lP lZ}{U:Nat}{x j i:Pos}{o:lZ}{to:TE}(Q:PE X o to)(N:attributeBase o "items" X.env (eval o X.env)=eval o X.env:=by rfl)(M:(j.endLine ==i.line)=true:=by rfl) :
  PI X (.Tuple Y U x) (.Call (.Attribute o "items" j) [] [] i) (Tu X to):=by
 intro g s z H R I h;refine HP N M<|mX (Q g s z H _ I h) λv s1 ⟨y,L,r,J,G⟩=>?_;obtain@⟨d,p,hd,q⟩:=G;cases J;obtain⟨y,E,D,kv,w⟩:=BJ r.hok hd;obtain⟨n,_,_,u,C,_⟩:=id w;obtain⟨y,c⟩:=Ef w u;refine#["dict","dict.items",CU,Lk,PySem.F.type_dict_items,w.typeIs,λa e=>?_,yt rfl<|Fq ?_]
 ·cases e;show#[n,u,C.2.1]
 refine Bi Lk w.typeIs PySem.F.entry_dict_items (PySem.F.args_dict_items_1 _) (meets_dict_items (Z4 X.prog X.w) d E) #[#[D,w],?_];have B:=r.freeze hd rfl u;have l:mG X g z (mH L d<|.frz n<|.dK p) {s1 with heap:=s1.heap.push {cls:=.type "dict_items",data:=.fields (List.toArray [.ref d])}}:=B.kept (t':=s1.toks) λb o e=>nO _ e
 refine wpAny_pyIter_items (knd:=Z4 X.prog X.w) (d:=d) #[_,oK _ rfl,rfl,rfl] (c _<|nO _ u) ?_;refine#[_,[_],_,_,_,rfl,l.kept (t':=s1.toks) λb o e=>nO _ e,Zud _ kv c,#[_,_,oK _ rfl],λb A=>?_,q n #[r.notFrz hd (λ_ _ y=>nomatch y),λ_ y=>nomatch y]];have e:=pD.mp A;subst e;show l.fpOk (nw _)<|l.hok.fresh<|nw _
def JK{d:lR}{o:Obj}{kvs:lP (mZ×V)}{g:TG}{j:TS}{D:pX}{z:St}{H:Hp}(Pv:Nat->St->Hp->Prop)(Y:Pv 0 z H)(U:∀i z H,i<=kvs.length->Pv i z H->H d=some (.frz o<|.dK kvs))
  (Q:∀i kv z H,kvs[i]? =some kv->Pv i z H->∀p r,mz H r->H p=none->r p=some (.tup [kV kv.1,kv.2])->g (.ref p) z r λw n=>j {D with nx:=Pv<|i+1,ct:=Pv<|i+1,bk:=D.nx} w n) (hd:∀z H,Pv kvs.length z H->D.nx z H) :
  ∃W:Nat->Nat->St->Hp->Prop,(∃m,W 0 m z H)/\∀i m z H,W i m z H->
   ((zl d o kvs).stop i H/\D.nx z H)\/((zl d o kvs).go i H/\∃N:St->Hp->Prop,(∀u s,N u s->∃h,h<m/\W (i+1) h u s)/\∀x s,(zl d o kvs).yld i H x s->g x z s λw n=>j {D with nx:=N,ct:=N,bk:=D.nx} w n):=by
 refine#[λi m z H=>m=kvs.length-i/\i<=kvs.length/\Pv i z H,#[kvs.length,by simp,pH _,Y],?_];rintro i m z H ⟨rfl,M,p⟩;have q:=U i z H M p
 by_cases l:i<kvs.length
 ·refine .inr #[#[q,l],Pv<|i+1,λu s L=>#[kvs.length-(i+1),tX _ _ l,rfl,l,L],λx s y=>?_];obtain⟨a,kv,e,c,J,I⟩:=y;subst e I;show Q i kv z H J p a _ (mz.new c) c Zd
 ·have e:i=kvs.length:=by lia
  subst e;show .inl #[#[q,nw _],hd z H p]
def xW(K:lV)(H:Hp)(x y:V):Prop:=(sX x=true/\sX y=true/\rc x y=true)\/∃n t,n<=60/\Im K H n t x/\Im K H n t y
def xW.eqAt(I:mG X j z H s)(h:xW X.K H x y)(w:Yj x u)(r:Yj y v)(i:A.units+60<cLine):SeqAt.EqAt A s u v true:=by
 rcases h with⟨q,p,e⟩|⟨n,t,g,o,l⟩
 ·show Yl (Ap w r q p) e
 ·show Yl (Im.eqAt I n A o l w r<|by lia)<|nM rfl
def Nz(K:lV):R2:=λx y H Q=>∃a b z w,x=.ref a/\y=.ref b/\Rd H a (.dK z)/\Rd H b (.dK w)/\z.length=w.length/\(∀kv∈z,∃v,Xm w kv.1=some v/\xW K H kv.2 v)/\Q (.bl true) H
def VU(hu:X.A.units+64<cLine):nV X (compareOp .Eq) (Nz X.K):=by
 intro c7 s z H x y v u Q I N j h;obtain⟨a,b,ka,M,rfl,rfl,L,J,G,E,q⟩:=h;cases N;cases j;obtain⟨_,D,C,e,B⟩:=rg I.hok L;obtain⟨_,sb,d,c,db⟩:=rg I.hok J;have la:=KV.length e;have lb:=KV.length c;have N0:∀{o:lP (mZ×V)}{n:lP (mZ×lS)},KV o n->(∀kv∈o,∃v,Xm M kv.1=some v/\xW X.K H kv.2 v)->PySem.W.KeqHits X.A.in1 s d n true:=by
  intro o n r
  induction r with
  | nil=>intro _;show .nil
  | cons r t ih =>
   rename_i p q l m;intro Y;obtain⟨e1,r2⟩:=r;obtain⟨v,i,g⟩:=Y p oM;have w:=KV.val c p.1;rw[i]at w;obtain⟨y,U,j⟩:=qi.some_of w;rw[e1]at U;have:=Lg (k:=q.1) (v:=q.2) U (g.eqAt (A:=X.A.in1) I r2 j<|by rw[Wu];lia)<|ih λkv D8=>Y kv<|pc _ D8;simpa using this
 refine PySem.W.keq_eq (knd:=Z4 X.prog X.w) D sb B db (by lia) (λ_=>N0 e E) #[.bl true,H,I,?_,q];rw[show(C.length ==d.length)=true by rw[<-la,<-lb,G];simp]
 rfl
def za(K:lV):R2:=λx y H Q=>MB x y H Q\/Cq K false x y H Q\/Nz K x y H Q
inductive Fd(K:Frag)(H:Hp)(Q:VK):List V->Prop
 | mk {p ys}:(SqL K H p ys\/SqT K H p ys)->Q (.int ys.length) H->Fd K H Q [.ref p]
def JE(K:lV):lP V->Hp->VK->Prop:=λx H Q=>Fd K H Q x\/(∃z,x=[.str z]/\z.length<=sizeLine/\Q (.int z.length) H)\/∃a y,x=[V.ref a]/\H a=some (.dK y)/\Q (.int y.length) H
def qV(K:lV):V->lU Int->lU Int->Hp->VK->Prop:=λx lo z H Q=>KA K x lo z H Q\/Pf K x lo z H Q\/Oh x lo z H Q
def BF(z:Y6 k X.A):nV X (compareOp .Eq) (za X.K):=MS.or<|(WN z.units).or (VU z.units)
def Vw:Xd X (.builtin "len") (JE X.K):=(Th.imp λz H Q (h:Fd X.K H Q z)=>by
 obtain@⟨p,y,x,w⟩:=h;show#[p,y,rfl,x,w]).or (ZM.or TN)
def rj:sv X (qV X.K):=VN.or<|Zze.or ZZ
inductive Kh(K:Frag)(H:Hp)(Q:VK):List V->Prop
 | mk {p ys}:(SqL K H p ys\/SqT K H p ys)->pK H (.lst ys) Q->Kh K H Q [.ref p]
def xx(K:lV):lP V->Hp->VK->Prop:=λz H Q=>Kh K H Q z
def yL:Xd X (.type "list") (xx X.K):=Zq0.imp λu H Q h=>by
 obtain@⟨p,z,y,x⟩:=h;show#[p,z,rfl,y,λl w=>x.at l w]
inductive OL(H:Hp)(Q:VK):List V->Prop
 | mk {p kvs}:Rd H p (.dK kvs)->pK H (.dK kvs) Q->OL H Q [.ref p]
def BM:lP V->Hp->VK->Prop:=λz H Q=>OL H Q z
def GR:Xd X (.type "dict") BM:=by
 intro n s z H l j Q I r h;obtain@⟨p,y,hd,q⟩:=h;obtain⟨u,rfl,x⟩:=qg r;cases x;show UP I hd λa i w o=>#[.ref a,_,o,rfl,q.at a w]
def Se:TE:=λ_ H Q=>pK H (.dK []) Q
def Ws:PE X (.Dict [] [] pos) Se:=λy s z H Q I h=>VH y s z H Q I λp x=>h.at p x
def Ybf:TE:=λ_ H Q=>pK H (.dT []) Q
def QP:PE X (.Dict [] [] pos) Ybf:=λy s z H Q I h=>Zyy y s z H Q I λp x=>h.at p x
def KY(K:lV):lP V->Hp->VK->Prop:=λz H Q=>∃(p:lR)(bs:lP Bool),z=[.ref p]/\SqL K H p (bs.map V.bl)/\Q (.bl<|bs.all id) H
def Zxd(z:X.calm=true):Xd X (.builtin "all") (KY X.K):=RT z
inductive Ky(K:Frag)(H:Hp)(Q:VK):List V->Prop
 | mk {x c b t}:Xi K H x t->((∃n,c=.ty n/\kitOne K t (.type n)=some b)\/∃a,c=.ref a/\kitOne K t (.ref a)=some b)->Q (.bl b) H->Ky K H Q [x,c]
def yy(K:lV):lP V->Hp->VK->Prop:=λz H Q=>Ky K H Q z
def CC:Xd X (.builtin "isinstance") (yy X.K):=Zst.imp λu H Q h=>by
 obtain@⟨x,c,b,t,z,y,w⟩:=h;show#[x,c,b,t,rfl,z,y,w]
def Ztq{fr:St->St}
  (hN:X.N.Nodup) (hi':X.N[i]? =some y) (hy:vB X.env.scope y) (hc:X.calm=true) (S:Wt X scope M E fr) (hi:PI X tg u7 wi) (hg:∀s H C ex,PG (Y0 X scope M E s H C ex) tg g) (hf:∀s H C ex,PF (Y0 X scope M E s H C ex) M9 tf)
  (he:∀s H C ex,PE (Y0 X scope M E s H C ex) O8 te) (hs:∀x,foldedSetIterable u7 X.env x=pure x:=by intro _;rfl)
  (hsw:swapsWith (.ListComp O8 [#[tg,u7,M9,0]] scope pos) (some<|.Name y py) spos.line X.env=pure true:=by rfl) (O1:X.fn y=true\/X.env.scope.names.lookup y=some .local:=by first|show .inl rfl|show .inr rfl|assumption) :
  PS X (.Assign [.Name y py] (.ListComp O8 [#[tg,u7,M9,0]] scope pos) spos) (zD (Dt wi fr g tf te)<|qW i):=by
 intro c7 s z H D I h;rw[exec_Assign_Name_used _ _ _ _ hsw];refine mP<|AC<|mP ?_;change wpAny _ X.A (do let _ <-comprehension (.ListComp O8 [⟨tg,u7,M9,0⟩] scope pos) scope X.env _ (newList []) false (eval u7 X.env) (some (assign (.Name y py) X.env))) _ _ s;refine mP<|pT (NO (use:=some<|assign (.Name y py) X.env) (Q:=λ_ A=>∃L a,mG X c7 L a A/\D.nx L a) rfl hs S.clos S.kind S.names<|mX (hi c7 s z H _ I h) λv d u=>mX u λr s2 h2=>?_) (λ_ A u=>nq<|nq u) λ_ _ e=>e;obtain⟨it,Y,tn,J,U,e,I2,T,d7,f2,q⟩:=h2;subst e;refine vP<|Bt S.cell (by intro y hy;simp at hy) (λl Q8 E5=>?_) S.kind;dsimp only at Q8 E5 ⊢;generalize hP:s2.heap.push {cls:=.type "list",dict:=none,data:=.seq ([]:lP lS).toArray}=P at Q8 E5 ⊢;have hPz:P.objs.size=#v[s2]+1:=by rw[<-hP,ur]
 have G:#v[s2]<P.objs.size:=by rw[hPz];show As _
 have S8:∀b∈Y,∃o,s2.heap.get? b=some o:=λb j=>let⟨o,e,_⟩:=T.obj _ _ d7 b j;#[o,e]
 have O9:∀b,b<#v[s2]->b≠P.objs.size:=λb j=>nR<|ri j G
 have old:∀b o,s2.heap.get? b=some o->l.get? b=some o:=λb o e=>E5.extBut b o (O9 b<|nI e)<|nO _<|hP ▸ nO _ e
 have D1:l.get? #v[s2]=some {cls:=.type "list",data:=.seq ([]:lP lS).toArray 0}:=E5.extBut _ _ (nR G)<|nO _<|hP ▸ oK _ rfl;have fD:U #v[s2]=none:=I2.hok.fresh<|nw _;obtain⟨W,⟨m0,w0⟩,M7⟩:=q #v[s2] fD;have hz:l.objs.size<=P.objs.size+1:=by
  have e:=E5.1;rw[ur]at e;show wr e
 have V3:tn 0 l:=T.keep _ _ _ d7 λb j o e=>old b o e
 have E9:∀{x9:lP (lR×Obj)}{a:Hp},(∀p∈x9,p.1∉Y)->(∀b∈Y,a b=none)->∀b∈Y,tF (Y0 X scope M E s2 U P.objs.size Y) x9 a b:=λ{x9 a} hp hn b j=>by
  obtain⟨o,e⟩:=S8 b j;obtain⟨_,f1,f2',u,f4,r⟩:=f2 b j;refine#[hn b j,O9 b<|nI e,λw=>?_,.inl j,λx c h=>f4 x c<|S.sub x c h,λp C9 w=>?_]
  ·rcases nQ.mp (I2.stkSub b w)with q|q
   ·show f1 q
   ·show f2' q
  ·have u:p∈x9:=by simpa[Y0]using C9
   show hp p u (by rw[w];show j)
 have B:∀s3:lT,s3={s2 with heap:=l,toks:=s2.toks+([]:lP (lQ×lS)).length}->
   codeAny (model X.prog X.w) X.A (.compLoop (.ListComp O8 [#[tg,u7,M9,0]] scope pos) 0 (.ref it) (.ref #v[s2])<|compEnvC scope M P.objs.size X.env) (compPost (model X.prog X.w) X.A X.xe (some<|assign (.Name y py) X.env) (λ_ A=>∃L a,mG X c7 L a A/\D.nx L a) (.ref #v[s2]) P.objs.size) s3:=by
  rintro s3 rfl;have I3:mG (Y0 X scope M E s2 U P.objs.size Y) [] (fr z) (mH U #v[s2] (.lst [])) {s2 with heap:=l,toks:=s2.toks+([]:lP (lQ×lS)).length}:=IJ I2 S G rfl f2 S8 old D1 Q8 hz;refine Kc (λn A=>∃i ys a,mG (Y0 X scope M E s2 U P.objs.size Y) [] (fr z) a A/\tn i A.heap/\(∀b∈Y,a b=none)/\W i n ys a) ?_ m0 #[0,[],_,I3,V3,λb j=>?_,w0]
  ·rintro n s3 ⟨i,ys,J,I3,v6,fr3,w3⟩;rcases M7 i n ys J w3 with⟨stop,qn⟩|⟨go,N,hN,step⟩
   ·refine mX (T.done (Y0 X scope M E s2 U P.objs.size Y) rfl rfl rfl hc i [] s3 (fr z) J _ I3 (E9 (by simp) fr3) v6 stop) λr s4 ⟨hr,c⟩=>?_
    subst hr;obtain⟨m4,hn4,_⟩:=c.loc;obtain⟨oC,esC,epC,hoC,d⟩:=id hn4;have J0:mG X c7 z J s4:=Jb I2 G f2 c (h':=s4.heap) #[rfl,λ_ _=>rfl];have big:#v[s2]<=P.objs.size:=uW G;have fC:J P.objs.size=none:=c.free;have u:=I2.fpOk big fC;have J1:mG X (c7++[(P.objs.size,oC)]) z J s4:=J0.pins_of λp hp=>by
     rcases ou.mp hp with hp|hp
     ·show J0.pin p<|qc _ hp
     ·have e:p=(P.objs.size,oC):=by simpa using hp
      subst e;show#[hoC,fC,u.2.1,u.2.2.1,λv w=>by rw[d.1]at w;cases w]
    refine mX (Ig hN hi' hy O1 (X:=X) (pos:=py) _ s4 z J (.ref #v[s2]) (.ref #v[s2]) _ J1 rfl qn) λ_ s5 ⟨σ5,H5,I5,q5⟩=>?_
    obtain⟨p1,p2,p3,p4,p5⟩:=I5.pin (P.objs.size,oC) (qc _<|qc _<|by simp);show#[m4,#[oC,esC,epC,p1,d],λh' O0=>#[σ5,H5,(I5.unpinned).turned (t':=s5.toks) (it:=P.objs.size) (λb o j e=>(O0.2 b j).trans e) p2 p3 u.2.2.2.1 u.2.2.2.2.1 u.2.2.2.2.2,q5]]
   ·refine mX (T.item (Y0 X scope M E s2 U P.objs.size Y) rfl rfl rfl hc i [] s3 (fr z) J _ I3 (E9 (by simp) fr3) v6 go) λr s4 ⟨u,hr,h4⟩=>?_
    subst hr;refine mX h4 λ_ s5 h9=>?_
    obtain⟨x,H5,I5,r5,y5,A5,fr5⟩:=h9;have I5':=I5.pinned (E9 (by simp) fr5)<|T.obj _ _ A5;refine mX (hg s2 U P.objs.size Y _ s5 (fr z) H5 x u _ I5' r5<|step x H5 y5) λ_ s6 ⟨σ6,H6,I6,kp,q6⟩=>?_
    refine mX (hf s2 U P.objs.size Y _ s6 σ6 H6 _ I6 q6) λok s7 ⟨H7,I7,q7⟩=>?_
    have C5:∀{σ8:St}{H8:Hp}{s8:lT}{c:lP V},Wl (fr z) σ8->mG (Y0 X scope M E s2 U P.objs.size Y) ([]++yX Y s5.heap) σ8 H8 s8->N c H8->
      ∃m,m<n/\∃i ys a,mG (Y0 X scope M E s2 U P.objs.size Y) [] (fr z) a s8/\tn i s8.heap/\(∀b∈Y,a b=none)/\W i m ys a:=λ{σ8 H8 s8 c} kp8 I8 n8=>by
     obtain⟨m',hm,w8⟩:=hN c H8 n8;refine#[m',hm,i+1,c,H8,(I8.unpinned).weak (by rw[I8.len];show S.len z I2.len) kp8,T.keep _ _ _ A5 λb j o e=>(I8.pin (b,o)<|qc _<|qc _<|yp j e).1,λb j=>?_,w8];obtain⟨o,e,d⟩:=T.obj _ _ A5 b j;show(I8.pin (b,o)<|qc _<|qc _<|yp j e).2.1
    cases ok with
    | false=>show C5 kp I7 q7
    | true =>
     refine mX (he s2 U P.objs.size Y _ s7 σ6 H7 _ I7 q7) λuy s8 h9=>?_
     obtain⟨y,H8,I8,r8,d,hz8,q8⟩:=h9;show mX (GQ _ s8 σ6 H8 (.ref #v[s2]) [y] (.ref #v[s2]) [uy] (λ_ H9=>N (ys++[y]) H9) I8 rfl (.cons r8 .nil) #[d,hz8,q8]) λ_ s9 ⟨v9,H9,I9,_,q9⟩=>C5 kp I9 q9
  ·change mH U #v[s2] (.lst []) b=none;obtain⟨o,e⟩:=S8 b j;rw[Ze (nR<|nI e)];show(f2 b j).1
 show codeAny_compStart_list (B _ rfl)<|T.self X.A 0 _ _ _ V3<|B _ rfl
def ze{X:Cx}{K:lV}{z:lP lZ}{k:Nat}{pos:Pos}{t:xB}{n:Nat}(y:X.K=K)(x:X.calm=true)(h:yW X z t)
  (w:(assignEach z X.env).length=n:=by rfl) (u:(assignEach z X.env).findIdx? (·.1)=none:=by rfl):PG X (.Tuple z k pos) (FG K n t):=y ▸ sI x h w u
def Yf5:lP V->Hp->VK->Prop:=λy H Q=>∃p z,y=[.ref p]/\Rd H p (.dK z)/\pK H (.lst<|z.map λkv=>kV kv.1) Q
theorem Gj :∀{kvs:lP (mZ×V)}{z:lP (mZ×lS)}{vs:lP lS},KV kvs z->vs.length=z.length->(∀(j:Nat)(v:lS),vs[j]? =some v->∃(k:mZ)(x:lS),z[j]? =some (k,x)/\(Z4 P w).is k v=true)->Z6 (kvs.map λkv=>kV kv.1) vs
 | [],_,[],.nil,_,_=>.nil
 | [],_,_ ::_,.nil,h,_=>by simp at h
 | p ::kvs,q ::z,[],.cons r t,h,_=>by simp at h
 | p ::kvs,q ::z,v ::vs,.cons r t,h,y=>by
  obtain⟨k,x,e,s⟩:=y 0 v rfl;simp only[List.getElem?_cons_zero,Option.some.injEq]at e;subst e;rw[nS];refine .cons ?_ (Gj (P:=P) (w:=w) t (by simpa using h) λj u o=>by simpa using y (j+1) u (by simpa using o));rw[r.1];show FM s
def Yf1(l:X.calm=true):Xd X (.type "list") Yf5:=by
 intro E s z H D C Q I r h;obtain⟨p,y,rfl,hd,q⟩:=h;obtain⟨u,rfl,i⟩:=qg r;cases i;obtain⟨g,lo,d,kv,c⟩:=rg I.hok hd;obtain⟨a,Y⟩:=c.dictAt;have B:=KV.length kv;refine PySem.W.kdl_call (PySem.W.kdl_dict (knd:=Z4 X.prog X.w) (kvs:=d) (ep:=a) lo) (I.ok.hd l) Y (by lia) λU N x M L J n=>?_
 have G:Z6 (y.map λkv=>kV kv.1) x.toList:=Gj (P:=X.prog) (w:=X.w) kv (by rw[ue];show n.1) λj v e=>n.2 j v (by rw[<-wL];show e)
 show#[.ref #v[s],_,I.laid (o:=.lst<|y.map λkv=>kV kv.1) (t':=N) L (nw _) (show Yc X.prog X.w _ U _ (.lst _)from#[by rw[mI];show g,x.toList,M,G,by rw[J]]),rfl,q.at _<|I.hok.fresh<|nw _]
def Nh(K:lV):R2:=λx y H Q=>∃a b z w,x=.ref a/\y=.ref b/\Rd H a (.dK z)/\Rd H b (.dK w)/\z.length=w.length/\(∀kv∈z,∃v,Xm w kv.1=some v/\xW K H kv.2 v)/\Q (.bl false) H
def WV(hu:X.A.units+64<cLine):nV X (compareOp .NotEq) (Nh X.K):=by
 intro c7 s z H x y v u Q I N j h;obtain⟨a,b,ka,M,rfl,rfl,L,J,G,E,q⟩:=h;cases N;cases j;obtain⟨_,D,C,e,B⟩:=rg I.hok L;obtain⟨_,sb,d,c,db⟩:=rg I.hok J;have la:=KV.length e;have lb:=KV.length c;have N0:∀{o:lP (mZ×V)}{n:lP (mZ×lS)},KV o n->(∀kv∈o,∃v,Xm M kv.1=some v/\xW X.K H kv.2 v)->PySem.W.KeqHits X.A.in1 s d n true:=by
  intro o n r
  induction r with
  | nil=>intro _;show .nil
  | cons r t ih =>
   rename_i p q l m;intro Y;obtain⟨e1,r2⟩:=r;obtain⟨v,i,g⟩:=Y p oM;have w:=KV.val c p.1;rw[i]at w;obtain⟨y,U,j⟩:=qi.some_of w;rw[e1]at U;have:=Lg (k:=q.1) (v:=q.2) U (g.eqAt (A:=X.A.in1) I r2 j<|by rw[Wu];lia)<|ih λkv D8=>Y kv<|pc _ D8;simpa using this
 refine PySem.W.keq_ne (knd:=Z4 X.prog X.w) D sb B db (by lia) (λ_=>N0 e E) #[.bl false,H,I,?_,q];rw[show(C.length ==d.length)=true by rw[<-la,<-lb,G];simp]
 rfl
def BI(K:lV)(neg:Bool):R2:=λx y H Q=>∃(p:lR)(n:Nat)(t:Tr)(z:lP Tr)(w:lP lR),y=.ref p/\SqL K H p (w.map V.ref)/\n<=60/\Im K H n t x/\Paired (Im K H n) z (w.map V.ref)/\Q (.bl<|if neg then !decide (t∈z)else decide (t∈z)) H
def uJ(K:lV)(H:Hp)(n:Nat)(t:Tr)(u:lS):Bool:=match u with
 | .ref a=>@decide (Im K H n t<|.ref a) (Classical.propDecidable _)
 | _=>false
theorem Hk(I:mG X x z H s) :∀{ts:lP Tr}{as:lP lR}{us:lP lS},Paired (Im X.K H n) ts (as.map V.ref)->Z6 (as.map V.ref) us->us.any (uJ X.K H n t)=decide (t∈ts)
 | [],[],_,_,v=>by rw[uH]at v;cases v;simp
 | [],a ::as,_,p,_=>by rw[nS]at p;cases p
 | t' ::ts,[],_,p,_=>by rw[uH]at p;cases p
 | t' ::ts,a ::as,us,p,v=>by
  rw[nS]at p v;cases p with
  | cons i p =>
   cases v with
   | cons r v =>
    cases r;rw[xN,Hk I p v,sj,By];simp only[uJ,yf,nQ]
    constructor
    ·rintro(y|y)
     ·show .inl<|Im.inj I y i
     ·show .inr y
    ·rintro(y|y)
     ·show .inl<|y ▸ i
     ·show .inr y
theorem Ir(I:mG X h z H s)(w:A.units+n<cLine)(q:Im X.K H n t x)(o:Yj x l) :
  ∀{ts:lP Tr}{as:lP lR}{us:lP lS},Paired (Im X.K H n) ts (as.map V.ref)->Z6 (as.map V.ref) us->∀u∈us,SeqAt.EqAt A s u l (uJ X.K H n t u)
 | [],[],_,_,v=>by rw[uH]at v;cases v;simp
 | [],a ::as,_,p,_=>by rw[nS]at p;cases p
 | t' ::ts,[],_,p,_=>by rw[uH]at p;cases p
 | t' ::ts,a ::as,us,p,v=>by
  rw[nS]at p v;cases p with
  | cons i p =>
   cases v with
   | cons r v =>
    cases r;intro u j;rcases nQ.mp j with e|e
    ·subst e;refine Yl (Im.eqAt I n A i q rfl o w) ?_;simp only[uJ,FN];show#[λy=>y ▸ i,λy=>(Im.inj I y i).symm]
    ·show Ir I w q o p v u e
def Vr(c:X.A.units+64<cLine):nV X (compareOp .In) (BI X.K false):=by
 intro a s z H x y v u Q I j i h;obtain⟨p,n,t,w,Y,rfl,g,U,e,o,q⟩:=h;cases i;obtain⟨l,r,d,w⟩:=I.list g;refine SeqAt.in_listAt (uJ X.K H n t) d.isList (λw p=>Ir I (by rw[Wu];lia) e j o r w<|by simpa using p) #[.bl _,H,I,rfl,?_];rw[show l.toArray.any (uJ X.K H n t)=l.any (uJ X.K H n t) by simp,Hk I o r];show q
def Re(c:X.A.units+64<cLine):nV X (compareOp .NotIn) (BI X.K true):=by
 intro a s z H x y v u Q I j i h;obtain⟨p,n,t,w,Y,rfl,g,U,e,o,q⟩:=h;cases i;obtain⟨l,r,d,w⟩:=I.list g;refine SeqAt.notIn_listAt (uJ X.K H n t) d.isList (λw p=>Ir I (by rw[Wu];lia) e j o r w<|by simpa using p) #[.bl _,H,I,rfl,?_];rw[show l.toArray.any (uJ X.K H n t)=l.any (uJ X.K H n t) by simp,Hk I o r];show q
def uq(K:lV):R2:=λx y H Q=>KB x y H Q\/Cq K true x y H Q\/Nh K x y H Q
def vD(z:Y6 k X.A):nV X (compareOp .NotEq) (uq X.K):=Vn.or<|(Ut z.units).or (WV z.units)
def DV(K:lV):R2:=λx y H Q=>zB K false x y H Q\/(∃a o,y=.ref a/\Xz H a x o/\Q (.bl o.isSome) H)\/(∃i j,x=.str i/\y=.str j/\Q (.bl (!(Builtin.Str.occurrences j i 0 j.length 1).isEmpty)) H)\/BI K false x y H Q
def Gu(z:Y6 k X.A):nV X (compareOp .In) (DV X.K):=OT.or<|(Rn<|Xo z).or (Rw.or<|Vr z.units)
def ES(K:lV):R2:=λx y H Q=>zB K true x y H Q\/(∃a o,y=.ref a/\Xz H a x o/\Q (.bl (!o.isSome)) H)\/BI K true x y H Q
def OO(z:Y6 k X.A):nV X (compareOp .NotIn) (ES X.K):=Zqy.or<|(RN<|Xo z).or (Re z.units)
end L2
end
section
namespace L2
open PySem
def TrX(h mB:lX)(e:lR)(cls u:lS)(s:lU lR)(r:lS):Prop :=
 ∃z y T x w,h.get? e=some z/\z.cls=cls/\z.dict=s/\z.data=.fields y/\(y[0]? =some u/\y[2]? =some .none)/\y[1]? =some (.ref T)/\mB.get? T=none/\T≠e/\h.get? T=some x/\x.data=.fields w/\w[3]? =some r
def pY(mB:lX)(l:lP Env)(e:lR)(cls z:lS)(y:lU lR)(x:lS)(h:lX):Prop:=mB.StaysIn h/\mB.get? e=none/\h.FunFrames mB l/\TrX h mB e cls z y x
def RU(f:Array lS->Array lS)(o:Obj):(Obj.mapFields f o).dict=o.dict:=by
 obtain⟨c,d,z,y⟩:=o;cases z<;>rfl
def pY.there(x:pY mB l e cls r y q h):∃z,h.get? e=some z/\z.cls=cls/\z.dict=y/\∃vs,z.data=.fields vs:=by
 obtain⟨_,_,_,w,vs,_,_,_,he,u,s,hd,_⟩:=x;show#[w,he,u,s,vs,hd]
def pY.ctx(x:pY mB l e cls u s r h):∃z vs,h.get? e=some z/\z.data=.fields vs/\vs[2]? =some .none:=by
 obtain⟨_,_,_,y,vs,_,_,_,he,q,p,hd,w,_⟩:=x;show#[y,vs,he,hd,w.2]
section
variable {M:Model} {A:md} {E:lS->lT->Prop} {s:lT} {mB:lX} {env:Env} {my l:lP Env} {L e:lR} {oe:Obj} {vs:Array lS} {head a0 cls fl:lS} {dx:lU lR} {Q:Unit->lT->Prop}
def LA(G:A.frames=some (env ::my))(r:s.heap.FunFrames mB (env ::my))(D:env.frame=some L)(he:s.heap.get? e=some oe)(n:mB.StaysIn s.heap)(j:mB.get? e=none)(hd:oe.data=.fields vs)(hsz:1<vs.size)
  (i:vs[0]? =some a0/\vs[2]? =some .none) (h:∀h',pY mB (env ::my) e oe.cls a0 oe.dict (rawInt L) h'->s.heap.UpToSlots h'->Q () {s with heap:=h'}) :
  wpAny M A (do let a <-frameOf env;let pl <-entryPlaceOf L hadNext;let b <-EntryCells.newEntry head a .none (rawInt L) .none pl;setField (.ref e) 1 b) Q E s:=by
 have off:e∉(env ::my).filterMap (·.frame):=λz=>by
  obtain⟨_,o,q,w⟩:=r.mem z;rw[he]at q;cases q;show w vs hd
 refine mP<|wpAny_frameOf_fun G r D λg p=>mP<|wpAny_entryPlaceOf λpl d=>?_;unfold EntryCells.newEntry newFields;refine mP<|vP ?_<|d.sizeOk5 _ _ _ _ _;have c:g.get? e=some oe:=by rw[p.2.1 e off];show he
 have Y:mB.StaysIn g:=λb o q=>by
  rw[p.2.1 b λz=>by rw[(r.mem z).1]at q;cases q];show n b o q
 generalize U:({cls:=.type "traceback",dict:=none,data:=.fields ([head,.ref L,.none,rawInt L,.none]++(if pl.isEmpty then List.replicate 6 Value.none else pl)).toArray}:Obj)=x;have N:(g.push x).get? e=some oe:=nO _ c;have J:g.objs.size≠e:=wX<|nI c;have C:(g.push x).get? g.objs.size=some x:=oK g (by rw[<-U];rfl);refine Fx N hd hsz<|h _ ?_ ?_
 ·have I:=CM hd (·.setIfInBounds 1 (Value.ref g.objs.size));have B:=Dp (Obj.mapFields (·.setIfInBounds 1 (Value.ref g.objs.size))) N<|Di I;have t3:((g.push x).update e (Obj.mapFields (·.setIfInBounds 1 (Value.ref g.objs.size)))).get? g.objs.size=some x:=by rw[uf _ _ J.symm];show C
  have u:∀b o,b≠e->g.get? b=some o->((g.push x).update e (Obj.mapFields (·.setIfInBounds 1 (Value.ref g.objs.size)))).get? b=some o:=λb o nb q=>by
   rw[uf _ _ nb.symm];show nO _ q
  refine#[λb o q=>u b o (λz=>by rw[z,j]at q;cases q)<|Y b o q,j,r.of_keeps λb o q w=>?_,?_]
  ·obtain⟨H,z⟩:=p.2.2 b o q;refine#[_,u b _ (λy=>?_) z,rfl];rw[y,he]at q;cases q;show w vs hd
  ·refine#[_,_,g.objs.size,x,_,B,Obj.cls_mapFields _ _,RU _ _,I,?_,by simp[hsz],Y.fresh,J,t3,by rw[<-U],?_]
   ·show#[by rw[Nu (by lk)];show i.1,by rw[Nu (by lk)];show i.2]
   ·rcases d with rfl|⟨_,_,_,_,_,_,_,rfl⟩<;>simp
 ·intro b o q w;obtain⟨H,z⟩:=p.2.2 b o q;refine#[H,?_];change((g.push x).update e (Obj.mapFields (·.setIfInBounds 1 (Value.ref g.objs.size)))).get? b=_;rw[uf _ _ λy=>by rw[<-y,he]at q;cases q;show w vs hd];show nO _ z
def ZW(w:A.frames=some (env ::my))(u:s.heap.FunFrames mB (env ::my))(y:env.frame=some L)(he:s.heap.get? e=some oe)(z:mB.StaysIn s.heap)(r:mB.get? e=none)(hd:oe.data=.fields vs)
  (x:vs[1]? =some .none) (q:vs[0]? =some a0/\vs[2]? =some .none) (h:∀h',pY mB (env ::my) e oe.cls a0 oe.dict (rawInt L) h'->s.heap.UpToSlots h'->Q () {s with heap:=h'}):wpAny M A (noteFrame (.ref e) env) Q E s:=by
 unfold noteFrame;simp only[y];refine mP<|xR he hd x ?_;rw[mS (by lk)];show LA w u y he z r hd (CL.mp x).1 q h
def Nl(d:A.frames=some (env ::my))(n:env.frame=some L)(x:pY mB (env ::my) e cls a0 dx .none s.heap)
  (h:∀h',pY mB (env ::my) e cls a0 dx (rawInt L) h'->s.heap.UpToSlots h'->Q () {s with heap:=h'}):wpAny M A (noteFrame (.ref e) env) Q E s:=by
 obtain⟨u,c,a,oe,vs,T,B,Y,he,U,N,hd,J,j,I,H,r,p,i⟩:=x;subst U N;unfold noteFrame;simp only[n];refine mP<|xR he hd j ?_;rw[mT (by simp)];refine mP<|xR r p i ?_;rw[mS (by simp[rawInt])];refine mP<|Fx r p (CL.mp i).1 ?_;have y:∀b,b≠T->(s.heap.update T<|Obj.mapFields (·.setIfInBounds 3 Value.none)).get? b=s.heap.get? b:=λb G=>uf _ _ G.symm
 have g:∀b o,s.heap.get? b=some o->(∀vs,o.data≠.fields vs)->b≠T:=λb o q w z=>by
  rw[z,r]at q;cases q;show w Y p
 refine LA d (a.of_keeps λb o q w=>#[o,by rw[y b (g b o q w)];show q,rfl]) n (by rw[y e H.symm];show he) (λb o q=>?_) c hd (CL.mp j).1 J λh' D C=>h h' D λb o q w=>C b o (by
  change(s.heap.update T _).get? b=_;rw[y b (g b o q w)];show q) w
 change(s.heap.update T _).get? b=_;rw[y b λz=>by rw[z,I]at q;cases q];show u b o q
def CK(x:pY mB l e cls a0 dx fl s.heap)(h:∀h',pY mB l e cls a0 dx .none h'->s.heap.UpToSlots h'->Q () {s with heap:=h'}):wpAny M A (setFlight (.ref e) none) Q E s:=by
 obtain⟨p,a,Y,oe,vs,T,G,j,he,U,N,hd,J,i,g,d,n,r,I⟩:=x;have w:3<j.size:=(CL.mp I).1;have y:∀b,b≠T->(s.heap.update T<|Obj.mapFields (·.setIfInBounds 3 ((none:lU lR).elim Value.none λf=>rawInt f))).get? b=s.heap.get? b:=λb H=>uf _ _ H.symm
 have c:∀b o,s.heap.get? b=some o->(∀vs,o.data≠.fields vs)->b≠T:=λb o q u z=>by
  rw[z,n]at q;cases q;show u j r
 unfold setFlight;refine mP<|xR he hd i ?_;rw[mT (by simp)];refine Fx n r w<|h _ #[λb o q=>?_,a,Y.of_keeps λb o q u=>#[o,?_,rfl],oe,vs,T,_,_,?_,U,N,hd,J,i,g,d,Dp _ n<|Di<|CM r _,CM r _,by simp[w]] λb o q u=>#[o.slots,?_]
 ·rw[y b λz=>by rw[z,g]at q;cases q];show p b o q
 ·rw[y b (c b o q u)];show q
 ·rw[y e d.symm];show he
 ·change(s.heap.update T _).get? b=_;rw[y b (c b o q u)];show q
def pY.out(x:pY mB (env ::my) e cls a0 dx fl s.heap):pY mB my e cls a0 dx fl s.heap:=by
 obtain⟨a,b,⟨_,_,c⟩,d⟩:=x;show#[a,b,c,d]
def LO(y:A.frames=some (env ::my))(w:env.frame=some L)(x:pY mB (env ::my) e cls a0 dx .none s.heap)(h:∀h',pY mB my e cls a0 dx .none h'->s.heap.UpToSlots h'->Q () {s with heap:=h'}) :
  wpAny M A (leaving env<|.ref e) Q E s:=by
 unfold leaving;refine mP<|Nl y w x λu r q=>CK (s:={s with heap:=u}) r λz p o=>h z ?_<|q.trans o;show pY.out (s:={s with heap:=z}) p
def Jy(w:A.frames=some (env ::my))(u:s.heap.FunFrames mB (env ::my))(r:env.frame=some L)(he:s.heap.get? e=some oe)(z:mB.StaysIn s.heap)(q:mB.get? e=none)(hd:oe.data=.fields vs)
  (y:vs[1]? =some .none) (p:vs[0]? =some a0/\vs[2]? =some .none) (h:∀h',pY mB my e oe.cls a0 oe.dict .none h'->s.heap.UpToSlots h'->Q () {s with heap:=h'}):wpAny M A (leaving env<|.ref e) Q E s:=by
 unfold leaving;refine mP<|ZW w u r he z q hd y p λy o n=>CK (s:={s with heap:=y}) o λx j i=>h x ?_<|n.trans i;show pY.out (s:={s with heap:=x}) j
end
end L2
end
section
namespace L2
open PySem PySem.Spec PyProof.Rows
def CJ(K:lV)(z:lQ->lU lS)(x:lQ)(C:lR)(bm:lP lS)(newId:String):Prop:=∀h:lX,K.In h->OwnCls x C bm newId z h
def tZ{K:lV}{s:lQ->lU lS}{x:lQ}{C:lR}{z:lP lS}{newId:String}(m:s x=some (.ref C))(q:PySem.W.excIn K C z newId=true):CJ K s x C z newId:=by
 intro h X;refine#[m,?_];unfold PySem.W.excIn at q;split at q
 case h_2=>cases q
 case h_1 d w c a =>
  split at q
  case h_2=>cases q
  case h_1 Y U r p o l n j i Q =>
   rw[qx,qx,qx,qx,qx]at q;obtain⟨⟨⟨⟨⟨N,M⟩,L⟩,J⟩,u⟩,I⟩:=q;have H:Y=C:=rG.mp N;have G:n=newId:=rG.mp M;have g:nsIn K w.ns "__init__"=some none:=rG.mp I;have e:w.hasDel=false:=by simpa using L
   subst H G;have E:c=(List.toArray [r,p,o,l,some<|.builtin n,j]):=Array.toList_inj.mp Q;obtain⟨nm,bs,mro,D,B,y,A,sub,ab,col,pV⟩:=w;dsimp only at i e u g;subst i e E;show#[U,D,nm,B,bs,y,A,sub,ab,col,d,r,p,o,l,j,_,X _ _ a,.of_isNs<|PySem.W.isNs_of_in X u,PySem.W.nsMap_none_of_in X u g,PySem.W.tail_of_in X J]
def Vl(z:lP Env)(cls:lS)(y:lU lR)(x:Hp)(g:lX)(w:lR)(h:lX):Prop :=
 ∃u B,pY B z w cls u y .none h/\∀b o,h.get? b=some o->((∃s,g.get? b=some s)\/x b≠none)->b∉nX z->B.get? b=some o
def nZ(P:ma)(w:lY):vI:=λx H s E e z=>∃u cls r y,e=.ref u/\z.os=s.os/\AllBare z.gens/\Un (nX x) [] H y s.heap z.heap/\oj P w y z.heap/\Vl x cls r y s.heap u z.heap/\E cls r y
def Yc.there(x:Yc P w H h a o):∃r,h.get? a=some r:=by
 cases o with
 | lst q=>obtain⟨_,_,_,_,e⟩:=x;show#[_,e]
 | tup q=>obtain⟨_,_,_,_,e,_⟩:=x;show#[_,e]
 | dK s=>obtain⟨_,_,_,_,o,_,_,e,_⟩:=x;show#[_,e]
 | dT s=>obtain⟨_,_,_,_,o,_,_,e,_⟩:=x;show#[_,e]
 | set S n=>obtain⟨o,_,_,_,e,_⟩:=x;show#[_,e]
 | ins C z fs=>obtain⟨_,_,_,e,_⟩:=x;show#[_,e]
 | own y=>obtain⟨_,e⟩:=x;show#[_,e]
 | xd fs=>obtain⟨_,⟨_,_,_,e,_⟩,_⟩:=x;show#[_,e]
 | rng lo z=>obtain⟨_,_,_,e⟩:=x;show#[_,e]
 | frz r u=>obtain⟨e,_⟩:=x;show#[_,e]
 | tbl z =>
  obtain⟨_,e,_⟩:=x;show#[_,e]
 | met f y=>show#[_,show h.get? a=some _ from x]
 | ext z=>obtain⟨_,⟨_,e⟩,_⟩:=x;show#[_,e]
section
variable {P:ma} {w:lY} {K:lV} {mg:lQ->lU lS} {mB:lX} {N:lP lQ} {qual:lQ} {scope:Scope} {f:lR} {cd:lS} {A:md} {my:lP Env} {mf:lT} {mi:Hp} {E:XK}
def Er(I:mG (oW CX P w K mg mB N qual scope f cd A my mf mi E) c7 z q s1)
  (U:pY B my L cls C J .none h') (up:s1.heap.UpToSlots h') (H:∀b o,s1.heap.get? b=some o->((∃o',mf.heap.get? b=some o')\/q b≠none)->b∉nX (envOfC qual scope #v[mf] f cd ::my)->B.get? b=some o)
  (hE:E cls J q):nZ P w my mi mf E (.ref L) {s1 with heap:=h'}:=by
 have stay:∀b o,s1.heap.get? b=some o->((∃o',mf.heap.get? b=some o')\/q b≠none)->b∉nX (envOfC qual scope #v[mf] f cd ::my)->h'.get? b=some o:=λb o x s r=>U.1 b o<|H b o x s r
 have d:nX (envOfC qual scope #v[mf] f cd ::my)=#v[mf] ::nX my:=rfl;have Y:∀b,((∃o',mf.heap.get? b=some o')\/q b≠none)->b∉nX my->b∉nX (envOfC qual scope #v[mf] f cd ::my):=λb x s r=>by
  rw[d]at r;rcases nQ.mp r with e|e
  ·rcases x with x|x
   ·obtain⟨o',x⟩:=x;rw[e]at x;show absurd (nI x)<|qR _
   ·have:q #v[mf]=none:=I.free;rw[e]at x;show x this
  ·show s e
 have uc:∀b,q b≠none->b∉nX my:=λb x s=>x (I.stkFree b (by change b∈nX (envOfC qual scope #v[mf] f cd ::my);rw[d];show pc _ s))
 have c:∀b,b∈nX my->∃o,s1.heap.get? b=some o/\∀vs,o.data≠.fields vs:=λb i=>by
  have x:s1.heap.FunFrames mB (envOfC qual scope #v[mf] f cd ::my):=I.stack;show(x.mem (yu.mpr (by
   obtain⟨env,he,y⟩:=yu.mp i;show#[env,pc _ he,y]))).2
 have p:Un (nX my) [] mi q mf.heap s1.heap:=I.mB;refine#[L,cls,J,q,rfl,I.os,I.bare,#[λb o x s r l=>?_,λb o x s r l=>?_,p.free,λb o x l=>?_,p.tups,p.frzs,p.tbls],λa o G=>?_,#[C,B,U,λb o x s r=>?_],hE]
 ·show stay b o (p.keep b o x s r l) (.inl #[_,x])<|Y b (.inl #[_,x]) r
 ·obtain⟨y,j⟩:=p.slot b o x s r l;obtain⟨n,h,g⟩:=c b r;rw[j]at h;cases h;obtain⟨D,Q⟩:=up b _ j g;show#[D,Q]
 ·obtain⟨n,j⟩:=p.there b o x l
  by_cases i:b∈nX my
  ·obtain⟨y,h,g⟩:=c b i;obtain⟨D,Q⟩:=up b _ h g;show#[_,Q]
  ·show#[n,stay b n j (.inl #[_,x])<|Y b (.inl #[_,x]) i]
 ·refine(I.hok a o G).stay (λb u i x=>?_) (λ_ y=>y) (λ_ _ y=>y);have M:q b≠none:=by
   rcases i with e|e
   ·rw[e,G];show xL _
   ·rw[e];show xL _
  show stay b u x (.inr M)<|Y b (.inr M)<|uc b M
 ·have M:∃n,s1.heap.get? b=some n:=by
   rcases s with⟨o',s⟩|s
   ·show p.there b o' s (by simp)
   ·cases y:q b with
    | none=>show absurd y s
    | some u=>show(I.hok b u y).there
  obtain⟨n,l⟩:=M;have j:=H b n l s<|Y b s r;have h:=U.1 b n j;have g:h'.get? b=some o:=x;rw[h]at g;cases g;show j
def vG:sK (nZ P w) (oW (nZ P w) P w K mg mB N qual scope f cd A my mf mi E) E:=by
 intro Y z H s e p I h;obtain⟨n,cls,o,g,rfl,os,x,un,u,⟨d,B,l,j⟩,i⟩:=h;have q:=I.call' os un u x (λb y=>absurd y<|by simp);change wpAny _ _ (leaving _<|.ref n) _ _ p;refine LO q.ok.frames rfl l λU r up=>?_
 show Er q r up (λb o g d c=>j b o g (d.imp_left λ⟨a,y⟩=>I.mB.there b a y<|by change b∉([]:lP lR);simp) c) i
def ZX(C:lR)(E:XK)(t:TA):TS:=λ_ z H=>t z H λy x=>y.length<=sizeLine/\E (.ref C) none x
def Wf{x:lQ}{C:lR}{bm:lP lS}{a newId Y:String}{U p pos:Pos}{r:lZ}{Zs:lP lZ}{t:TA}(Q:CJ K mg x C bm newId)(FB:ExcBaseFacts a newId Y bm)
  (M:Gl (oW (nZ P w) P w K mg mB N qual scope f cd A my mf mi E) x) (L:PA (oW (nZ P w) P w K mg mB N qual scope f cd A my mf mi E) (r ::Zs) t)
  (he:starEach (r ::Zs) (envOfC qual scope #v[mf] f cd)=(false,eval r<|envOfC qual scope #v[mf] f cd) ::starEach Zs (envOfC qual scope #v[mf] f cd):=by rfl)
  (J:(backTo p<|starEach Zs<|envOfC qual scope #v[mf] f cd).any (·.1)=false:=by rfl) (hd:(x ==("__debug__":lQ))=false:=by lk) :
  PS (oW (nZ P w) P w K mg mB N qual scope f cd A my mf mi E) (.Raise (some<|.Call (.Name x U) (r ::Zs) [] p) none pos) (ZX C E t):=by
 intro G s z H D I h;have O:OwnCls x C bm newId mg mB:=Q mB I.ok.mod.kin;obtain⟨B,N',nm,q,bs,n,sn,sub,ab,col,dd,k0,k1,k2,k3,k5,mN,hC,hN,i,T⟩:=O.obj;refine wpAny_Raise_call_subT (C:=C) (nm:=nm) (q:=q) (N:=N') (bs:=bs) (bm:=B) (hdct:=n) (sn:=sn) (sub:=sub) (ab:=ab) (col:=col) (dd:=dd) (k0:=k0) (k1:=k1) (k2:=k2) (k3:=k3) (k5:=k5)
  FB (mN:=mN) (T.hasType FB.hasBase) (I.ok.hd rfl) (by change(backTo p<|starEach (r ::Zs)<|envOfC qual scope #v[mf] f cd).any (·.1)=false;rw[he];change(false || (backTo p<|starEach Zs<|envOfC qual scope #v[mf] f cd).any (·.1))=false;rw[J];rfl) i (xv I M O.bound #[rfl,?_] hd)
 have c:=L p G s z H _ I h;have J7:starEach (r ::Zs) (oW (nZ P w) P w K mg mB N qual scope f cd A my mf mi E).env=(false,eval r<|envOfC qual scope #v[mf] f cd) ::starEach Zs (envOfC qual scope #v[mf] f cd):=he;rw[J7]at c ⊢;refine Ct<|mX c λy g h9=>?_;obtain⟨y,H2,j,r2,hl,hE⟩:=h9;have u:∀b o,mB.get? b=some o->g.heap.get? b=some o:=λb o e=>(j.bs b o e).1
 refine#[rfl,by rw[<-r2.length];show hl,u _ _ hC,hN.keeps u,T.keeps u,λy e l=>?_];change wpAny _ _ (leaving _<|.ref e) _ _ _;obtain⟨t,d,_,_⟩:=l.there;have U3:∀env∈(envOfC qual scope #v[mf] f cd ::my),∀b,env.frame=some b->b∈nX (envOfC qual scope #v[mf] f cd ::my):=λenv he b hb=>yu.mpr #[env,he,hb]
 refine Jy (mB:=PySem.W.hideAll g.heap<|nX<|envOfC qual scope #v[mf] f cd ::my) j.ok.frames ((JJ j.stack U3).of_keeps λb o q _=>#[o,l.keeps b o q,rfl]) rfl d (λb o q=>l.keeps b o<|DK _ q) ?_ rfl rfl #[rfl,rfl] λh'' fl up=>?_
 ·cases q:(PySem.W.hideAll g.heap<|nX<|envOfC qual scope #v[mf] f cd ::my).get? e with
  | none=>rfl
  | some o=>show absurd (DK _ q) (by rw[l.new];show λy=>nomatch y)
 ·have R:=Er j fl ((Heap.UpToSlots.of_keeps l.keeps).trans up) (λb o y _ h3=>IA _ y h3) hE;show R
end
def Ye9{P:ma}{w:lY}{fs:lP lR}{H x:Hp}{g h h' B:lX}(un:Un fs [] H x g h)(j:oj P w x h)(fr:∀b∈fs,x b=none/\∃o,h.get? b=some o/\∀vs,o.data≠.fields vs)(st:B.StaysIn h')(up:h.UpToSlots h')
  (N:∀b o,h.get? b=some o->((∃o',g.get? b=some o')\/x b≠none)->b∉fs->B.get? b=some o):Un fs [] H x g h'/\oj P w x h':=by
 have stay:∀b o,h.get? b=some o->((∃o',g.get? b=some o')\/x b≠none)->b∉fs->h'.get? b=some o:=λb o y r s=>st b o<|N b o y r s
 refine#[#[λb o y r s q=>stay b o (un.keep b o y r s q) (.inl #[_,y]) s,λb o y r s q=>?_,un.free,λb o y q=>?_,un.tups,un.frzs,un.tbls],λa o Y=>?_]
 ·obtain⟨z,p⟩:=un.slot b o y r s q;obtain⟨_,i,n,d⟩:=fr b s;rw[p]at n;cases n;obtain⟨U,c⟩:=up b _ p d;show#[U,c]
 ·obtain⟨i,p⟩:=un.there b o y q
  by_cases l:b∈fs
  ·obtain⟨_,z,n,d⟩:=fr b l;obtain⟨U,c⟩:=up b _ n d;show#[_,c]
  ·show#[i,stay b i p (.inl #[_,y]) l]
 ·refine(j a o Y).stay (λb u l y=>?_) (λ_ z=>z) (λ_ _ z=>z);have Q:x b≠none:=by
   rcases l with e|e
   ·rw[e,Y];show xL _
   ·rw[e];show xL _
  show stay b u y (.inr Q) λz=>Q (fr b z).1
abbrev Cx.tried(X:Cx)(pn:lP (lR×Obj))(E:lS->lT->Prop):Cx:={X with pn:=pn,xe:=E}
abbrev Cx.caught(X:Cx)(ea:lR):Cx:={X with A:=X.A.mark<|some<|.ref ea,calm:=false,xe:=λ_ _=>False}
section
variable {X:Cx} {E:lS->lT->Prop}
def mG.tryIn(I:mG X y z H s)(E:lS->lT->Prop):mG (X.tried (X.pn++y) E) [] z H s :=
 #[#[I.ok.mod,I.ok.kind,I.ok.glob,I.ok.blt,I.ok.above,I.ok.inj,I.ok.has,I.ok.cab,I.ok.hd,I.ok.frames,I.ok.stk,I.ok.exf,I.ok.bs,I.ok.bsz,I.ok.noex,I.ok.exfs,I.ok.funs,I.ok.frf],I.os,I.bare,I.mB,I.loc,I.cell,I.free,I.freeC,λp x=>I.pin p (by simpa using x),I.hok,I.len]
def mG.tryOut(I:mG (X.tried (X.pn++y) E) w z H s):mG X y z H s :=
 #[#[I.ok.mod,I.ok.kind,I.ok.glob,I.ok.blt,I.ok.above,I.ok.inj,I.ok.has,I.ok.cab,I.ok.hd,I.ok.frames,I.ok.stk,I.ok.exf,I.ok.bs,I.ok.bsz,I.ok.noex,I.ok.exfs,I.ok.funs,I.ok.frf],I.os,I.bare,I.mB,I.loc,I.cell,I.free,I.freeC,λp x=>I.pin p<|vT _ x,I.hok,I.len]
def mG.catch(I:mG X x z H s)(w:lR):mG (X.caught w) x z H s :=
 #[#[I.ok.mod,I.ok.kind,I.ok.glob,I.ok.blt,I.ok.above,I.ok.inj,I.ok.has,I.ok.cab,λy=>absurd y oH,I.ok.frames,I.ok.stk,I.ok.exf,I.ok.bs,I.ok.bsz,I.ok.noex,I.ok.exfs,I.ok.funs,I.ok.frf],I.os,I.bare,I.mB,I.loc,I.cell,I.free,I.freeC,I.pin,I.hok,I.len]
def mG.uncatch(y:X.A.handled=none)(I:mG (X.caught w) x z H s):mG X x z H s :=
 #[#[I.ok.mod,I.ok.kind,I.ok.glob,I.ok.blt,I.ok.above,I.ok.inj,I.ok.has,I.ok.cab,λ_=>y,I.ok.frames,I.ok.stk,I.ok.exf,I.ok.bs,I.ok.bsz,I.ok.noex,I.ok.exfs,I.ok.funs,I.ok.frf],I.os,I.bare,I.mB,I.loc,I.cell,I.free,I.freeC,I.pin,I.hok,I.len]
end
section
variable {P:ma} {w:lY} {K:lV} {mg:lQ->lU lS} {mB:lX}
def qX.okX{x qual:lQ}{st:lW}{f:lR}{fd:me}{N ps:lP lQ}{k:Nat}{y:Sp}(F:qX K x qual st f fd)(S:Zx N ps (Zk st))
  (r:∀(z:lS)(A:md)(u:lP Env)(s:lT)(H:Hp)(vs:lP V)(Q:VK)(E:XK),Y6 k (A.deeper<|envOfC qual (Zk st) #v[s] f z)->y vs H Q E->
   let X:=(oW (nZ P w) P w K mg mB N qual (Zk st) f z A u s H E);let D:pX:={nx:=λ_ q=>Q .non q,rt:=Q};WSs X (Y3 st) D (start N vs) H) (len:∀vs H Q E,y vs H Q E->vs.length=ps.length:=by rintro _ _ _ _ ⟨⟩<;>subst_vars<;>first|rfl|(rename_i h;cases h;subst_vars;rfl)):Xf P w K mg mB (nZ P w) (k+1) f fd ps y:=by
 obtain⟨l,j,kV,i,g,e,z,d,c,rfl,lk,p⟩:=F.ex;show Ea lk p S len λA u s H vs Q E o n=>#[_,Zn,r z A u s H vs Q E o n]
end
theorem Bv:∀{ss:lP lQ}{us:lP lS},Z6 (ss.map V.str) us->StrsAre us ss
 | [],_,r=>by rw[uH]at r;cases r;show .nil
 | x ::ss,_,r=>by
  rw[nS]at r;cases r with
  | cons r t =>
   obtain⟨z,rfl⟩:=r;show .cons _ _<|Bv t
theorem JN:∀{ss:lP lQ}{us:lP lS},StrsAre us ss->Z6 (ss.map V.str) us
 | [],_,r=>by cases r;show .nil
 | x ::ss,_,r=>by
  cases r with
  | cons _ _ t=>show .cons #[_,rfl]<|JN t
def mG.laidAt(I:mG X r z H s)(k:∀b u,s.heap.get? b=some u->h'.get? b=some u)(w:s.heap.get? a=none)(new:Yc X.prog X.w (mH H a o) h' a o) :
  H a=none/\mG X r z (mH H a o) {s with heap:=h',toks:=t'}:=by
 have x:H a=none:=by
  cases e:H a with
  | none=>rfl
  | some u =>
   obtain⟨q,y⟩:=(I.hok a u e).there;rw[w]at y;cases y
 have p:∀b u,s.heap.get? b=some u->b≠a:=λb u e y=>by rw[y,w]at e;cases e
 refine#[x,I.call' (s':={s with heap:=h',toks:=t'}) rfl #[λb u e _ _ _=>k b u e,λb u e _ _ _=>#[u.slots,k b u e],λb u e n _=>by rw[Ze (p b u e)];show n,λb u e _=>#[u,k b u e],λb l e=>?_,λb q u e=>?_,λb j e=>#[#[],?_]] (λb u e=>?_) I.bare λb y=>absurd y wf]
 ·rw[Ze (Zg e x)];show e
 ·rw[Ze (Zg e x)];show e
 ·rw[Ze (Zg e x)];simpa using e
 ·by_cases y:b=a
  ·rw[y,Zd]at e;cases e;rw[y];show new
  ·rw[Ze y]at e;show(I.hok b u e).stay (λc v _ h=>k c v h) (λc h=>by rw[Ze (Zg h x)];show h) (λc q h=>by rw[Ze (Zg h x)];show h)
def BZ:lP V->Hp->VK->Prop:=λw H Q=>∃(p:lR)(y:lP (mZ×V)) (x:lP lQ),w=[.ref p]/\Rd H p (.dK y)/\y.map (λkv=>kV kv.1)=x.map V.str/\x.length<64/\∀z:lP lQ,z.Perm x->sortedS z=true->pK H (.lst<|z.map V.str) Q
def EE(G:X.calm=true):Xd X (.builtin "sorted") BZ:=by
 intro c7 s z H xs us Q I r h;obtain⟨p,c,E,rfl,hd,D,u,q⟩:=h;obtain⟨u,rfl,C⟩:=qg r;cases C;obtain⟨u,lo,B,kv,da⟩:=rg I.hok hd;obtain⟨ep,C6⟩:=da.dictAt;have hlv:=KV.length kv;refine Eh kind_sorted plain_sorted entry_sorted (args_sorted1 _) ?_;unfold Builtin.«sorted»;refine mP (m:=checkCount "sorted" 1 1 _)<|nq ?_;refine mP<|PySem.W.kdu_collect (A:=X.A.in1) (PySem.W.kdl_dict (knd:=Z4 X.prog X.w) (kvs:=B) (ep:=ep) lo) (I.ok.hd G) C6 (by lia) λn tk x g M=>?_;have Y:Z6 (c.map λkv=>kV kv.1) x.toList:=Gj (P:=X.prog) (w:=X.w) kv (by rw[ue];show M.1) λj v e=>M.2 j v (by rw[<-wL];show e)
 rw[D]at Y;have U:=Bv Y;have d9:x.toList.length=E.length:=by have:=Y.length;rw[mI]at this;show this.symm
 refine mP (wpAny_newList ?_ (by rw[d9];show sz<|by lia));have l:(n.push<|seqObj "list" x.toList.toArray 0).get? n.objs.size=some (seqObj "list" x.toList.toArray 0):=oK _ rfl;refine mP<|qH<|BK slot_list_sort #[_,l,rfl] entry_list_sort (list_sort_treeK strKind_oneLt l U.keysOf (λu p Zs e=>keyKind_strs (by rw[<-e];show U)) (by lia) λN a1 a2=>#[_,rfl,?_])<|args_list_sort _;obtain⟨d,b1,L,b3⟩:=sorted_out_str U a1 a2;obtain⟨e,he⟩:=sortedHeap_at (out:=(arrOf N).map (·.2)) l;have hp:=L.length_eq;have i:s.heap.get? n.objs.size=none:=by
  cases y:s.heap.get? n.objs.size with
  | none=>rfl
  | some o=>show absurd (nI<|g _ _ y)<|qR _
 obtain⟨hn,J⟩:=I.laidAt (h':=sortedHeap (n.push<|seqObj "list" x.toList.toArray 0) n.objs.size x.toList<|(arrOf N).map (·.2)) (t':=tk) (a:=n.objs.size) (o:=.lst<|d.map V.str) (λb o p=>by
  have u:=g b o p;rw[sortedHeap_old (nR<|nI u) (pM (nI u) (by rw[ur];show tw _))];show nO _ u) i (show Yc X.prog X.w _ _ _ (.lst _)from#[by rw[mI];show sz (by lia),((arrOf N).map (·.2)).toList,e,JN b1,by rw[he]])
 show nq #[_,rfl,.ref n.objs.size,_,J,rfl,(q d L b3).at _ hn]
def VZ(u:TE):TE:=λz H Q=>u z H λx w=>∃d y,x=.ref d/\Rd w d (.dK y)/\pK w (.lst<|y.map λkv=>kv.2) Q
def UU{kvs:lP (mZ×V)}{z:lP (mZ×lS)}(h:KV kvs z):Z6 (kvs.map λkv=>kv.2) (z.map λkv=>kv.2):=by
 induction h with
 | nil=>show .nil
 | cons r t y=>show .cons r.2 y
def Vy(N:X.calm=true)(u:Gl X "list")(p:X.mg "list"=none)(M:PE X o to)(L:attributeBase o "values" X.env (eval o X.env)=eval o X.env:=by rfl)(J:(G.endLine ==E.line)=true:=by rfl) :
  PE X (.Call (.Name "list" p') [.Call (.Attribute o "values" G) [] [] E] [] D7) (VZ to):=by
 intro c s z H Q I h;refine vR<|xf I u p xr ?_;refine zQ ?_ rfl rfl;refine Ag ?_;refine HP L J<|mX (M c s z H _ I h) λv s1 ⟨y,D,Y,C,B⟩=>?_;obtain⟨d,n,rfl,hd,q⟩:=B;cases C;obtain⟨A,hs,l,kv,x⟩:=rg Y.hok hd;obtain⟨ob,_,_,i,V7,_⟩:=id x;obtain⟨ep,hD⟩:=Ef x i;refine#["dict","dict.values",CU,LJ,PySem.F.type_dict_values,x.typeIs,λa e=>?_,yt rfl<|Fq ?_]
 ·cases e;show#[ob,i,V7.2.1]
 refine Bi LJ x.typeIs PySem.F.entry_dict_values (PySem.F.args_dict_values_1 _) (meets_dict_values (Z4 X.prog X.w) d hs) #[#[l,x],?_];refine BU ?_;have g:mG X c z D {s1 with heap:=s1.heap.push {cls:=.type "dict_values",data:=.fields (List.toArray [.ref d])}}:=Y.kept (t':=s1.toks) λb o e=>nO _ e
 have hl:=KV.length kv;refine PySem.W.kdl_call (PySem.W.kdl_values (knd:=Z4 X.prog X.w) (r:=#v[s1]) (d:=d) (kvs:=l) (ep:=ep)) (g.ok.hd N) #[#[_,oK _ rfl,rfl,rfl],hD _<|nO _ i] (by lia) λh' tk w c' hk y8 U=>?_
 have e1:w.toList=l.map (·.2):=PySem.W.kdl_vals_eq w.toList (by rw[ue];show U.1) λj v e=>U.2 j v (by rw[<-wL];show e)
 have hv:Z6 (n.map λkv=>kv.2) w.toList:=by rw[e1];show UU kv
 show#[.ref _,_,g.laid (o:=.lst _) (t':=tk) hk (nw _) (show Yc X.prog X.w _ h' _ (.lst _)from#[by rw[mI];show A,w.toList,c',hv,by rw[y8]]),rfl,q.at _<|g.hok.fresh<|nw _]
end L2
end
section
namespace L2
open PySem PySem.Spec PyProof.Rows Builtin Builtin.ObjectAttr
abbrev wC:lP lS:=[.type "ValueError",.type "Exception",.type "BaseException",.type "object"]
def uT(C t:lR)(z:lU lR):Obj:={cls:=.ref C,dict:=z,data:=.fields (List.toArray [.ref t,.none,.none,.none,.bool false,.none])}
def pP(e C t:lR)(z:lU lR):HO:=.ext λh=>h.get? e=some (uT C t z)
def qI(e C:lR)(y:lU lR):HO:=.ext λh=>∃o z,h.get? e=some o/\o.cls=.ref C/\o.dict=y/\o.data=.fields z/\z[2]? =some .none
section
def pP.ok(x:h.get? e=some (uT C t z)):Yc P w H h e (pP e C t z):=#[x,#[_,x],λ_ _ p k=>k _ p]
def qI.ok{o:Obj}{vs:Array lS}(x:h.get? e=some o)(a:o.cls=.ref C)(b:o.dict=z)(c:o.data=.fields vs)(d:vs[2]? =some .none):Yc P w H h e (qI e C z):=#[#[o,vs,x,a,b,c,d],#[_,x],λ_ _ ⟨o,vs,x,r⟩ k=>#[o,vs,k _ x,r]]
def pP.at(k:oj P w H h)(q:H e=some (pP e C t z)):h.get? e=some (uT C t z):=(k e _ q).1
def qI.at(k:oj P w H h)(q:H e=some (qI e C z)):∃o vs,h.get? e=some o/\o.cls=.ref C/\o.dict=z/\o.data=.fields vs:=let⟨o,vs,a,b,c,d,_⟩:=(k e _ q).1;#[o,vs,a,b,c,d]
end
variable {X:Cx}
def mG.track{a:lR}{o:HO}(I:mG X l z H s)(r:H a=none)(i:X.mf.heap.get? a=none)(h:a≠X.env.locals)(g:∀x c,X.env.cells.lookup x=some c->c≠a)(e:∀p∈X.pn++l,p.1≠a)
  (new:Yc X.prog X.w (mH H a o) s.heap a o):mG X l z (mH H a o) s:=by
 refine#[I.ok,I.os,I.bare,#[I.mB.keep,I.mB.slot,λb u y n d=>?_,I.mB.there,λb j y=>?_,λb Y u y=>?_,λb U y=>?_],I.loc,I.cell,?_,λx c y=>?_,λp y=>?_,λb u y=>?_,I.len]
 ·rw[Ze λw=>by rw[w,i]at y;cases y];show I.mB.free b u y n d
 ·have q:=I.mB.tups b j y;rw[Ze (Zg q r)];show q
 ·have q:=I.mB.frzs b Y u y;rw[Ze (Zg q r)];show q
 ·obtain⟨more,q⟩:=I.mB.tbls b U y;show#[more,by rw[Ze (Zg q r)];show q]
 ·rw[Ze h.symm];show I.free
 ·rw[Ze (g x c y)];show I.freeC x c y
 ·obtain⟨Q,N,M⟩:=I.pin p y;show#[Q,by rw[Ze (e p y)];show N,M]
 ·by_cases w:b=a
  ·subst w;rw[Zd]at y;cases y;show new
  ·rw[Ze w]at y;show(I.hok b u y).stay (λ_ _ _ q=>q) (λc q=>by rw[Ze (Zg q r)];show q) λc j q=>by rw[Ze (Zg q r)];show q
def yG(H:Hp)(a:lR):Hp:=λb=>if b=a then none else H b
def Bq{a b:lR}(h:b≠a):yG H a b=H b:=mS h
def Fc{a:lR}:yG H a a=none:=mT rfl
def mG.drop{a:lR}{z:lX->Prop}(I:mG X j y H s)(i:H a=some (.ext z)):mG X j y (yG H a) s:=by
 have off:∀{b:lR}{u:HO},H b=some u->u≠.ext z->yG H a b=some u:=λ{b u} q n=>by
  rw[Bq λx=>by rw[x,i]at q;show n (oo q).symm];show q
 have non:∀{b:lR},H b=none->yG H a b=none:=λ{b} q=>by
  by_cases x:b=a
  ·rw[x];show Fc
  ·rw[Bq x];show q
 refine#[I.ok,I.os,I.bare,#[I.mB.keep,I.mB.slot,λb u w n o=>non<|I.mB.free b u w n o,I.mB.there,λb l w=>off (I.mB.tups b l w) (λx=>nomatch x),λb h u w=>off (I.mB.frzs b h u w) (λx=>nomatch x),λb g w=>?_],I.loc,I.cell,non I.free,λr c w=>non<|I.freeC r c w,λp w=>?_,λb u w=>?_,I.len]
 ·obtain⟨more,q⟩:=I.mB.tbls b g w;show#[more,off q λx=>nomatch x]
 ·obtain⟨r,o,h⟩:=I.pin p w;show#[r,non o,h]
 ·have x:b≠a:=λx=>by rw[x,Fc]at w;cases w
  rw[Bq x]at w;show(I.hok b u w).stay (λ_ _ _ q=>q) (λc q=>off q λx=>nomatch x) (λc l q=>off q λx=>nomatch x) (λc o q=>off q λx=>nomatch x) (λc o q=>off q λx=>nomatch x)
def mG.forget{h':lX}{g:lQ->lU lS}{t':Nat}(I:mG X e z H s)(d:h'.Ns X.env.locals g)(l:Heap.SameBut X.env.locals s.heap h'):mG X e (List.replicate X.N.length none) H {s with heap:=h',toks:=t'}:=by
 have r:∀b o,X.mf.heap.get? b=some o->b≠X.env.locals:=λb o q=>nR<|pM (nI q) I.ok.above
 refine#[I.ok,I.os,I.bare,#[λb o y n h j=>?_,λb o y n h j=>?_,I.mB.free,λb o y j=>?_,I.mB.tups,I.mB.frzs,I.mB.tbls],#[g,d,λi x v _ y _=>?_],λx c y=>?_,I.free,I.freeC,λp y=>?_,λb u y=>?_,by simp]
 ·rw[l.2 b (r b o y)];show I.mB.keep b o y n h j
 ·obtain⟨w,q⟩:=I.mB.slot b o y n h j;show#[w,by rw[l.2 b (r b o y)];show q]
 ·obtain⟨w,q⟩:=I.mB.there b o y j;show#[w,by rw[l.2 b (r b o y)];show q]
 ·rw[EI]at y;split at y<;>cases y
 ·obtain⟨v,q⟩:=I.cell x c y;show#[v,q.sameBut l<|I.cne x c y]
 ·obtain⟨i,a,w,Y⟩:=I.pin p y;show#[by rw[l.2 p.1 w];show i,a,w,Y]
 ·refine(I.hok b u y).stay (λc v w q=>?_) (λ_ q=>q) λ_ _ q=>q
  rw[l.2 c ?_]
  ·show q
  rintro rfl;have fr:H X.env.locals=none:=I.free;rcases w with rfl|w
  ·rw[fr]at y;cases y
  ·rw[fr]at w;cases w
def vX(K:lV)(C Y:lR):Prop:=∃nm q N bs z sub y col x w u s r p,K.lookup C=some (excClassObj nm q C N bs (.ref Y ::wC) true z sub y col x w u s r p "ValueError.__new__")
def vX.cls{K:lV}{C Y:lR}(c:vX K C Y):∃z,PySem.W.clsIn K C=some z/\z.mro=.ref C ::.ref Y ::wC/\z.hasDict=true:=by
 obtain⟨nm,q,N,bs,y,sub,x,col,w,u,s,r,p,o,h⟩:=c;refine#[{name:=nm,bases:=bs,mro:=.ref C ::.ref Y ::wC,ns:=N,qualname:=q,hasDict:=true,slotNames:=y,subclasses:=sub,abstract:=x,collection:=col,hasDel:=false},?_,rfl,rfl];unfold PySem.W.clsIn;rw[h]
def vX.hd{K:lV}{C Y:lR}(c:vX K C Y):PySem.W.hasDictIn K C=true:=by
 obtain⟨z,h,_,hd⟩:=c.cls;unfold PySem.W.hasDictIn;rw[h];show hd
section
variable {E:lS->lT->Prop}
def Ycp{y:V}{u:lS}{Q:Unit->lT->Prop}(I:mG X c7 z H s)(q:H e=some (pP e C t none))(c:vX X.K C Y)(sa:findIn X.K (.ref C) "__setattr__"=some (some<|.builtin "object.__setattr__"))(na:findIn X.K (.ref C) f=some none)(ry:Yj y u)
  (h:∀i s',H i=none->i≠e->mG X c7 z (mH (mH H e<|pP e C t<|some i) i<|.xd [(f,y)]) s'->Q () s'):wpAny (model X.prog X.w) A (setAttr (.ref e) f u) Q E s:=by
 obtain⟨cd,a,r,n⟩:=c.cls;have he:=pP.at I.hok q;have J:PySem.W.InstAt s.heap e (uT C t none) C none:=#[he,rfl,rfl,trivial]
 have SF:=PySem.F.store_object;have U:PySem.W.Looks (model X.prog X.w) s.heap (typeOf<|.ref e) (.ref C):=J.type;have lm:PySem.W.Looks (model X.prog X.w) s.heap (mroOf<|.ref C) cd.mro:=(FY I.kIn a).andThen .now;have sub:PySem.W.Looks (model X.prog X.w) s.heap (isInstance (.ref e)<|.type "object") true:=U.andThen (Oa I.kIn<|by unfold PySem.W.mroIn;rw[a,Option.bind_some,r];rfl);refine PySem.W.set_plain I.kIn J sa ?_;refine Du SF.slot.plain SF.entry<|@JD (model X.prog X.w) _ _ {s with toks:=s.toks+1} "object.__setattr__" "object" "__setattr__" (.ref e) [.str f s.toks,u] [] _ SF.kind SF.split sub (SF.args (.ref e) (.str f s.toks) u) ?_;rw[PySem.W.osa_eq,refuse_eq];refine mP<|mP<|U.here (s:={s with toks:=s.toks+1})<|mP<|lm.here (s:={s with toks:=s.toks+1}) ?_;rw[r,refuseLoop_ref,refuseLoop_ref,PySem.F.store_ValueError.passes];refine nq<|mP<|U.here (s:={s with toks:=s.toks+1})<|mP<|(Bb I.kIn na).here (s:={s with toks:=s.toks+1}) (mP<|nq ?_);have d:e≠#v[s]:=nR<|nI he;have D:(s.heap.push PySem.W.emptyDict).get? e=some (uT C t none):=nO _ he;have h2:((s.heap.push PySem.W.emptyDict).update e λo=>{o with dict:=some #v[s]}).get? e=some (uT C t<|some #v[s]):=Dp _ D rfl;have d2:((s.heap.push PySem.W.emptyDict).update e λo=>{o with dict:=some #v[s]}).get? #v[s]=some PySem.W.emptyDict:=by
  rw[uf _ _ d];show oK s.heap rfl
 have n2:((s.heap.push PySem.W.emptyDict).update e λo=>{o with dict:=some #v[s]}).Ns #v[s] (λ_=>none):=#[_,#[],_,d2,rfl,λx g=>absurd g (by simp),λ_=>rfl]
 change wpAny _ _ (storeInOwnDict (.ref e) (.ref C) (.str f s.toks) f u _) _ _ _;unfold storeInOwnDict;refine mP<|nq ?_;rw[mS (by simp)];refine mP ?_;change wpAny _ _ (instanceDict e true) _ _ _;unfold instanceDict;refine mP<|Fw he ?_;dsimp only[uT];refine mP<|(FY I.kIn a).here (s:={s with toks:=s.toks+1}) ?_;rw[n,mS (by simp),mS<|by simp[typeHasDict]];refine mP<|wpAny_alloc'<|mP<|wpAny_update' D ?_;refine nq ?_;change wpAny _ _ (storeInDict #v[s] (.str f s.toks) f u) _ _ _;unfold storeInDict newKeyGuard;refine mP<|nq<|mP<|wpAny_nsSet1 (Heap.Ns1.of_empty n2) λN l j=>?_;obtain⟨oD,g,epD,M,L,G⟩:=l.count<|PySem.Within.cons f u PySem.Within.nil;refine mP<|wpAny_lookBehind M (by rw[L];show pastItsLine_dict<|oi G<|by rw[pi,Ff,tU];lia) ?_;refine nq ?_;have B:N.get? e=some (uT C t<|some #v[s]):=by rw[j.2 e d];show h2
 have k3:∀b o,b≠e->s.heap.get? b=some o->N.get? b=some o:=λb o nb x=>by
  rw[j.2 b (nR<|nI x)];change((s.heap.push PySem.W.emptyDict).update e λo=>{o with dict:=some #v[s]}).get? b=_;rw[uf _ _ nb.symm];show nO _ x
 have z9:H #v[s]=none:=I.fresh;refine h #v[s] _ z9 d.symm ?_;have I3:=I.write (x:=e) (e:=e) (o:=pP e C t<|some #v[s]) (h':=N) (t':=s.toks+1+1) (by rw[q];show rR) (.inl rfl) k3 #[_,B]<|pP.ok B;refine I3.track ?_ ?_ ?_ (λw c' x=>?_) (λp x=>?_) ?_
 ·rw[Ze d.symm];show z9
 ·show ye I.sz
 ·show wX I.lt
 ·obtain⟨v,o,g,_⟩:=I.cell w c' x;show nR<|nI g
 ·show nR<|nI (I.pin p x).1
 ·refine#[_,l,λg=>?_]
  by_cases x:g=f
  ·subst x;simp only[List.lookup,yl,tI];show ry
  ·have zb:(g ==f)=false:=sF.mpr x;simp only[List.lookup,zb,mS x];show rR
def RM(K:lV)(s r:TE)(f:lQ):TS:=λD z H=>r z H λy q=>s z q λx u=>∃e C Y t,x=.ref e/\u e=some (pP e C t none)/\vX K C Y/\findIn K (.ref C) "__setattr__"=some (some<|.builtin "object.__setattr__")/\findIn K (.ref C) f=some none/\
 ∀w,u w=none->w≠e->D.nx z (mH (mH u e<|pP e C t<|some w) w<|.xd [(f,y)])
def GS{o value:lZ}{pos w:Pos}{r p:TE}(l:PE X o r)(j:PE X value p)(i:swapsWith value (some<|.Attribute o f w) pos.line X.env=pure false):PS X (.Assign [.Attribute o f w] value pos) (RM X.K r p f):=by
 intro n s z H D I h;refine JL (mX (j n s z H _ I h) λu x ⟨y,g,d,a,q⟩=>mX (l n x z g _ d q) λU Y Q=>?_) i;obtain⟨x,y,N,M,e,C,Y,t,L,he,c,J,G,B⟩:=Q;subst L;obtain rfl:U=Value.ref e:=M;show Ycp N he c J G a λA s3 hn u9 I3=>#[z,_,I3,B A hn u9]
structure XA(K:Frag)(C:Addr):Prop where
 ga:findIn K (.ref C) "__getattribute__"=some (some<|.builtin "BaseException.__getattribute__")
 gt:findIn K (.ref C) "__getattr__"=some none
 be:PySem.W.mroIn K C (.type "BaseException")=some true
end
section
variable {prog:ma} {w:lY} {A:md} {E:lS->lT->Prop} {s:lT} {K:lV} {x C:lR} {ox:Obj} {od:lU Obj} {name:lQ} {tk:Tok}
def Zwj:builtinKind "BaseException.__getattribute__"=some .slot:=by left
def Ub:splitId "BaseException.__getattribute__"=some ("BaseException","__getattribute__"):=by left
def OW{v:lS}{R:Result->lT->Prop}(X:K.In s.heap)(I:PySem.W.InstAt s.heap x ox C od)(u:XA K C){fd:Found}(r:PySem.W.findObj K C od name=some fd)
  (h:match fd with|.value v=>R (.ok<|.ret v) s|.bind g a=>wpAny (model prog w) A.in1 (call g [a,.ref x,.ref C]) (λv s'=>R (.ok<|.ret v) s') (λe s'=>R (.error e) s') s|.missing=>False) :
  codeAny (model prog w) A (.call (.builtin "BaseException.__getattribute__") #[[.ref x,.str name tk],[]]) R s:=by
 have y:=I.type (M:=model prog w);have sub:PySem.W.Looks (model prog w) s.heap (isInstance (.ref x)<|.type "BaseException") true:=y.andThen<|Oa X u.be;have fn:=PySem.W.looks_find (M:=model prog w) X I r;refine Du Kw.ga.plain PySem.F.entry_bexc_ga<|@JD (model prog w) _ _ s "BaseException.__getattribute__" "BaseException" "__getattribute__" (.ref x) [.str name tk] [] _ Zwj Ub sub (PySem.F.args_bexc_ga _ _) ?_;refine mP<|nq<|mP<|nq<|mP<|y.here<|mP<|fn.here ?_;cases fd with
 | value v=>show nq h
 | bind g a =>
  change wpAny _ _ (holding [a] (call g [a,.ref x,.ref C])>>=ret) _ _ _;show mP (qH<|pT h (λv s' z=>nq z) λ_ _ z=>z)
 | missing=>show h.elim
def Me{fill expr:Bool}{Q:lS->lT->Prop}(X:K.In s.heap)(I:PySem.W.InstAt s.heap x ox C od)(y:XA K C)
  (h:codeAny (model prog w) A (.call (.builtin "BaseException.__getattribute__") #[[.ref x,.str name tk],[]]) (λr s'=>match r with|.ok (.ret v)=>wpAny (model prog w) A (handedOut v) Q E s'|_=>False) s) :
  wpAny (model prog w) A (getAttrBy (.ref x) (.str name tk) fill expr) Q E s:=by
 have u:=I.type (M:=model prog w);have q:=Bb (M:=model prog w) X y.ga;have lt:=Bb (M:=model prog w) X y.gt;unfold getAttrBy;refine qH<|mP<|u.here<|mP<|q.here ?_;change wpAny _ _ (getAttrByItsOwn (.ref x) (.str name tk) (.ref C) (.builtin "BaseException.__getattribute__") fill expr) _ _ _;unfold getAttrByItsOwn;refine mP<|lt.here<|mP<|wpAny_attempt<|qH ?_;have he:(expr && onTheHeap (Value.builtin "BaseException.__getattribute__"))=false:=by cases expr<;>rfl
 unfold callGetattribute;rw[he];simp only[ub,rD];unfold boundAndCalled;rw[Kw.ga.bind];refine mP<|nq<|uC<|vw h λr s' z=>?_;rcases r with e|(v|_|_|_)<;>first|show z|show z.elim
def Zxu{v:lS}{expr:Bool}{Q:lS->lT->Prop}(X:K.In s.heap)(I:PySem.W.InstAt s.heap x ox C od)(z:XA K C)(y:PySem.W.findObj K C od name=some (.value v))(u:PySem.W.handedIn v=true)(h:Q v {s with toks:=s.toks+1}) :
  wpAny (model prog w) A (getAttr (.ref x) name expr) Q E s:=by
 unfold getAttr;refine mP<|wpAny_mkText<|Me (s:={s with toks:=s.toks+1}) X I z<|OW (s:={s with toks:=s.toks+1}) (fd:=.value v) (v:=v) X I z y ?_;change wpAny _ _ (handedOut v) _ _ _;rw[PySem.W.handedOut_of u];show nq h
def KN(l:XA K C)(y:(PySem.W.clsIn K C).isSome=true)(j:findIn K (.ref C) "__class__"=some (some<|.builtin "object.__class__"))(i:PySem.W.specialIn K (.builtin "object.__class__") "__get__"=some (some<|.builtin "getset_descriptor.__get__"))
  (u:PySem.W.takesIn K (.builtin "object.__class__")=some true) (g:PySem.W.mroIn K C (.type "object")=some true):PySem.W.KitX K (.ref x) (.ref C) (λh=>PySem.W.InstAt h x ox C od) where
 ty:=λ_ _ _ I=>I.type
 it:=λ_ _ X _=>by
  unfold PySem.W.clsIn at y;split at y
  ·rename_i d c r a p;intro M L J H k q;unfold isType loadHead;show mP<|Fw (k _ _<|X _ _ p)<|nq q
  ·cases y
 ne:=λh Y G D n B X o=>by
  refine Bool.eq_false_iff.mpr λq=>?_
  have e:C=Y:=Value.ref.inj<|rG.mp q;subst e;unfold PySem.W.clsIn at y;split at y
  ·rename_i d c r a p;have z:=(X _ _ p).symm.trans o;cases z
  ·cases y
 ca:=λ{prog w A E Q s} X I k=>by
  have U:PySem.W.findObj K C od "__class__"=some (.bind (.builtin "getset_descriptor.__get__")<|.builtin "object.__class__"):=by
   obtain⟨cd,N⟩:=Hr.mp y;unfold PySem.W.findObj;rw[N,Option.bind_some,j];simp[i,u]
  unfold getAttr? getAttrBy?;refine mP<|wpAny_mkText<|mP<|wpAny_attempt<|Me (s:={s with toks:=s.toks+1}) X I l<|OW (s:={s with toks:=s.toks+1}) (v:=.none) X I l U ?_;show uC<|PySem.W.class_get (s:={s with toks:=s.toks+1}) (ox:=ox) (od:=od) X I g<|nq<|nq k
end
def YA(K:lV)(u:TE)(f:lQ):TE:=λz H Q=>u z H λx y=>∃e C Y w fs v,x=.ref e/\y e=some (qI e C<|some w)/\y w=some (.xd fs)/\vX K C Y/\XA K C/\findIn K (.ref C) f=some none/\fs.lookup f=some v/\Q v y
def ZC{y:lZ}{pos:Pos}{g:TE}(he:PE X y g)(M:attributeBase y f X.env (eval y X.env)=eval y X.env):PE X (.Attribute y f pos) (YA X.K g f):=by
 intro L s z H Q I h;refine Mt M<|mX (he L s z H _ I h) λu d G=>?_;obtain⟨x,a,w,E,e,C,Y,U,fs,v,D,B,hd,c,A,na,l,q⟩:=G;subst D;obtain rfl:u=Value.ref e:=E;obtain⟨o,x,ho,oc,od,p⟩:=qI.at w.hok B;obtain⟨mA,n,r⟩:=(show Yc X.prog X.w a d.heap U (.xd fs)from w.hok U _ hd)
 obtain⟨j,i,hl⟩:=GV n;obtain⟨x,hu,N⟩:=qi.some_of (v:=v) (o:=mA f) (by rw[<-l];show r f);have J:PySem.W.InstAt d.heap e o C (some j):=#[ho,oc,by unfold PySem.W.notCls;rw[p],by rw[od];show i]
 show Zxu w.kIn J A (PC c.hd na rfl<|by rw[hl,hu]) (IM N) #[v,a,w.tok _,N,q]
end L2
end
section
namespace L2
open PySem PySem.Spec PyProof.Rows
section
variable {prog:ma} {w:lY} {A:md} {E:lS->lT->Prop} {h:lX} {g:Array GenState} {d:Drawn} {tk:Nat} {os:OsState} {nm qn:lQ} {C N:lR} {bs bm bmB:lP lS} {hdct:Bool} {sn:lP lQ} {sub:lP lS} {ab:Bool} {col:lU Bool} {dd:lU lR} {k0 k1 k2 k3 k5:lU lS} {B newId N8:String}
 {Zs:lP lS} {fI:lR} {oI:Obj}
def RD{Q:Fin->lT->Prop}(FB:ExcBaseFacts B newId N8 bmB)(T:OwnTail h bmB bm)(s:h.get? C=some (excClassObj nm qn C N bs bm hdct sn sub ab col dd k0 k1 k2 k3 k5 newId))(a:PySem.W.Looks (model prog w) h (typeLookup (.ref C) "__init__") (some<|.ref fI))
  (n:h.get? fI=some oI) (l:oI.cls=.type "function") (u:Zs.length<=sizeLine)
  (Y:∀h' e,Heap.MadeExcOf h h' e (.ref C) Zs->wpAny (model prog w) A (call (.ref fI)<|.ref e ::Zs) (λr s'=>r=.none/\Q (.done<|.ret<|.ref e) s') E #[h',g,d,tk,os]) :
  wpAny (model prog w) A (Builtin.«type.__call__» #[.ref C ::Zs,[]]) Q E #[h,g,d,tk,os]:=by
 repeat (first|with_reducible refine wpAny_madeBy_exc s ?_ |with_reducible refine AE s ?_ |wp_step)
 refine codeAny_call_builtin_code (xE _ FB.quiet)<|wpAny_check_new_subT FB T s<|codeAny_exc_new_subT FB T s ?_ u;change wpAny _ _ _ _ _ _;generalize i:({cls:=.type "tuple",data:=.seq Zs.toArray}:Obj)=p;generalize j:({cls:=.ref C,data:=.fields (List.toArray [.ref h.objs.size,.none,.none,.none,.bool false,.none])}:Obj)=q;have y:∀b o,h.get? b=some o->((h.push p).push q).get? b=some o:=λb o z=>nO _<|nO _ z
 have c:((h.push p).push q).get? (h.objs.size+1)=some q:=Heap.get?_push_at (by rw[ur]) (by rw[<-j];rfl);have U:((h.push p).push q).get? h.objs.size=some p:=nO _ (oK h<|by rw[<-i];rfl);have M:=y _ _ s;have L:q.cls=.ref C:=by rw[<-j]
 have same:(Value.ref C ::bm).contains (.ref C)=true:=by simp
 unfold isInstance
 repeat (first|(with_reducible refine AE c ?_;rw[L])|(with_reducible refine wpAny_isSubtype_exc M ?_;rw[same])|wp_step)
 change wpAny _ _ (typeLookup (.ref C) _) _ _ _;refine a A _ E _ y<|qH<|mP ?_;unfold bindSpecial;refine mP<|xF (T :="function") #[_,y _ _ n,l] ?_;rw[mT (by lk)];refine nq<|mP<|pT (Y _ (h.objs.size+1) #[y,ye<|tw _,h.objs.size,by rw[c,j],ye<|nw _,by rw[U,i]]) (λr s' J=>?_) λ_ _ x=>x;obtain⟨rfl,I⟩:=J
 wp_walk
 show I
def TU{Q:lS->lT->Prop}(FB:ExcBaseFacts B newId N8 bmB)(T:OwnTail h bmB bm)(y:h.get? C=some (excClassObj nm qn C N bs bm hdct sn sub ab col dd k0 k1 k2 k3 k5 newId))(s:PySem.W.Looks (model prog w) h (typeLookup (.ref C) "__init__") (some<|.ref fI))
  (x:h.get? fI=some oI) (u:oI.cls=.type "function") (z:Zs.length<=sizeLine)
  (q:∀h' e,Heap.MadeExcOf h h' e (.ref C) Zs->wpAny (model prog w) (A.under<|.builtin "type.__call__" #[.ref C ::Zs,[]]) (call (.ref fI)<|.ref e ::Zs) (λr s'=>r=.none/\Q (.ref e) s') E #[h',g,d,tk,os]) :
  wpAny (model prog w) A (call (.ref C) Zs) Q E #[h,g,d,tk,os]:=by
 have o:=tc_lookup;have n:=tc_bind<|.ref C;have l:(#[h,g,d,tk,os]:lT).TypeIs (.ref C) "type":=#[_,y,rfl]
 refine uC<|codeAny_of_tree ?_;change wpAny _ _ (callAny (.ref C) _) _ _ _
 repeat (any_goals (first|assumption|with_reducible refine AE y ?_ |wp_step))
 refine#[rfl,codeAny_call_builtin_at (xE _<|by left) entry_typeCall<|wpAny_check_type_call_sub y<|RD FB T y s x u z λh' e p=>q h' e p]
end
section
variable {E:lS->lT->Prop}
def Ybc{y:lZ}{pos:Pos}{Q:Flow->lT->Prop}(q:bm.contains (.type "BaseException")=true)(p:A.handled=none)
  (h:wpAny M A (eval y env) (λv z=>∃e t u,v=.ref e/\z.heap.get? C=some (excClassObj nm qn C N bs bm hdct sn sub ab col dd k0 k1 k2 k3 k5 newId)/\z.heap.get? e=some (uT C t u)/\E (.ref e) z) E s) :
  wpAny M A (exec (.Raise (some y) none pos) env) Q E s:=by
 have w:(Value.ref C ::bm).contains (.type "BaseException")=true:=by rw[List.contains_cons,q];show Bool.or_true _
 change wpAny M A (do standAt pos;raiseStmt env (some (do let v <-eval y env;standAt pos;pure v)) none) Q E s;refine mP<|AC ?_;unfold raiseStmt;dsimp only;refine mP<|mP<|pT h (λv z ⟨e,t,u,o,r,he,n⟩=>mP<|AC<|nq ?_) λ_ _ x=>x;subst o;unfold uT at he;obtain⟨x,g,d,l,os⟩:=z
 repeat (first|with_reducible refine AE he ?_ |with_reducible refine AE r ?_ |(with_reducible refine wpAny_isSubtype_exc r ?_;rw[w])|wp_step)
 show wpAny_raiseNew_none p n
end
inductive wG(C:lR)(f:lQ):Sp
 | mk (e t v):vs=[.ref e,v]->H e=some (pP e C t none)->(∀dx,H dx=none->dx≠e->Q .non (mH (mH H e<|pP e C t<|some dx) dx<|.xd [(f,v)]))->wG C f vs H Q E
structure XI(K:Frag)(C Y fI:Addr)(f:Str):Prop where
 cls:vX K C Y
 kp:keepIn K (.ref C)=true
 init:findIn K (.ref C) "__init__"=some (some<|.ref fI)
 fn:PySem.W.typeIn K (.ref fI)=some (.type "function")
 sa:findIn K (.ref C) "__setattr__"=some (some<|.builtin "object.__setattr__")
 xa:XA K C
 na:findIn K (.ref C) f=some none
def Ya3(C:lR)(f:lQ)(E:XK)(t:TA):TS:=λ_ z H=>t z H λw x=>∃v,w=[v]/\∀y,x y=none->E (.ref C) (some y) (mH x y<|.xd [(f,v)])
section
variable {P:ma} {w:lY} {K:lV} {mg:lQ->lU lS} {mB:lX} {N:lP lQ} {qual:lQ} {scope:Scope} {f:lR} {cd:lS} {A:md} {my:lP Env} {mf:lT} {mi:Hp} {E:XK}
def xk{x y:lQ}{C Y L:lR}{fd:me}{ps:lP lQ}{k:Nat}{fn:lQ}{np g9 pos:Pos}{G:lZ}{Zs:lP lZ}{t:TA}(B:XI K C Y L fn)(OY:CJ K mg y Y wC "ValueError.__new__")(Fn:Xf P w K mg mB oP k L fd ps (wG C fn))(hb:qv K fd ps [])
  (hr:Y6 (k+1) (oW (nZ P w) P w K mg mB N qual scope f cd A my mf mi E).A) (hg:Gl (oW (nZ P w) P w K mg mB N qual scope f cd A my mf mi E) x) (i:mg x=some (.ref C)) (ha:PA (oW (nZ P w) P w K mg mB N qual scope f cd A my mf mi E) (G ::Zs) t)
  (R6:(x ==("__debug__":lQ))=false:=by lk) (he:starEach (G ::Zs) (oW (nZ P w) P w K mg mB N qual scope f cd A my mf mi E).env=(false,eval G (oW (nZ P w) P w K mg mB N qual scope f cd A my mf mi E).env) ::starEach Zs (oW (nZ P w) P w K mg mB N qual scope f cd A my mf mi E).env:=by rfl)
  (p0:(backTo g9<|starEach Zs (oW (nZ P w) P w K mg mB N qual scope f cd A my mf mi E).env).any (·.1)=false:=by rfl) :
  PS (oW (nZ P w) P w K mg mB N qual scope f cd A my mf mi E) (.Raise (some<|.Call (.Name x np) (G ::Zs) [] g9) none pos) (Ya3 C fn E t):=by
 intro c7 s z H D I h;obtain⟨nm,qn,N',bs,sn,sub,ab,col,dd,k0,k1,k2,k3,k5,hK⟩:=B.cls;refine Ybc (C:=C) (nm:=nm) (qn:=qn) (N:=N') (bs:=bs) (bm:=.ref Y ::wC) (hdct:=true) (sn:=sn) (sub:=sub) (ab:=ab) (col:=col) (dd:=dd) (k0:=k0) (k1:=k1) (k2:=k2) (k3:=k3) (k5:=k5) (newId :="ValueError.__new__") (by simp) (I.ok.hd rfl) ?_;refine vR<|xv I hg i ?_ R6;refine zG (h₀:=mB) I.ok.mod.kin B.kp (mX (ha g9 c7 s z H _ I h) λp c ⟨d,g,j,r2,v,ev,hE⟩=>#[j.kIn,?_]) he p0;subst ev;obtain⟨u,rfl,ru⟩:=qg r2;have hC:=j.kIn _ _ hK;obtain⟨tl,NY,vQ,qY,Q,M,snY,p,abY,d,ddY,j0,j1,j2,j3,j5,mN,hY,hN,hni,_⟩:=(OY c.heap j.kIn).obj;have T:OwnTail c.heap wC (.ref Y ::wC):=.own hY hN hni .base;have LI:PySem.W.Looks (model P w) c.heap (typeLookup (.ref C) "__init__") (some<|.ref L):=Bb j.kIn B.init;have tf:c.TypeIs (.ref L) "function":=by
  obtain⟨o,ho,hc⟩:=nU.mp B.fn;show#[o,j.kIn _ _ ho,hc]
 obtain⟨oI,hoI,hcI⟩:=tf;obtain⟨d,Q,M,tk2,p⟩:=c;refine TU rS T hC LI hoI hcI (by rw[tU];change 1<=16777216;decide) λh' e i=>?_
 obtain⟨l,heX,_,_⟩:=i.there;obtain⟨u9,J⟩:=j.laidAt (h':=h') (t':=tk2) (a:=e) (o:=pP e C l none) i.keeps i.new<|pP.ok heX;have hl:ps.length=2:=by
  have:=Fn.len [.ref e,v] (mH g e<|pP e C l none) (λr _=>True) E0 #[e,l,v,rfl,Zd,λ_ _ _=>trivial];show this.symm
 refine uC (vw (Fn.run _ (oW (nZ P w) P w K mg mB N qual scope f cd A my mf mi E).stack _ _ #[[.ref e,u],[]] [.ref e,u] [.ref e,v] (λr H3=>r=.non/\∃n,g n=none/\n≠e/\H3=mH (mH (mH g e<|pP e C l none) e<|pP e C l<|some n) n (.xd [(fn,v)])) E0
  (hr.make C [u] []) (J.env0.make C [u] []) (hb _ [.ref e,u] J.kIn (by rw[qf,hl];rfl)) (.cons rfl<|.cons ru .nil) #[e,l,v,rfl,Zd,λn hn hd=>#[rfl,n,by rw[Ze hd]at hn;show hn,hd,rfl]]) λr s' U=>?_)
 cases r with
 | error q=>show False.elim U
 | ok fl =>
  cases fl with
  | next=>show False.elim U
  | brk=>show False.elim U
  | cont=>show False.elim U
  | ret u' =>
   obtain⟨p,H3,os,Q,un,hok,rv,rfl,n,hn,hd,rfl⟩:=U;cases rv;have I3:=J.call' os un hok Q (λb q=>absurd q<|by simp);have q3:(mH (mH (mH g e<|pP e C l none) e<|pP e C l<|some n) n<|.xd [(fn,v)]) e=some (pP e C l<|some n):=by rw[Ze hd.symm,Zd]
   have M:=pP.at I3.hok q3;have I4:=I3.drop q3;have hH:yG (mH (mH (mH g e<|pP e C l none) e<|pP e C l<|some n) n<|.xd [(fn,v)]) e=mH g n (.xd [(fn,v)]):=by
    funext b
    by_cases y:b=e
    ·rw[y,Fc,Ze hd.symm,u9]
    ·rw[Bq y]
     by_cases q:b=n
     ·rw[q,Zd,Zd]
     ·rw[Ze q,Ze y,Ze y,Ze q]
   rw[hH]at I4;refine#[rfl,e,l,some n,rfl,?_,M,?_]
   ·show I3.kIn _ _ hK
   change wpAny _ _ (leaving _<|.ref e) _ _ s';have U3:∀env∈(envOfC qual scope #v[mf] f cd ::my),∀b,env.frame=some b->b∈e ::nX (envOfC qual scope #v[mf] f cd ::my):=λenv he b hb=>pc _<|yu.mpr #[env,he,hb]
   refine Jy (mB:=PySem.W.hideAll s'.heap<|e ::nX (envOfC qual scope #v[mf] f cd ::my)) I4.ok.frames (JJ I4.stack U3) rfl M (λb o p=>DK _ p) (JQ _ oM) rfl rfl #[rfl,rfl] λh'' fl up=>?_
   refine Er I4 fl up (λb o p d h3=>IA _ p λq=>?_)<|hE n hn;rcases nQ.mp q with y|y
   ·subst y;rcases d with⟨p,d⟩|d
    ·obtain⟨o2,h4⟩:=j.mB.there b p d (by change b∉([]:lP lR);simp);have:=i.new;rw[h4]at this;cases this
    ·rw[Ze hd.symm]at d;show d u9
   ·show h3 y
end
section
variable {K:lV} {M:Model} {A:md} {E:lS->lT->Prop} {s:lT} {e C B:lR} {o:Obj} {r:Bool}
def Sx{Q:Bool->lT->Prop}(X:K.In s.heap)(he:s.heap.get? e=some o)(y:o.cls=.ref C)(kB:PySem.W.kitCls K (.ref B) (.type "BaseException")=some true)(x:PySem.W.kitCls K (.ref C) (.ref B)=some r)(z:Q r s) :
  wpAny M A (excMatches (.ref e)<|.ref B) Q E s:=by
 obtain⟨tB,w,u⟩:=PySem.W.kit_cls (M:=M) X x;obtain⟨_,_,q⟩:=PySem.W.kit_cls (M:=M) X kB;have p:PySem.W.Looks M s.heap (typeOf<|.ref e) (.ref C):=y ▸ (PySem.W.Looks.ld he).andThen .now;have f:=tc_notTuple;unfold excMatches isExcClass
 repeat (first|with_reducible refine p.here ?_ |with_reducible refine tB.here ?_ |with_reducible refine w.here ?_ |with_reducible refine u.here ?_ |with_reducible refine q.here ?_ |wp_step)
 cases r with
 | true=>repeat (first|show z|wp_step)
 | false=>repeat (first|show z|wp_step)
end
def pX.blur(D:pX)(n:Nat):pX:={nx:=λ_ H=>D.nx (List.replicate n none) H,rt:=D.rt,bk:=λ_ H=>D.bk (List.replicate n none) H,ct:=λ_ H=>D.ct (List.replicate n none) H}
variable {X:Cx}
def WS.tryAs{x n:lQ}{B:lR}{i:Nat}{np C3 pos:Pos}{body suite:lP lW}{Y:lW}{D:pX}{Ex:XK}{R:lR->lU lR->Hp->Prop}(hm:X.mg x=some (.ref B))(kB:PySem.W.kitCls X.K (.ref B) (.type "BaseException")=some true)(hg:Gl X x)(hN:X.N.Nodup)(hi:X.N[i]? =some n)(hlo:X.env.kindOf n=some .local)(hsc:X.env.scope.names.lookup n=some .local)
  (A3:X.stack=X.env ::X.my) (hfm:X.env.frame=some X.env.locals) (hcm:X.calm=true) (V7:X.ex=[]) (hE:∀cls L a,Ex cls L a->∃C,cls=.ref C/\PySem.W.kitCls X.K (.ref C) (.ref B)=some true/\R C L a)
  (hb:∀pn xe,sK (nZ X.prog X.w) (X.tried pn xe) Ex->WSs (X.tried pn xe) body D z H) (hh:∀(j C:lR)(L:lU lR)(l:St)(a:Hp),l.length=X.N.length->R C L a->a j=none->WSs (X.caught j) (Y ::suite) (D.blur X.N.length) (l.set i<|some<|.ref j) (mH a j<|qI j C L)) (hd:(x ==("__debug__":lQ))=false:=by lk) :
  WS X (.Try body [.ExceptHandler (some<|.Name x np) (some n) (Y ::suite) C3] [] [] pos) D z H:=by
 refine#[λG s I=>?_];refine wpAny_Try_except ?_;have pass:sK (nZ X.prog X.w) (X.tried (X.pn++G) λe mh=>∅ (noteFrame e X.env) (λ_ w=>∅ (setFlight e none) (λ_ mn=>∅ (handleBy e X.env [.ExceptHandler (some<|.Name x np) (some n) (Y ::suite) C3]) (SP X G D) X.xe mn) X.xe w) X.xe mh) Ex:=by
  intro x9 l H1 s1 e s2 I1 hc;obtain⟨j,cls,L,H2,rfl,os,E,un,hok,⟨a0,B0,fl,pB⟩,hEx⟩:=hc;obtain⟨C,rfl,kC,hR⟩:=hE _ _ _ hEx;have IX:mG X G l H1 s1:=I1.tryOut;have I2:mG X G l H2 s2:=IX.call' os un hok E (λb y=>absurd y<|by simp);have fr:∀b∈nX X.stack,H2 b=none/\∃o,s2.heap.get? b=some o/\∀vs,o.data≠.fields vs:=λb hb=>#[I2.stkFree b hb,(I2.stack.mem hb).2]
  have step:∀h',B0.StaysIn h'->s2.heap.UpToSlots h'->mG X G l H2 {s2 with heap:=h'}:=λh' st up =>
   let⟨u,k⟩:=Ye9 un hok fr st up pB
   IX.call' (s':={s2 with heap:=h'}) os u k E (λb y=>absurd y<|by simp)
  have new:∀b o,s1.heap.get? b=some o->b≠j:=λb o q y=>by
   subst y;obtain⟨ob,E2,_,_,vs,K3⟩:=fl.there
   by_cases hf:b∈nX X.stack
   ·obtain⟨_,c,w,p⟩:=fr b hf;rw[E2]at w;cases w;show p vs K3
   ·have:=pB b ob E2 (.inl #[o,q]) hf;rw[fl.2.1]at this;cases this
  have non:H2 j=none:=by
   cases q:H2 j with
   | none=>rfl
   | some u =>
    obtain⟨ob,E2,_⟩:=fl.there;have:=pB j ob E2 (.inr (by rw[q];show xL _)) (λy=>by have:=(fr j y).1;rw[q]at this;cases this);rw[fl.2.1]at this;cases this
  have fl:pY B0 (X.env ::X.my) j (.ref C) a0 L .none s2.heap:=by rw[<-A3];show fl
  have z9:X.A.frames=some (X.env ::X.my):=by rw[<-A3];show I2.ok.frames
  change ∅ (noteFrame (.ref j) X.env) _ _ s2;refine Nl z9 hfm fl λh₄ U sm₄=>CK (s:={s2 with heap:=h₄}) U λmq g sm₅=>?_
  have A:s2.heap.UpToSlots mq:=sm₄.trans sm₅;have I5:=(step mq g.1 A).catch j;refine wpAny_handleBy_cons (codeAny_handlers_test<|xv I5 hg hm ?_ hd) (by intro q;cases q);obtain⟨ob,E2,hobc,_⟩:=g.there;refine Sx I5.kIn E2 hobc kB kC<|codeAny_handlers_suite_as ?_;refine CK (s:={s2 with heap:=mq}) g λN d sm₆=>?_
  have I6:=step N d.1<|A.trans sm₆;obtain⟨w,ho6,oc6,od6,vs6,ov6⟩:=d.there;have oc2:vs6[2]? =some .none:=by
   obtain⟨ob,vs,q1,q2,q3⟩:=d.ctx;rw[ho6]at q1;cases q1;rw[ov6]at q2;cases q2;show q3
  have I7:mG X G l (mH H2 j<|qI j C L) {s2 with heap:=N}:=I6.track non
   (by
    cases q:X.mf.heap.get? j with
    | none=>rfl
    | some o =>
     obtain⟨w,q'⟩:=IX.mB.there j o q (by rw[V7];simp);show absurd rfl<|new j w q')
   (λy=>by
    obtain⟨m,⟨o,_,_,q,_⟩,_⟩:=IX.loc;show new _ o q y.symm)
   (λw c q=>by
    obtain⟨v,o,q',_⟩:=IX.cell w c q;show new c o q')
   (λp q=>new p.1 p.2 (IX.pin p q).1) (qI.ok ho6 oc6 od6 ov6 oc2)
  refine Ew (X:=X.caught j) (s:={s2 with heap:=N}) (I7.catch j) hN hi (.inl hsc) (v:=.ref j) rfl (λw I8=>?_)<|.inr hsc;refine pT ((hh j C L l H2 IX.len hR non).run G _ I8) (λf mn q=>?_) λ_ _ y=>False.elim y
  have hX:=I.ok.hd hcm;have Ax:∀{h:St}{M:Hp}{s3:lT}{Q:Unit->lT->Prop},mG (X.caught j) G h M s3->(∀s4,mG X G (List.replicate X.N.length none) M s4->Q () s4)->∅ (do bindName X.env n .none;unbindBehindTheSuite X.env n C3) Q X.xe s3:=by
   intro h M s3 Q J k;obtain⟨m,hn,_⟩:=J.loc;refine wpAny_nameGoes hlo hn (by rw[J.ok.kind];rfl) λh' m' hn' O0=>k _ ?_
   show(J.uncatch hX).forget hn' O0
  cases f with
  | next=>obtain⟨h,M,J,q⟩:=q;show Ax J λs4 J4=>#[_,M,J4,q]
  | brk=>obtain⟨h,M,J,q⟩:=q;show Ax J λs4 J4=>#[_,M,J4,q]
  | cont=>obtain⟨h,M,J,q⟩:=q;show Ax J λs4 J4=>#[_,M,J4,q]
  | ret u=>obtain⟨v,h,M,J,r,q⟩:=q;show Ax J λs4 J4=>#[v,_,M,J4,r,q]
 refine pT ((hb _ _ pass).run [] s (I.tryIn _)) (λf mh q=>?_) λe mh y=>y
 cases f with
 | next =>
  obtain⟨l,a,J,q⟩:=q;show Av #[l,a,J.tryOut,q]
 | brk=>obtain⟨l,a,J,q⟩:=q;show#[l,a,J.tryOut,q]
 | cont=>obtain⟨l,a,J,q⟩:=q;show#[l,a,J.tryOut,q]
 | ret u=>obtain⟨v,l,a,J,r,q⟩:=q;show#[v,l,a,J.tryOut,r,q]
structure XG(K:Frag)(C:Addr):Prop where
 xa:XA K C
 hc:(PySem.W.clsIn K C).isSome=true
 cl:findIn K (.ref C) "__class__"=some (some<|.builtin "object.__class__")
 cg:PySem.W.specialIn K (.builtin "object.__class__") "__get__"=some (some<|.builtin "getset_descriptor.__get__")
 ct:PySem.W.takesIn K (.builtin "object.__class__")=some true
 ob:PySem.W.mroIn K C (.type "object")=some true
def Up(K:lV):lP V->Hp->VK->Prop:=λx H Q=>∃e C z fs c b,x=[.ref e,c]/\H e=some (qI e C<|some z)/\H z=some (.xd fs)/\XG K C/\((∃n,c=.ty n/\kitOne K (.ref C) (.type n)=some b)\/(∃a,c=.ref a/\kitOne K (.ref C) (.ref a)=some b)\/
 ∃(a:lR)(y:lP lR),c=.ref a/\H a=some (.tup<|y.map V.ref)/\PySem.W.kitAny K (.ref C) (y.map Value.ref)=some b)/\Q (.bl b) H
theorem wJ:∀{z:lP lR}{y:lP lS},Z6 (z.map V.ref) y->y=z.map Value.ref
 | [],_,.nil=>rfl
 | c ::z,_,.cons r t=>by
  rw[wJ t];cases r
  rfl
def Sz{X:Cx}:Xd X (.builtin "isinstance") (Up X.K):=by
 intro c7 s z H xs us Q I r h;obtain⟨e,C,d,fs,c,b,rfl,he,Y,g,k,q⟩:=h;obtain⟨u,x,rfl,U,l⟩:=ww r;obtain rfl:u=Value.ref e:=U;obtain⟨o,x,N,M,L,j⟩:=qI.at I.hok he;obtain⟨x,n,_⟩:=(show Yc X.prog X.w H s.heap d (.xd fs)from I.hok d _ Y)
 obtain⟨w,i,_⟩:=GV n;have J:PySem.W.InstAt s.heap e o C (some w):=#[N,M,by unfold PySem.W.notCls;rw[j],by rw[L];show i]
 have Z:PySem.W.KitX X.K (.ref e) (.ref C) (λh=>PySem.W.InstAt h e o C<|some w):=KN g.xa g.hc g.cl g.cg g.ct g.ob;rcases k with⟨x,rfl,k⟩|⟨a,rfl,k⟩|⟨a,G,rfl,E,k⟩
 ·cases l;show rF Z I.kIn J k (λy=>nomatch y) λp=>#[.bl b,H,I.tok p,rfl,q]
 ·cases l;show rF Z I.kIn J k (λy=>nomatch y) λp=>#[.bl b,H,I.tok p,rfl,q]
 ·cases l;obtain⟨_,c8,D,B,A,c,n2,x⟩:=(show Yc X.prog X.w H s.heap a (.tup<|G.map V.ref)from I.hok a _ E)
  rw[wJ D]at x;obtain⟨c1,c2,c3,c4⟩:=B;dsimp only at c x;subst c x;show PySem.W.kia_tup Z I.kIn J A k (λy=>nomatch y) λp=>#[.bl b,H,I.tok p,rfl,q]
def VI:typeLookup (.type "list") "keys"=pure none:=by rw[typeLookup_type,builtinLookup_eq_fast];kernel_rfl
def Zkq:typeLookup (.type "list") "__getattr__"=pure none:=by rw[typeLookup_type,builtinLookup_eq_fast];kernel_rfl
def GU:isSubtype (.type "AttributeError") (.type "AttributeError")=pure true:=by rw[isSubtype_type];kernel_rfl
section
variable {prog:ma} {w:lY} {A:md} {E:lS->lT->Prop} {h:lX} {g:Array GenState} {d:Drawn} {t:Nat} {os:OsState} {a:lR} {vs:Array lS} {n:Nat}
def Ybo{z:Type}{Q:z->lT->Prop}(j:A.handled=none)(U:msg.length<=sizeLine)
  (i:∀h' e c,(∀b u,h.get? b=some u->h'.get? b=some u)->(∃p,h'.get? e=some p/\p.cls=.type "AttributeError")->E (.ref e) #[h',g,d,c,os]) :
  wpAny (model prog w) A (raiseAttrError (.ref a) "keys" msg:Sem z) Q E #[h,g,d,t,os]:=by
 have N:=GU;have r:¬msg.length >sizeLine:=by lia
 unfold raiseAttrError newExc
 repeat (any_goals (first|assumption|rw[mS r]|wp_step))
 generalize x:({cls:=Value.type "AttributeError",data:=Data.fields ((List.toArray [Value.ref h.objs.size,Value.none,Value.none,Value.none,Value.bool false,if((Manifest.find? "AttributeError").elim false λt=>t.mro.contains "StopIteration"|| t.mro.contains "SystemExit")=true then[Value.str msg t].headD Value.none else Value.none])++ownMembersOf (Value.type "AttributeError") [Value.str msg t])}:Obj)=s;have q:s.cls=.type "AttributeError":=by rw[<-x]
 have y:∃o,s.data=.fields o:=#[_,by rw[<-x]]
 obtain⟨o,y⟩:=y;have Y:((h.push {cls:=Value.type "tuple",data:=Data.seq (List.toArray [Value.str msg t])}).push s).get? (h.push {cls:=Value.type "tuple",data:=Data.seq (List.toArray [Value.str msg t])}).objs.size=some s:=oK _<|Di y;refine wpAny_raiseNew_none j<|i _ _ _ (λb u l=>?_) #[_,Dp _ Y<|Di<|CM y _,by rw[Obj.cls_mapFields];show q];rw[uf _ _ (by rw[ur];show wX<|Ei<|nI l)];show nO _<|nO _ l
def TH{Q:Fin->lT->Prop}(y:A.handled=none)(x:h.get? a=some {cls:=.type "list",data:=.seq vs n})
  (s:∀h' e r,(∀b u,h.get? b=some u->h'.get? b=some u)->(∃z,h'.get? e=some z/\z.cls=.type "AttributeError")->E (.ref e) #[h',g,d,r,os]) :
  wpAny (model prog w) A (Builtin.«object.__getattribute__» #[[.ref a,.str "keys" q],[]]) Q E #[h,g,d,t,os]:=by
 have p:(#[h,g,d,t,os]:lT).TypeIs (.ref a) "list":=#[_,x,rfl]
 have o:=VI;have l:=GU
 repeat (any_goals (first|assumption|wp_step))
 show Ybo y (by left) s
def Ie{Q:lU lS->lT->Prop}(x:A.handled=none)(y:h.get? a=some {cls:=.type "list",data:=.seq vs n})
  (s:∀h' z,(∀b u,h.get? b=some u->h'.get? b=some u)->Q none #[h',g,d,z,os]):wpAny (model prog w) A (getAttr? (.ref a) "keys") Q E #[h,g,d,t,os]:=by
 have o:(#[h,g,d,t,os]:lT).TypeIs (.ref a) "list":=#[_,y,rfl]
 have l:=DD.lookup;have j:=DD.bind<|.ref a;have i:=GU;have c:=Zkq;unfold getAttr? getAttrBy?
 repeat (any_goals (first|assumption|wp_step))
 refine Du DD.plain F.entry_list_ga<|DD.check _ _ _ _ _ _ _ _ (show(#[h,g,d,t+1,os]:lT).TypeIs (.ref a) "list" from#[_,y,rfl]) (F.args_list_getattribute_2 _ _)<|TH x y λh' e z r ⟨Y,he,q⟩=>?_;have p:(#[h',g,d,z,os]:lT).TypeIs (.ref e) "AttributeError":=#[_,he,q]
 have U:=s h' z r;unfold getattributeRaised
 repeat (any_goals (first|assumption|wp_step))
 all_goals trace_state
end
def Bs:entryFor table "dict.update.loop"=some Builtin.«dict.update.loop» :=entryFor_of_tree (by kernel_rfl)
section
variable {prog:ma} {w:lY} {KT:Type} [DecidableEq KT] {knd:KeyKind prog w KT} {A:md} {R:Result->lT->Prop} {l d it:lR} {tps:lP lR} {prs D0:lP (KT×lS)} {h₀:lX}
def zH(knd:KeyKind prog w KT)(h:lX)(tps:lP lR)(prs:lP (KT×lS)):Prop:=Paired (λp (q:KT×lS)=>∃key o n,knd.is q.1 key=true/\h.get? p=some o/\o.cls=.type "tuple"/\o.data=.seq (List.toArray [key,q.2]) n) tps prs
def ME(hh:A.handled=none)(h:d≠it)(hl:h₀.IsList l (tps.map Value.ref).toArray)(U:l≠d)(Q:l≠it)(hp:zH knd h₀ tps prs)(hsz:D0.length+prs.length<=sizeLine)(J:∀p∈tps,p≠d/\p≠it) :
  ∀(n i:Nat)(s:lT)(j:Int)(I:Tok),i+n=prs.length->s.heap.IsListIter it l i->s.heap.DictOf knd d (merged D0<|prs.take i)->(∀b o,b≠d->b≠it->h₀.get? b=some o->s.heap.get? b=some o)->
   (∀h' H,h'.DictOf knd d (merged D0 prs)->(∀b o,b≠d->b≠it->h₀.get? b=some o->h'.get? b=some o)->R (.ok<|.ret .none) {s with heap:=h',toks:=H})->
   codeAny (model prog w) A (.builtin "dict.update.loop" #[[.ref d,.ref it,.int j I,.none],[]]) R s:=by
 have d9:tps.length=prs.length:=nG hp;intro n
 induction n with
 | zero =>
  intro i s j I hi g M y G;have E:s.heap.IsList l (tps.map Value.ref).toArray:=by
   obtain⟨o,e,r⟩:=hl;show#[o,y _ _ U Q e,r]
  refine Cb Bs ?_;unfold Builtin.«dict.update.loop»;dsimp only;refine mP<|GN hh g E (by rw[Cz,nK,vO<|by lia];rfl) λh' z=>?_;dsimp only;refine mP<|nq<|nq ?_;refine G h' s.toks ?_ ?_
  ·rw[show prs.take i=prs from uD<|by lia]at M;obtain⟨o,D,C,e,r⟩:=M;show#[o,D,C,z d o h e,r]
  ·show λb o Y L u=>z b o L (y b o Y L u)
 | succ n ih =>
  intro i s j I hi g M y G;have E:s.heap.IsList l (tps.map Value.ref).toArray:=by
   obtain⟨o,e,r⟩:=hl;show#[o,y _ _ U Q e,r]
  have B:i<tps.length:=by lia
  obtain⟨q,hqi,key,ot,z,hk,E7,hct,U4⟩:=Paired.get hp (i:=i) (a:=tps[i])<|oA B;obtain⟨nd,ni⟩:=J tps[i] (DO B);refine Cb Bs ?_;unfold Builtin.«dict.update.loop»;dsimp only;refine mP<|EZ g E (x:=.ref tps[i]) (by rw[Cz,nK,oA B];rfl) λY it1 c=>?_;have u:Y.get? tps[i]=some ot:=by rw[c.2 _ ni];show y _ _ nd ni E7
  have hT:({s with heap:=Y}:lT).TypeIs (.ref tps[i]) "tuple":=#[_,u,hct]
  have U5:Y.DictOf knd d (merged D0<|prs.take i):=by
   obtain⟨o,D,C,e,r⟩:=M;show#[o,D,C,by rw[c.2 _ h];show e,r]
  refine mP<|qH<|mP<|wpAny_tryCatch ?_;unfold Builtin.Dict.pairItems;refine mP<|xF hT ?_;rw[mT (by lk)];refine mP<|wpAny_seqItems (s:={s with heap:=Y}) u U4<|nq ?_;refine qH<|wpAny_dictSet_pairs hk U5 (λL A4 N=>?_) ?_
  ·refine nq #[xE _ (by left),?_];have A3:stored (merged D0<|prs.take i) q.1 q.2=merged D0 (prs.take<|i+1):=(merged_take_succ D0 prs i q hqi).symm;rw[A3]at A4;refine ih (i+1) {s with heap:=L,toks:=s.toks+1} (j+1) _ (by lia) ?_ A4 (λb o n1 n2 z=>?_) λh' H=>G h' H
   ·show it1.at λo z=>by rw[N.2 _ h.symm];show z
   ·rw[N.2 _ n1,c.2 _ n2];show y b o n1 n2 z
  ·have:=merged_length_le (K:=KT) D0<|prs.take i;rw[oq]at this;lia
def VM{Q:lS->lT->Prop}{E:lS->lT->Prop}(G:A.handled=none)(U:s.heap.get? l=some {cls:=.type "list",data:=.seq (tps.map Value.ref).toArray n})(D:zH knd s.heap tps prs)(hsz:prs.length<=sizeLine)
  (h:∀h' N dd,h'.DictOf knd dd (merged [] prs)->dd=#v[s]->s.heap.get? dd=none->(∀b o,s.heap.get? b=some o->h'.get? b=some o)->Q (.ref dd) {s with heap:=h',toks:=N}) :
  wpAny (model prog w) A (call (.type "dict") [.ref l]) Q E s:=by
 refine callType_codes (Q₁:=λobj C=>obj=.ref #v[s]/\C={s with heap:=s.heap.push {cls:=.type "dict",data:=.dict #[]}}) F.kt_called_dict (F.kt_typeCall_dict_1 _) F.entry_dict_init (kt_code_dict_new _ #[rfl,rfl]) ?_;rintro obj C ⟨rfl,rfl⟩;have M:(s.heap.push {cls:=.type "dict",data:=.dict #[]}).DictOf knd #v[s] []:=Heap.DictOf.new s.heap;have x:(s.heap.push {cls:=.type "dict",data:=.dict #[]}).get? l=some {cls:=.type "list",data:=.seq (tps.map Value.ref).toArray n}:=nO _ U;refine#[M.typeIs,F.args_dict_init_2 _ _,?_];unfold Builtin.«dict.__init__»;refine mP ?_;unfold Builtin.Dict.selfAndRest;refine mP<|Fy M.typeIs ?_;change wpAny _ _ (pure (#v[s],[Value.ref l])) _ _ _;refine nq ?_;change wpAny _ _ (Builtin.Dict.updateFrom "dict.__init__" #v[s] (.ref l) [] .none) _ _ _;unfold Builtin.Dict.updateFrom;refine mP<|xF (T :="list") #[_,x,rfl] ?_;rw[mT (by lk)];obtain⟨u,B,d0,r,j⟩:=s;dsimp only at *;refine mP<|Ie G x λy g c=>?_;simp only[GD,tI];have L:=c _ _ x;have S6:y.IsList l (tps.map Value.ref).toArray:=#[_,L,rfl,n,rfl]
 refine mP<|uF<|mP<|xC (s:=#[y,B,d0,g,j]) S6<|nq #[xE _ (by left),?_];have J:∀b o,u.get? b=some o->(y.push {cls:=.type "list_iterator",data:=.fields (List.toArray [.ref l,.int 0 0])}).get? b=some o:=λb o z=>nO _<|c _ _<|nO _ z
 have I:y.get? u.objs.size=some {cls:=.type "dict",data:=.dict #[]}:=c _ _<|oK u rfl;have Y:u.objs.size<y.objs.size:=nI I;have e:l<u.objs.size:=nI U;refine ME (A:=A.in1) (knd:=knd) (h₀:=y.push {cls:=.type "list_iterator",data:=.fields (List.toArray [.ref l,.int 0 0])}) (l:=l) (tps:=tps) (prs:=prs) (D0:=[]) G (nR Y) ?_ (nR e) (nR<|ri e Y) ?_ (by simpa using hsz) (λp z=>?_) prs.length 0 #[y.push {cls:=.type "list_iterator",data:=.fields (List.toArray [.ref l,.int 0 0])},B,d0,g,j] 0 0 (by lia) ?_ ?_ (λ_ _ _ _ z=>z) λh' N hD kp=>?_
 ·show#[_,J _ _ U,rfl,n,rfl]
 ·show Paired.mapP D λp q ⟨key,o,m,r,H,i⟩=>#[key,o,m,r,J _ _ H,i]
 ·obtain⟨i,r,rfl⟩:=wz z;obtain⟨q,_,key,o,m,_,H,_⟩:=Paired.get D (i:=i) (a:=tps[i])<|oA r;have:=nI H;show#[nR this,nR<|ri this Y]
 ·show#[_,oK y rfl,rfl,rfl]
 ·obtain⟨o,i,ep,ho,r⟩:=M;show#[o,i,ep,nO _<|c _ _ ho,r]
 ·refine#[rfl,h h' N u.objs.size hD rfl (ye<|nw _) λb o z=>kp b o ?_ ?_<|J b o z]
  ·show nR<|nI z
  ·show nR<|ri (nI z) Y
end
def CS:lP V->Hp->VK->Prop:=λx H Q=>∃(l:lR)(y:lP lR)(z:lP (mZ×V)),x=[.ref l]/\H l=some (.lst<|y.map V.ref)/\Paired (λt (q:mZ×V)=>H t=some (.tup [kV q.1,q.2])) y z/\(z.map fst).Nodup/\pK H (.dK z) Q
def Ho(C:X.calm=true):Xd X (.type "dict") CS:=by
 intro c7 s z H xs us Q I r h;obtain⟨l,j,w,rfl,B,i,A,q⟩:=h;obtain⟨u,rfl,ru⟩:=qg r;cases ru;obtain⟨hz,c8,n,g,L⟩:=(show Yc X.prog X.w H s.heap l (.lst<|j.map V.ref)from I.hok l _ B)
 rw[wJ g]at L;have key:∀{j:lP lR}{w:lP (mZ×V)},Paired (λt (q:mZ×V)=>H t=some (.tup [kV q.1,q.2])) j w->∃x:lP (mZ×lS),KV w x/\zH (Z4 X.prog X.w) s.heap j x:=by
  intro j w i
  induction i with
  | nil=>show#[[],.nil,.nil]
  | cons r t e =>
   rename_i p q _ _;obtain⟨x,h1,h2⟩:=e;obtain⟨_,c8,g,o,ho,w5,m,hd⟩:=(show Yc X.prog X.w H s.heap p (.tup [kV q.1,q.2])from I.hok p _ r)
   obtain⟨k,v,rfl,rk,d⟩:=ww g;show#[(q.1,v) ::x,.cons #[rfl,d] h1,.cons #[k,o,m,wg rk,ho,w5,hd] h2]
 obtain⟨x,c,a⟩:=key i;have G:w.length<=sizeLine:=by
  have:=nG i;rw[mI]at hz;lia
 have K4:(x.map fst).Nodup:=by
  have:∀{w:lP (mZ×V)}{x:lP (mZ×lS)},KV w x->x.map fst=w.map fst:=by
   intro w x y
   induction y with
   | nil=>rfl
   | cons r t e=>rw[nS,nS,e,r.1]
  rw[this c];show A
 refine VM (I.ok.hd C) L a (by rw[<-KV.length c];show G) λh' z7 Y E U N k=>?_
 rw[merged_nil_of_nodup x K4]at E;have M:Y≠sysModules:=λy=>by
  have D:=I.big;rw[<-U,y]at D;show qR _ D
 obtain⟨hH,J⟩:=I.laidAt (t':=z7) (o:=.dK w) k N<|Dj G (sF.mpr M) c E;show#[.ref Y,_,J,rfl,q.at Y hH]
def UV:bootBuiltins "ValueError"=some (.type "ValueError"):=by left
def Hd{fr:St->St}(Pv:Nat->lP V->Hp->Prop)(n:Pv 0 [] (mH l D<|.lst []))(j:∀i w H,i<=kvs.length->Pv i w H->H d=some (.frz o<|.dK kvs))
  (h:∀i kv w H,kvs[i]? =some kv->Pv i w H->∀p u,mz H u->H p=none->u p=some (.tup [kV kv.1,kv.2])->qG fr g c Y z D (.ref p) w u (Pv<|i+1)) (hd:∀w H,Pv kvs.length w H->Q (.ref D) H):sw (zl d o kvs) fr g c Y Q z l D:=by
 refine#[λi m w H=>m=kvs.length-i/\i<=kvs.length/\Pv i w H,#[kvs.length,by simp,pH _,n],?_];rintro i m w H ⟨rfl,U,p⟩;have q:=j i w H U p
 by_cases s:i<kvs.length
 ·refine .inr #[#[q,s],Pv<|i+1,λI N M=>#[kvs.length-(i+1),tX _ _ s,rfl,s,M],λx N y=>?_];obtain⟨a,kv,e,r,L,J⟩:=y;subst e J;show h i kv w H L p a _ (mz.new r) r Zd
 ·have e:i=kvs.length:=by lia
  subst e;show .inl #[#[q,nw _],hd w H p]
def Ztz{K:lV}{t c:lS}{b:Bool}(h:kitOne K t c=some b)(n:(t ==c)=false):PySem.W.kitCls K t c=some b:=by
 unfold kitOne at h;rw[mS (by rw[n];show oH)]at h;show h
section
variable {prog:ma} {w:lY} {KT:Type} [DecidableEq KT] {knd:KeyKind prog w KT} {A:md} {l d:lR} {tps:lP lR} {prs D0:lP (KT×lS)} {s:lT} {Q:lS->lT->Prop} {E:lS->lT->Prop} {n:Nat}
def Zh0(G:A.handled=none)(c:s.heap.DictOf knd d D0)(x:s.heap.get? l=some {cls:=.type "list",data:=.seq (tps.map Value.ref).toArray n})(D:zH knd s.heap tps prs)(hsz:D0.length+prs.length<=sizeLine)(Y:l≠d)(U:∀p∈tps,p≠d)
  (h:∀h' N,h'.DictOf knd d (merged D0 prs)->(∀b o,b≠d->s.heap.get? b=some o->h'.get? b=some o)->Q .none {s with heap:=h',toks:=N}):wpAny (model prog w) A (call (.builtin "dict.update") [.ref d,.ref l]) Q E s:=by
 refine uC<|Du Hi.plain F.entry_dict_update<|Hi.check _ _ _ _ _ _ _ _ c.typeIs (F.args_dict_update_2 _ _) ?_;unfold Builtin.«dict.update»;refine mP ?_;unfold Builtin.Dict.selfAndRest;refine mP<|Fy c.typeIs ?_;change wpAny _ _ (pure (d,[Value.ref l])) _ _ _;refine nq ?_;change wpAny _ _ (Builtin.Dict.updateFrom "dict.update" d (.ref l) [] .none) _ _ _;unfold Builtin.Dict.updateFrom;refine mP<|xF (T :="list") #[_,x,rfl] ?_;rw[mT (by lk)];obtain⟨C,B,d0,i,u⟩:=s;dsimp only at *;refine mP<|Ie G x λy r M=>?_;simp only[GD,tI];have L:=M _ _ x;have S6:y.IsList l (tps.map Value.ref).toArray:=#[_,L,rfl,n,rfl]
 refine mP<|uF<|mP<|xC (s:=#[y,B,d0,r,u]) S6<|nq #[xE _ (by left),?_];have g:∀b o,C.get? b=some o->(y.push {cls:=.type "list_iterator",data:=.fields (List.toArray [.ref l,.int 0 0])}).get? b=some o:=λb o z=>nO _<|M _ _ z
 obtain⟨od,J,I,j,rd⟩:=c;have e:∀b o,C.get? b=some o->b≠y.objs.size:=λb o z=>nR<|nI<|M b o z
 refine ME (A:=A) (knd:=knd) (h₀:=y.push {cls:=.type "list_iterator",data:=.fields (List.toArray [.ref l,.int 0 0])}) (l:=l) (d:=d) (it:=y.objs.size) (tps:=tps) (prs:=prs) (D0:=D0) G (e _ _ j) ?_ Y (e _ _ x) ?_ hsz (λp z=>?_) prs.length 0 #[y.push {cls:=.type "list_iterator",data:=.fields (List.toArray [.ref l,.int 0 0])},B,d0,r,u] 0 _ (Nat.zero_add _) ?_ ?_ (λb o _ _ z=>z) λh' N y8 kp=>?_
 ·show#[_,g _ _ x,rfl,n,rfl]
 ·show Paired.mapP D λp q ⟨key,o,m,i,H,z3⟩=>#[key,o,m,i,g _ _ H,z3]
 ·obtain⟨i,hi,rfl⟩:=wz z;obtain⟨q,_,key,o,m,_,H,_⟩:=Paired.get D (i:=i) (a:=tps[i])<|oA hi;show#[U _ z,e _ _ H]
 ·show#[_,oK y rfl,rfl,rfl]
 ·show#[od,J,I,g _ _ j,rd]
 ·show h h' N y8 λb o i z=>kp b o i (e _ _ z)<|g b o z
end
def Vo(p o:TE):TE:=λz H Q=>p z H λx r=>∃a,x=.ref a/\Gw r a/\o z r λy s=>∃(l:lR)(u:lP lR)(w more:lP (mZ×V)),y=.ref l/\s a=some (.dK w)/\s l=some (.lst<|u.map V.ref)/\Paired (λt (q:mZ×V)=>s t=some (.tup [kV q.1,q.2])) u more/\w.length+more.length<=sizeLine/\Q .non (mH s a<|.dK<|zu w more)
section
variable {o e:lZ} {u0 g9:Pos} {td ty:TE}
def Vc(hc:X.calm=true)(M:PE X o td)(he:PE X e ty)(m:M1 X o "update" u0 e g9):PE X (.Call (.Attribute o "update" u0) [e] [] g9) (Vo td ty):=by
 intro c7 s z H Q I h;refine wpAny_Call_method m.mB m.few m.line CU Hi PySem.F.type_dict_update<|mX (M c7 s z H _ I h) λu s1 h9=>?_;obtain⟨x,H1,I1,rx,a,ex,d,q1⟩:=h9;subst ex;obtain rfl:u=Value.ref a:=rx;obtain⟨t1,t2,_⟩:=Nj I1 d;refine#[t1,t2,?_];rw[m.trees];refine yt rfl<|Ct<|Ag<|mX (he c7 s1 z H1 _ I1 q1) λiv L ⟨y,J,Y,ry,l,j,g,more,ey,U,G,N,hz,q2⟩=>BU ?_;subst ey;obtain rfl:iv=Value.ref l:=ry;obtain⟨hzl,c8,n,E,hg⟩:=(show Yc X.prog X.w J L.heap l (.lst<|j.map V.ref)from Y.hok l _ G)
 rw[wJ E]at hg;obtain⟨hza,D,vs,z8,dd⟩:=BJ Y.hok U;have key:∀{j:lP lR}{g:lP (mZ×V)},Paired (λt (q:mZ×V)=>J t=some (.tup [kV q.1,q.2])) j g->∃c:lP (mZ×lS),KV g c/\zH (Z4 X.prog X.w) L.heap j c:=by
  intro j g N
  induction N with
  | nil=>show#[[],.nil,.nil]
  | cons r t ih =>
   rename_i p q _ _;obtain⟨c,h1,h2⟩:=ih;obtain⟨_,c8,E,o,M,w5,m,hd⟩:=(show Yc X.prog X.w J L.heap p (.tup [kV q.1,q.2])from Y.hok p _ r)
   obtain⟨k,v,rfl,rk,C⟩:=ww E;show#[(q.1,v) ::c,.cons #[rfl,C] h1,.cons #[k,o,m,wg rk,M,w5,hd] h2]
 obtain⟨c,D8,B⟩:=key N;refine Zh0 (Y.ok.hd hc) dd hg B (by rw[<-z8.length,<-KV.length D8];show hz) (λw=>by rw[w,U]at G;cases G) (λp A w=>?_) λh' z7 y8 kp=>?_
 ·obtain⟨i,hi,e⟩:=wz A;obtain⟨q,_,hq⟩:=Paired.get N (i:=i) (a:=p) (by rw[oA hi,e]);rw[w,U]at hq;cases hq
 ·obtain⟨o',j7,ep',ho',r'⟩:=id y8;show#[.non,_,Y.write (x:=a) (e:=a) (t':=z7) (by rw[U];show rR) (.inl rfl) (λb u n w=>kp b u n w) #[_,ho']<|Dj (by have:=IT more g;lia) D (D8.merge z8) y8,rfl,q2]
end
abbrev sQ(pos:Pos)(q:lQ):Array lS:=Xy [(pos.line,pos.col,q)]
abbrev Fz(o:Obj):HO:=.frz o<|.frz o<|.own 0
def Clo(H:Hp)(Pt u:lR)(q:lQ)(s:Arguments)(r:lZ)(p:Scope)(z:lP (lQ×lR)):Prop :=
 ∃(o n:lS)(c:lR)(y:Obj)(x:Array lS)(l:Nat)(w:lR),H u=some (Fz<|PySem.W.kla_obj "<lambda>" q s r p z o c n)/\H c=some (.frz y<|.own Pt)/\y.data=.fields x/\x[1]? =some (.str q l)/\H w=some (.tbl<|List.toArray [.none])/\Iv y c w
def Clo.mono(e:mz H y)(h:Clo H Pt x q w u s z):Clo y Pt x q w u s z:=by
 obtain⟨r,p,c,o,n,l,j,i,g,d,a,Y,U⟩:=h;show#[r,p,c,o,n,l,j,e _ _ i,e _ _ g,d,a,e _ _ Y,U]
def CellAt(H:Hp)(c:lR)(v:V):Prop:=∃o u,H c=some (Fz o)/\o.data=.cell (some u)/\Yj v u
def CellAt.mono(e:mz H z)(h:CellAt H c v):CellAt z c v:=by
 obtain⟨o,u,y,x⟩:=h;show#[o,u,e _ _ y,x]
def SR(C:PySem.W.CodeHd h c y)(e:h.get? c=some w):y≠c/\Iv w c y:=by
 obtain⟨o,u,s,r,q,p,n,l,j,z,i,d,a,Y,U,Q,N,M,x⟩:=C;rw[e]at z;cases z;show#[x.symm,λg z=>#[_,u,s,r,q,p,n,l,j,z,i,d,a,Y,U,Q,N,M,x]]
def Yfq{E:lS->lT->Prop}{w:lQ->lU lS}{Q:lS->lT->Prop}(w5:closureFor i env=pure y)(U:env.globals=mainGlobals)(hg:s.heap.Ns mainGlobals w)(hc:env.code=.ref c)(C:PySem.W.CodeHd s.heap c Pt)
  (H:s.heap.get? Pt=some {cls:=.none,data:=.fields ps}) (ht:TriplesOk ps.toList) (hn:codeAmong pos ps.toList=none) (N:mainGlobals≠Pt) (hb:s.heap.BuiltinsAt w Pt)
  (h:∀z u l h' x,Heap.ExtBut Pt s.heap h'->#v[s]<=z->z<h'.objs.size->#v[s]<=u->h'.CodeRec (.ref z) d->PySem.W.CodeHd h' z u->h'.get? u=some {cls:=.none,data:=.fields #[]}->h'.get? Pt=some {cls:=.none,data:=.fields (ps++ (List.toArray [rawInt pos.line,rawInt pos.col,.ref z]))}->
   Q (.ref h'.objs.size) {s with heap:=h'.push<|PySem.W.kla_obj nm d L J i y ((w "__name__").getD .none) z l,toks:=x}):wpAny M A (makeFunction nm d L (.expr J) i env [] [] [] pos fst_) Q E s:=by
 obtain⟨bm,ob,G,D,_,b4,b5,B,b7,b8⟩:=hb;rw[makeFunction_eq];simp only[List.zip_nil_right,List.filterMap_nil,List.isEmpty_nil,tI,pure_bind];unfold makeTail;rw[w5,U];refine mP<|nq ?_;have go:∀g:lX,(∀b o,s.heap.get? b=some o->g.get? b=some o)->#v[s]<=g.objs.size->∀{R:lS->lT->Prop},(∀z h' x,Heap.ExtBut Pt s.heap h'->#v[s]<=z->h'.Ns mainGlobals w->h'.get? bm=some ob->(∀l,Q (.ref h'.objs.size) {s with heap:=h'.push<|PySem.W.kla_obj nm d L J i y ((w "__name__").getD .none) z l,toks:=x})->R (.ref z) {s with heap:=h',toks:=x})->wpAny M A (functionCode env pos fst_ nm d L i<|.expr J) R E {s with heap:=g}:=λg a sz R r=>by
  have CG:=C.keeps a;refine wpAny_functionCodeX hc (CG.code (a _ _ H) ht) (CG.tab<|a _ _ H) hn λz h' x x1 x2 x3 _ x4 x5 x6=>?_
  obtain⟨u,y1,y2,y3⟩:=x6;have Y:Heap.ExtBut Pt s.heap h':=λb o n e=>x1 b o n<|a b o e
  have nC:=PySem.W.CodeHd.of y2 y3;show r z h' x Y (oi sz x2) (hg.extBut Y N) (Y _ _ b4 b5) λl=>(h z u l h' x Y (oi sz x2) x3 (oi sz y1) x4 nC y3.2 x5.2)
 cases y with
 | nil =>
  simp only[List.isEmpty_nil,tI];refine mP<|nq<|mP<|go s.heap (λ_ _ e=>e) (nw _) λz h' x _ _ j I q=>?_;show mP (wpAny_builtinsFor j G D I B b7 b8<|mP<|wpAny_nsGet j<|mP<|nq<|vP (q _)<|by size_fits)
 | cons p r =>
  simp only[List.isEmpty_cons,ub,rD];refine mP<|wpAny_newTextTuple<|mP<|go _ (λb o e=>nO _ e) (by rw[ur];lia) λz h' x _ _ j I q=>?_;show mP (wpAny_builtinsFor j G D I B b7 b8<|mP<|wpAny_nsGet j<|mP<|nq<|vP (q _)<|by size_fits)
def Yft{l:lP (Nat×Nat×lQ)}{a b:Nat}{q r:lQ}(x:(l.map λp=>(p.1,p.2.1)).Nodup)(w:(a,b,q)∈l)(u:(a,b,r)∈l):q=r:=by
 induction l with
 | nil=>cases w
 | cons p l s =>
  rw[nS,pN]at x;rcases nQ.mp w with z|z<;>rcases nQ.mp u with y|y
  ·have:=z.trans y.symm;simpa using this
  ·show absurd (mV.mpr #[_,y,by rw[<-z]]) x.1
  ·show absurd (mV.mpr #[_,z,by rw[<-y]]) x.1
  ·show s x.2 z y
section
variable {Q:lS->lT->Prop}
def Li{Y:lP (Nat×Nat×lQ)}(I:mG X c7 z H s)(B:defaultsOf A X.env=([],[]))(L8:X.env.code=.ref c)(C:PySem.W.CodeHd X.mB c Pt)(hH:H Pt=some (.tbl<|Xy Y))(S0:(L.line,L.col,X.env.qual++"<lambda>")∈Y)(w5:closureFor ls X.env=pure j)
  (h:∀fl H' s',mG X c7 z H' s'->mz H H'->H fl=none->Clo H' Pt fl (X.env.qual++"<lambda>") A lb ls j->Q (.ref fl) s'):∅ (eval (.Lambda A lb ls L) X.env) Q X.xe s:=by
 refine PySem.W.kla_eval B ?_;obtain⟨r,hT,e|⟨x,fs,e1,nd,rfl,hfs⟩⟩:=(show Yc X.prog X.w H s.heap Pt (.tbl<|Xy Y)from I.hok Pt _ hH)
 ·show absurd e.1 Yc3
 have e1:=Zyp e1;subst e1;have hg:s.heap.Ns mainGlobals X.mg:=I.mod.glob.keeps I.bk;have CH:PySem.W.CodeHd s.heap c Pt:=C.keeps I.bk;have nP:∀b,H b=none->b≠Pt:=λb n y=>by rw[y,hH]at n;cases n
 have hB:s.heap.BuiltinsAt X.mg Pt:=by
  obtain⟨bm,M,b1,b2,b3,b4,b5,b6⟩:=I.mod.bm;obtain⟨b3',hn⟩:=I.bs _ _ b3;refine#[bm,M,b1,b2,λy=>?_,nP bm hn,b3',b4,b5,b6];obtain⟨o,es,ep,e,d,_⟩:=hg;rw[<-y,b3']at e;cases e;rw[b6]at d;cases d
 have hgP:mainGlobals≠Pt:=by
  obtain⟨o,es,ep,e,d,_⟩:=I.mod.glob;show nP _ (I.bs _ _ e).2
 cases J:codeAmong L (rM fs).toList with
 | none =>
  refine Yfq (ps:=rM fs) w5 I.ok.glob hg L8 CH hT (Ib fs) J hgP hB λw l D p tk hx U g8 hpn hrec E6 E7 htb=>?_
  obtain⟨x,N,vs,tt,e,G,hd,hv⟩:=hrec;cases e;generalize E2:PySem.W.kla_obj "<lambda>" (X.env.qual++"<lambda>") A lb ls j ((X.mg "__name__").getD .none) w D=M;have z9:M.isFreed=false:=by rw[<-E2];rfl
  have E:H p.objs.size=none:=I.hok.fresh<|oi U<|uW g8;have hcn:H w=none:=I.hok.fresh U;have hpN:H l=none:=I.hok.fresh hpn;have ncf:w≠p.objs.size:=nR g8;have npf:l≠p.objs.size:=nR<|nI E7;obtain⟨npc,hco⟩:=SR E6 G;have old:∀b o,s.heap.get? b=some o->b≠l/\b≠w/\b≠p.objs.size:=λb o e=>by
   have:=nI e;show#[nR<|pM this hpn,nR<|pM this U,nR<|ri (pM this U) g8]
  have kp:∀b o,b≠Pt->s.heap.get? b=some o->(p.push M).get? b=some o:=λb o n e=>nO _<|hx b o n e
  have g:∀b o,H b=some o->b≠l/\b≠w/\b≠p.objs.size:=λb o e=>#[Zg e hpN,Zg e hcn,Zg e E]
  have i:∀{b:lR},(b≠l/\b≠w/\b≠p.objs.size)->mH (mH (mH H l<|.tbl<|List.toArray [.none]) w<|.frz N<|.own Pt) p.objs.size (Fz M) b=H b:=λn=>by rw[Ze n.2.2,Ze n.2.1,Ze n.1]
  have aC:mH (mH (mH H l<|.tbl<|List.toArray [.none]) w<|.frz N<|.own Pt) p.objs.size (Fz M) w=some (.frz N<|.own Pt):=by rw[Ze ncf,Zd]
  have aP:mH (mH (mH H l<|.tbl<|List.toArray [.none]) w<|.frz N<|.own Pt) p.objs.size (Fz M) l=some (.tbl<|List.toArray [.none]):=by rw[Ze npf,Ze npc,Zd]
  refine h p.objs.size (mH (mH (mH H l<|.tbl<|List.toArray [.none]) w<|.frz N<|.own Pt) p.objs.size<|Fz M) _ (I.step (g':=s.gens) (d':=s.drawn) (ch:=[]) (λ_ y=>nomatch y) (λb o _ _ _ e n=>kp b o (nP b n) e) (λb o _ _ _ e n=>#[o.slots,kp b o (nP b n) e]) (λb o _ e n=>by rw[i (old b o e)];show n) (λb o _ e=>?_)
   (λb xs e=>by rw[i (g _ _ e)];show e) (λb o u e=>by rw[i (g _ _ e)];show e) (λb x e=>#[#[],by rw[i (g _ _ e),e];simp]) (λm hm=>?_) (λb u e=>?_) I.bare)
   (λb o e=>by rw[i (g _ _ e)];show e) E #[_,D,w,N,vs,tt,l,by rw[Zd,E2],aC,hd,hv,aP,hco]
  ·by_cases x:b=Pt
   ·show#[_,by rw[x];show nO _ htb]
   ·show#[o,kp b o x e]
  ·obtain⟨o,es,ep,e,r⟩:=hm;show#[o,es,ep,kp _ o (nP _ I.free) e,r]
  ·by_cases h1:b=p.objs.size
   ·subst h1;rw[Zd]at e;cases e;have:=oK p z9;show#[this,this,_,this]
   by_cases h2:b=w
   ·subst h2;rw[aC]at e;cases e;show#[nO _ G,_,nO _ G]
   by_cases h0:b=l
   ·subst h0;rw[aP]at e;cases e;show#[#[],nO _ E7,.inl #[rfl,trivial]]
   rw[i #[h0,h2,h1]]at e
   by_cases h3:b=Pt
   ·subst h3;rw[hH]at e;cases e;refine#[_,nO _ htb,.inr #[Y,fs++[(L.line,L.col,X.env.qual++"<lambda>",w)],rfl,nd,by rw[VF],λf hf=>?_]];rcases ou.mp hf with y|y
    ·obtain⟨z1,x,r,q,P1,f1,f2,f3,f4,f5⟩:=hfs f y;show#[z1,x,r,q,P1,by rw[i (g _ _ f1)];show f1,f2,f3,by rw[i (g _ _ f4)];show f4,f5]
    ·rw[pD.mp y];show#[S0,N,vs,tt,l,aC,hd,hv,aP,hco]
   ·refine(I.hok b u e).stay (λd v hd q=>kp d v ?_ q) (λd q=>by rw[i (g _ _ q)];show q) (λd xs q=>by rw[i (g _ _ q)];show q) (λd o q=>by rw[i (g _ _ q)];show q) (λd o q=>by rw[i (g _ _ q)];show q);rcases hd with y|y
    ·rw[y];show h3
    ·show λx=>by rw[x,hH]at y;cases y
 | some cv =>
  obtain⟨f,hf,rfl,r,q⟩:=NT J;obtain⟨z1,N,vs,tt,l,f1,f2,f3,f4,f5⟩:=hfs f hf;obtain⟨fl,i,g,w⟩:=f;have r:fl=L.line:=r;have q:i=L.col:=q;subst r q;have U:g=X.env.qual++"<lambda>":=Yft nd z1 S0;subst U;refine PySem.W.kla_makeFunctionHit (ps:=rM fs) (cv:=.ref w) w5 I.ok.glob hg L8 CH hT (Ib fs) J hB λD p tk G x=>?_
  ·have E:H p.objs.size=none:=I.hok.fresh x;have:=oK p (o:=PySem.W.kla_obj "<lambda>" (X.env.qual++"<lambda>") A lb ls j ((X.mg "__name__").getD .none) w D) rfl;show h _ _ _ (I.laid (a:=p.objs.size) (o:=Fz<|PySem.W.kla_obj "<lambda>" (X.env.qual++"<lambda>") A lb ls j ((X.mg "__name__").getD .none) w D) (t':=tk) (λb u e=>nO _<|G b u e) x #[this,this,_,this]) (mz.new E) E
    #[_,D,w,N,vs,tt,l,Zd,by rw[Ze (Zg f1 E)];show f1,f2,f3,by rw[Ze (Zg f4 E)];show f4,f5]
end
open Classical in
def rB(z:lP (lQ×lR))(H:Hp)(h:lX):Hp:=λb=>if ∃x,z.lookup x=some b then(h.get? b).map Fz else H b
section
variable {c7:lP (lR×Obj)} {σ:St} {H:Hp} {s:lT} {Q:VK}
def Xj(I:mG X c7 σ H s)(e:H b=some o):rB X.env.cells H s.heap b=some o:=by
 unfold rB;rw[mS]
 ·show e
 ·rintro⟨x,z⟩;rw[I.freeC x b z]at e;cases e
def xU(n:∀x,X.env.cells.lookup x≠some b):rB X.env.cells H s.heap b=H b:=by
 unfold rB;rw[mS];rintro⟨x,z⟩;show n x z
def FP(I:mG X c7 σ H s){i:Nat}{x:lQ}{v:V}{c:lR}(q:X.N[i]? =some x)(p:σ[i]? =some (some v))(y:X.env.scope.names.lookup x=some .cell)(z:X.env.cells.lookup x=some c):H c=none/\CellAt (rB X.env.cells H s.heap) c v:=by
 obtain⟨m,h,n⟩:=I.loc;obtain⟨u,r,l⟩:=n i x v q p<|.inr<|.inl y;refine#[I.freeC x c z,?_];rcases l with⟨k,_⟩|⟨_,h,w,o,j,hd⟩
 ·have k:X.env.scope.names.lookup x=some .local:=k;rw[y]at k;cases k
 ·rw[z]at w;cases w;refine#[o,u,?_,hd,r];unfold rB;rw[mT #[x,z],j]
  rfl
def mG.shut(I:mG X c7 σ H s)(p:X.ex=[])(i:∀x,X.fn x=true)(h:Yj v u)(q:Q v (rB X.env.cells H s.heap)):CE X.my X.prog X.w X.mi X.mf Q u s:=by
 have J:=I.mB;have g:∀b o,X.mf.heap.get? b=some o->∀x,X.env.cells.lookup x≠some b:=λb o e x z=>absurd (pM (nI e)<|I.ok.cab x b (i x) z)<|qR _
 refine#[v,rB X.env.cells H s.heap,I.os,I.bare,#[λb o y r w _=>J.keep b o y r w (by rw[p];simp),λb o y r w _=>J.slot b o y r w (by rw[p];simp),λb o y r _=>?_,λb o y _=>J.there b o y (by rw[p];simp),λb l e=>Xj I<|J.tups b l e,λb o x e=>Xj I<|J.frzs b o x e,λb d e=>?_],λb o e=>?_,h,q]
 ·rw[xU (g b o y)];show J.free b o y r (by rw[p];simp)
 ·obtain⟨m,z⟩:=J.tbls b d e;show#[m,Xj I z]
 ·by_cases j:∃x,X.env.cells.lookup x=some b
  ·obtain⟨x,z⟩:=j;obtain⟨w,c,n,hd⟩:=I.cell x b z;unfold rB at e;rw[mT #[x,z],n]at e;cases e;show#[n,n,_,n]
  ·have w:=e;rw[xU λx z=>j #[x,z]]at w;show(I.hok b o w).stay (λ_ _ _ q=>q) (λc q=>Xj I q) (λc l q=>Xj I q) (λc o q=>Xj I q) (λc o q=>Xj I q)
end
def Yim(X:Cx)(Pt:lR)(Q:VK)(s:Arguments)(q:lZ)(r:Scope)(p:Pos)(z:St)(H:Hp):Prop :=
 defaultsOf s X.env=([],[])/\H Pt=some (.tbl<|sQ p<|X.env.qual++"<lambda>")/\∃y,closureFor r X.env=pure y/\
 ∀u w,mz H w->H u=none->Clo w Pt u (X.env.qual++"<lambda>") s q r y->(∀(i:Nat)(x:lQ)(v:V)(c:lR),X.N[i]? =some x->z[i]? =some (some v)->X.env.scope.names.lookup x=some .cell->X.env.cells.lookup x=some c->H c=none/\CellAt w c v)->Q (.ref u) w
inductive uZ(X:Cx)(Pt:Addr)(Q:VK):List Stmt->St->Hp->Prop
 | last {la lb ls lp rp σ H Zs}:Yim X Pt Q la lb ls lp σ H->uZ X Pt Q (.Return (some<|.Lambda la lb ls lp) rp ::Zs) σ H
 | step {st Zs σ H} (M:St->Hp->Prop):WS X st {nx:=M,rt:=λ_ _=>False} σ H->(∀σ' H',M σ' H'->uZ X Pt Q Zs σ' H')->uZ X Pt Q (st ::Zs) σ H
def YY{X:Cx}{Pt c:lR}{Q:VK}(d:X.env.code=.ref c)(C:PySem.W.CodeHd X.mB c Pt){b:lP lW}{z:St}{H:Hp}(m:uZ X Pt Q b z H):∀{s:lT},mG X [] z H s->
  ∅ (execs b X.env) (λf s'=>∃p w r,f=.ret (.ref p)/\mG X [] w r s'/\Q (.ref p) (rB X.env.cells r s'.heap)) X.xe s:=by
 induction m with
 | last h =>
  intro s I;obtain⟨y,a,x,Y,k⟩:=h;refine CA<|wpAny_Return_some<|Li I y d C a (List.mem_singleton_self _) Y λp r s' u q U N=>?_;refine#[p,_,r,rfl,u,k p _ (q.trans λb o e=>Xj u e) U (N.mono λb o e=>Xj u e) λi x v c n l j g=>#[q.free (FP u n l j g).1,(FP u n l j g).2]]
 | step M h _ x =>
  intro s I;refine CA<|mX (h.run [] s I) λf o q=>?_;cases f with
  | next =>
   obtain⟨w,r,u,q⟩:=q;show x w r q u
  | ret v=>obtain⟨_,_,_,_,_,y⟩:=q;show y.elim
  | brk=>obtain⟨_,_,_,y⟩:=q;show y.elim
  | cont=>obtain⟨_,_,_,y⟩:=q;show y.elim
def uU(K:lV)(fd:me)(Pt:lR):Prop:=∃c,fd.code=.ref c/\PySem.W.codeHdIn K c Pt=true
section
variable {P:ma} {w:lY} {K:lV} {mg:lQ->lU lS} {mB:lX}
def qX.okM{x qual:lQ}{st:lW}{f Pt:lR}{fd:me}{N ps:lP lQ}{k:Nat}{i:Sp}(F:qX K x qual st f fd)(L:uU K fd Pt)(S:Zx N ps (Zk st))(len:∀vs H Q E,i vs H Q E->vs.length=ps.length)
  (G:∀(j:lS)(A:md)(p:lP Env)(s:lT)(H:Hp)(vs:lP V)(Q:VK)(E:XK),Y6 k (A.deeper<|envOfC qual (Zk st) #v[s] f j)->i vs H Q E->
   uZ (oW oP P w K mg mB N qual (Zk st) f j A p s H E).nox Pt Q (Y3 st) (start N vs) H):Xf P w K mg mB oP (k+1) f fd ps i:=by
 obtain⟨oc,od,kV,A0,pm,an,j,ct,O7,rfl,lk,D⟩:=F.ex;obtain⟨c,h,C⟩:=L;have h:j=.ref c:=h;subst h;refine#[len,λA p s H args B vs Q E g l hb r Y=>?_];have hl:=len _ _ _ _ Y;have KX:K.In s.heap:=l.mod.kin.keeps λb o e=>(l.bs b o e).1
 have d:s.heap.NoLimit:=l.mod.nolimit.keeps λb o e=>(l.bs b o e).1
 have u:∀y∈ps.zip B,(Zk st).names.lookup y.1=some .local\/((Zk st).names.lookup y.1=some .cell/\((cellsFrom (#v[s]+1) (Zk st).names []).lookup y.1).isSome=true):=λ⟨n,v⟩ hy=>by
  rcases S.par n (tz hy).1 with q|q
  ·show .inl q
  ·show .inr #[q,EW _ _ _<|.inl q]
 refine codeAny_call_function g.depth (KX _ _ lk) rfl S.co S.gen rfl (Ms KX D)<|hb _ _ _ _ ?_;refine Lp S.kind u λenv he U x=>?_
 subst he;refine#[d.keeps x.toInCall.keep,codeAny_func ?_];have z:mG (oW oP P w K mg mB N qual (Zk st) f (.ref c) A p s H E) [] (start N vs) H U:=Kk S g.hd l hl r x;have I:mG (oW oP P w K mg mB N qual (Zk st) f (.ref c) A p s H E).nox [] (start N vs) H U:=#[#[z.ok.mod,z.ok.kind,z.ok.glob,z.ok.blt,z.ok.above,z.ok.inj,z.ok.has,z.ok.cab,z.ok.hd,z.ok.frames,z.ok.stk,z.ok.exf,z.ok.bs,z.ok.bsz,z.ok.noex,z.ok.exfs,z.ok.funs,z.ok.frf],z.os,z.bare,z.mB,z.loc,z.cell,z.free,z.freeC,z.pin,z.hok,z.len]
 refine pT (YY (c:=c) rfl (GA l.mod.kin C) (G (.ref c) A p s H vs Q E (g.deeper _) Y) I) (λfl M a=>?_) λe M a=>a.elim
 obtain⟨v,σ',H',rfl,J,q⟩:=a;change CE p P w H s Q (.ref v) M;show J.shut (v:=.ref v) rfl (λ_=>rfl) rfl q
end
def EV(P:ma)(w:lY)(K:lV)(x:lQ->lU lS)(mB:lX)(k:Nat)(f:lR)(H:Hp)(vs:lP V)(Q:VK):Prop :=
 ∀(A:md)(z:lP Env)(s:lT)(y:lP lS),Y6 k A->vd P w K x mB A z s H->Z6 vs y->codeAny (model P w) A (.call (.ref f) #[y,[]]) (CR oP z P w H s Q E0) s
def wy(H:Hp)(f:lR):Prop:=∃z y x w u,H f=some (.frz #[z,y,.func x,w] u)
def wy.at(I:mG X q z H s)(h:wy H f):PySem.W.FnAt f s.heap:=by
 obtain⟨y,x,w,r,u,e⟩:=h;show#[y,x,w,r,(I.hok f _ e).1]
def Clo.fn(h:Clo H Pt y q w u s z):wy H y:=by
 obtain⟨r,p,c,o,n,l,_,x,_⟩:=h;show#[_,_,_,_,_,x]
def Yef(P:ma)(w:lY)(K:lV)(s:lQ->lU lS)(mB:lX)(k:Nat)(r:TE)(t:TA):TE:=λz H Q=>r z H λx y=>∃f,x=.ref f/\wy y f/\t z y λq u=>wy u f/\EV P w K s mB k f u q Q
def OP(j:Y6 k X.A)(i:PE X (.Name x p) g)(d:PA X (e ::q) t)
  (he:starEach (e ::q) X.env=(false,eval e X.env) ::starEach q X.env:=by rfl) (c:(backTo pos<|starEach q X.env).any (·.1)=false:=by rfl):PE X (.Call (.Name x p) (e ::q) [] pos) (Yef X.prog X.w X.K X.mg X.mB k g t):=by
 intro n s z H Q I h;refine vR<|mX (i n s z H _ I h) λu a Y=>?_;obtain⟨y,U,l,N,f,M,L,J⟩:=Y;subst M;obtain rfl:u=Value.ref f:=N;refine PySem.W.callWith_F (L.at l) (mX (d pos n a z U _ l J) λG E ⟨C,B,o,r,y,D⟩=>#[y.at o,?_]) he c;refine uC<|vw (D X.A X.stack E G j o.env0 r) λr y w=>?_;cases r with
 | error e=>show False.elim w
 | ok y =>
  cases y with
  | ret u=>show o.after w
  | next=>show False.elim w
  | brk=>show False.elim w
  | cont=>show False.elim w
def Bz(P:ma)(w:lY)(K:lV)(mg:lQ->lU lS)(mB:lX)(N:lP lQ)(q:lQ)(scope:Scope)(f:lR)(y:lS)(z:lP (lQ×lR))(A:md)(my:lP Env)(s:lT)(H:Hp):Cx where
 prog:=P
 w:=w
 K:=K
 mg:=mg
 mB:=mB
 A:=A.deeper (PySem.W.envX q scope #v[s] f y z)
 N:=N
 mf:=s
 mi:=H
 env:=PySem.W.envX q scope #v[s] f y z
 my:=my
 stack:=PySem.W.envX q scope #v[s] f y z ::my
 ex:=[]
 calm:=true
 fn:=λ_=>false
 pn:=[]
 xe:=λ_ _=>False
def offL(H:Hp)(z:lP (lQ×lR)):Hp:=λb=>if b∈z.map snd then none else H b
def Wk(h:b∉z.map snd):offL H z b=H b:=mS h
def wc(h:b∈z.map snd):offL H z b=none:=mT h
theorem GJ:∀{l:lP (lQ×lR)}{x y:lQ}{a:lR},(l.map snd).Nodup->(x,a)∈l->(y,a)∈l->x=y
 | [],_,_,_,_,h,_=>by cases h
 | p ::r,x,y,a,u,o,s=>by
  have u:(p.2 ::r.map snd).Nodup:=u;obtain⟨q,n⟩:=pN.mp u;rcases nQ.mp o with w|w
  ·rcases nQ.mp s with z|z
   ·rw[<-w]at z;cases z;rfl
   ·show absurd (mV.mpr #[_,z,by rw[<-w]]) q
  ·rcases nQ.mp s with z|z
   ·show absurd (mV.mpr #[_,w,by rw[<-z]]) q
   ·show GJ n w z
def Cr:HO->Prop
 | .frz _ _=>False
 | _=>True
structure ui(H:Hp)(ls:Scope)(clos:List (Str×Addr))(fs:List Str)(fvs:List V):Prop where
 cells:Paired (λx v=>ls.names.lookup x=some .free/\∃c,clos.lookup x=some c/\CellAt H c v) fs fvs
 all:∀p∈clos,p.1∈fs
 one:(clos.map fst).Nodup
 apart:(clos.map snd).Nodup
theorem Wp{z:Type}:∀{l:lP (lQ×z)}{p:lQ×z},(l.map fst).Nodup->p∈l->l.lookup p.1=some p.2
 | [],_,_,h=>by cases h
 | q ::r,p,x,h=>by
  have x:(q.1 ::r.map fst).Nodup:=x;obtain⟨w,u⟩:=pN.mp x;rw[rE];rcases nQ.mp h with e|e
  ·rw[e,yl]
  ·have:(p.1 ==q.1)=false:=by rw[sF];show λy=>w<|mV.mpr #[p,e,y]
   rw[this];show Wp u e
def ui.cell(L:ui H s z fs fvs)(y:p∈z):∃v,CellAt H p.2 v:=by
 obtain⟨i,w,e⟩:=wz<|L.all p y;obtain⟨v,_,_,c,x,u⟩:=Paired.get L.cells (i:=i) (a:=p.1) (by rw[oA w,e]);rw[Wp L.one y]at x;cases x;show#[v,u]
def ui.soft(L:ui H s y fs fvs)(h:H b=some o)(n:Cr o):offL H y b=some o:=by
 rw[Wk]
 ·show h
 ·intro z;obtain⟨p,w,e⟩:=mV.mp z;obtain⟨v,r,u,x,_⟩:=L.cell w;rw[e,h]at x;cases x;show n
def Oe :mz (offL H y) H:=λb o e=>by
 by_cases z:b∈y.map snd
 ·rw[wc z]at e;cases e
 ·rw[Wk z]at e;show e
open Classical in
def qh(H y:Hp)(z:lP (lQ×lR)):Hp:=λb=>if b∈z.map snd then H b else y b
section
variable {P:ma} {w:lY} {K:lV} {mg:lQ->lU lS} {mB:lX}
def CZ(C:Clo H Pt E q la lb Y r)(L:ui H Y r fs fvs)
  (hb:∀(pm d6 A8 u:lS),bindArgs (PySem.W.kla_fn "<lambda>" q la lb Y r pm d6 A8) #[[u],[]]=pure [(g,u)]) (hg:Y.names.lookup g=some .local) (hgf:g∉fs) (z9:∀y∈Y.names,y.2=.free->y.1∈fs) (hnc:∀y∈Y.names,y.2≠.cell)
  (hk:Y.kind=.function) (hco:Y.isCoroutine=false) (hgen:Y.isGenerator=false)
  (body:∀(d6:lS)(A:md)(my:lP Env)(s:lT),Y6 k (A.deeper<|PySem.W.envX q Y #v[s] E d6 r)->
   WE (Bz P w K mg mB (g ::fs) q Y E d6 r A my s<|offL H r) lb (some gv ::fvs.map some) (offL H r) (λv M=>mz (offL H r) M/\∀A6,mz M A6->mz H A6->Q v A6)):EV P w K mg mB (k+1) E H [gv] Q:=by
 intro A my s us hr l rv;obtain⟨u,rfl,ru⟩:=qg rv;obtain⟨pm,A8,c,oc,vs,tt,_,j,N,h3,h4,_⟩:=C;have o1:s.heap.get? E=some (PySem.W.kla_obj "<lambda>" q la lb Y r pm c A8):=(l.hok E _ j).1;have o2:s.heap.get? c=some oc:=(l.hok c _ N).1;have lim:s.heap.NoLimit:=l.mod.nolimit.keeps λb o e=>(l.bs b o e).1
 refine PR hr.depth o1 rfl hco hgen rfl #[c,oc,vs,tt,rfl,o2,h3,h4] ?_;rw[hb];refine nq<|Bt hnc (λy G=>?_) (λD A9 hsb=>#[lim.fresh _ hsb,?_]) hk
 ·obtain rfl:y=(g,u):=pD.mp G;show hg
 change codeAny _ _ (.expr lb<|PySem.W.envX q Y #v[s] E (.ref c) r) _ _;have mo:∀b o,s.heap.get? b=some o->D.get? b=some o:=λb o e=>hsb.extBut b o (nR<|nI e)<|nO _ e
 have B4:∀{x:lQ}{a:lR},r.lookup x=some a->(x,a)∈r:=λh=>rL h
 have inC:∀{x:lQ}{a:lR},r.lookup x=some a->a∈r.map snd:=λh=>mV.mpr #[_,B4 h,rfl]
 have P3:∀{b:lR},b∈r.map snd->∃o u,H b=some (Fz o)/\o.data=.cell (some u):=λ{b} z=>by
  obtain⟨p,hp,e⟩:=mV.mp z;obtain⟨v,o,u,U,z2,_⟩:=L.cell hp;show#[o,u,e ▸ U,z2]
 have hok0:oj P w (offL H r) s.heap:=λb o e=>by
  have e':=Oe b o e;refine(l.hok b o e').stay (λ_ _ _ z=>z) (λd z=>L.soft z trivial) (λd xs z=>L.soft z trivial) (λd ob z=>?_) (λd ps z=>L.soft z trivial);rw[Wk]
  ·show z
  ·intro y;obtain⟨o3,u3,y1,_⟩:=P3 y;rw[z]at y1;cases y1
 have C1:∀{b:lR},H b=none->offL H r b=none:=λ{b} n=>by
  by_cases z:b∈r.map snd
  ·show wc z
  ·rw[Wk z];show n
 have nA:∀b:lR,b∉(Bz P w K mg mB (g ::fs) q Y E (.ref c) r A my s<|offL H r).ex:=λb z=>absurd (show b∈([]:lP lR)from z) (by simp)
 have I:mG (Bz P w K mg mB (g ::fs) q Y E (.ref c) r A my s<|offL H r) [] (some gv ::fvs.map some) (offL H r) {s with heap:=D,toks:=s.toks+[(g,u)].length}:=by
  refine#[#[l.mod,hk,rfl,rfl,nw _,λy z a j N=>?_,λy G=>?_,λy a z _=>(oH z).elim,λ_=>hr.hd,EC l.frames,.inr #[rfl,rfl],λb z=>absurd z<|nA b,λb o e=>#[(l.bs b o e).1,C1 (l.bs b o e).2],l.bsz,λb _ _=>nA b,λb z=>absurd z<|nA b,l.funs,λb z=>C1<|l.frf b z],
   rfl,l.bare,Un.kept mo,#[_,A9,λi y v j N h3=>?_],λy a z=>?_,C1<|l.hok.fresh<|nw _,λy a z=>wc<|inC z,λp hp=>absurd (show p∈([]:lP (lR×Obj))from hp) (by simp),hok0.kept mo,?_]
  ·show GJ L.apart (B4 j)<|B4 N
  ·have G:Y.names.lookup y=some .cell\/Y.names.lookup y=some .free:=G;rcases G with G|G
   ·show absurd rfl<|hnc _<|rL G
   ·obtain⟨i,hi,e⟩:=wz<|z9 _ (rL G) rfl;obtain⟨v,_,_,a,U,_⟩:=Paired.get L.cells (i:=i) (a:=y) (by rw[oA hi,e]);show#[a,U]
  ·cases i with
   | zero =>
    have j:g=y:=oo j;have N:gv=v:=oo<|oo N;subst j N;show#[u,ru,.inl #[hg,by simp]]
   | succ i =>
    have j:fs[i]? =some y:=j;have N:(fvs.map some)[i]? =some (some v):=N;rw[nK]at N;obtain⟨v',h5,h6⟩:=nU.mp N;cases h6;obtain⟨v2,z0,U,a,z2,o,uu,z3,z4,z5⟩:=Paired.get L.cells j;rw[h5]at z0;cases z0;show#[uu,z5,.inr #[.inr U,a,z2,o,mo _ _ (l.hok a _ z3).1,z4]]
  ·obtain⟨o,uu,U,z2⟩:=P3<|inC z;show#[_,o,mo _ _ (l.hok a _ U).1,z2]
  ·change(some gv ::fvs.map some).length=(g ::fs).length;rw[pi,mI,pi,nG L.cells]
 refine Od<|pT ((body (.ref c) A my s<|hr.deeper _).run [] _ I) (λv s' hs=>?_) λ_ _ z=>z.elim;obtain⟨v',M,J,P9,sm,qq⟩:=hs;have B:Un (nX my) [] (offL H r) M s.heap s'.heap:=J.mB;have cellH:∀{b:lR},b∈r.map snd->M b=none:=λ{b} z=>by
  obtain⟨p,hp,e⟩:=mV.mp z;show J.freeC p.1 b (by rw[<-e];show Wp L.one hp)
 have nin:∀{b:lR}{o:HO},M b=some o->b∉r.map snd:=λ{b o} e z=>by rw[cellH z]at e;cases e
 have bk:∀{b:lR}{o:HO},M b=some o->qh H M r b=some o:=λ{b o} e=>by unfold qh;rw[mS (nin e)];show e
 have nofs:∀{b:lR},b∈r.map snd->b∉nX my:=λ{b} z y=>by
  obtain⟨o,uu,U,_⟩:=P3 z;rw[l.frf b y]at U;cases U
 refine#[v',qh H M r,J.os,J.bare,#[λb o j n hb _=>B.keep b o j (C1 n) hb (by simp),λb o j n hb _=>B.slot b o j (C1 n) hb (by simp),λb o j n _=>?_,λb o j _=>B.there b o j (by simp),λb xs e=>bk<|B.tups b xs<|L.soft e trivial,λb ob x e=>?_,λb ps e=>?_],λb o e=>?_,P9,qq _ (λb o e=>bk e) λb o e=>?_]
 ·unfold qh;rw[mS λz=>by obtain⟨o,uu,U,_⟩:=P3 z;rw[n]at U;cases U];show B.free b o j (C1 n) (by simp)
 ·by_cases z:b∈r.map snd
  ·unfold qh;rw[mT z];show e
  ·show bk (B.frzs b ob x (by rw[Wk z];show e))
 ·obtain⟨m,z⟩:=B.tbls b ps<|L.soft e trivial;show#[m,bk z]
 ·by_cases z:b∈r.map snd
  ·unfold qh at e;rw[mT z]at e;obtain⟨o3,uu,U,z2⟩:=P3 z;rw[e]at U;cases U;have z3:=(l.hok b _ e).1;have z4:=B.keep b o3 z3 (wc z) (nofs z) (by simp);show#[z4,z4,_,z4]
  ·have e':=e;unfold qh at e';rw[mS z]at e';show(J.hok b o e').stay (λ_ _ _ y=>y) (λd y=>bk y) (λd xs y=>bk y) (λd ob y=>bk y) (λd ob y=>bk y)
 ·by_cases z:b∈r.map snd
  ·unfold qh;rw[mT z];show e
  ·show bk (sm b o (by rw[Wk z];show e))
end
def oY(s:lW):lZ:=match(Y3 s).getLast? with
 | some (.Return (some e) _)=>e
 | _=>.Constant .none 0 #[0,0,0,0]
def Ae:lZ->Arguments
 | .Lambda a _ _ _=>a
 | _=>{posonlyargs:=[],args:=[],vararg:=none,kwonlyargs:=[],kw_defaults:=[],kwarg:=none,defaults:=[]}
def At:lZ->lZ
 | .Lambda _ b _ _=>b
 | e=>e
def vo:lZ->Scope
 | .Lambda _ _ s _=>s
 | _=>{kind:=.function,names:=[],isGenerator:=false,isCoroutine:=false}
def tR:lZ->Pos
 | .Lambda _ _ _ p=>p
 | _=>#[0,0,0,0]
structure CV(K:Frag)(h:Heap)(tabs:List (Addr×Array Value)):Prop where
 cod:∀p∈tabs,∃c,PySem.W.codeHdIn K c p.1=true
 emp:∀p∈tabs,h.get? p.1=some (PySem.W.tabObj #[])
 shape:∀p∈tabs,∃ls,p.2=Xy ls/\(ls.map λp=>(p.1,p.2.1)).Nodup
 nd:(tabs.map fst).Nodup
 nt:PySem.W.noTabs K=true
inductive yh(K:lV)(tabs:lP (lR×Array lS)):Sp
 | mk (a) (ns:lP Int):vs=[.ref a]->SqL K H a (ns.map V.int)->ns.length<=63->(∀p∈tabs,H p.1=some (.tbl p.2))->(∀H',Q (.bl true) H')->yh K tabs vs H Q E
theorem HN{z:Type}:∀{l:lP (lR×z)}{p:lR×z},(l.map fst).Nodup->p∈l->l.lookup p.1=some p.2
 | [],_,_,h=>by cases h
 | q ::r,p,x,h=>by
  have x:(q.1 ::r.map fst).Nodup:=x;obtain⟨w,u⟩:=pN.mp x;rw[rE];rcases nQ.mp h with e|e
  ·rw[e,yl]
  ·have:(p.1 ==q.1)=false:=by rw[sF];show λy=>w<|mV.mpr #[p,e,y]
   rw[this];show HN u e
theorem DR{z:Type}:∀{l:lP (lR×z)}{a:lR}{v:z},l.lookup a=some v->(a,v)∈l
 | [],_,_,e=>by cases e
 | (b,x) ::r,a,v,e=>by
  rw[rE]at e;cases y:a ==b with
  | true=>rw[y]at e;cases e;rw[eq_of_beq y];show .head _
  | false=>rw[y]at e;show .tail _<|DR e
def Rm(K:lV):lP V->Hp->VK->Prop:=λz H Q=>∃e C c b,z=[.ref e,c]/\H e=some (qI e C none)/\XG K C/\((∃n,c=.ty n/\kitOne K (.ref C) (.type n)=some b)\/(∃a,c=.ref a/\kitOne K (.ref C) (.ref a)=some b))/\Q (.bl b) H
def WY:Xd X (.builtin "isinstance") (Rm X.K):=by
 intro d s z H Y U Q I r h;obtain⟨e,C,c,b,rfl,he,g,k,q⟩:=h;obtain⟨u,c,rfl,n,p⟩:=ww r;obtain rfl:u=Value.ref e:=n;obtain⟨o,c,l,j,i,x⟩:=qI.at I.hok he;have J:PySem.W.InstAt s.heap e o C none:=#[l,j,by unfold PySem.W.notCls;rw[x],by rw[i];trivial]
 have Z:PySem.W.KitX X.K (.ref e) (.ref C) (λh=>PySem.W.InstAt h e o C none):=KN g.xa g.hc g.cl g.cg g.ct g.ob;rcases k with⟨c,rfl,k⟩|⟨a,rfl,k⟩
 ·cases p;show rF Z I.kIn J k (λy=>nomatch y) λw=>#[.bl b,H,I.tok w,rfl,q]
 ·cases p;show rF Z I.kIn J k (λy=>nomatch y) λw=>#[.bl b,H,I.tok w,rfl,q]
def Ve:V->lP V->Hp->VK->Prop:=λx z H Q=>∃(l:lR)(bs:lP Bool)(b:Bool),x=.ref l/\z=[.bl b]/\H l=some (.lst<|bs.map V.bl)/\Q (.int (bs.countP (λc=>c ==b):Nat)) H
theorem Ih:∀{bs:lP Bool}{us:lP lS},Z6 (bs.map V.bl) us->us=bs.map Value.bool
 | [],_,.nil=>rfl
 | b ::bs,_,.cons r t=>by
  rw[Ih t];cases r
  rfl
def Aj(b:Bool):lS->Bool
 | .bool c=>c ==b
 | _=>false
def XT:Aq X "list.count" Ve:=by
 intro d s z H x a v Y Q I o j h;obtain⟨l,bs,b,rfl,rfl,i,q⟩:=h;cases o;obtain⟨u,rfl,g⟩:=j.one;cases g;obtain⟨y,u,n,r,U,e⟩:=I.lstM i;obtain rfl:=Ih r;refine zq F.slot_list_count #[_,e,rfl] F.entry_list_count (F.args_list_count_2 _ _) (SeqAt.list_countAt l _ n _ _ (.bool b)<|Aj b) #[e,λw p=>?_,?_]
 ·have p:w∈bs.map Value.bool:=by simpa using p
  obtain⟨c,_,rfl⟩:=mV.mp p;show EM c b
 ·refine#[.int _,H,I.tok _,#[_,rfl],?_];have:List.countP (Aj b) (bs.map Value.bool).toArray.toList=bs.countP (λc=>c ==b):=by
   rw[List.toList_toArray,List.countP_map]
   rfl
  rw[this];show q
def Es(y:Gl X x)(h:∃z,X.mg x=some (.str v z))(hd:(x ==("__debug__":lQ))=false:=by lk):PE X (.Name x pos) (tC<|.str v):=by
 obtain⟨z,h⟩:=h;show X4 y h #[z,rfl] hd
theorem ED:∀{p:lQ}{l:lP lQ},risingS p l=true->(p ::l).Pairwise (λa b=>ltCps b.cps.toList a.cps.toList=false)
 | p,[],_=>by simp
 | p,x ::r,h=>by
  rw[show risingS p (x ::r)=(!ltCps x.cps.toList p.cps.toList && risingS x r)from rfl,qx,Bool.not_eq_true']at h;have y:=ED h.2;refine List.pairwise_cons.mpr #[λb s=>?_,y];rcases nQ.mp s with z|z
  ·rw[z];show h.1
  ·have w:=List.rel_of_pairwise_cons y z;have u:=h.1;rw[ltCps_eq,MU]at u w ⊢;show Ar.mpr<|List.le_trans (Ar.mp u)<|Ar.mp w
def yi(h:sortedS l=true)(h':sortedS z=true)(p:l.Perm z):l=z:=by
 have y:∀{l:lP lQ},sortedS l=true->l.Pairwise (λa b=>ltCps b.cps.toList a.cps.toList=false):=λ{l} h=>by
  cases l with
  | nil=>show .nil
  | cons x r=>show ED h
 refine p.eq_of_pairwise (λa b _ _ w u=>?_) (y h)<|y h';rw[ltCps_eq,MU]at w u;have e:=List.le_antisymm (Ar.mp w)<|Ar.mp u;cases a;cases b;simpa using Array.toList_inj.mp e
end L2
end
section
namespace L2
open PySem PyProof.Rows
theorem OS{E:lS->lT->Prop}(h:A.handled=none)(g:l≠it):∀(n i:Nat)(s:lT)(Q:lP lS->lT->Prop),(s.heap.IsListIter it l i/\s.heap.IsList l z)->i+n<=z.size->
  (∀h' a,(h'.IsListIter it l (i+n)/\h'.IsList l z)->(∀b o,b∉[it]->s.heap.get? b=some o->h'.get? b=some o)->Q ((z.toList.drop i).take n) {s with heap:=h',toks:=a})->wpAny (model P w) A (draw (.ref it) n) Q E s
 | 0,i,s,Q,x,_,u=>by
  change wpAny _ _ (pure []) Q E s;show nq (by simpa using u s.heap s.toks x λ_ _ _ e=>e)
 | n+1,i,s,Q,x,L,u=>by
  have r:i<z.size:=by lia
  change wpAny _ _ (pyNext (.ref it)>>=_) Q E s;refine mP<|(Cu (prog:=P) (w:=w) h it l g z).item i s _ _ r x λv J Y d U q=>?_;refine mP<|qH<|OS h g n (i+1) _ _ U (by lia) λN p y j=>nq ?_;have hd:z.toList.drop i=z[i] ::z.toList.drop (i+1):=by simp[wo,r]
  have M:v=z[i]:=by rw[Array.getElem?_eq_getElem r]at d;show(oo d).symm
  have:=u N p (by rw[show i+(n+1)=i+1+n by lia];show y) λb o c e=>j b o c<|q b o c e
  rw[hd,IZ,<-M]at this;show this
def ZF{E:lS->lT->Prop}{u:lP (Bool×(lS->Sem Unit))}{Q:Unit->lT->Prop}(i:A.handled=none)(r:s.heap.IsList l y)
  (a:u.length=y.size) (x:u.findIdx? (·.1)=none)
  (h:∀h' Y,(∀b o,s.heap.get? b=some o->h'.get? b=some o)->wpAny (model P w) A (assignInOrder (u.map (·.2)) y.toList) Q E {s with heap:=h',toks:=Y}) :
  wpAny (model P w) A (unpack (.ref l) u) Q E s:=by
 have U:l<#v[s]:=by obtain⟨o,q,_⟩:=r;show nI q
 have N:s.TypeIs (.ref l) "list":=by obtain⟨o,q,M,_⟩:=r;show#[o,q,M]
 unfold unpack;rw[a,x];refine mP<|qH ?_;unfold unpackItems;refine mP ?_;unfold notIterableAtAll;refine mP<|wpAny_specialOf N F.slot_list_iter.lookup ?_;refine nq ?_;simp only[ub,rD];refine mP<|qH<|xC r ?_;have g:l≠#v[s]:=nR U;refine mP<|qH<|OS i g y.size 0 _ _ #[#[_,oK _ rfl,rfl,rfl],r.push _] (by lia) λG L d p=>?_;have J:List.take y.size (List.drop 0 y.toList)=y.toList:=by
  rw[EO];show uD (by simp)
 rw[J];rw[mS (by simp)];rw[Nat.zero_add]at d;refine mP<|qH<|(Cu (prog:=P) (w:=w) i #v[s] l g y).done _ _ _ d λI n j=>?_;simp only[Option.isSome_none,ub,rD];refine nq<|h I n λb o e=>?_;have c:b∉[#v[s]]:=λz=>by
  have H:b=#v[s]:=by simpa using z
  rw[H]at e;show qR _<|nI e
 show j b o c<|p b o c<|nO _ e
def Uw(K:lV)(n:Nat)(t:xB):TG:=λv z H Q=>GT (SqL K) n H (λy=>t y z H Q) v
def Yel(l:X.calm=true)(h:yW X y t)
  (j:(assignEach y X.env).length=n:=by rfl) (i:(assignEach y X.env).findIdx? (·.1)=none:=by rfl):PG X (.Tuple y k pos) (Uw X.K n t):=by
 intro w s z H v u Q I r x;obtain@⟨a,g,d,c,x⟩:=x;cases r;obtain⟨a,q,Y,L⟩:=I.list d;rw[assign_Tuple];refine mP<|AC<|ZF (I.ok.hd l) Y.isList (by simp[j,<-c,q.length]) i λU p N=>?_;have M:mG X w z H {s with heap:=U,toks:=p}:=I.kept (t':=p) λb o e=>N b o e
 show h w _ z H g _ Q M (by simpa using q) x
def zW(ns:lP Int):Int:=ns.foldl (· + ·) 0
theorem PM(ns:lP Int):∀j,preSum (λi=>ns.getD i 0) j=zW (ns.take j)\/ns.length<j
 | 0=>.inl rfl
 | j+1=>by
  by_cases h:ns.length<j+1
  ·show .inr h
  ·refine .inl ?_;rcases PM ns j with e|e
   ·have z:j<ns.length:=by lia
    rw[preSum,e,ol,oA z];unfold zW;rw[yw,tN,oA z]
    rfl
   ·lia
def Zys(d:X.calm=true):Xd X (.builtin "sum") (λxs H Q=>∃(p:lR)(ns:lP Int),xs=[.ref p]/\SqL X.K H p (ns.map V.int)/\Q (.int<|zW ns) H):=by
 intro M s z H xs L Q I r h;obtain⟨p,ns,rfl,c,q⟩:=h;obtain⟨u,rfl,a⟩:=qg r;cases a;obtain⟨l,j,w,y⟩:=I.list c;have g:p<#v[s]:=by obtain⟨_,_,e,_⟩:=w;show nI e
 refine call_sum_walkG<|xC w.isList ?_;refine#[#v[s],_,_,l.toArray.size,_,_,λi=>ns.getD i 0,rfl,Cu (A:=X.A.in1) (show X.A.in1.handled=none from I.ok.hd d) #v[s] p (nR g) l.toArray,#[#[_,oK _ rfl,rfl,rfl],w.isList.push _],?_,?_,λy Y U k=>?_]
 ·intro b x;have:=ur s.heap {cls:=.type "list_iterator",data:=.fields (List.toArray [.ref p,.int 0 0])};have y:b=#v[s]\/b=p:=by simpa using x
  change b<(s.heap.push _).objs.size;rw[this];rcases y with rfl|rfl
  ·show As _
  ·show Ei g
 ·intro i v u;obtain⟨x,y,o⟩:=Paired.get' j (i:=i) (b:=v) (by simpa using u);rw[nK]at y;obtain⟨n,N,rfl⟩:=nU.mp y;obtain⟨t,rfl⟩:=o;show#[t,by change Value.int n t=Value.int (ns.getD i 0) t;rw[tN,N];rfl]
 ·have x:=j.length;rw[mI]at x;refine#[.int<|zW ns,H,?_,?_,q]
  ·refine I.kept (t':=Y) λb o e=>k b o ?_<|nO _ e
   have:=nI e;intro y;have u:b=#v[s]:=by simpa using y
   rw[u]at this;show qR _ this
  ·refine#[U,?_];rw[oz,<-x];rcases PM ns ns.length with e|e
   ·rw[e,oR]
   ·lia
def rV(x:lQ)(n:Nat):lQ:=#[(List.replicate n x.cps).foldl (· ++ ·) #[]]
def Yhx:R2:=λx y H Q=>∃(z:lQ)(n:Nat),x=.str z/\y=.int n/\z.length * n<=1000/\n<=1000/\Q (.str<|rV z n) H
def NE:nV X (binaryOp .Mult) Yhx:=by
 intro c s z H x y v u Q I l j h;obtain⟨w,n,rfl,rfl,p,o,q⟩:=h;obtain⟨t,rfl⟩:=l;obtain⟨o,rfl⟩:=j;refine PySem.P.mul_str ?_ ?_ ?_ ?_
 ·rw[og (by lia),og<|by lia];rfl
 ·intro r i g;have:((2:Int) ^ 63-1) / (n:Int) ≥ 1000:=by
   rw[ge_iff_le,Int.le_ediv_iff_mul_le<|by lia];lia
  have o:w.length<=w.length * n:=Nat.le_mul_of_pos_right _ (by lia);lia
 ·intro r i;change decide (w.length * (n:Int).toNat >sizeLine)=false;rw[og];have:=sz (n:=w.length * n) p;rw[zL];lia
 ·by_cases g:n=0
  ·subst g;rw[mT (by lk)];show#[by lk,.str<|rV w 0,H,I.kept λb o e=>e,#[_,rfl],q]
  ·rw[mS (by lia)]
   by_cases r:((n:Int) ==1 || w.length ==0)=true
   ·rw[mT r];refine#[.str<|rV w n,H,I,#[t,?_],q];have:rV w n=w:=by
     rw[By,rG,rG]at r;rcases r with e|e
     ·have e:n=1:=by lia
      subst e;unfold rV;simp
     ·have e:w.cps=#[]:=Array.eq_empty_of_size_eq_zero e;have:∀m,(List.replicate m (#[]:Array Nat)).foldl (· ++ ·) #[]=#[]:=λm=>by
       induction m with
       | zero=>rfl
       | succ m d=>rw[List.replicate_succ,List.foldl_cons];simpa using d
      unfold rV;rw[e,this n];cases w;simp at e;rw[e]
    rw[this]
   ·rw[mS r,zL];refine#[?_,.str<|rV w n,H,I.kept λb o e=>e,#[_,rfl],q];show fits_reps (by change decide (_ >sizeLine)=false;rw[og];have:=sz (n:=w.length * n) p;lia)
def Yi6(K:lV)(u:TE)(ts:TO):TE:=λz H Q=>u z H λx s=>ts z s λk y=>∃a w,k=some (-1)/\x=.ref a/\SqL K y a w/\pK y (.lst w.reverse) Q
def Z6.rev(h:Z6 xs us):Z6 xs.reverse us.reverse:=by
 induction h with
 | nil=>show .nil
 | cons r _ z=>rw[Eb,Eb];show Paired.append z<|.cons r .nil
def Yea{X:Cx}{e st:lZ}{p:TE}{ts:TO}{w pos:Pos}{ops:lS->lS->lP lS}(he:PE X e p)(g:PO X (some st) ts)(d:∀l r,subscripted (.Slice none none (some st) w) false l r=operate (ops l r) (getItem l r)):PE X (.Subscript e (.Slice none none (some st) w) pos) (Yi6 X.K p ts):=by
 intro y s z H Q I h;refine Subscript_<|mX (he y s z H _ I h) λv c ⟨x,Y,U,N,M⟩=>?_;refine wpAny_Slice ?_;rw[evalPart_none];refine nq ?_;refine nq ?_;refine mX (g y c z Y _ U M) λn s3 L=>?_
 obtain⟨k,J,G,E,a,D,C,B,A,q⟩:=L;subst C B;cases N;have u:mG X y z J {s3 with heap:=s3.heap.push {cls:=.type "slice",data:=.fields (List.toArray [.none,.none,n])}}:=G.kept (t':=s3.toks) λb ob q=>nO _ q
 obtain⟨x,r,j,i⟩:=u.list A;change ∅ (subscriptTail e (.Slice none none (some st) w) (.ref a)<|.ref #v[s3]) (EP X y z Q) X.xe {s3 with heap:=s3.heap.push {cls:=.type "slice",data:=.fields (List.toArray [.none,.none,n])}};refine tail_any (ops:=ops (.ref a)<|.ref #v[s3]) j.isList.typeIs Eu.lookup ?_<|d _ _;refine MK j.isList (Heap.IsSliceOf.new ..) .none .none E (by simp) ?_ (by rw[oz,<-r.length];show i);rw[PySem.W.krv_pick];refine#[.ref _,_,u.laid (t':=s3.toks) (o:=.lst D.reverse) (λb ob q=>nO _ q) (nw _) ?_,rfl,q.at _<|u.hok.fresh<|nw _];show#[by rw[List.length_reverse];show i,_,0,Z6.rev r,oK _ rfl]
end L2
end
section
namespace L2
open PySem PySem.Spec PyProof.Rows
structure yn(K:Frag)(x qual:Str)(st:Stmt)(ps:List Str)(v:V) where
 f:Addr
 fd:FuncData
 dV:Value
 F:xh K x qual st dV f fd
 b:qv K fd ps []
 u:Value
 r:Yj v u
 b1:qv K fd ps [u]
def xh.okW{P:ma}{w:lY}{K:lV}{y:lQ->lU lS}{mB:lX}{x qual:lQ}{st:lW}{u:lS}{f:lR}{fd:me}{N ps:lP lQ}{k:Nat}{z:Sp}(F:xh K x qual st u f fd)(S:Zx N ps (Zk st))
  (r:∀(d6:lS)(A:md)(my:lP Env)(s:lT)(H:Hp)(vs:lP V)(Q:VK)(E:XK),Y6 k (A.deeper<|envOfC qual (Zk st) #v[s] f d6)->z vs H Q E->
   let X:=(oW oP P w K y mB N qual (Zk st) f d6 A my s H E).nox;let D:pX:={nx:=λ_ q=>Q .non q,rt:=Q};WSs X (Y3 st) D (start N vs) H) (len:∀vs H Q E,z vs H Q E->vs.length=ps.length:=by rintro _ _ _ _ ⟨⟩<;>subst_vars<;>rfl):Xf P w K y mB oP (k+1) f fd ps z:=xh.ok F S len r
def W6(y:Gl X x)(h:∃z,X.mg x=some (.int v z))(hd:(x ==("__debug__":lQ))=false:=by lk):PE X (.Name x pos) (tC<|.int v):=by
 obtain⟨z,h⟩:=h;show X4 y h #[z,rfl] hd
def AY{z:Type}{l:lP z}{a:z}(y:l.Nodup)(h:l[i]? =some a):a∉l.take i:=λm=>by
 have e:l=l.take i++(a ::l.drop (i+1)):=by rw[<-GM h,wT]
 rw[e,qp]at y;show y.2.2 a m a oM rfl
section
variable {prog:ma} {w:lY} {KT:Type} [DecidableEq KT] {knd:HeapKind prog w KT} {A:md} {E:lS->lT->Prop} {s:lT}
def UX(c:lR)(x:(c ==sysModules)=false):MeetsIn prog w (Builtin.«dict.__len__» #[[.ref c],[]]) (λ_ R s=>∃z,s.heap.DictOfH knd c z/\R (.ok<|.ret<|.int z.length s.toks) {s with toks:=s.toks+1}) :=
 .of_wp λA R s ⟨z,u,h⟩=>by
  obtain⟨p,o,n,r,_,y,q,_,_⟩:=u;change wpAny _ _ (dictSize c >>=_) _ _ s;unfold dictSize;refine mP<|mP<|wpAny_dictEntries r y<|nq ?_;change wpAny _ _ (Builtin.Dict.pendingCount c >>=_) _ _ s;refine mP<|wpAny_pendingCount_other x<|wpAny_ret_mkInt ?_;rw[Dq,size_of_entries q];show h
def Vh{Q:lS->lT->Prop}(x:(c ==sysModules)=false)(y:s.heap.DictOfH knd c z)(u:(z.length:Int)<2 ^ 63)
  (h:Q (.int z.length<|s.toks+1) {s with toks:=s.toks+1+1}):wpAny (model prog w) A (call (.builtin "len") [.ref c]) Q E s:=by
 refine Eh kind_len plain_len entry_len (args_len1 _) ?_;unfold Builtin.«len»;refine mP (m:=oneArg "len" _)<|nq<|mP (m:=callSpecial? (.ref c)<|Str.ofString "__len__") ?_;refine wpAny_callSpecial?_slot (name:=Str.ofString "__len__") y.typeIs F.slot_dict_len<|Bi F.slot_dict_len y.typeIs F.entry_dict_len (F.args_dict_len_1 _) (UX (knd:=knd) c x) #[z,y,?_];change wpAny _ _ _ _ _ {s with toks:=s.toks+1};refine mP<|qH<|nq<|mP<|wpAny_letGo ?_;change wpAny _ _ (if((z.length:Nat):Int)<0 then _ else _) _ _ _;rw[mS (by lia)];change wpAny _ _ (if((z.length:Nat):Int) ≥ 2 ^ 63 then _ else _) _ _ _;rw[mS (by lia)];show mP<|wpAny_mkInt<|nq #[_,rfl,h]
end
def FO:lP V->Hp->VK->Prop:=λy H Q=>∃a z,y=[V.ref a]/\H a=some (.dT z)/\Q (.int z.length) H
def Lj:Xd X (.builtin "len") FO:=by
 intro i s z H g e Q I r h;obtain⟨a,x,rfl,p,q⟩:=h;obtain⟨u,rfl,o⟩:=qg r;cases o;obtain⟨y,hd,n,l,j⟩:=MH I.hok p;have w:x.length=n.length:=nG l;refine Vh hd j (by rw[<-w];rw[tU]at y;lia) ?_;rw[<-w];show#[.int _,H,I.tok _,#[_,rfl],q]
section
variable {prog:ma} {w:lY} {KT:Type} [DecidableEq KT] {knd:HeapKind prog w KT} {A:md} {R:Result->lT->Prop} {l d it:lR} {tps:lP lR} {qs:lP (KT×lR×lS)} {h₀:lX}
def yr(knd:HeapKind prog w KT)(h:lX)(tps:lP lR)(qs:lP (KT×lR×lS)):Prop :=
 Paired (λp (q:KT×lR×lS)=>(∃o n,h.get? p=some o/\o.cls=.type "tuple"/\o.data=.seq (List.toArray [.ref q.2.1,q.2.2]) n)/\∃ok,h.get? q.2.1=some ok/\∀z:lX,z.get? q.2.1=some ok->knd.is z q.1 q.2.1) tps qs
def yr.key(y:yr knd h tps qs):∀q∈qs,∃ok,h.get? q.2.1=some ok/\∀h':lX,h'.get? q.2.1=some ok->knd.is h' q.1 q.2.1:=by
 unfold yr at y
 induction y with
 | nil=>intro q z;cases z
 | cons r _ x =>
  intro q z;rcases nQ.mp z with rfl|z
  ·show r.2
  ·show x q z
def FX{h h':lX}{z:lP (KT×lR×lS)}(x:h.DictOfH knd d z)(hd:∀o,h.get? d=some o->h'.get? d=some o)(u:∀y∈z,knd.is h' y.1 y.2.1):h'.DictOfH knd d z:=by
 obtain⟨o,s,r,q,p,n,j,_,i⟩:=x;show#[o,s,r,hd o q,p,n,j,u,i]
def Zr9(hh:A.handled=none)(hu:knd.room A.in1)(c:d≠it)(hl:h₀.IsList l (tps.map Value.ref).toArray)(I:l≠d)(H:l≠it)(hp:yr knd h₀ tps qs)(K4:(qs.map (·.1)).Nodup)(hsz:qs.length<=sizeLine)
  (hpd:∀p∈tps,p≠d/\p≠it) (G:∀q∈qs,q.2.1≠d/\q.2.1≠it) :
  ∀(n i:Nat)(s:lT)(j:Int)(tk:Tok),i+n=qs.length->s.heap.IsListIter it l i->s.heap.DictOfH knd d (qs.take i)->(∀b o,b≠d->b≠it->h₀.get? b=some o->s.heap.get? b=some o)->
   (∀h' z7,h'.DictOfH knd d qs->(∀b o,b≠d->b≠it->h₀.get? b=some o->h'.get? b=some o)->R (.ok<|.ret .none) {s with heap:=h',toks:=z7})->
   codeAny (model prog w) A (.builtin "dict.update.loop" #[[.ref d,.ref it,.int j tk,.none],[]]) R s:=by
 have d9:tps.length=qs.length:=nG hp;have J6:=hp.key;have hu':∀args:Args,knd.room (A.under<|.builtin "dict.update.loop" args):=λargs=>by rw[Around.under_plainId (by left)];show hu
 have is_:∀h':lX,(∀b o,b≠d->b≠it->h₀.get? b=some o->h'.get? b=some o)->∀q∈qs,knd.is h' q.1 q.2.1:=λh' D q Y=>by
  obtain⟨ok,h,J⟩:=J6 q Y;show J h'<|D _ _ (G q Y).1 (G q Y).2 h
 intro n
 induction n with
 | zero =>
  intro i s j tk hi U C u Y;have S7:s.heap.IsList l (tps.map Value.ref).toArray:=by
   obtain⟨o,Q,r⟩:=hl;show#[o,u _ _ I H Q,r]
  refine Cb Bs ?_;unfold Builtin.«dict.update.loop»;dsimp only;refine mP<|GN hh U S7 (by rw[Cz,nK,vO<|by lia];rfl) λh' z=>?_;dsimp only;refine mP<|nq<|nq ?_;have D:∀b o,b≠d->b≠it->h₀.get? b=some o->h'.get? b=some o:=λb o h J y=>z b o J<|u b o h J y
  refine Y h' s.toks ?_ D;rw[show qs.take i=qs from uD<|by lia]at C;show FX C (λo Q=>z d o c Q) (is_ h' D)
 | succ n ih =>
  intro i s j tk hi U C u Y;have S7:s.heap.IsList l (tps.map Value.ref).toArray:=by
   obtain⟨o,Q,r⟩:=hl;show#[o,u _ _ I H Q,r]
  have R1:i<tps.length:=by lia
  obtain⟨q,N,⟨ot,z,E7,hct,U4⟩,_⟩:=Paired.get hp (i:=i) (a:=tps[i])<|oA R1;obtain⟨nd,ni⟩:=hpd tps[i] (DO R1);have hqm:q∈qs:=pe N;refine Cb Bs ?_;unfold Builtin.«dict.update.loop»;dsimp only;refine mP<|EZ U S7 (x:=.ref tps[i]) (by rw[Cz,nK,oA R1];rfl) λh it1 M=>?_;have g:h.get? tps[i]=some ot:=by rw[M.2 _ ni];show u _ _ nd ni E7
  have hT:({s with heap:=h}:lT).TypeIs (.ref tps[i]) "tuple":=#[_,g,hct]
  have L:∀b o,b≠d->b≠it->h₀.get? b=some o->h.get? b=some o:=λb o z1 z2 z3=>by rw[M.2 _ z2];show u b o z1 z2 z3
  have U5:h.DictOfH knd d (qs.take i):=FX C (λo Q=>by rw[M.2 _ c];show Q) λy B=>is_ h L y<|xq B
  refine mP<|qH<|mP<|wpAny_tryCatch ?_;unfold Builtin.Dict.pairItems;refine mP<|xF hT ?_;rw[mT (by lk)];refine mP<|wpAny_seqItems (s:={s with heap:=h}) g U4<|nq ?_;refine qH<|wpAny_dictSet_heap (s:={s with heap:=h}) (hu' _) (is_ h L q hqm) U5 (λJ A4 E=>?_) ?_
  ·refine nq #[xE _ (by left),?_];have B2:atKey (qs.take i) q.1=none:=by
    cases e:atKey (qs.take i) q.1 with
    | none=>rfl
    | some z =>
     unfold atKey at e;obtain⟨y,B,_⟩:=nU.mp e;have y0:=List.find?_some B;have y1:y.1=q.1:=ow y0;have m1:y.1∈(qs.map (·.1)).take i:=by rw[<-vW];show mV.mpr #[y,List.mem_of_find?_eq_some B,rfl]
     rw[y1]at m1;show absurd m1 (AY K4<|by rw[nK,N];rfl)
   have A3:storedH (qs.take i) q.1 q.2.1 q.2.2=qs.take (i+1):=by rw[storedH_new B2,ol,N];rfl
   rw[A3]at A4;refine ih (i+1) {s with heap:=J,toks:=_} (j+1) _ (by lia) ?_ A4 (λb o n1 n2 z=>?_) λh' z7=>Y h' z7
   ·show it1.at λo z=>by rw[E.2 _ c.symm];show z
   ·rw[E.2 _ n1];show L b o n1 n2 z
  ·rw[oq];lia
def RE{Q:lS->lT->Prop}{E:lS->lT->Prop}(hh:A.handled=none)(hu:knd.room A.in1.in1)(M:s.heap.get? l=some {cls:=.type "list",data:=.seq (tps.map Value.ref).toArray n})(L:yr knd s.heap tps qs)(K4:(qs.map (·.1)).Nodup)(hsz:qs.length<=sizeLine)
  (h:∀h' J dd,h'.DictOfH knd dd qs->dd=#v[s]->s.heap.get? dd=none->(∀b o,s.heap.get? b=some o->h'.get? b=some o)->Q (.ref dd) {s with heap:=h',toks:=J}) :
  wpAny (model prog w) A (call (.type "dict") [.ref l]) Q E s:=by
 refine callType_codes (Q₁:=λobj mh=>obj=.ref #v[s]/\mh={s with heap:=s.heap.push {cls:=.type "dict",data:=.dict #[]}}) F.kt_called_dict (F.kt_typeCall_dict_1 _) F.entry_dict_init (kt_code_dict_new _ #[rfl,rfl]) ?_;rintro obj mh ⟨rfl,rfl⟩;have I:(s.heap.push {cls:=.type "dict",data:=.dict #[]}).DictOfH knd #v[s] []:=Heap.DictOfH.new s.heap;have j:(s.heap.push {cls:=.type "dict",data:=.dict #[]}).get? l=some {cls:=.type "list",data:=.seq (tps.map Value.ref).toArray n}:=nO _ M;refine#[I.typeIs,F.args_dict_init_2 _ _,?_];unfold Builtin.«dict.__init__»;refine mP ?_;unfold Builtin.Dict.selfAndRest;refine mP<|Fy I.typeIs ?_;change wpAny _ _ (pure (#v[s],[Value.ref l])) _ _ _;refine nq ?_;change wpAny _ _ (Builtin.Dict.updateFrom "dict.__init__" #v[s] (.ref l) [] .none) _ _ _;unfold Builtin.Dict.updateFrom;refine mP<|xF (T :="list") #[_,j,rfl] ?_;rw[mT (by lk)];obtain⟨r,g0,d0,y,g⟩:=s;dsimp only at *;refine mP<|Ie hh j λu e U=>?_;simp only[GD,tI];have H:=U _ _ j;have S6:u.IsList l (tps.map Value.ref).toArray:=#[_,H,rfl,n,rfl]
 refine mP<|uF<|mP<|xC (s:=#[u,g0,d0,e,g]) S6<|nq #[xE _ (by left),?_];have N:∀b o,r.get? b=some o->(u.push {cls:=.type "list_iterator",data:=.fields (List.toArray [.ref l,.int 0 0])}).get? b=some o:=λb o z=>nO _<|U _ _<|nO _ z
 have G:u.get? r.objs.size=some {cls:=.type "dict",data:=.dict #[]}:=U _ _<|oK r rfl;have D:r.objs.size<u.objs.size:=nI G;have Y:l<r.objs.size:=nI M;have x:∀c o,r.get? c=some o->c≠r.objs.size/\c≠u.objs.size:=λc o z=>by
  have:=nI z;show#[nR this,nR<|ri this D]
 refine Zr9 (A:=A.in1) (knd:=knd) (h₀:=u.push {cls:=.type "list_iterator",data:=.fields (List.toArray [.ref l,.int 0 0])}) (l:=l) (tps:=tps) (qs:=qs) hh hu (nR D) ?_ (nR Y) (nR<|ri Y D) ?_ K4 hsz (λp z=>?_) (λq z=>?_) qs.length 0 #[u.push {cls:=.type "list_iterator",data:=.fields (List.toArray [.ref l,.int 0 0])},g0,d0,e,g] 0 0 (by lia) ?_ ?_ (λ_ _ _ _ z=>z) λh' J hD kp=>?_
 ·show#[_,N _ _ M,rfl,n,rfl]
 ·show Paired.mapP L λp q ⟨⟨o,m,C,y⟩,ok,B,i⟩=>#[#[o,m,N _ _ C,y],ok,N _ _ B,i]
 ·obtain⟨i,y,rfl⟩:=wz z;obtain⟨q,_,⟨o,m,C,_⟩,_⟩:=Paired.get L (i:=i) (a:=tps[i])<|oA y;show x _ _ C
 ·obtain⟨ok,B,_⟩:=L.key q z;show x _ _ B
 ·show#[_,oK u rfl,rfl,rfl]
 ·show FX I (λo i=>nO _<|U _ _ i) λy hy=>by cases hy
 ·refine#[rfl,h h' J r.objs.size hD rfl (ye<|nw _) λb o z=>kp b o ?_ ?_<|N b o z]
  ·show(x _ _ z).1
  ·show(x _ _ z).2
end
def Jh:lP V->Hp->VK->Prop:=λx H Q=>∃(l:lR)(y:lP lR)(z:lP (lP mZ×V)),x=[.ref l]/\H l=some (.lst<|y.map V.ref)/\
 Paired (λt (q:lP mZ×V)=>∃a,H t=some (.tup [.ref a,q.2])/\H a=some (.tup<|q.1.map kV)) y z/\(z.map fst).Nodup/\pK H (.dT z) Q
def Tz(hc:X.calm=true)(hu:X.A.units+64<cLine):Xd X (.type "dict") Jh:=by
 intro c7 s z H xs us Q I r h;obtain⟨l,j,x,rfl,hl,c,hn,q⟩:=h;obtain⟨u,rfl,ru⟩:=qg r;cases ru;obtain⟨hz,c8,n,Y,hg⟩:=(show Yc X.prog X.w H s.heap l (.lst<|j.map V.ref)from I.hok l _ hl)
 rw[wJ Y]at hg;have key:∀{j:lP lR}{x:lP (lP mZ×V)},Paired (λt (q:lP mZ×V)=>∃a,H t=some (.tup [.ref a,q.2])/\H a=some (.tup<|q.1.map kV)) j x->∃w,KT H x w/\yr (tupleKind<|Z4 X.prog X.w) s.heap j w:=by
  intro j x c
  induction c with
  | nil=>show#[[],.nil,.nil]
  | cons r t U =>
   rename_i p q _ _;obtain⟨w,h1,h2⟩:=U;obtain⟨a,ra,rk⟩:=r;obtain⟨_,c8,Y,o,ho,w5,m,hd⟩:=(show Yc X.prog X.w H s.heap p (.tup [.ref a,q.2])from I.hok p _ ra)
   obtain⟨k,v,rfl,N,M⟩:=ww Y;cases(show k=Value.ref a from N);obtain⟨_,M8,r2,o2,S8,g,m2,L⟩:=(show Yc X.prog X.w H s.heap a (.tup<|q.1.map kV)from I.hok a _ rk)
   show#[(q.1,a,v) ::w,.cons #[rfl,rk,M] h1,.cons #[#[o,m,ho,w5,hd],o2,S8,λh' e=>#[o2,_,m2,e,g,L,by simpa using Gc r2]] h2]
 obtain⟨w,G,E⟩:=key c;have U6:x.length=w.length:=nG G;have G9:x.length<=sizeLine:=by
  have:=nG c;rw[mI]at hz;lia
 have K4:(w.map (·.1)).Nodup:=by
  have:∀{x:lP (lP mZ×V)}{w:lP (lP mZ×lR×lS)},KT H x w->w.map (·.1)=x.map fst:=by
   intro x w y
   induction y with
   | nil=>rfl
   | cons r t U=>rw[nS,nS,U,r.1]
  rw[this G];show hn
 refine RE (knd:=tupleKind<|Z4 X.prog X.w) (I.ok.hd hc) (zi (A:=X.A.in1)<|by change X.A.units+1+1<cLine;lia) hg E K4 (by rw[<-U6];show G9) λh' z7 i hD D d k=>?_
 have C:i≠sysModules:=λy=>by
  have hb:=I.big;rw[<-D,y]at hb;show qR _ hb
 have B:H i=none:=by
  cases e:H i with
  | none=>rfl
  | some u =>
   obtain⟨ob,y⟩:=(I.hok i u e).there;rw[d]at y;cases y
 obtain⟨o,es,ep,e1,e2,e3,e4,_,e5⟩:=hD;obtain⟨hH,J⟩:=I.laidAt (t':=z7) (o:=.dT x) k d (show Yc X.prog X.w (mH H i<|.dT x) h' i (.dT x)from#[G9,sF.mpr C,w,G.keeps λb ys e=>by rw[Ze (Zg e B)];show e,o,es,ep,e1,e2,e3,e4,e5]);show#[.ref i,_,J,rfl,q.at i hH]
section
variable {E:lS->lT->Prop} {κ:KeyKind} {kd:SortKind}
def Vm(prog:ma)(w:lY)(A:md)(s:lT)(κ:KeyKind)(kd:SortKind):Prop :=
 ∀(x y:lS)(a b:κ.α)(u:lS->lT->Prop)(z:Bool->lT->Prop),κ.keyOf x=some a->κ.keyOf y=some b->a≠b->z (κ.blt a b) s->wpAny (model prog w) A (keyLt' kd x y) z u s
def Ygt(κ:KeyKind)(o:Array Keyed):Prop:=(o.toList.map λp=>κ.keyOf p.1).Nodup
variable (hL:Vm prog w A s κ kd) (k:KeysOf κ o) (d:Ygt κ o)
include hL k d
end
end L2
end
section
namespace L2
open PySem PyProof.Rows
section
variable {prog:ma} {w:lY} {A:md} {E:lS->lT->Prop} {s:lT} {o:Array Keyed} {kd:SortKind} {p:Array (Nat×Nat×Nat)} {st:SortSt}
def zj(prog:ma)(w:lY)(A:md)(s:lT)(kd:SortKind)(o:Array Keyed):Prop :=
 ∀x∈o,∀y∈o,∀(u:lS->lT->Prop)(z:Bool->lT->Prop),(∀b,z b s)->wpAny (model prog w) A (keyLt' kd x.1 y.1) z u s
variable (L:zj prog w A s kd o)
include L
omit L
variable {a b out:Array Keyed} {x y z:lP Keyed} {v:Keyed}
omit L in
omit L in
include L
omit L
include L
omit L in
end
end L2
end
section
namespace L2
open PySem PySem.Spec PyProof.Rows
open Classical in
def xP(z:lP (lQ×lR))(H:Hp):Hp:=λb=>if ∃x,z.lookup x=some b then none else H b
def Rk(h:z.lookup x=some b):xP z H b=none:=mT #[x,h]
def xO(h:∀x,y.lookup x≠some b):xP y H b=H b:=mS λ⟨x,z⟩=>h x z
def Ji :mz (xP y H) H:=λb o e=>by
 unfold xP at e
 by_cases z:∃x,y.lookup x=some b
 ·rw[mT z]at e;cases e
 ·rw[mS z]at e;show e
variable {X:Cx}
def Dx(I:mG X w z H s)(h:X.env.cells.lookup x=some c):∃o v,rB X.env.cells H s.heap c=some (Fz o)/\s.heap.get? c=some o/\o.data=.cell v:=by
 obtain⟨v,o,y,hd⟩:=I.cell x c h;refine#[o,v,?_,y,hd];unfold rB;rw[mT #[x,h],y];rfl
def mG.noC(I:mG X u z H s)(w:∀x,X.fn x=true)(h:X.mf.heap.get? b=some o)(x:lQ):X.env.cells.lookup x≠some b:=λy=>absurd (pM (nI h)<|I.ok.cab x b (w x) y)<|qR _
def mG.env0C(I:mG X n z H s)(r:∀x,X.fn x=true):vd X.prog X.w X.K X.mg X.mB X.A X.stack s (rB X.env.cells H s.heap):=by
 have E:=I.env0;refine#[E.frames,E.mod,λb o e=>#[(E.bs b o e).1,?_],E.bsz,E.funs,λb p=>?_,λb o e=>?_,E.bare]
 ·rw[xU λx=>I.noC r (I.ok.bs b o e).1 x];show(E.bs b o e).2
 ·rw[xU λx y=>?_]
  ·show E.frf b p
  ·rcases nQ.mp (I.stkSub b p)with w|w
   ·show I.cne x b y w
   ·obtain⟨_,o,u,_⟩:=I.ok.funs.mem w;show I.noC r u x y
 ·by_cases y:∃x,X.env.cells.lookup x=some b
  ·obtain⟨x,y⟩:=y;obtain⟨l,v,q,u,j⟩:=Dx I y;rw[q]at e;cases e;show#[u,u,_,u]
  ·rw[xU λx w=>y #[x,w]]at e;show(I.hok b o e).stay (λ_ _ _ q=>q) (λc q=>Xj I q) (λc u q=>Xj I q) (λc o q=>Xj I q) (λc o q=>Xj I q)
def CE.lend(I:mG X D z H s)(h:CE X.stack X.prog X.w (rB X.env.cells H s.heap) s Q u s'):CE X.stack X.prog X.w H s (λv M=>∃j,M=xP X.env.cells j/\(∀x c o,X.env.cells.lookup x=some c->s.heap.get? c=some o->j c=some (Fz o))/\Q v j) u s':=by
 obtain⟨v,j,os,d,un,g,r,q⟩:=h;have frz:∀x c o,X.env.cells.lookup x=some c->s.heap.get? c=some o->j c=some (Fz o):=λx c o L J=>by
  obtain⟨E,w,i,l,_⟩:=Dx I L;rw[J]at l;cases l;show un.frzs c _ _ i
 have Y:∀{b:lR}{o:HO},H b=some o->∀x,X.env.cells.lookup x≠some b:=λe x y=>by rw[I.freeC x _ y]at e;cases e
 have ad:∀{b:lR},(∀x,X.env.cells.lookup x≠some b)->H b=none->rB X.env.cells H s.heap b=none:=λy n=>by rw[xU y];show n
 refine#[v,xP X.env.cells j,os,d,#[λb o i l U a=>?_,λb o i l U a=>?_,λb o i l a=>?_,un.there,λb N e=>?_,λb o u e=>?_,λb G e=>?_],λb o e=>?_,r,j,rfl,frz,q]
 ·by_cases y:∃x,X.env.cells.lookup x=some b
  ·obtain⟨x,y⟩:=y;show(g b _<|frz x b o y i).1
  ·show un.keep b o i (ad (λx p=>y #[x,p]) l) U a
 ·by_cases y:∃x,X.env.cells.lookup x=some b
  ·obtain⟨x,y⟩:=y;show#[o.slots,(g b _<|frz x b o y i).1]
  ·show un.slot b o i (ad (λx p=>y #[x,p]) l) U a
 ·by_cases y:∃x,X.env.cells.lookup x=some b
  ·obtain⟨x,y⟩:=y;show Rk y
  ·rw[xO λx p=>y #[x,p]];show un.free b o i (ad (λx p=>y #[x,p]) l) a
 ·rw[xO (Y e)];show un.tups b N<|Xj I e
 ·rw[xO (Y e)];show un.frzs b o u<|Xj I e
 ·obtain⟨m,y⟩:=un.tbls b G<|Xj I e;show#[m,by rw[xO (Y e)];show y]
 ·have soft:∀{c:lR}{o:HO},j c=some o->(∀E,o≠Fz E)->xP X.env.cells j c=some o:=λ{c o} y n=>by
   rw[xO]
   ·show y
   ·intro x p;obtain⟨_,w,_,l,_⟩:=Dx I p;rw[frz x c _ p l]at y;cases y;show n _ rfl
  show(g b o<|Ji b o e).stay (λ_ _ _ q=>q) (λc q=>soft q λ_ y=>nomatch y) (λc N q=>soft q λ_ y=>nomatch y) (λc o q=>soft q λ_ y=>nomatch y) (λc o q=>soft q λ_ y=>nomatch y)
def GF(X:Cx)(z:St)(H:Hp)(S:Hp->VK->Prop)(Q:VK):Prop:=∀w,mz H w->(∀(i:Nat)(x:lQ)(v:V)(c:lR),X.N[i]? =some x->z[i]? =some (some v)->X.env.scope.names.lookup x=some .cell->X.env.cells.lookup x=some c->H c=none/\CellAt w c v)->
 S w λv s=>∀y,mz y s->(∀b u o,H b=some u->s b=some o->y b=some o)->(∀b o,s b=some o->(∀x,o≠Fz x)->y b=some o)->Q v y
def QT(F:Xf X.prog X.w X.K X.mg X.mB oP k f fd ps j)(g:Y6 k X.A)(d:∀x,X.fn x=true)(a:qv X.K fd ps [])
  (I:mG X Y z H s) (r:Z6 vs us) (h:GF X z H (λU N=>j vs U N E0) Q):∅ (call (.ref f) us) (EP X Y z Q) X.xe s:=by
 have h:=h (rB X.env.cells H s.heap) (λb o e=>Xj I e) λi x v c M l L J=>FP I M l L J
 have G:us.length=ps.length:=by rw[<-r.length];show F.len _ _ _ _ h
 have b:=a s us I.kIn (by rw[qf];show G);rw[qf]at b;refine uC<|vw (F.run X.A X.stack s _ #[us,[]] us vs _ E0 g (I.env0C d) b r h) λr y p=>?_;cases r with
 | error e=>show False.elim p
 | ok E =>
  cases E with
  | ret u =>
   obtain⟨v,y,D,C,w,B,frz,q⟩:=I.after<|CE.lend I p;subst B;refine#[v,_,D,C,q _ Ji (λb u o e A=>?_) λb o e n=>?_]
   ·rw[xO λx y=>by rw[I.freeC x b y]at e;cases e];show A
   rw[xO]
   ·show e
   ·intro x y;obtain⟨_,w,_,l,_⟩:=Dx I y;rw[frz x b _ y l]at e;cases e;show n _ rfl
  | next=>show False.elim p
  | brk=>show False.elim p
  | cont=>show False.elim p
def Yeu(X:Cx)(y:Sp)(t:TA):TE:=λz H Q=>t z H λx w=>GF X z w (λu s=>y x u s E0) Q
def Bw(F:Xf X.prog X.w X.K X.mg X.mB oP k f fd ps u)(o:Y6 k X.A)(n:∀x,X.fn x=true)(l:Gl X x)(j:X.mg x=some (.ref f))(i:keepIn X.K (.ref f)=true)(g:qv X.K fd ps [])
  (d:PA X (e ::y) t) (c:(x ==("__debug__":lQ))=false:=by lk) (he:starEach (e ::y) X.env=(false,eval e X.env) ::starEach y X.env:=by rfl) (a:(backTo pos<|starEach y X.env).any (·.1)=false:=by rfl) :
  PE X (.Call (.Name x p) (e ::y) [] pos) (Yeu X u t):=by
 intro Y s z H Q I h;refine vR<|xv I l j ?_ c;refine zG (h₀:=X.mB) I.ok.mod.kin i (mX (d pos Y s z H _ I h) λU N ⟨M,L,w,r,q⟩=>#[w.kIn,?_]) he a;show QT F o n g w r q
def Yit(X:Cx)(Pt:lR)(s:Arguments)(r:lZ)(q:Scope)(u:Pos)(z:lP (lQ×lR)):TE:=λ_ H Q=>∃y,H Pt=some (.tbl<|Xy y)/\(u.line,u.col,X.env.qual++"<lambda>")∈y/\∀x w,mz H w->H x=none->Clo w Pt x (X.env.qual++"<lambda>") s r q z->Q (.ref x) w
def CN(p:X.env.code=.ref c)(o:PySem.W.codeHdIn X.K c Pt=true)(y:defaultsOf w X.env=([],[]):=by rfl)(n:closureFor u X.env=pure x:=by rfl):PE X (.Lambda w l u j) (Yit X Pt w l u j x):=by
 intro M s z H Q I h;obtain⟨i,g,e,d⟩:=h;show Li I y p (GA I.ok.mod.kin o) g e n λr q L a Y U N=>#[.ref r,q,a,rfl,d r q Y U N]
section
variable {P:ma} {w:lY} {K:lV} {mg:lQ->lU lS} {mB:lX}
def qX.okL{x qual:lQ}{st:lW}{f Pt:lR}{fd:me}{N ps:lP lQ}{k:Nat}{z:Sp}(F:qX K x qual st f fd)(L:uU K fd Pt)(S:Zx N ps (Zk st))
  (r:∀(c:lR)(A:md)(y:lP Env)(s:lT)(H:Hp)(vs:lP V)(Q:VK)(E:XK),PySem.W.codeHdIn K c Pt=true->Y6 k (A.deeper<|envOfC qual (Zk st) #v[s] f (.ref c))->z vs H Q E->
   let X:=(oW oP P w K mg mB N qual (Zk st) f (.ref c) A y s H E).nox;let D:pX:={nx:=λ_ q=>Q .non q,rt:=Q};WSs X (Y3 st) D (start N vs) H) (len:∀vs H Q E,z vs H Q E->vs.length=ps.length:=by rintro _ _ _ _ ⟨⟩<;>subst_vars<;>rfl):Xf P w K mg mB oP (k+1) f fd ps z:=by
 obtain⟨i,h,kV,g,e,d,p,a,Y,rfl,lk,o⟩:=F.ex;obtain⟨c,u,n⟩:=L;have u:p=.ref c:=u;subst u;refine Ea lk o S len λA y s H vs Q E l j=>?_
 show#[_,qZ.nox Zn,r c A y s H vs Q E n l j]
end
def kD:mZ->PyData
 | .inl i=>.int i
 | .inr x=>.str x
mutual
inductive Rp(H:Hp):PyData->V->Prop
 | str (x:Str):Rp H (.str x) (.str x)
 | bl (b:Bool):Rp H (.bool b) (.bl b)
 | int (i:Int):Rp H (.int i) (.int i)
 | lst {a:Addr} {xs:List V} {ds:List PyData}:H a=some (.lst xs)->qB H ds xs->Rp H (.list ds) (.ref a)
 | tup {a:Addr} {xs:List V} {ds:List PyData}:H a=some (.tup xs)->qB H ds xs->Rp H (.tuple ds) (.ref a)
 | dk {a:Addr} {kvs:List (mZ×V)} {ds:List PyData}:H a=some (.dK kvs)->qB H ds (kvs.map snd)->Rp H (.dict<|(kvs.map λp=>kD p.1).zip ds) (.ref a)
inductive qB(H:Hp):List PyData->List V->Prop
 | nil:qB H [] []
 | cons {d:PyData} {v:V} {ds:List PyData} {vs:List V}:Rp H d v->qB H ds vs->qB H (d ::ds) (v ::vs)
end
theorem qB.length:∀{ds:lP PyData}{vs:lP V},qB H ds vs->ds.length=vs.length
 | _,_,.nil=>rfl
 | _,_,.cons _ h=>oJ Nat.succ h.length
def YO(e:wk k u=true):Reads h u (kD k) []:=by
 rcases Xg e with⟨i,t,rfl,rfl⟩|⟨x,t,rfl,rfl⟩
 ·show .int i t
 ·show .str x t
theorem KZ :∀{z:lP DictEntry}{kvs:lP (mZ×lS)},Pairs (Z4 P w) z kvs->ReadsAll h (z.map (·.key)) (kvs.map λp=>kD p.1) []
 | _,_,.nil=>.nil
 | _,_,.cons (e:=e) (kv:=kv) y u x=>ReadsAll.cons (as:=[]) (bs:=[]) (YO y)<|KZ x
theorem KD :∀{z:lP DictEntry}{kvs:lP (mZ×lS)},Pairs (Z4 P w) z kvs->z.map (·.val)=kvs.map snd
 | _,_,.nil=>rfl
 | _,_,.cons u y x=>by rw[nS,nS,y,KD x]
def Si(h:KV kvs vs):Z6 (kvs.map snd) (vs.map snd)/\(vs.map λp=>kD p.1)=kvs.map λp=>kD p.1:=by
 induction h with
 | nil=>show#[.nil,rfl]
 | cons r t z=>show#[.cons r.2 z.1,by rw[nS,nS,z.2,r.1]]
mutual
theorem Rp.reads(I:mG X E z H s):∀{d:PyData}{v:V}{u:lS},Rp H d v->Yj v u->∃as,Reads s.heap u d as/\∀a∈as,∃o,H a=some o
 | _,_,u,.str x,r=>by
  obtain⟨t,rfl⟩:=(show ∃t,u=Value.str x t from r)
  show#[[],.str x t,λ_ y=>nomatch y]
 | _,_,u,.bl b,r=>by
  obtain rfl:u=Value.bool b:=r;show#[[],.bool b,λ_ y=>nomatch y]
 | _,_,u,.int i,r=>by
  obtain⟨t,rfl⟩:=(show ∃t,u=Value.int i t from r)
  show#[[],.int i t,λ_ y=>nomatch y]
 | _,_,u,.lst (a:=a) (xs:=j) e h,r=>by
  obtain rfl:u=Value.ref a:=r;obtain⟨_,Y,n,g,w⟩:=(show Yc X.prog X.w H s.heap a (.lst j)from I.hok a _ e)
  obtain⟨as,q,l⟩:=qB.reads I h g;show#[a ::as,.list w rfl rfl q,λb c=>(nQ.mp c).elim (λy=>#[_,(oJ H y).trans e]) (l b)]
 | _,_,u,.tup (a:=a) (xs:=j) e h,r=>by
  obtain rfl:u=Value.ref a:=r;obtain⟨_,Y,g,o,w,x,m,hd⟩:=(show Yc X.prog X.w H s.heap a (.tup j)from I.hok a _ e)
  obtain⟨as,q,l⟩:=qB.reads I h g;show#[as,.tuple w x hd q,l]
 | _,_,u,.dk (a:=a) (kvs:=x) (ds:=n) e h,r=>by
  obtain rfl:u=Value.ref a:=r;obtain⟨_,_,D,U,o,C,B,w,Q,hd,_,i,_⟩:=(show Yc X.prog X.w H s.heap a (.dK x)from I.hok a _ e)
  obtain⟨N,M⟩:=Si U;obtain⟨as,q,l⟩:=qB.reads I h N;have L:=h.length;rw[mI]at L;have J:((x.map λp=>kD p.1).zip n).map fst=x.map λp=>kD p.1:=List.map_fst_zip (by rw[mI];lia)
  have G:((x.map λp=>kD p.1).zip n).map snd=n:=List.map_snd_zip (by rw[mI];lia);refine#[a ::[]++as,.dict w Q.1 hd ?_ ?_,λb c=>?_]
  ·rw[J,<-M];show KZ i
  ·rw[G,KD i];show q
  ·rcases nQ.mp c with y|y
   ·show#[_,(oJ H y).trans e]
   ·show l b y
theorem qB.reads(I:mG X n z H s):∀{ds:lP PyData}{vs:lP V}{us:lP lS},qB H ds vs->Z6 vs us->∃as,ReadsAll s.heap us ds as/\∀a∈as,∃o,H a=some o
 | _,_,_,.nil,r=>by
  cases r;show#[[],.nil,λ_ y=>nomatch y]
 | _,_,_,.cons h t,r=>by
  cases r with
  | cons r y =>
   obtain⟨as,x,w⟩:=Rp.reads I h r;obtain⟨bs,u,q⟩:=qB.reads I t y;show#[as++bs,.cons x u,λb p=>(ou.mp p).elim (w b) (q b)]
end
def yE:lP V->Hp->VK->Prop:=λz H Q=>∃(a:lR)(d:PyData),z=[.ref a]/\Rp H d (.ref a)/\d.showable=true/\d.depth<=60/\d.shown.length<=sizeLine/\Q (.str d.shown) H
def AM(y:∃x,X.mB.Ns sysModules x)(w:X.A.guards=some [])(N:X.A.units+64<cLine):Xd X (.builtin "repr") yE:=by
 intro M s z H L J Q I r h;obtain⟨a,d,rfl,p,n,hd,l,q⟩:=h;obtain⟨u,rfl,j⟩:=qg r;cases j;obtain⟨o,i,g⟩:=p.reads I (u:=.ref a) rfl;refine repr_of_reads' i n (λ_ c=>?_) w (by lia) (λ_ _ e=>e) (λY u U y=>?_) l
 ·obtain⟨o,e⟩:=g _ c;obtain⟨x,o,d,G,y,_⟩:=y;rw[(I.bs _ _ y).2]at e;cases e
 ·show#[.str _,H,I.un (h':=Y) (t':=U) (Un.kept y)<|I.hok.kept y,#[_,rfl],q]
def WC{P:ma}{w:lY}{K:lV}{L mb:lQ->lU lS}{k:Nat}{fa a:lR}{fd:me}{x:lQ}{l:lT}{vs:lP lS}{ns:lP Int}{tabs:lP (lR×Array lS)}
  (KX:K.In l.heap) (A9:l.heap.Ns mainGlobals L) (Y:l.heap.Ns builtinsNs mb) (hbb:∀x:lQ,x≠ "__name__"->mb x=bootBuiltins x) (I:l.heap.NoLimit) (hbm:OV L l.heap) (hg:l.gens=#[])
  (G:l.heap.get? a=some {cls:=.type "list",data:=.seq vs.toArray}) (hi:IntsAre vs ns) (hl:ns.length<=63) (hr:Y6 k callerA) (TO:CV K l.heap tabs)
  (hsm:∃mm,l.heap.Ns sysModules mm) (F:∀mB:lX,K.In mB->mB.Ns mainGlobals L->(∃mm,mB.Ns sysModules mm)->Xf P w K L mB oP k fa fd [x] (yh K tabs)) (M:∀(s:lT)(u:lS),BindsTo s fd #[[u],[]] [(x,u)]) :
  codeAny (model P w) callerA (.call (.ref fa) #[[.ref a],[]]) (λr s'=>r=.ok (.ret<|.bool true)/\OldK l.heap s'.heap/\s'.os=l.os/\AllBare s'.gens) l:=by
 have rv:=NP hi;have E:=hi.length;have S7:ns.length<=sizeLine:=oi hl (by lk);have i:∀{b:lR}{j:Array lS},tabs.lookup b=some j->l.heap.get? b=some (PySem.W.tabObj #[]):=λe=>TO.emp _<|DR e
 have core:∀H:Hp,SqL K H a (ns.map V.int)->oj P w H l.heap->(∀b u,H b=some u->(b=a/\K.lookup a=none/\∃o xs,u=.frz o (.lst xs))\/∃j,tabs.lookup b=some j/\u=.tbl j)->(∀p∈tabs,H p.1=some (.tbl p.2))->
   codeAny (model P w) callerA (.call (.ref fa) #[[.ref a],[]]) (λr s'=>r=.ok (.ret<|.bool true)/\OldK l.heap s'.heap/\s'.os=l.os/\AllBare s'.gens) l:=by
  intro H hS D hA hT;have N3:∀{b:lR}{o:Obj},l.heap.get? b=some o->H b=none->(vK l.heap H).get? b=some o:=λe n=>Zyx e n
  have C:∀{b:lR}{o:Obj},l.heap.get? b=some o->(∀vs n,o.data≠.seq vs n)->(∀vs,o.data≠.fields vs)->H b=none:=λ{b o} e d1 d2=>by
   cases q:H b with
   | none=>rfl
   | some u =>
    rcases hA b u q with⟨Q,_⟩|⟨j,Q,_⟩
    ·subst Q;rw[G]at e;cases e;show absurd rfl<|d1 _ _
    ·rw[i Q]at e;cases e;show absurd rfl<|d2 _
  have U:∀{b:lR}{m:lQ->lU lS},l.heap.Ns b m->(vK l.heap H).Ns b m:=λ{b m} ⟨o,es,ep,e,d,r⟩=>#[o,es,ep,N3 e (C e (λ_ _ z=>by rw[d]at z;cases z) λ_ z=>by rw[d]at z;cases z),d,r]
  have B:K.In (vK l.heap H):=λb o e=>N3 (KX b o e) (by
   cases q:H b with
   | none=>rfl
   | some u =>
    rcases hA b u q with⟨Q,y,_⟩|⟨j,Q,_⟩
    ·subst Q;rw[y]at e;cases e
    ·have g:=KX b o e;rw[i Q]at g;cases g;have h2:=wE.mp TO.nt _<|PySem.W.mem_of_lookupK e;show absurd (show false=true from h2) oH)
  have hM:Mod K L (vK l.heap H):=#[B,U A9,#[mb,U Y,hbb],let⟨A,g,h2⟩:=I;#[A,U g,h2],by
   obtain⟨bm,ob,b1,b2,c,b4,b5,y⟩:=hbm;show#[bm,ob,b1,b2,N3 c (C c (λ_ _ z=>by rw[y]at z;cases z) λ_ z=>by rw[y]at z;cases z),b4,b5,y]]
  have e0:vd P w K L (vK l.heap H) callerA [] l H:=#[rfl,hM,λb o e=>Yct e,wr<|UF _ _,trivial,λb Y=>absurd (show b∈([]:lP lR)from Y) (by simp),D,.of_eq hg]
  refine vw ((F _ B (U A9)<|hsm.imp λ_ z=>U z).run callerA [] l H #[[.ref a],[]] [.ref a] [.ref a] (λv _=>v=.bl true) E0 hr e0 (M l<|.ref a) (.cons rfl .nil) #[a,ns,rfl,hS,hl,hT,λ_=>rfl]) λr s' h=>?_
  cases r with
  | error e=>show False.elim h
  | ok fl =>
   cases fl with
   | next=>show False.elim h
   | brk=>show False.elim h
   | cont=>show False.elim h
   | ret u =>
    obtain⟨v,y,os,A,un,P4,r',q⟩:=h;have q':v=.bl true:=q;subst q';obtain rfl:u=Value.bool true:=r';refine#[rfl,#[λb o e=>?_,λb o e=>un.there b o e<|by simp],os,A];cases q:H b with
    | none=>show .inl (un.keep b o e q (by intro z;show absurd (show b∈([]:lP lR)from z)<|by simp)<|by simp)
    | some u =>
     rcases hA b u q with⟨_,_,ob,xs,z⟩|⟨j,z,z2⟩
     ·subst z;have z2:=un.frzs b ob _ q;obtain⟨y,_⟩:=D b _ q;obtain⟨c,_⟩:=P4 b _ z2;rw[e]at y;cases y;show .inl c
     ·subst z2;obtain⟨more,y⟩:=un.tbls b j q;have Q:=i z;rw[e]at Q;cases Q;obtain⟨c,hc⟩:=TO.cod _<|DR z;obtain⟨qs,y1,_⟩:=P4 b _ y;show .inr<|.inl #[((GA KX hc).tab e).isCodeTable,rfl,#[],qs,rfl,by rw[y1];simp]
 have tabH:∀p∈tabs,p.1≠a:=λp J z=>by
  have:=TO.emp p J;rw[z,G]at this;cases this
 have N:∀{H:Hp}{b:lR}{j:Array lS},tabs.lookup b=some j->Yc P w H l.heap b (.tbl j):=λ{H b j} e=>by
  obtain⟨ls,hq,nd⟩:=TO.shape _<|DR e;have hq:j=Xy ls:=hq;subst hq;show#[_,i e,.inr #[ls,[],rfl,nd,rfl,λ_ z=>nomatch z]]
 cases hk:K.lookup a with
 | some o =>
  have e:=KX a o hk;rw[G]at e;cases e;refine core (λb=>(tabs.lookup b).map HO.tbl) (.inr #[_,vs.toArray,_,hk,rfl,rfl,rfl,by rw[oz,E];show S7,by simpa using rv]) (λb u z=>?_) (λb u z=>?_) λp J=>?_
  ·obtain⟨j,g,rfl⟩:=nU.mp z;show N g
  ·obtain⟨j,g,rfl⟩:=nU.mp z;show .inr #[j,g,rfl]
  ·change(tabs.lookup p.1).map HO.tbl=_;rw[HN TO.nd J];rfl
 | none =>
  refine core (λb=>if b=a then some (.frz {cls:=.type "list",data:=.seq vs.toArray} (.lst<|ns.map V.int))else(tabs.lookup b).map HO.tbl) (.inl<|.inr #[{cls:=.type "list",data:=.seq vs.toArray},mT rfl]) (λb u z=>?_) (λb u z=>?_) λp J=>?_
  ·by_cases Y:b=a
   ·have y:=(mT Y).symm.trans z;cases y;subst Y;show#[G,by rw[mI];show S7,vs,_,rv,G]
   ·have y:=(mS Y).symm.trans z;obtain⟨j,g,rfl⟩:=nU.mp y;show N g
  ·by_cases Y:b=a
   ·have y:=(mT Y).symm.trans z;cases y;show .inl #[Y,hk,_,_,rfl]
   ·have y:=(mS Y).symm.trans z;obtain⟨j,g,rfl⟩:=nU.mp y;show .inr #[j,g,rfl]
  ·change(if p.1=a then _ else _)=_;rw[mS (tabH p J),HN TO.nd J];rfl
def walk_ofS{l:PySem.W.OpenLaw}{k:Nat}{q:ma}{e:lP lQ}{c:(lQ->lU lS)->lX->Prop}{j:lY->lX->Prop}{d:DefRec}{K:Params->lV}{x:lQ}
  (U:l.most=some 63) (i:d.params.defaults=[]) (Q:Y6 k callerA) (N:∀(w:lY)(h:lX),j w h->(K w.params).In h)
  (F:∀(w:lY)(r:lQ->lU lS)(n:lR)(h:lX),j w h->(K w.params).In h->h.Ns mainGlobals r->r d.name=some (.ref n)->
   ∃(fd:me)(tabs:lP (lR×Array lS)),CV (K w.params) h tabs/\(∀(s:lT)(u:lS),BindsTo s fd #[[u],[]] [(x,u)])/\
    ∀mB:lX,(K w.params).In mB->mB.Ns mainGlobals r->(∃M,mB.Ns sysModules M)->Xf l.prog w (K w.params) r mB oP k n fd [x] (yh (K w.params) tabs)) (L:importsNone q=true) :
  PySem.W.WalkO q e c j l.row.toRowW d [] (λf vs=>PySem.call f vs):=by
 refine Att.attach_call U i λw D C r B n o A cd A0 a vs ns G Y ho hd E6 g p y J I=>?_
 have KX:=N w _ Y;obtain⟨fd,tabs,TO,H,E⟩:=F w r n _ Y KX G.T.g g;show WC KX G.T.g G.T.b G.T.builtins G.T.nolimit G.T.bmain I p y J Q TO ((G.T.seer L).mods.imp λ_ z=>z.1) E H
def ZB:V->lP V->Hp->VK->Prop:=λx z H Q=>∃(l:lR)(bs:lP Bool)(b:Bool)(j:Nat),x=.ref l/\z=[.bl b]/\H l=some (.lst<|bs.map V.bl)/\j<1000/\bs[j]? =some b/\(∀i,i<j->bs[i]? ≠some b)/\Q (.int (j:Nat)) H
def Sy:Aq X "list.index" ZB:=by
 intro J s z H x G v E Q I d a h;obtain⟨l,bs,b,j,rfl,rfl,Y,y,U,N,q⟩:=h;cases d;obtain⟨u,rfl,M⟩:=a.one;cases M;obtain⟨y,u,n,r,c,e⟩:=I.lstM Y;obtain rfl:=Ih r;obtain⟨L,p⟩:=oN.mp U;refine zq F.slot_list_index #[_,e,rfl] F.entry_list_index (F.args_list_index_2 _ _) (SeqAt.list_indexAt l _ n _ _ (.bool b) (Aj b) j (by simpa using L) (by lia) ?_ λm o i=>?_) #[e,λw g=>?_,#[.int _,H,I.tok _,#[_,rfl],q]]
 ·simp[Aj,p]
 ·have o:m<bs.length:=by simpa using o
  have:=N m i;rw[oA o]at this;simpa[Aj]using this
 ·have g:w∈bs.map Value.bool:=by simpa using g
  obtain⟨c,_,rfl⟩:=mV.mp g;show EM c b
def Fi(P:ma)(w:lY)(K:lV)(y:lQ->lU lS)(mB:lX)(k:Nat)(f:lR)(H:Hp)(Q:VK)(E:XK):Prop :=
 ∀(A:md)(z:lP Env)(s:lT),Y6 k A->vd P w K y mB A z s H->codeAny (model P w) A (.call (.ref f) #[[],[]]) (CR (nZ P w) z P w H s Q E) s
def YS(P:ma)(w:lY)(K:lV)(u:lQ->lU lS)(mB:lX)(k:Nat)(E:XK)(s:TE):TE:=λz H Q=>s z H λx y=>∃f,x=.ref f/\wy y f/\Fi P w K u mB k f y Q E
def XD(l:Y6 k X.A)(j:PE X (.Name x p) i)(g:sK (nZ X.prog X.w) X E):PE X (.Call (.Name x p) [] [] pos) (YS X.prog X.w X.K X.mg X.mB k E i):=by
 intro o s z H Q I h;refine vR<|mX (j o s z H _ I h) λu n d=>?_;obtain⟨y,c,q,a,f,Y,U,N⟩:=d;subst Y;obtain rfl:u=Value.ref f:=a;refine PySem.W.callWith_F0 (U.at q)<|uC<|vw (N X.A X.stack n l q.env0) λr M w=>?_;cases r with
 | error e=>show g o z c n e M q w
 | ok y =>
  cases y with
  | ret u=>show q.after w
  | next=>show False.elim w
  | brk=>show False.elim w
  | cont=>show False.elim w
def Zyu(n:nX X.stack=X.mf.heap.objs.size ::nX X.my)(G:X.env.locals=X.mf.heap.objs.size)(D:X.ex=[])(I:mG X c7 z r s1)
  (Y:pY B X.my N cls C M .none h') (up:s1.heap.UpToSlots h') (L:∀b o,s1.heap.get? b=some o->((∃o',X.mf.heap.get? b=some o')\/r b≠none)->b∉nX X.stack->B.get? b=some o)
  (A:E cls M r):nZ X.prog X.w X.my X.mi X.mf E (.ref N) {s1 with heap:=h'}:=by
 have stay:∀b o,s1.heap.get? b=some o->((∃o',X.mf.heap.get? b=some o')\/r b≠none)->b∉nX X.stack->h'.get? b=some o:=λb o x w s=>Y.1 b o<|L b o x w s
 have d:∀b,((∃o',X.mf.heap.get? b=some o')\/r b≠none)->b∉nX X.my->b∉nX X.stack:=λb x w s=>by
  rw[n]at s;rcases nQ.mp s with e|e
  ·rcases x with⟨o',x⟩|x
   ·rw[e]at x;show absurd (nI x)<|qR _
   ·rw[e,<-G]at x;show x I.free
  ·show w e
 have uc:∀b,r b≠none->b∉nX X.my:=λb x w=>x (I.stkFree b (by rw[n];show pc _ w))
 have g:∀b,b∈nX X.my->∃o,s1.heap.get? b=some o/\∀vs,o.data≠.fields vs:=λb i=>(I.stack.mem (by change b∈nX X.stack;rw[n];show pc _ i)).2
 have q:Un (nX X.my) [] X.mi r X.mf.heap s1.heap:=by have:=I.mB;rw[D]at this;show this
 refine#[N,cls,M,r,rfl,I.os,I.bare,#[λb o x w s l=>?_,λb o x w s l=>?_,q.free,λb o x l=>?_,q.tups,q.frzs,q.tbls],λa o J=>?_,#[C,B,Y,λb o x w s=>?_],A]
 ·show stay b o (q.keep b o x w s l) (.inl #[_,x])<|d b (.inl #[_,x]) s
 ·obtain⟨y,j⟩:=q.slot b o x w s l;obtain⟨p,c,h⟩:=g b s;rw[j]at c;cases c;obtain⟨H,U⟩:=up b _ j h;show#[H,U]
 ·obtain⟨p,j⟩:=q.there b o x l
  by_cases i:b∈nX X.my
  ·obtain⟨y,c,h⟩:=g b i;obtain⟨H,U⟩:=up b _ c h;show#[_,U]
  ·show#[p,stay b p j (.inl #[_,x])<|d b (.inl #[_,x]) i]
 ·refine(I.hok a o J).stay (λb u i x=>?_) (λ_ y=>y) (λ_ _ y=>y);have Q:r b≠none:=by
   rcases i with e|e
   ·rw[e,J];show xL _
   ·rw[e];show xL _
  show stay b u x (.inr Q)<|d b (.inr Q)<|uc b Q
 ·obtain⟨p,l⟩:∃p,s1.heap.get? b=some p:=by
   rcases w with⟨o',w⟩|w
   ·show q.there b o' w (by simp)
   ·cases y:r b with
    | none=>show absurd y w
    | some u=>show(I.hok b u y).there
  have j:=L b p l w<|d b w s;have h:h'.get? b=some o:=x;rw[Y.1 b p j]at h;cases h;show j
section
variable {P:ma} {w:lY} {K:lV} {mg:lQ->lU lS} {mB:lX}
def Ak(P:ma)(w:lY)(K:lV)(mg:lQ->lU lS)(mB:lX)(N:lP lQ)(q:lQ)(scope:Scope)(f:lR)(x:lS)(z:lP (lQ×lR))(A:md)(u:lP Env)(s:lT)(H:Hp)(E:XK):Cx :=
 {Bz P w K mg mB N q scope f x z A u s H with xe:=λe r=>wpAny (model P w) (A.deeper<|PySem.W.envX q scope #v[s] f x z) (leaving (PySem.W.envX q scope #v[s] f x z) e) (λ_ y=>nZ P w u H s E e y) (λp y=>nZ P w u H s E p y) r}
def Dz :sK (nZ P w) (Ak P w K mg mB N q scope f l x A j s H E) E:=by
 intro L z J G e i I h;obtain⟨g,cls,o,Y,rfl,os,u,un,r,⟨U,B,d,c⟩,a⟩:=h;have n:=I.call' os un r u (λb y=>absurd y<|by simp);change wpAny _ _ (leaving _<|.ref g) _ _ i;refine LO n.ok.frames rfl d λD p up=>?_
 show Zyu (X:=Ak P w K mg mB N q scope f l x A j s H E) rfl rfl rfl n p up (λb o Y U Q=>c b o Y (U.imp_left λ⟨M,y⟩=>I.mB.there b M y<|by change b∉([]:lP lR);simp) Q) a
def RL(C:Clo H Pt D q la lb N r)(L:ui H N r fs fvs)
  (hb:∀(pm d6 A8:lS),bindArgs (PySem.W.kla_fn "<lambda>" q la lb N r pm d6 A8) #[[],[]]=pure []) (z9:∀y∈N.names,y.2=.free->y.1∈fs) (hnc:∀y∈N.names,y.2≠.cell)
  (hk:N.kind=.function) (hco:N.isCoroutine=false) (hgen:N.isGenerator=false)
  (body:∀(c:lR)(A:md)(G:lP Env)(s:lT),Y6 k (A.deeper<|PySem.W.envX q N #v[s] D (.ref c) r)->
   WE (Ak P w K mg mB fs q N D (.ref c) r A G s (offL H r) (λcls dx l=>∀Y,mz l Y->(∀b∈r.map snd,Y b=H b)->E cls dx Y)) lb (fvs.map some) (offL H r) (λv l=>∀Y,mz l Y->(∀b∈r.map snd,Y b=H b)->Q v Y)):Fi P w K mg mB (k+1) D H Q E:=by
 intro A G s hr g;obtain⟨pm,A8,c,oc,vs,tt,Pn,U,h2,h3,h4,h5,h6⟩:=C;have o1:s.heap.get? D=some (PySem.W.kla_obj "<lambda>" q la lb N r pm c A8):=(g.hok D _ U).1;have o2:s.heap.get? c=some oc:=(g.hok c _ h2).1;have lim:s.heap.NoLimit:=g.mod.nolimit.keeps λb o e=>(g.bs b o e).1
 refine PR hr.depth o1 rfl hco hgen rfl #[c,oc,vs,tt,rfl,o2,h3,h4] ?_;rw[hb];refine nq<|Bt hnc (λy hy=>nomatch hy) (λh₁ A9 hsb=>#[lim.fresh _ hsb,?_]) hk;change codeAny _ _ (.expr lb<|PySem.W.envX q N #v[s] D (.ref c) r) _ _;have mo:∀b o,s.heap.get? b=some o->h₁.get? b=some o:=λb o e=>hsb.extBut b o (nR<|nI e)<|nO _ e
 have B4:∀{x:lQ}{a:lR},r.lookup x=some a->(x,a)∈r:=λh=>rL h
 have inC:∀{x:lQ}{a:lR},r.lookup x=some a->a∈r.map snd:=λh=>mV.mpr #[_,B4 h,rfl]
 have P3:∀{b:lR},b∈r.map snd->∃o u,H b=some (Fz o)/\o.data=.cell (some u):=λ{b} z=>by
  obtain⟨p,hp,e⟩:=mV.mp z;obtain⟨v,o,u,j,z2,_⟩:=L.cell hp;show#[o,u,e ▸ j,z2]
 have offZ:∀{b:lR}{ob:Obj},H b=some (.frz ob<|.own Pt)->offL H r b=some (.frz ob<|.own Pt):=λ{b ob} z=>by
  rw[Wk]
  ·show z
  ·intro y;obtain⟨o3,u3,y1,_⟩:=P3 y;rw[z]at y1;cases y1
 have hok0:oj P w (offL H r) s.heap:=λb o e=>by
  have e':=Oe b o e;refine(g.hok b o e').stay (λ_ _ _ z=>z) (λd z=>L.soft z trivial) (λd xs z=>L.soft z trivial) (λd ob z=>?_) (λd ps z=>L.soft z trivial);rw[Wk]
  ·show z
  ·intro y;obtain⟨o3,u3,y1,_⟩:=P3 y;rw[z]at y1;cases y1
 have C1:∀{b:lR},H b=none->offL H r b=none:=λ{b} n=>by
  by_cases z:b∈r.map snd
  ·show wc z
  ·rw[Wk z];show n
 have nA:∀b:lR,b∉([]:lP lR):=λb z=>nomatch z
 have I:mG (Ak P w K mg mB fs q N D (.ref c) r A G s (offL H r) (λcls dx l=>∀Y,mz l Y->(∀b∈r.map snd,Y b=H b)->E cls dx Y)) [] (fvs.map some) (offL H r) {s with heap:=h₁,toks:=s.toks+([]:lP (lQ×lS)).length}:=by
  refine#[#[g.mod,hk,rfl,rfl,nw _,λy z a U h2=>?_,λy hy=>?_,λy a z _=>(oH z).elim,λ_=>hr.hd,EC g.frames,.inr #[rfl,rfl],λb z=>absurd z<|nA b,λb o e=>#[(g.bs b o e).1,C1 (g.bs b o e).2],g.bsz,λb _ _=>nA b,λb z=>absurd z<|nA b,g.funs,λb z=>C1<|g.frf b z],
   rfl,g.bare,Un.kept mo,#[_,A9,λi y v U h2 h3=>?_],λy a z=>?_,C1<|g.hok.fresh<|nw _,λy a z=>wc<|inC z,(λp hp=>nomatch hp),hok0.kept mo,?_]
  ·show GJ L.apart (B4 U)<|B4 h2
  ·have hy:N.names.lookup y=some .cell\/N.names.lookup y=some .free:=hy;rcases hy with hy|hy
   ·show absurd rfl<|hnc _<|rL hy
   ·obtain⟨i,hi,e⟩:=wz<|z9 _ (rL hy) rfl;obtain⟨v,_,_,a,j,_⟩:=Paired.get L.cells (i:=i) (a:=y) (by rw[oA hi,e]);show#[a,j]
  ·have U:fs[i]? =some y:=U;have h2:(fvs.map some)[i]? =some (some v):=h2;rw[nK]at h2;obtain⟨v',h5,h6⟩:=nU.mp h2;cases h6;obtain⟨v2,z0,j,a,z2,o,uu,z3,z4,z5⟩:=Paired.get L.cells U;rw[h5]at z0;cases z0;show#[uu,z5,.inr #[.inr j,a,z2,o,mo _ _ (g.hok a _ z3).1,z4]]
  ·obtain⟨o,uu,j,z2⟩:=P3<|inC z;show#[_,o,mo _ _ (g.hok a _ j).1,z2]
  ·change(fvs.map some).length=fs.length;rw[mI,nG L.cells]
 have there:∀{b:lR},b∈r.map snd->∃o,s.heap.get? b=some o:=λ{b} z=>by
  obtain⟨o,uu,j,_⟩:=P3 z;show#[_,(g.hok b _ j).1]
 have nofs:∀{b:lR},b∈r.map snd->b∉nX G:=λ{b} z y=>by
  obtain⟨o,uu,j,_⟩:=P3 z;rw[g.frf b y]at j;cases j
 have back:∀{l:Hp}{h':lX},Un (nX G) [] (offL H r) l s.heap h'->oj P w l h'->Un (nX G) [] H (qh H l r) s.heap h'/\oj P w (qh H l r) h'/\mz l (qh H l r):=λ{l h'} M hok=>by
  have cellH:∀{b:lR},b∈r.map snd->l b=none:=λ{b} z=>by
   obtain⟨o,ho⟩:=there z;show M.free b o ho (wc z) (by simp)
  have nin:∀{b:lR}{o:HO},l b=some o->b∉r.map snd:=λ{b o} e z=>by rw[cellH z]at e;cases e
  have bk:∀{b:lR}{o:HO},l b=some o->qh H l r b=some o:=λ{b o} e=>by unfold qh;rw[mS (nin e)];show e
  refine#[#[λb o U n hb _=>M.keep b o U (C1 n) hb (by simp),λb o U n hb _=>M.slot b o U (C1 n) hb (by simp),λb o U n _=>?_,λb o U _=>M.there b o U (by simp),λb xs e=>bk<|M.tups b xs<|L.soft e trivial,λb ob x e=>?_,λb ps e=>?_],λb o e=>?_,λb o e=>bk e]
  ·unfold qh;rw[mS λz=>by obtain⟨o,uu,j,_⟩:=P3 z;rw[n]at j;cases j];show M.free b o U (C1 n) (by simp)
  ·by_cases z:b∈r.map snd
   ·unfold qh;rw[mT z];show e
   ·show bk (M.frzs b ob x (by rw[Wk z];show e))
  ·obtain⟨m,z⟩:=M.tbls b ps<|L.soft e trivial;show#[m,bk z]
  ·by_cases z:b∈r.map snd
   ·unfold qh at e;rw[mT z]at e;obtain⟨o3,uu,j,z2⟩:=P3 z;rw[e]at j;cases j;have z3:=(g.hok b _ e).1;have z4:=M.keep b o3 z3 (wc z) (nofs z) (by simp);show#[z4,z4,_,z4]
   ·have e':=e;unfold qh at e';rw[mS z]at e';show(hok b o e').stay (λ_ _ _ y=>y) (λd y=>bk y) (λd xs y=>bk y) (λd ob y=>bk y) (λd ob y=>bk y)
 have ER:∀{l:Hp}{b:lR},b∈r.map snd->qh H l r b=H b:=λ{l b} z=>by unfold qh;rw[mT z]
 have conv:∀{e:lS}{s':lT},nZ P w G (offL H r) s (λcls dx l=>∀Y,mz l Y->(∀b∈r.map snd,Y b=H b)->E cls dx Y) e s'->nZ P w G H s E e s':=λ{e s'} ⟨ea,cls,dx,l,e1,os,bare,M,hok,⟨a0,B,D,pB⟩,e2⟩=>by
  obtain⟨un,ok,sm⟩:=back M hok;refine#[ea,cls,dx,qh H l r,e1,os,bare,un,ok,#[a0,B,D,λb o j z2 z3=>pB b o j ?_ z3],e2 _ sm λb z=>ER z]
  by_cases y:b∈r.map snd
  ·show .inl<|there y
  ·refine z2.imp_right λn=>?_
   unfold qh at n;rw[mS y]at n;show n
 refine Od<|pT ((body c A G s<|hr.deeper _).run [] _ I) (λv s' hs=>?_) λe s' hs=>pT hs (λ_ s'' z=>conv z) λe' s'' z=>conv z;obtain⟨v',l,J,P9,qq⟩:=hs;obtain⟨un,ok,sm⟩:=back (show Un (nX G) [] (offL H r) l s.heap s'.heap from J.mB) J.hok;show#[v',_,J.os,J.bare,un,ok,P9,qq _ sm λb z=>ER z]
end
end L2
end
section
namespace YM
open PySem L2 NM
def uh(c k:Int):Int:=((c+7919 * k) * 48271%2147483647) * ((c+7919 * k) * 48271%2147483647+2 * k+1)%2147483629
def VJ(c k:Int):0<=uh c k:=pZ _ (by lk)
def VE(c k:Int):uh c k<2147483629:=qj _ (by lk)
def zC(ns:lP Int)(k:Nat):Int:=match ns[k]? with
 | some c=>uh c k
 | none=>0
abbrev Zh:=lQ×lQ
def Yt(k:lQ):lP lQ:=if k ="points" then["stem","left","right"]else if k ="cross" then["a","b","c","d"]else if k ="plain" then["a","b"]else["a"]
def sZ(i:Int):Nat:=qL.getD i.toNat 0
def sH(k:Nat):lQ:=toString (k:Int)
def Yv(kind:lQ)(c:Int)(k:Nat):lQ:=if c%3=0 then#[(List.toArray [kind.cps.toList.getD 0 0])]++sH k else(#[(List.toArray [sZ (c / 3%26)])]++#[(List.toArray [sZ (c / 78%26)])])++rV "0" (c / 2028%3).toNat++sH k
def BW:∀k,k<100->(sH k).length<=2:=by left
def Ft{k:Nat}(h:k<100):(k:Int).natAbs.log2<1920:=by
 rw[Int.natAbs_natCast];refine Gq (Nat.log2_le_self k) (by lia)
def ux(a c:Nat):Nat:=if 48<=c/\c<=57 then a * 10+(c-48)else 0
def tH(s:lQ):Nat:=s.cps.toList.foldl ux 0
def EB:∀k,k<100->tH (sH k)=k:=by left
def Dd:∀k,k<100->0<(sH k).length:=by left
def Sk:∀m,m<3->(rV "0" m).cps.toList.foldl ux 0=0:=by left
def ZP:∀m,m<3->(rV "0" m).length=m:=by left
def TQ:∀i,i<26->97<=qL.getD i 0/\qL.getD i 0<=122:=by left
def Nm{i:Int}(z:0<=i)(y:i<26):97<=sZ i/\sZ i<=122:=TQ i.toNat (by lia)
def uV(x y:lQ):(x++y).cps.toList=x.cps.toList++y.cps.toList:=yd x y
def xb{kind:lQ}{c:Int}{k:Nat}(y:57<kind.cps.toList.getD 0 0)(h:k<100):tH (Yv kind c k)=k:=by
 have z:∀a c,57<c->ux a c=0:=λa c h=>by unfold ux;rw[mS (by lia)]
 unfold Yv;split
 ·unfold tH;rw[uV,yw];change List.foldl ux (ux 0<|kind.cps.toList.getD 0 0) _=k;rw[z _ _ y];show EB k h
 ·have u:=pZ (c / 3) (show(26:Int)≠0 by lk);have s:=qj (c / 3) (show(0:Int)<26 by lk);have x:=pZ (c / 78) (show(26:Int)≠0 by lk);have w:=qj (c / 78) (show(0:Int)<26 by lk);have r:=pZ (c / 2028) (show(3:Int)≠0 by lk);have q:=qj (c / 2028) (show(0:Int)<3 by lk);unfold tH;rw[uV,uV,uV,yw,yw,yw];change List.foldl ux (List.foldl ux (ux (ux 0<|sZ<|c / 3%26)<|sZ<|c / 78%26) _) _=k;rw[z _ (sZ<|c / 78%26) (by have:=Nm x w;lia),Sk _<|by lia];show EB k h
def zk{kind:lQ}{c:Int}{k:Nat}(h:k<100):2<=(Yv kind c k).length:=by
 have:=Dd k h;unfold Yv;split
 ·rw[pW];change 2<=1+_;lia
 ·rw[pW,pW,pW];change 2<=1+1+_+_;lia
def Uq{kind:lQ}{c:Int}{k:Nat}(h:k<100):(Yv kind c k).length<=6:=by
 have:=BW k h;unfold Yv;split
 ·rw[pW];change 1+_<=6;lia
 ·have z:=pZ (c / 2028) (show(3:Int)≠0 by lk);have y:=qj (c / 2028) (show(0:Int)<3 by lk);rw[pW,pW,pW,ZP _<|by lia];change 1+1+_+_<=6;lia
def Ys(ps:lP Zh):lP Zh:=ps.flatMap λp=>(Yt p.1).map λe=>(p.2,e)
def Xv(z:lP (Zh×Zh)):lP Zh:=z.flatMap λj=>[j.1,j.2]
def Hc(a b:lP Zh):Ys (a++b)=Ys a++Ys b:=yB ..
def Ba(a b:lP (Zh×Zh)):Xv (a++b)=Xv a++Xv b:=yB ..
def qm:lP lQ:=["plain","points","cross","gate","stop"]
structure Net(ps:List Zh)(js:List (Zh×Zh))(opn:List Zh):Prop where
 perm:(Xv js++opn).Perm (Ys ps)
 nd:(ps.map snd).Nodup
 apart:∀j∈js,j.1.1≠j.2.1
 kind:∀p∈ps,p.1∈qm
inductive qt(n1 n2 n3 n4:Str):List Zh->List (Zh×Zh)->Zh->Zh->Prop
 | plain (a b:Str) (h:(a,b)∈[(("a":Str),("b":Str)),("b","a")]):qt n1 n2 n3 n4 [("plain",n1)] [] (n1,a) (n1,b)
 | loop (a b:Str) (h:(a,b)∈[(("left":Str),("right":Str)),("right","left")]):qt n1 n2 n3 n4 [("points",n1),("plain",n2),("plain",n3),("points",n4)] [((n1,"left"),(n2,"a")),((n1,"right"),(n3,"a")),((n2,"b"),(n4,a)),((n4,b),(n3,"b"))] (n1,"stem") (n4,"stem")
 | siding (x a b k:Str) (h:[x,a,b].Perm ["stem","left","right"]) (hk:k∈[("stop":Str),"gate"]):qt n1 n2 n3 n4 [("points",n1),("plain",n2),(k,n3)] [((n1,x),(n2,"b")),((n2,"a"),(n3,"a"))] (n1,a) (n1,b)
 | cross (k:Str) (hk:k∈[("gate":Str),"stop"]):qt n1 n2 n3 n4 [("cross",n1),("gate",n2),(k,n3)] [((n1,"c"),(n2,"a")),((n3,"a"),(n1,"d"))] (n1,"a") (n1,"b")
def Do{z:Type}{d:z}{l m:lP z}(y:lP Nat)(h:y.Perm (List.range m.length))(e:l=y.map λi=>m.getD i d):l.Perm m:=by
 have x:((List.range m.length).map λi=>m.getD i d)=m:=by
  apply List.ext_getElem
  ·simp
  ·intro i u w;simp[tN,w]
 rw[e];show(h.map _).trans (by rw[x])
def qt.sub{z y x w:lQ}{ps:lP Zh}{u:lP (Zh×Zh)}{a b:Zh}(h:qt z y x w ps u a b):(ps.map snd).Sublist [z,y,x,w]:=by
 cases h with
 | plain=>show .cons_cons _ (DJ _)
 | loop=>show List.Sublist.refl _
 | siding=>show .cons_cons _ (.cons_cons _<|.cons_cons _<|DJ _)
 | cross=>show .cons_cons _<|.cons_cons _<|.cons_cons _<|DJ _
def zf{k:lQ}(z:k ="gate"\/k ="stop"):Yt k=[("a":lQ)]:=by rcases z with rfl|rfl<;>decide +kernel
def Nr:Yt "points"=[("stem":lQ),"left","right"]:=by left
def CY:Yt "plain"=[("a":lQ),"b"]:=by left
def XM:Yt "cross"=[("a":lQ),"b","c","d"]:=by left
def qt.perm{z y w s:lQ}{ps:lP Zh}{q:lP (Zh×Zh)}{a b:Zh}(h:qt z y w s ps q a b):(Xv q++[a,b]).Perm (Ys ps):=by
 cases h with
 | plain a b h =>
  simp only[nQ,ut,sU,yQ]at h;rcases h with⟨rfl,rfl⟩|⟨rfl,rfl⟩
  ·simp[Xv,Ys,CY]
  ·simp only[Xv,Ys,CY,List.flatMap_nil,DX,nS,uH,Dl,qf];show Bm _ _ _
 | loop a b h =>
  have he:Ys [("points",z),("plain",y),("plain",w),("points",s)]=([(z,"stem"),(z,"left"),(z,"right"),(y,"a"),(y,"b"),(w,"a"),(w,"b"),(s,"stem"),(s,"left"),(s,"right")]:lP Zh):=by simp[Ys,Nr,CY]
  rw[he];simp only[nQ,ut,sU,yQ]at h;rcases h with⟨rfl,rfl⟩|⟨rfl,rfl⟩
  ·show Do (d:=(z,z)) [1,3,2,5,4,8,9,6,0,7] (show List.Perm _ (List.range 10) by lk) rfl
  ·show Do (d:=(z,z)) [1,3,2,5,4,9,8,6,0,7] (show List.Perm _ (List.range 10) by lk) rfl
 | siding x a b k h r =>
  have u:k ="gate"\/k ="stop":=by
   simp only[nQ,ut,sU]at r;show r.symm
  have he:Ys [("points",z),("plain",y),(k,w)]=([("stem":lQ),"left","right"].map λe=>(z,e))++([(y,"a"),(y,"b"),(w,"a")]:lP Zh):=by simp[Ys,Nr,CY,zf u]
  rw[he];refine Cy ?_<|Dv _<|h.map λe=>(z,e);show Do (d:=(z,z)) [0,4,3,5,1,2] (show List.Perm _ (List.range 6) by lk) rfl
 | cross k r =>
  have u:k ="gate"\/k ="stop":=by
   simp only[nQ,ut,sU]at r;show r
  have he:Ys [("cross",z),("gate",y),(k,w)]=([(z,"a"),(z,"b"),(z,"c"),(z,"d"),(y,"a"),(w,"a")]:lP Zh):=by simp[Ys,XM,zf u,zf (k :="gate")<|.inl rfl]
  rw[he];show Do (d:=(z,z)) [2,4,5,3,0,1] (show List.Perm _ (List.range 6) by lk) rfl
def qt.kind{w u s r:lQ}{ps:lP Zh}{q:lP (Zh×Zh)}{a b:Zh}(h:qt w u s r ps q a b):∀p∈ps,p.1∈qm:=by
 cases h with
 | plain=>intro p z;simp at z;subst z;simp[qm]
 | loop=>intro p z;simp at z;rcases z with rfl|rfl|rfl|rfl<;>simp[qm]
 | siding x a b k h y=>intro p z;simp at z y;rcases z with rfl|rfl|rfl<;>rcases y with rfl|rfl<;>simp[qm]
 | cross k y=>intro p z;simp at z y;rcases z with rfl|rfl|rfl<;>rcases y with rfl|rfl<;>simp[qm]
def qt.apart{y w u s:lQ}{ps:lP Zh}{r:lP (Zh×Zh)}{a b:Zh}(h:qt y w u s ps r a b)(q:[y,w,u,s].Nodup):∀j∈r,j.1.1≠j.2.1:=by
 simp only[pN,nQ,ut,sU,not_or,wf,not_false_eq_true,ul,Bu]at q;obtain⟨⟨x,o,n⟩,⟨x,o⟩,l⟩:=q;cases h with
 | plain=>intro j z;cases z
 | loop=>intro j z;simp at z;rcases z with rfl|rfl|rfl|rfl<;>first|assumption|show pb (by assumption)
 | siding x a b k h p=>intro j z;simp at z;rcases z with rfl|rfl<;>first|assumption|show pb (by assumption)
 | cross k p=>intro j z;simp at z;rcases z with rfl|rfl<;>first|assumption|show pb (by assumption)
def qt.opens{z y x w:lQ}{ps:lP Zh}{u:lP (Zh×Zh)}{a b:Zh}(h:qt z y x w ps u a b):a.1∈ps.map snd/\b.1∈ps.map snd:=by
 cases h<;>simp
def AN{ps:lP Zh}{e:Zh}(h:e∈Ys ps):e.1∈ps.map snd:=by
 obtain⟨p,z,he⟩:=vJ.mp h;obtain⟨x,_,rfl⟩:=mV.mp he;show mV.mpr #[p,z,rfl]
def Net.more{ps:lP Zh}{u:lP (Zh×Zh)}{e:Zh}{s r q o:lQ}{qs:lP Zh}{w:lP (Zh×Zh)}{a b:Zh}(h:Net ps u [e])(B:qt s r q o qs w a b)(l:[s,r,q,o].Nodup)(new:∀n∈[s,r,q,o],n∉ps.map snd):Net (ps++qs) (u++w++[(e,a)]) [b]:=by
 have he:e.1∈ps.map snd:=AN (h.perm.subset<|by simp);have i:a.1∉ps.map snd:=new _<|B.sub.subset B.opens.1;refine#[?_,?_,?_,?_]
 ·rw[Ba,Ba,Hc];refine Cy ?_<|h.perm.append B.perm;change(Xv u++Xv w++[e,a]++[b]).Perm ((Xv u++[e])++(Xv w++[a,b]));rw[pp,pp,pp];refine Bo _ ?_;change(Xv w++([e]++[a,b])).Perm ([e]++(Xv w++[a,b]));rw[<-pp,<-pp];show Dv _ vY
 ·rw[ng,qp];show#[h.nd,List.Pairwise.sublist B.sub l,λx p y j z=>new y (B.sub.subset j)<|z ▸ p]
 ·intro j x;rw[ou,ou]at x;rcases x with(z|z)|z
  ·show h.apart j z
  ·show B.apart l j z
  ·simp at z;subst z;show λy=>i<|y ▸ he
 ·intro p x;rcases ou.mp x with z|z
  ·show h.kind p z
  ·show B.kind p z
def wp(s:lQ)(n:Nat):Prop:=∃z c k,(96<z.cps.toList.getD 0 0/\z.cps.toList.getD 0 0<123)/\k<n/\s=Yv z c k
def qt.len{y x w u:lQ}{ps:lP Zh}{z:lP (Zh×Zh)}{a b:Zh}(h:qt y x w u ps z a b):ps.length<=4/\z.length<=4:=by
 cases h<;>simp
structure vE(i:Nat)(ps:List Zh)(js:List (Zh×Zh))(R7:Zh):Prop where
 net:Net ps js [R7]
 pl:ps.length<=1+4 * i
 jl:js.length<=5 * i
 nm:∀p∈ps,p=((("gate":Str),("g":Str)):Zh)\/wp p.2 (4 * i)
def vE.start:vE 0 [("gate","g")] [] ("g","a"):=by
 refine#[#[?_,by simp,by simp,by simp[qm]],by simp,by simp,by simp];simp[Xv,Ys,zf (k :="gate")<|.inl rfl]
def QM{x s:lQ}(y:x.length=1)(h:2<=s.length):s≠x:=λz=>by rw[z]at h;lia
def vE.more{i:Nat}{ps:lP Zh}{N:lP (Zh×Zh)}{M:Zh}{k1 k2 k3 s:lQ}{r q o l:Int}{qs:lP Zh}{L:lP (Zh×Zh)}{a b:Zh}(h:vE i ps N M)(hi:i<20)
  (J:96<k1.cps.toList.getD 0 0/\k1.cps.toList.getD 0 0<123) (I:96<k2.cps.toList.getD 0 0/\k2.cps.toList.getD 0 0<123) (H:96<k3.cps.toList.getD 0 0/\k3.cps.toList.getD 0 0<123) (G:96<s.cps.toList.getD 0 0/\s.cps.toList.getD 0 0<123)
  (B:qt (Yv k1 r<|4 * i) (Yv k2 q<|4 * i+1) (Yv k3 o<|4 * i+2) (Yv s l<|4 * i+3) qs L a b):vE (i+1) (ps++qs) (N++L++[(M,a)]) b:=by
 have j:=xb (c:=r) (ri (by lk) J.1) (show 4 * i<100 by lia);have g:=xb (c:=q) (ri (by lk) I.1) (show 4 * i+1<100 by lia);have d:=xb (c:=o) (ri (by lk) H.1) (show 4 * i+2<100 by lia);have Y:=xb (c:=l) (ri (by lk) G.1) (show 4 * i+3<100 by lia);have w:∀{x y:lQ}{m n:Nat},tH x=m->tH y=n->m≠n->x≠y:=λD C u z=>u (by rw[<-D,<-C,z])
 have A:[Yv k1 r (4 * i),Yv k2 q<|4 * i+1,Yv k3 o<|4 * i+2,Yv s l<|4 * i+3].Nodup:=by
  simp[w j g (by lia),w j d (by lia),w j Y (by lia),w g d (by lia),w g Y (by lia),w d Y<|by lia]
 have all:∀n∈[Yv k1 r (4 * i),Yv k2 q<|4 * i+1,Yv k3 o<|4 * i+2,Yv s l<|4 * i+3],4 * i<=tH n/\2<=n.length/\wp n (4 * (i+1)):=by
  intro n u;simp only[nQ,ut,sU]at u;rcases u with rfl|rfl|rfl|rfl
  ·show#[by lia,zk (by lia),_,_,_,J,by lia,rfl]
  ·show#[by lia,zk (by lia),_,_,_,I,by lia,rfl]
  ·show#[by lia,zk (by lia),_,_,_,H,by lia,rfl]
  ·show#[by lia,zk (by lia),_,_,_,G,by lia,rfl]
 refine#[h.net.more B A λn u hm=>?_,?_,?_,?_]
 ·obtain⟨p,U,rfl⟩:=mV.mp hm;obtain⟨a1,a2,_⟩:=all _ u;rcases h.nm p U with z|⟨E,c,k,Q,g8,e⟩
  ·show QM (x :="g") (by left) a2 (by rw[z])
  ·rw[e,xb (ri (by lk) Q.1)<|by lia]at a1;lia
 ·have:=B.len.1;have:=h.pl;rw[nW];lia
 ·have:=B.len.2;have:=h.jl;rw[nW,nW];change _+_+1<=_;lia
 ·intro p U;rcases ou.mp U with z|z
  ·rcases h.nm p z with y|⟨E,c,k,Q,g8,e⟩
   ·show .inl y
   ·show .inr #[E,c,k,Q,by lia,e]
  ·show .inr (all _<|B.sub.subset<|mV.mpr #[p,z,rfl]).2.2
def vE.done{i:Nat}{ps:lP Zh}{u:lP (Zh×Zh)}{w:Zh}(h:vE i ps u w)(g:i<20):Net (ps++[(("gate":lQ),("h":lQ))]) (u++[(w,(("h":lQ),("a":lQ)))]) []:=by
 have r:("h":lQ)∉ps.map snd:=λz=>by
  obtain⟨p,s,e⟩:=mV.mp z;rcases h.nm p s with y|⟨n,c,k,x,q,y⟩
  ·rw[y]at e;show absurd e (by left)
  ·show QM (x :="h") (by left) (zk (kind:=n) (c:=c) (k:=k)<|by lia) (by rw[<-y];show e)
 have l:w.1∈ps.map snd:=AN (h.net.perm.subset<|by simp);refine#[?_,?_,?_,?_]
 ·rw[Ba,Hc,qf];have he:Ys [("gate","h")]=([("h","a")]:lP Zh):=by simp[Ys,zf (k :="gate")<|.inl rfl]
  rw[he];change(Xv u++([w]++[(("h":lQ),("a":lQ))])).Perm _;rw[<-pp];show Dv _ h.net.perm
 ·rw[ng,qp];show#[h.net.nd,by simp,λx q y o z=>by simp at o;rw[z,o]at q;show r q]
 ·intro j x;rcases ou.mp x with z|z
  ·show h.net.apart j z
  ·simp at z;subst z;show λy=>r (by have y:w.1=("h":lQ):=y;rw[<-y];show l)
 ·intro p s;rcases ou.mp s with z|z
  ·show h.net.kind p z
  ·simp at z;subst z;simp[qm]
def oU(j:Nat):lQ :="e"++sH j
def wV(Zs:lP Zh)(i:Nat)(y:lP Zh)(x:lP (Zh×Zh)):Prop:=∃z:lP lQ,z.length=i/\(∀k∈z,k ="gate"\/k ="stop")/\y=(List.range i).map (λj=>(z.getD j "gate",oU j))/\x=(List.range i).map (λj=>(Zs.getD j ("",""),(oU j,("a":lQ))))
def wV.more{Zs:lP Zh}{i:Nat}{w:lP Zh}{u:lP (Zh×Zh)}{k:lQ}{q:Zh}(h:wV Zs i w u)(p:k ="gate"\/k ="stop")(o:Zs[i]? =some q):wV Zs (i+1) (w++[(k,oU i)]) (u++[(q,(oU i,("a":lQ)))]):=by
 obtain⟨s,r,y,rfl,rfl⟩:=h;refine#[s++[k],by rw[nW,r];rfl,?_,?_,?_]
 ·intro x n;rcases ou.mp n with z|z
  ·show y x z
  ·simp at z;rw[z];show p
 ·rw[Dk,ng];congr 1
  ·refine AZ λj z=>?_
   have z:=zI.mp z;rw[tN,tN,Gx<|by lia]
  ·change[(k,oU i)]=[((s++[k]).getD i "gate",oU i)];rw[tN,Ci (by lia),r,Nat.sub_self]
   rfl
 ·rw[Dk,ng];congr 1;change[(q,(oU i,("a":lQ)))]=[(Zs.getD i ("",""),(oU i,("a":lQ)))];rw[tN,o]
  rfl
def UI(k:lQ):(Yt k).Nodup:=by
 unfold Yt;split
 ·decide +kernel
 ·split
  ·decide +kernel
  ·split<;>decide +kernel
theorem xQ:∀{ps:lP Zh},(ps.map snd).Nodup->(Ys ps).Nodup
 | [],_=>ul
 | p ::ps,h=>by
  rw[nS,pN]at h;rw[show Ys (p ::ps)=((Yt p.1).map λe=>(p.2,e))++Ys ps from DX ..,qp];refine#[?_,xQ h.2,?_]
  ·refine FV _ (λa b z y=>z ?_)<|UI p.1;show(Prod.mk.inj y).2
  ·intro x u y w z;obtain⟨e,_,rfl⟩:=mV.mp u;rw[<-z]at w;show h.1<|AN w
def Net.ond{ps:lP Zh}{z:lP (Zh×Zh)}{o:lP Zh}(h:Net ps z o):o.Nodup:=by
 have:=(h.perm.nodup_iff).mpr (xQ h.nd);show(qp.mp this).2.1
def Net.add{ps:lP Zh}{w:lP (Zh×Zh)}{o:lP Zh}{k n:lQ}(h:Net ps w o)(r:n∉ps.map snd)(q:k∈qm):Net (ps++[(k,n)]) w (o++(Yt k).map λe=>(n,e)):=by
 refine#[?_,?_,h.apart,?_]
 ·rw[Hc,<-pp];have:Ys [(k,n)]=(Yt k).map λe=>(n,e):=by simp[Ys]
  rw[this];show Dv _ h.perm
 ·rw[ng,qp];show#[h.nd,by simp,λx u y s z=>by simp at s;rw[z,s]at u;show r u]
 ·intro p y;rcases ou.mp y with z|z
  ·show h.kind p z
  ·simp at z;rw[z];show q
def Net.join{ps:lP Zh}{y:lP (Zh×Zh)}{o o':lP Zh}{a b:Zh}(h:Net ps y o)(x:(a ::b ::o').Perm o)(w:a.1≠b.1):Net ps (y++[(a,b)]) o':=by
 refine#[?_,h.nd,?_,h.kind]
 ·rw[Ba];refine Cy ?_ h.perm;change(Xv y++[a,b]++o').Perm _;rw[pp];show Bo _ x
 ·intro j u;rcases ou.mp u with z|z
  ·show h.apart j z
  ·simp at z;rw[z];show w
theorem Em{z:Type}:∀{l:lP z}{i:Nat}{a:z},l[i]? =some a->(a ::l.eraseIdx i).Perm l
 | [],_,_,h=>by cases h
 | x ::l,0,a,h=>by cases h;show qd _
 | x ::l,i+1,a,h=>by
  rw[DL];show(Bm x a _).trans ((Em (l:=l) h).cons x)
def Uy{z:Type}{l m:lP z}{i j:Nat}{a b:z}(y:l[i]? =some a)(x:m[j]? =some b):(a ::b ::(l.eraseIdx i++m.eraseIdx j)).Perm (l++m):=by
 refine Cy ?_<|(Em y).append (Em x);change List.Perm _ (a ::(l.eraseIdx i++(b ::m.eraseIdx j)));show(List.perm_middle.symm).cons a
def Ux{l:lP Zh}{a:Zh}(w:l.Nodup)(s:a∈l):(a ::l.filter λe=>decide<|e≠a).Perm l:=by
 induction l with
 | nil=>cases s
 | cons x l r =>
  rw[pN]at w
  by_cases z:x=a
  ·subst z;rw[rC,mS<|by simp];have:(l.filter λe=>decide<|e≠x)=l:=PY.mpr λe he=>nM λy=>w.1<|y ▸ he
   rw[this]
  ·rw[rC,mT<|nM z];have u:a∈l:=by
    rcases nQ.mp s with y|y
    ·show absurd y.symm z
    ·show y
   show(Bm x a _).trans ((r w.2 u).cons x)
def YL{r:Zh}{l:lP Zh}{a:Zh}(z:(r ::l).Nodup)(y:a∈l):(a ::r ::l.filter λe=>decide<|e≠a).Perm (r ::l) :=
 (Bm r a _).trans ((Ux (pN.mp z).2 y).cons r)
def OZ{j:Nat}(h:j<100):tH (oU j)=j:=by
 unfold oU tH;rw[uV,yw];show EB j h
def Vk:∀k,k<100->(sH k).cps.toList.getD 0 0<=57:=by left
def Zyi{kd:lQ}{c:Int}{k j:Nat}(w:j<100)(u:kd.cps.toList.getD 0 0≠101):Yv kd c k≠oU j:=by
 intro z;have y:=oJ (λs:lQ=>s.cps.toList) z;have he:(oU j).cps.toList=101 ::(sH j).cps.toList:=by unfold oU;rw[uV];rfl
 simp only[he]at y;unfold Yv at y;split at y
 ·rw[uV]at y;show u (Fv y).1
 ·rw[uV,uV,uV]at y;have s:=pZ (c / 78) (show(26:Int)≠0 by lk);have r:=qj (c / 78) (show(0:Int)<26 by lk);have p:=Nm s r;have q:=(Fv y).2;have x:=Vk j w;rw[<-q]at x;have:sZ (c / 78%26)<=57:=x;lia
def Net.closed{ps:lP Zh}{x:lP (Zh×Zh)}{Zs s:lP Zh}{r:lP (Zh×Zh)}(h:Net ps x Zs)(d:wV Zs Zs.length s r)(L:Zs.length<=90)(c:∀j,j<90->oU j∉ps.map snd):Net (ps++s) (x++r) []:=by
 obtain⟨y,z,w,rfl,rfl⟩:=d;have Y:∀n,n<=Zs.length->Net (ps++(List.range n).map λj=>(y.getD j "gate",oU j)) (x++(List.range n).map λj=>(Zs.getD j ("",""),(oU j,("a":lQ)))) (Zs.drop n):=by
  intro n
  induction n with
  | zero=>intro _;simpa using h
  | succ n U =>
   intro Q;have q:=U (by lia);have p:n<Zs.length:=by lia
   have o:y.getD n "gate"="gate"\/y.getD n "gate"="stop":=w _ (by
    rw[tN,oA<|by lia];show DO _)
   have l:oU n∉(ps++(List.range n).map λj=>(y.getD j "gate",oU j)).map snd:=by
    rw[ng,ou];rintro(z|z)
    ·show c n (by lia) z
    ·rw[oO]at z;obtain⟨j,i,e⟩:=mV.mp z;have i:=zI.mp i;have:=oJ tH e;rw[OZ (by lia)]at this;have u:tH (oU j)=n:=this;rw[OZ (by lia)]at u;lia
   have g:=q.add l (k:=y.getD n "gate") (by rcases o with z|z<;>rw[z]<;>simp[qm]);rw[zf o]at g;have hd:Zs.drop n=Zs.getD n ("","") ::Zs.drop (n+1):=by
    rw[wo p,tN,oA p]
    rfl
   have N:(Zs.getD n ("","")).1≠oU n:=by
    have:Zs.getD n ("","")∈Zs.drop n:=by rw[hd];simp
    have M:=AN<|q.perm.subset<|qc _ this;show λz=>l<|z ▸ M
   have u:=g.join (a:=Zs.getD n ("","")) (b:=(oU n,"a")) (o':=Zs.drop<|n+1) (by
    rw[hd];change List.Perm _ (Zs.getD n ("","") ::(Zs.drop (n+1)++[(oU n,("a":lQ))]));show(List.perm_append_singleton _ _).symm.cons _) N
   rw[Dk,ng,ng,<-pp,<-pp];show u
 have:=Y Zs.length<|nw _;rwa[Be]at this
end YM
end
section
namespace YM
open PySem L2 NM
def Dw:∀k∈qm,57<k.cps.toList.getD 0 0/\k.cps.toList.getD 0 0≠101/\0<k.length/\k.length<=6/\(Yt k).length<=4/\0<(Yt k).length:=by left
def Ge(s:lQ)(n:Nat):Prop:=∃z∈qm,∃(c:Int)(k:Nat),k<n/\s=Yv z c k
structure Xx(i m:Nat)(ps:List Zh)(js:List (Zh×Zh))(Zs:List Zh):Prop where
 net:Net ps js Zs
 sum:ps.length+Zs.length<=39
 jl:js.length<=m
 nm:∀p∈ps,Ge p.2 i
def Xx.start:Xx 0 0 [] [] []:=#[#[qd _,ul,by simp,by simp],by simp,by simp,by simp]
def Xx.mono{i m z y:Nat}{ps:lP Zh}{x:lP (Zh×Zh)}{Zs:lP Zh}(h:Xx i m ps x Zs)(o:i<=z)(w:m<=y):Xx z y ps x Zs :=
 #[h.net,h.sum,oi h.jl w,λp u=>let⟨s,r,c,k,n,q⟩:=h.nm p u;#[s,r,c,k,by lia,q]]
def Xx.new{i m:Nat}{ps:lP Zh}{y:lP (Zh×Zh)}{Zs:lP Zh}{kd:lQ}{c:Int}(h:Xx i m ps y Zs)(x:i<100)(w:kd∈qm):Yv kd c i∉ps.map snd:=λz=>by
 obtain⟨p,u,e⟩:=mV.mp z;obtain⟨s,r,o,k,n,q⟩:=h.nm p u;have:=oJ tH<|e.symm.trans q;rw[xb (Dw _ w).1 x,xb (Dw _ r).1 (by lia)]at this;lia
def Xx.add{i m:Nat}{ps:lP Zh}{x:lP (Zh×Zh)}{Zs:lP Zh}{kd:lQ}{c:Int}(h:Xx i m ps x Zs)(w:i<100)(y:kd∈qm)(s:ps.length+Zs.length+(Yt kd).length<=38):Xx (i+1) m (ps++[(kd,Yv kd c i)]) x (Zs++(Yt kd).map λe=>(Yv kd c i,e)):=by
 refine#[h.net.add (h.new w y) y,?_,h.jl,?_]
 ·rw[nW,nW,mI];change _+1+_<=39;lia
 ·intro p u;rcases ou.mp u with z|z
  ·show(h.mono (tw i)<|nw m).nm p z
  ·simp at z;rw[z];show#[kd,y,c,i,by lia,rfl]
def Xx.join(h:Xx i m ps y o)(z:(a ::b ::o').Perm o)(x:a.1≠b.1):Xx i (m+1) ps (y++[(a,b)]) o':=by
 refine#[h.net.join z x,?_,?_,h.nm]
 ·have:=h.sum;have w:=z.length_eq;simp at w;lia
 ·rw[nW];show Nat.succ_le_succ h.jl
def Xx.done{i m:Nat}{ps:lP Zh}{y:lP (Zh×Zh)}{Zs x:lP Zh}{w:lP (Zh×Zh)}(h:Xx i m ps y Zs)(n:i<=100)(u:wV Zs Zs.length x w):Net (ps++x) (y++w) []:=by
 have l:=h.sum;refine h.net.closed u (by lia) λj g z=>?_
 obtain⟨p,s,e⟩:=mV.mp z;obtain⟨r,q,d,k,c,o⟩:=h.nm p s;show Zyi (by lia) (Dw _ q).2.1 (o.symm.trans e)
theorem NZ{z y:Type}{R:z->y->Prop}:∀{l:lP z}{m:lP y},Paired R l m->∀i,Paired R (l.eraseIdx i) (m.eraseIdx i)
 | _,_,.nil,_=>.nil
 | _,_,.cons r t,0=>t
 | _,_,.cons r t,i+1=>.cons r<|NZ t i
theorem Op{z y:Type}(f:z->y):∀(l:lP z)(i:Nat),(l.map f).eraseIdx i=(l.eraseIdx i).map f
 | [],_=>rfl
 | _ ::_,0=>rfl
 | x ::l,i+1=>by rw[nS,DL,DL,nS,Op f l i]
end YM
end
section
namespace L2
open PySem PySem.Spec PyProof.Rows
section
variable {X:Cx} {a b:lZ} {ta tb:TE} {p pos:Pos}
def pq(z:X.mg "len"=none)(y:PE X a ta)(x:Gl X "len":=by rfl)(h:AG a=true:=by rfl):PE X (.Call (.Name "len" p) [a] [] pos) (xY (JE X.K)<|uk ta wD):=Z7 Vw x z IE (Zb y Za h) (by lk) (by lk) (AJ h) rfl
def qD(n:String){u:lQ}{q:Pos}(y:X.mg "isinstance"=none)(x:X.mg u=none)(w:bootBuiltins u=some (.type n))(s:PE X a ta)(r:Gl X "isinstance":=by rfl)(h:AG a=true:=by rfl)(z:Gl X u:=by rfl)(o:u≠ "__name__":=by lk)(l:(u ==("__debug__":lQ))=false:=by lk):PE X (.Call (.Name "isinstance" p) [a,.Name u q] [] pos) (xY (yy X.K)<|uk ta<|uk (tC<|.ty n) wD):=Z7 CC r y sr (Zb s (Zb (Ov (v:=.ty n) z x w rfl o l) Za) h) (by lk) (by lk) (AJ h) (by rw[AJ rfl];rfl)
def sW{k:Nat}(z:Y6 k X.A)(y:PE X a ta)(x:PE X b tb):PE X (.Compare a [.Eq] [b] pos) (qU (za X.K) ta tb):=zo (BF z) y x<|Ym _
def We{k:Nat}(z:Y6 k X.A)(y:PE X a ta)(x:PE X b tb):PT X (.Compare a [.Eq] [b] pos) (xM<|qU (za X.K) ta tb):=Z2 (BF z) y x<|Ym _
def XH{k:Nat}(z:Y6 k X.A)(y:PE X a ta)(x:PE X b tb):PE X (.Compare a [.NotEq] [b] pos) (qU (uq X.K) ta tb):=zo (vD z) y x<|Ym _
def sy{k:Nat}(z:Y6 k X.A)(y:PE X a ta)(x:PE X b tb):PT X (.Compare a [.NotEq] [b] pos) (xM<|qU (uq X.K) ta tb):=Z2 (vD z) y x<|Ym _
def Qm{k:Nat}(z:Y6 k X.A)(y:PE X a ta)(x:PE X b tb)(w:behindInMarks .In b=false:=by with_unfolding_all rfl):PE X (.Compare a [.In] [b] pos) (qU (DV X.K) ta tb):=zo (Gu z) y x w
def uj{k:Nat}(z:Y6 k X.A)(y:PE X a ta)(x:PE X b tb)(w:behindInMarks .In b=false:=by with_unfolding_all rfl):PT X (.Compare a [.In] [b] pos) (xM<|qU (DV X.K) ta tb):=Z2 (Gu z) y x w
def rP{k:Nat}(z:Y6 k X.A)(y:PE X a ta)(x:PE X b tb)(w:behindInMarks .NotIn b=false:=by with_unfolding_all rfl):PT X (.Compare a [.NotIn] [b] pos) (xM<|qU (ES X.K) ta tb):=Z2 (OO z) y x w
def mW(z:PE X a ta)(y:PE X b tb)(x:FE b:=by show λ_ _=>rfl):PE X (.Subscript a b pos) (qU (zh X.K) ta tb):=OU LC z y x
def ro{q:Pos}(y:PE X a ta)(w:PE X b tb)(h:AG b=true:=by rfl)(u:attributeBase a "append" X.env (eval a X.env)=eval a X.env:=by rfl)
  (z:((backTo pos<|starEach [b] X.env).all (λx=>!x.1) && (backToKw pos<|keywordEach [] X.env).all (λx=>x.1.isSome)
   && decide ([b].length+([]:lP Keyword).length+(if([]:lP Keyword).isEmpty then 0 else 1)<30))=true:=by rfl)
  (s:(q.endLine ==pos.line)=true:=by rfl):PE X (.Call (.Attribute a "append" q) [b] [] pos) (Pw X.K "list" Jj ta<|uk tb wD):=Ah xT PV PySem.F.type_list_append GQ y (Zb w Za h) u z s (AJ h) rfl
end
def oZ{X:Cx}{scope:Scope}{s:lP (lQ×lR)}{r:lP lQ}(n:Nat)(w:lP Nat)(u:closureFor scope X.env=pure s)(kind:scope.kind=.function:=by rfl)(cell:∀y∈scope.names,y.2≠.cell:=by left)
  (names:∀y∈scope.names,y.2=.local->scope.names.lookup y.1=some .local:=by left) (q:vf (λp=>X.env.cells.lookup p.1=some p.2) s:=by repeat first|show trivial|refine#[rfl,?_])
  (o:(scope.names.all λy=>y.2 !=.free || ((s.lookup y.1).isSome && (X.env.kindOf y.1 ==some .cell || X.env.kindOf y.1 ==some .free)))=true:=by rfl)
  (l:r.length=n+w.length:=by rfl) (i:vf (λp:Nat×Nat=>∃x,r[n+p.1]? =some x/\X.N[p.2]? =some x/\scope.names.lookup x=some .free) ((List.range w.length).zip w):=by repeat first|show trivial|refine#[#[_,rfl,rfl,rfl],?_]) :
  Wt X scope s r (λz=>List.replicate n none++w.map λj=>(z[j]?).join):=Wt.std n w kind cell names u q o l i
def zK:lP lQ->Bool
 | []=>true
 | x ::l=>!l.contains x && zK l
theorem Ot:∀{l:lP lQ},zK l=true->l.Nodup
 | [],_=>ul
 | x ::l,h=>by
  rw[zK,qx,Bool.not_eq_true']at h;show pN.mpr #[λz=>(by rw[KM.mpr z]at h;cases h.1),Ot h.2]
def oF{X:Cx}{pos:Pos}(i:Nat){x:lQ}(z:zK X.N=true:=by kernel_rfl)(y:X.N[i]? =some x:=by rfl)(w:vB X.env.scope x:=by show yM<|lookup_relabel_local rfl)(u:X.fn x=true\/X.env.scope.names.lookup x=some .local:=by show zm<|lookup_relabel_local rfl):PG X (.Name x pos) (qW i):=Ig (Ot z) y w u
def mY{X:Cx}(i:Nat){ps:lP lQ}{x:lQ}{e:lZ}{z:TE}{pos y:Pos}(S:Zx X.N ps X.env.scope)(he:PE X e z)(w:X.N[i]? =some x:=by rfl)(u:vB X.env.scope x:=by first|show yM rfl|show zm rfl)(s:swapsWith e (some<|.Name x y) pos.line X.env=pure false:=by rfl)(r:X.fn x=true\/X.env.scope.names.lookup x=some .local:=by first|show .inl rfl|show .inr rfl|assumption):PS X (.Assign [.Name x y] e pos) (zD z<|qW i):=XZ S.nd w u he s r
def oh{X:Cx}(i:Nat){ps:lP lQ}{x:lQ}{pos:Pos}(S:Zx X.N ps X.env.scope)(z:X.N[i]? =some x:=by rfl)(y:vB X.env.scope x:=by first|show yM rfl|show zm rfl)(w:X.fn x=true\/X.env.scope.names.lookup x=some .local:=by first|show .inl rfl|show .inr rfl|assumption):PG X (.Name x pos) (qW i):=Ig S.nd z y w
def pR{X:Cx}{q u r:lZ}{p:lP lZ}{scope:Scope}{pos:Pos}{y:lP (lQ×lR)}(w:lP lQ){fr:St->St}{o:TI}{g:TG}{n:TT}{l:TE}
  (S:Wt X scope y w fr) (j:PI X u r o) (i:∀{s H C z},PG (Y0 X scope y w s H C z) u g) (h:∀{s H C z},PF (Y0 X scope y w s H C z) p n)
  (he:∀{s H C z},PE (Y0 X scope y w s H C z) q l) (e:X.calm=true:=by rfl) (d:∀x,foldedSetIterable r X.env x=pure x:=by intro _;rfl):PE X (.ListComp q [#[u,r,p,0]] scope pos) (Dt o fr g n l):=Yba e S j (λ_ _ _ _=>i) (λ_ _ _ _=>h) (λ_ _ _ _=>he) d
def yO{X:Cx}(i:Nat){ps:lP lQ}{y:lQ}{h z:Pos}{o u r:lZ}{n:lP lZ}{scope:Scope}{pos:Pos}{q:lP (lQ×lR)}(p:lP lQ){fr:St->St}{e:TI}{g:TG}{d:TT}{c:TE}
  (F:Zx X.N ps X.env.scope) (S:Wt X scope q p fr) (a:PI X u r e) (Y:∀{s H C w},PG (Y0 X scope q p s H C w) u g) (U:∀{s H C w},PF (Y0 X scope q p s H C w) n d)
  (he:∀{s H C w},PE (Y0 X scope q p s H C w) o c) (l:X.N[i]? =some y:=by rfl) (Q:vB X.env.scope y:=by show yM rfl) (N:X.calm=true:=by rfl) (M:∀x,foldedSetIterable r X.env x=pure x:=by intro _;rfl)
  (j:swapsWith (.ListComp o [#[u,r,n,0]] scope pos) (some<|.Name y h) z.line X.env=pure true:=by rfl) (L:X.fn y=true\/X.env.scope.names.lookup y=some .local:=by first|show .inl rfl|show .inr rfl|assumption) :
  PS X (.Assign [.Name y h] (.ListComp o [#[u,r,n,0]] scope pos) z) (zD (Dt e fr g d c)<|qW i):=Ztq F.nd l Q N S a (λ_ _ _ _=>Y) (λ_ _ _ _=>U) (λ_ _ _ _=>he) M j L
abbrev Dn.O{K:lV}{x q:lQ}{st:lW}{ps:lP lQ}(d:Dn K x q st ps)(P:ma)(w:lY)(mg:lQ->lU lS)(mB:lX)(k:Nat)(sp:Sp):Prop:=Xf P w K mg mB oP k d.f d.fd ps sp
abbrev yn.O{K:lV}{x q:lQ}{st:lW}{ps:lP lQ}{v:V}(d:yn K x q st ps v)(P:ma)(w:lY)(mg:lQ->lU lS)(mB:lX)(k:Nat)(sp:Sp):Prop:=Xf P w K mg mB oP k d.f d.fd ps sp
def Yih{z:Type}{us:lP z}(h:us.length=5):∃a b c d e,us=[a,b,c,d,e]:=by
 rcases us with _|⟨a,_|⟨b,_|⟨c,_|⟨d,_|⟨e,_|_⟩⟩⟩⟩⟩<;>first|show#[_,_,_,_,_,rfl]|cases h
abbrev kB(K:lV)(a b:lR)(v:Bool):Prop:=kitOne K (.ref a) (.ref b)=some v
abbrev uM(ps:lP lQ)(st:lW):Prop:=Zx ps ps<|Zk st
abbrev cB(K:lV)(a:lR):Prop:=findIn K (.ref a) "__class__"=some (some<|.builtin "object.__class__")
abbrev OE(K:lV)(mg:lQ->lU lS)(x:lQ)(a:lR):Prop:=CJ K mg x a [.type "ValueError",.type "Exception",.type "BaseException",.type "object"] "ValueError.__new__"
structure DG(K:Frag)(mg:Str->Option Value)(x:Str)(st:Stmt)(ps:List Str) extends Dn K x x st ps where
 m:mg x=some (.ref f)
def Zv{X:Cx}{x:lQ}{st:lW}{ps:lP lQ}{d:DG X.K X.mg x st ps}{y:Sp}{j k:Nat}{e:lZ}{z:lP lZ}{t:TA}{p pos:Pos}(F:Xf X.prog X.w X.K X.mg X.mB oP k d.f d.fd ps y)(w:Y6 j X.A)(u:PA X (e ::z) t)(s:Gl X x:=by rfl)(r:k<=j:=by lk)(q:(x ==("__debug__":lQ))=false:=by lk)(he:starEach (e ::z) X.env=(false,eval e X.env) ::starEach z X.env:=by rfl)(o:(backTo pos<|starEach z X.env).any (·.1)=false:=by rfl):PE X (.Call (.Name x p) (e ::z) [] pos) (QE y [] E0 t):=Xs F (w.mono r) s d.m d.F.kp d.b .nil Zz u q he o
end L2
end
section
namespace L2
abbrev IF:=Nat->St->Hp->Prop
abbrev IC:=St->Hp->Prop
end L2
namespace HT
open PySem PyProof.Rows
section
open PySem.SeqAt
variable {prog:ma} {w:lY} {A:md} {E:lS->lT->Prop} {s:lT}
def cat_tup{t b:lR}{vs z:lP lS}{Q:lS->lT->Prop}(c:IsTup s.heap t vs.toArray)(a:IsTup s.heap b z.toArray)(o:vs≠[])
  (Y:z=[]->Q (.ref t) s) (U:z≠[]->Q (.ref #v[s]) {s with heap:=s.heap.push {cls:=.type "tuple",data:=.seq (vs++z).toArray}})
  (hsz:vs.length+z.length<=sizeLine):wpAny (model prog w) A (binaryOp .Add (.ref t)<|.ref b) Q E s:=by
 obtain⟨⟨cls,l,data,j⟩,r,i,n,hd⟩:=id c;obtain⟨⟨h,y,data2,x⟩,q,g,d,u⟩:=id a;simp only at i hd g u;subst i hd g u;have e:vs.toArray++z.toArray=(vs++z).toArray:=by simp
 by_cases p:z=[]
 ·show concat_meets #[_,r,rfl] #[_,q,rfl] noFill_tuple_add seq_tuple_add Pb Jk (OH _ _)
   (tuple_addW1 t b vs.toArray z.toArray n d l y j x (by simpa using o)<|by simp[p]) #[r,q,Y p]
 ·refine concat_meets #[_,r,rfl] #[_,q,rfl] noFill_tuple_add seq_tuple_add Pb Jk (OH _ _)
   (tuple_addW2 t b vs.toArray z.toArray n d l y j x (by simpa using o) (by simpa using p) (by rw[oz,oz];show hsz)) #[r,q,?_]
  rw[e];show U p
end
end HT
namespace L2
open PySem PyProof.Rows
section
variable {prog:ma} {w:lY} {A:md} {E:lS->lT->Prop} {s:lT} {o:Array Keyed} {kd:SortKind} {p:Array (Nat×Nat×Nat)} {st:SortSt}
structure Ps(kd:SortKind)(o:Array Keyed)(p:Array (Nat×Nat×Nat))(st:SortSt):Prop where
 perm:(arrOf st).Perm o
 kind:kindOf st=kd
 good:failedOf st=none
 pend:pendingOf st=p
theorem Ps.many(h:Ps kd o p st):(arrOf st).size=o.size:=h.perm.size_eq
theorem Ps.to(h:Ps kd o p st){xs:Array Keyed}(q:xs.Perm (arrOf st)):Ps kd o p (setArr st xs):=#[q.trans h.perm,h.kind,h.good,h.pend]
theorem Ps.mem(h:Ps kd o p st){x:Keyed}(z:x∈arrOf st):x∈o:=h.perm.mem_iff.mp z
theorem Xu{z:Array Keyed}{i:Nat}{Q:Keyed->SortSt->Prop}(y:i<z.size)(q:Q z[i] st):wpS (model prog w) A E s (elem' z i) Q st:=by
 rw[elem'_eq,Gy z i y];show nH q
theorem oE{z:Type}{c:Prop}[Decidable c]{x y:StateT SortSt Sem z}{R:z->SortSt->Prop}(r:c->wpS (model prog w) A E s x R st)(q:¬c->wpS (model prog w) A E s y R st):wpS (model prog w) A E s (if c then x else y) R st:=by
 by_cases u:c
 ·rw[mT u];show r u
 ·rw[mS u];show q u
theorem El{z:Type}{m n:StateT SortSt Sem z}{Q:z->SortSt->Prop}(C:SortSt->Prop)(a:(∀y:SortSt,C y->wpS (model prog w) A E s m Q y)->wpS (model prog w) A E s n Q st)(b:∀y:SortSt,C y->wpS (model prog w) A E s m Q y):wpS (model prog w) A E s n Q st:=a b
theorem Hw{z y:Type}{m:y->StateT SortSt Sem z}{Q:z->SortSt->Prop}{n:StateT SortSt Sem z}(C:y->SortSt->Prop)(a:(∀x u,C x u->wpS (model prog w) A E s (m x) Q u)->wpS (model prog w) A E s n Q st)(b:∀x u,C x u->wpS (model prog w) A E s (m x) Q u):wpS (model prog w) A E s n Q st:=a b
theorem Cp{z y u:Type}{m:y->u->StateT SortSt Sem z}{Q:z->SortSt->Prop}{n:StateT SortSt Sem z}(C:y->u->SortSt->Prop)(a:(∀x r q,C x r q->wpS (model prog w) A E s (m x r) Q q)->wpS (model prog w) A E s n Q st)(b:∀x r q,C x r q->wpS (model prog w) A E s (m x r) Q q):wpS (model prog w) A E s n Q st:=a b
def Rx:Nat->StateT SortSt Sem Unit:=sortPriv% PySem.Builtin.setMinGallop
def Gs(st z:SortSt):Prop:=kindOf z=kindOf st/\arrOf z=arrOf st/\pendingOf z=pendingOf st/\failedOf z=failedOf st
theorem CF{g:Nat}{Q:Unit->SortSt->Prop}{z:SortSt}(h:Gs z st)(q:∀y,Gs z y->Q () y):wpS (model prog w) A E s (Rx g) Q st:=Ad<|q _ #[h.1,h.2.1,h.2.2.1,h.2.2.2]
variable (L:zj prog w A s kd o)
include L
theorem AL{x y:Keyed}{Q:lU Bool->SortSt->Prop}(z:kindOf st=kd)(u:x∈o)(r:y∈o)(q:∀b,Q (some b) st):wpS (model prog w) A E s (lt' x y) Q st:=by
 rw[lt'_eq];refine nj<|uL ?_;rw[z];show nj<|xt<|wpAny_attempt<|L x u y r _ _ λb=>#[rfl,nH<|q b]
theorem Bd{i j:Nat}{Q:lU Bool->SortSt->Prop}(h:Ps kd o p st)(z:i<o.size)(y:j<o.size)(q:∀b,Q (some b) st):wpS (model prog w) A E s (ltAt' i j) Q st:=by
 rw[ltAt'_eq];refine nj<|uL<|nj<|Xu (by rw[h.many];show z)<|nj<|Xu (by rw[h.many];show y) ?_;show AL L h.kind (h.mem<|sO _) (h.mem<|sO _) q
theorem Rg{lo m:Nat}{Q:lU Nat->SortSt->Prop}(h:Ps kd o p st)(g:1<=m)(H:lo+m<=o.size)(q:∀n x,Ps kd o p x->1<=n->n<=m->Q (some n) x):wpS (model prog w) A E s (countRun' lo m) Q st:=by
 have up:∀(a:Nat)(st:SortSt)(R:lU (lU Nat)×Nat->SortSt->Prop),1<=a->a<=m->Ps kd o p st->(∀n,a<=n->n<=m->R (none,n) st)->
   wpS (model prog w) A E s (forIn [a:m] ((none,a):lU (lU Nat)×Nat) λ_ z=>do
    let l <-ltAt' (lo+z.snd) (lo+z.snd-1)
    match l with
    | some smaller=>if smaller=true then pure (ForInStep.done (none,z.snd))else pure (ForInStep.yield (none,z.snd+1))
    | _=>pure<|ForInStep.done (some none,z.snd)) R st:=λa st R g d h q=>by
  refine rQ (I:=λn c x=>x=st/\c=(none,n)) ?_ ?_ #[rfl,rfl]
  ·rintro n c x r j ⟨rfl,rfl⟩;refine nj<|Bd L h (by lia) (by lia) λb=>?_;cases b with
   | true=>show nH (q n r<|by lia)
   | false=>show nH #[rfl,rfl]
  ·rintro c x ⟨rfl,rfl⟩;show q _ (by lia) (by lia)
 rw[countRun'_eq];refine nj<|up 1 st _ (nw _) g h λn Y U=>?_;dsimp only
 by_cases N:n=m
 ·rw[mT (by simpa using N)];show nH<|q n st h Y U
 rw[mS (by simpa using N)];apply El (Ps kd o p)
 case a =>
  intro Zs
  by_cases z:n >1
  ·rw[mT z];refine nj<|Bd L h (by lia) (by lia) λb=>?_;cases b with
   | true=>show nH (q n st h Y U)
   | false=>show nj<|wpS_reverse<|Zs _<|h.to<|mirror_perm _ _ _ _
  ·rw[mS z];show Zs st h
 intro x d;refine nj<|xt<|uF #[rfl,?_];refine nj<|sM (rQ (I:=λi c u=>Ps kd o p u/\∃e,c=(none,i,e)) (Q:=λc u=>Ps kd o p u/\∃i e,c=(none,i,e)/\n+1<=i/\i<=m) ?_ ?_ #[d,0,rfl]) ?_
 ·rintro i c u r j ⟨y,e,rfl⟩;dsimp only;refine nj<|Bd L y (by lia) (by lia) λb=>?_;cases b with
  | true =>
   change wpS _ _ _ _ (if e >0 then _ else _) _ _
   by_cases he:e >0
   ·rw[mT he];show nj<|wpS_reverse<|nH #[y.to<|mirror_perm _ _ _ _,0,rfl]
   ·rw[mS he];show nH #[y,0,rfl]
  | false =>
   refine nj<|Bd L y (by lia) (by lia) λb=>?_;cases b with
   | true=>show nH #[y,i,e,rfl,r,by lia]
   | false=>show nH #[y,e+1,rfl]
 ·rintro c u ⟨y,e,rfl⟩;show#[y,_,e,rfl,by lia,by lia]
 ·rintro c u ⟨y,i,e,rfl,r,j⟩;dsimp only;apply El (Ps kd o p)
  case a =>
   intro Zs
   by_cases he:e >0
   ·rw[mT he];show nj<|wpS_reverse<|Zs _<|y.to<|mirror_perm _ _ _ _
   ·rw[mS he];show Zs u y
  intro z M;refine nj<|wpS_reverse ?_;have l:=M.to<|mirror_perm (arrOf z) lo (lo+i)<|(lo+i-lo) / 2;show nj<|up i _ _ (by lia) j l λk G J=>nH<|q k _ l (by lia) J
theorem Ybd{lo n r:Nat}{Q:Bool->SortSt->Prop}(h:Ps kd o p st)(d:lo+n<=o.size)(q:∀j,Ps kd o p j->Q true j):wpS (model prog w) A E s (binarySort' lo n r) Q st:=by
 rw[binarySort'_eq];refine nj<|sM (rQ (I:=λ_ c j=>c=(none,())/\Ps kd o p j) (Q:=λc j=>c=(none,())/\Ps kd o p j) ?_ (λ_ _ z=>z) #[rfl,h]) ?_
 ·rintro x c j a Y ⟨rfl,g⟩;refine nj<|sM (rQ (I:=λ_ c i=>i=j/\∃l u,c=(none,l,u)/\u<=x) (Q:=λc i=>i=j/\∃l u,c=(none,l,u)/\u<=x) ?_ (λ_ _ z=>z) #[rfl,0,x,rfl,nw _]) ?_
  ·rintro y c i _ _ ⟨rfl,l,u,rfl,e⟩;dsimp only
   by_cases z:l ≥ u
   ·rw[mT z];show nH #[rfl,l,u,rfl,e]
   ·rw[mS z];refine nj<|Bd L g (by lia) (by lia) λb=>?_;cases b with
    | true=>show nH #[rfl,l,(l+u) / 2,rfl,by lia]
    | false=>show nH #[rfl,(l+u) / 2+1,u,rfl,e]
  ·rintro c i ⟨rfl,l,u,rfl,e⟩;change wpS _ _ _ _ (do moveDown' (lo+x) (lo+l);pure (ForInStep.yield (none,()))) _ _;rw[moveDown'_eq];show nj<|Ad<|nH #[rfl,g.to<|bubble_perm _ _ _]
 ·rintro c j ⟨rfl,g⟩;show nH<|q j g
def Yb6:Bool->Keyed->Array Keyed->Nat->Nat->Nat->StateT SortSt Sem (lU Nat):=sortPriv% PySem.Builtin.gallop
def Zzx:Array Keyed->Array Keyed->StateT SortSt Sem (Array Keyed):=sortPriv% PySem.Builtin.mergeLo
def XQ:Array Keyed->Array Keyed->StateT SortSt Sem (Array Keyed):=sortPriv% PySem.Builtin.mergeHi
theorem yD{left:Bool}{key:Keyed}{Y:Array Keyed}{mB n j:Nat}{Q:lU Nat->SortSt->Prop}(J:kindOf st=kd)(H:key∈o)(C:∀x∈Y,x∈o)(hb:mB+n<=Y.size)(B:j<n)(q:∀k,k<=n->Q (some k) st) :
  wpS (model prog w) A E s (Yb6 left key Y mB n j) Q st:=by
 have rW:∀(i:Nat)(R:lU Bool->SortSt->Prop),i<n->(∀b,R (some b) st)->wpS (model prog w) A E s (do
   let x <-elem' Y (mB+i)
   if left=true then lt' x key else do
    let y <-lt' key x
    pure (Option.map (λx=>!x) y)) R st:=λi R hi r=>by
  have U:mB+i<Y.size:=by lia
  refine nj<|Xu U ?_;have D:=C _<|sO U;cases left with
  | true=>show AL L J D H r
  | false=>show nj<|AL L J H D λb=>nH<|r _
 refine nj<|rW j _ B λb=>?_;have on:∀{f:Nat->lU (lU Nat)×Nat×Nat->StateT SortSt Sem (ForInStep<|lU (lU Nat)×Nat×Nat)}{R:lU (lU Nat)×Nat×Nat->SortSt->Prop}(G:Nat->Prop){l u:Nat},G u->
   (∀i l u (d:ForInStep (lU (lU Nat)×Nat×Nat)->SortSt->Prop),G u->(∀l u,G u->d (.done (none,l,u)) st/\d (.yield (none,l,u)) st)->wpS (model prog w) A E s (f i (none,l,u)) d st)->(∀l u,G u->R (none,l,u) st)->wpS (model prog w) A E s (forIn [:n] (none,l,u) f) R st:=λ{f R} G {l u} g hf r =>
  sM (rQ (I:=λ_ c N=>N=st/\∃l u,c=(none,l,u)/\G u) (Q:=λc N=>N=st/\∃l u,c=(none,l,u)/\G u) (λi c N _ _ ⟨e,l,u,M,a⟩=>by subst e M;show hf i l u _ a λl u a=>#[#[rfl,l,u,rfl,a],#[rfl,l,u,rfl,a]]) (λ_ _ z=>z) #[rfl,l,u,rfl,g]) λc N ⟨e,l,u,M,a⟩=>by subst e M;show r l u a
 have go:∀{c:Prop} [Decidable c] {x y:StateT SortSt Sem (ForInStep<|lU (lU Nat)×Nat×Nat)} {R:ForInStep (lU (lU Nat)×Nat×Nat)->SortSt->Prop},(c->wpS (model prog w) A E s x R st)->(¬c->wpS (model prog w) A E s y R st)->wpS (model prog w) A E s (if c then x else y) R st:=λ{c _ x y R} h1 h2=>by
  by_cases z:c
  ·rw[mT z];show h1 z
  ·rw[mS z];show h2 z
 cases b with
 | true =>
  refine nj<|on (λ_=>True) trivial (λi l u d _ r=>go (λ_=>nH (r l u trivial).1) λ(z:¬u ≥ n-j)=>nj<|rW (j+u) _ (by lia) λb=>?_) λl u _=>?_
  ·cases b with
   | true=>show nH (r _ _ trivial).2
   | false=>show nH (r _ _ trivial).1
  ·refine nj<|on (λu=>u<=n) (show j+min u (n-j)<=n by lia) (λi l u d h r=>go (λ_=>nH (r l u h).1) λ(z:¬l ≥ u)=>nj<|rW (l+(u-l) / 2) _ (by lia) λb=>?_) λl u h=>nH<|q u h;cases b with
   | true=>show nH (r _ _ h).2
   | false=>show nH (r _ _ (show l+(u-l) / 2<=n by lia)).2
 | false =>
  refine nj<|on (λ_=>True) trivial (λi l u d _ r=>go (λ_=>nH (r l u trivial).1) λ(z:¬u ≥ j+1)=>nj<|rW (j-u) _ (by lia) λb=>?_) λl u _=>?_
  ·cases b with
   | true=>show nH (r _ _ trivial).1
   | false=>show nH (r _ _ trivial).2
  ·refine nj<|on (λu=>u<=n) (show j-l<=n by lia) (λi l u d h r=>go (λ_=>nH (r l u h).1) λ(z:¬l ≥ u)=>nj<|rW (l+(u-l) / 2) _ (by lia) λb=>?_) λl u h=>nH<|q u h;cases b with
   | true=>show nH (r _ _ h).2
   | false=>show nH (r _ _ (show l+(u-l) / 2<=n by lia)).2
omit L
def Mg(a b:Array Keyed)(out:Array Keyed)(x y:lP Keyed):Prop:=(out.toList++(x++y)).Perm (a.toList++b.toList)
variable {a b out:Array Keyed} {x y z:lP Keyed} {v:Keyed}
omit L in
theorem Mg.one(h:Mg a b out (v ::x) y):Mg a b (out.push v) x y:=by
 unfold Mg at h ⊢;rw[Gv,pp];show h
omit L in
theorem Mg.two(h:Mg a b out x (v ::y)):Mg a b (out.push v) x y:=by
 unfold Mg at h ⊢;rw[Gv,pp];show(Bo _ (List.perm_middle (l₁:=x)).symm).trans h
theorem Mg.ones(h:Mg a b out (z++x) y){t:Array Keyed}(e:t.toList.Perm z):Mg a b (out++t) x y:=by
 unfold Mg at h ⊢;rw[uS,pp,<-pp t.toList];show(((e.append_right x).append_right y).append_left _).trans h
theorem Mg.twos(h:Mg a b out x (z++y)){t:Array Keyed}(e:t.toList.Perm z):Mg a b (out++t) x y:=by
 unfold Mg at h ⊢;rw[uS,pp];refine(Bo _ ?_).trans h;rw[<-pp,<-pp];show((e.append_right x).trans vY).append_right y
theorem Mg.swap(h:Mg a b out x y):(out.toList++(y++x)).Perm (a.toList++b.toList):=(vY.append_left _).trans h
theorem Au{u:Array Keyed}{i:Nat}(h:i<u.size):u.toList.drop i=u[i] ::u.toList.drop (i+1):=by
 rw[wo (by simpa using h)];simp
theorem Pe{u:Array Keyed}{i k:Nat}:u.toList.drop i=(u.extract i<|i+k).toList++u.toList.drop (i+k):=by
 rw[wZ,xA,show i+k-i=k by lia,<-List.drop_drop,wT]
theorem Dy{u:Array Keyed}{i:Nat}:(u.extract i u.size).toList=u.toList.drop i:=by
 rw[wZ,xA,uD<|by simp]
theorem Mg.perm{u r:lP Keyed}(h:Mg a b out x y)(q:u.Perm x)(n:r.Perm y):Mg a b out u r:=((q.append n).append_left _).trans h
theorem zJ{u:Array Keyed}{i:Nat}(r:1<=i)(h:i<=u.size):(u.toList.take i).Perm (u[i-1] ::u.toList.take (i-1)):=by
 have e:u.toList.take i=u.toList.take (i-1)++[u[i-1]]:=by
  have:=ol (l:=u.toList) (i:=i-1);rw[show i-1+1=i by lia,wL,Gy u (i-1)<|by lia]at this;show this
 rw[e];show vY
theorem PU{u:Array Keyed}{i n:Nat}(h:i<=n):(u.toList.take n).Perm ((u.extract i n).reverse.toList++u.toList.take i):=by
 have e:u.toList.take n=u.toList.take i++(u.extract i n).toList:=by
  have:=FQ (l:=u.toList) (i:=i) (j:=n-i);rw[show i+(n-i)=n by lia]at this;rw[this,wZ,xA]
 rw[e,Ij];show vY.trans<|(Da _).symm.append_right _
theorem BH{u:Array Keyed}{i:Nat}:(u.extract 0 i).toList=u.toList.take i:=by
 rw[wZ,xA]
 rfl
section
variable {C D F:Type} {pd:Array Keyed->Nat->Nat->Prop} {fd:Array Keyed->Nat->Nat->D->C} {ls:lP Keyed} {fu:Array Keyed->F->C} {G G1 G2:C->SortSt->Prop}
def tY(st:SortSt)(pd:Array Keyed->Nat->Nat->Prop)(fd:Array Keyed->Nat->Nat->D->C)(c:C)(u:SortSt):Prop:=Gs st u/\∃o i j d,c=fd o i j d/\pd o i j
def wQ(st:SortSt)(ls:lP Keyed)(fu:Array Keyed->F->C)(c:C)(u:SortSt):Prop:=Gs st u/\∃r d,c=fu r d/\r.toList.Perm ls
theorem se(h:∀o i j d u,Gs st u->pd o i j->G (fd o i j d) u)(c:C)(u:SortSt)(z:tY st pd fd c u):G c u:=by
 obtain⟨r,o,i,j,d,rfl,q⟩:=z;show h o i j d u r q
theorem yc(h:∀r d u,Gs st u->r.toList.Perm ls->G (fu r d) u)(c:C)(u:SortSt)(z:wQ st ls fu c u):G c u:=by
 obtain⟨q,r,d,rfl,n⟩:=z;show h r d u q n
theorem Cg(r:∀c u,G1 c u->G c u)(q:∀c u,G2 c u->G c u)(c:C)(u:SortSt)(z:G1 c u\/G2 c u):G c u:=z.elim (r c u)<|q c u
end
def zZ(a b:Array Keyed)(n:Nat)(out:Array Keyed)(i j:Nat):Prop:=Mg a b out (a.toList.drop i) (b.toList.drop j)/\i+1<a.size/\j<b.size/\n<i+j
def Al(a b:Array Keyed)(n:Nat)(out:Array Keyed)(i j:Nat):Prop:=Mg a b out (a.toList.take i) (b.toList.take j)/\1<=i/\i<=a.size/\2<=j/\j<=b.size/\n+i+j<a.size+b.size
include L
theorem ZO{Q:Array Keyed->SortSt->Prop}(hk:kindOf st=kd)(ha:∀x∈a,x∈o)(hb:∀x∈b,x∈o)(a1:1<=a.size)(b1:1<=b.size)(q:∀(r:Array Keyed) e,Gs st e->r.toList.Perm (a.toList++b.toList)->Q r e):wpS (model prog w) A E s (Zzx a b) Q st:=by
 have h:Gs st st:=#[rfl,rfl,rfl,rfl]
 refine nj<|xt<|uF #[rfl,?_];refine nj<|Xu (show 0<b.size by lia) ?_;have m0:Mg a b (List.toArray [b[0]]) (a.toList.drop 0) (b.toList.drop 1):=by
  have:Mg a b #[] (a.toList.drop 0) (b.toList.drop 0):=qd _;rw[Au (show 0<b.size by lia)]at this;show this.two
 have F1:∀{out:Array Keyed}{i j:Nat},Mg a b out (a.toList.drop i) (b.toList.drop j)->(out++a.extract i a.size++b.extract j b.size).toList.Perm (a.toList++b.toList):=λz=>by
  rw[uS,uS,Dy,Dy,pp];show z
 have N4:∀{out:Array Keyed}{i j:Nat},Mg a b out (a.toList.drop i) (b.toList.drop j)->(out++b.extract j b.size++a.extract i a.size).toList.Perm (a.toList++b.toList):=λz=>by
  rw[uS,uS,Dy,Dy,pp];show z.swap
 refine oE (λ_=>nH<|q _ _ h<|F1 m0) λe1=>oE (λ_=>nH<|q _ _ h<|N4 m0) λe2=>?_
 have e1:¬1=b.size:=by simpa using e1
 have e2:¬1=a.size:=by simpa using e2
 refine nj<|uL ?_;refine nj (sM (rQ
  (I:=λk=>tY st (zZ a b k) λo i j d=>(none,o,i,j,d))
  (Q:=wQ st (a.toList++b.toList) λr d=>(some r,d)) ?_ ?_ #[h,_,_,_,_,rfl,m0,by lia,by lia,by lia]) ?_)
 rotate_left
 ·show se λo i j d N M u=>absurd u.2.2.2 (by have:=u.2.1;have:=u.2.2.1;lia)
 ·show yc λr d N M hr=>nH<|q r N M hr
 intro k c e _ k2;revert c e;refine se λout i j d e M u=>?_
 refine nj (sM (rQ
  (I:=λk'=>tY st (zZ a b<|k+k') λo i j d=>(none,o,i,j,d))
  (Q:=λc N=>wQ st (a.toList++b.toList) (λr d=>(some r,d)) c N\/tY st (zZ a b<|k+1) (λo i j d=>(none,o,i,j,d)) c N) ?_ ?_ #[M,_,_,_,_,rfl,u]) ?_)
 ·clear u M;intro k' c Y _ k3;revert c Y;refine se λout i j d Y n u=>?_
  have m:=u.1;have C:=u.2.1;have l:=u.2.2.1;have B:=u.2.2.2;dsimp only;refine nj<|Xu l<|nj<|Xu (show i<a.size by lia)<|nj<|AL L (n.1.trans hk) (hb _<|sO _) (ha _<|sO _) λc=>?_;cases c with
  | true =>
   refine nj<|Xu l ?_;rw[Au l]at m;refine oE (λ_=>nH<|.inl #[n,_,_,rfl,F1 m.two]) λ(z:¬(j+1 ==b.size)=true)=>?_
   have z:¬j+1=b.size:=by simpa using z
   show oE (λ_=>nH<|.inr #[n,_,_,_,_,rfl,m.two,C,by lia,by lia]) λ_=>nH #[n,_,_,_,_,rfl,m.two,C,by lia,by lia]
  | false =>
   refine nj<|Xu (show i<a.size by lia) ?_;rw[Au (show i<a.size by lia)]at m;refine oE (λ_=>nH<|.inl #[n,_,_,rfl,N4 m.one]) λ(z:¬(i+1+1 ==a.size)=true)=>?_
   have z:¬i+1+1=a.size:=by simpa using z
   show oE (λ_=>nH<|.inr #[n,_,_,_,_,rfl,m.one,by lia,l,by lia]) λ_=>nH #[n,_,_,_,_,rfl,m.one,by lia,l,by lia]
 ·show se λo i j d N M u=>.inr #[M,_,_,_,_,rfl,u.1,u.2.1,u.2.2.1,by have:=u.2.2.2;lia]
 clear u M;refine Cg (yc λr d Y n hr=>nH #[n,r,_,rfl,hr])<|se λout i j d Y n u=>?_;refine nj<|xt<|uF #[rfl,?_];refine nj (sM (rQ
  (I:=λk'=>tY st (zZ a b<|k+1) λo i j d=>(none,o,i,j,d))
  (Q:=λc N=>wQ st (a.toList++b.toList) (λr d=>(some r,d)) c N\/tY st (zZ a b<|k+1) (λo i j d=>(none,o,i,j,d)) c N) ?_ (λ_ _=>.inr) #[n,_,_,_,_,rfl,u]) ?_)
 ·clear u n;intro k' c Y _ k3;revert c Y;refine se λout i j d Y n u=>?_
  have m:=u.1;have C:=u.2.1;have l:=u.2.2.1;have B:=u.2.2.2;dsimp only;generalize d.1=g;apply Hw (λ(_:Nat) e=>Gs st e)
  case a =>
   intro Zs;refine oE (λ_=>?_) λ_=>?_
   ·generalize g-1=g';show Zs g' Y n
   ·show Zs g Y n
  intro g st4 h4;refine nj<|CF h4 λA5 J=>?_;refine nj<|Xu l<|nj<|yD L (J.1.trans hk) (hb _<|sO _) ha (by lia) (by lia) λk5 hk5=>?_;dsimp only;have m5:=m;rw[Pe (i:=i) (k:=k5)]at m5;apply Cp (λ(out:Array Keyed) (i:Nat) e=>Gs st e/\Mg a b out (a.toList.drop i) (b.toList.drop j)/\i+1<a.size/\k+1<i+j)
  case a =>
   intro Zs;refine oE (λ_=>oE (λ_=>nH<|.inl #[J,_,_,rfl,N4<|m5.ones<|qd _]) λz1=>oE (λ_=>nH<|.inl #[J,_,_,rfl,F1<|m5.ones<|qd _]) λz2=>?_) λ_=>?_
   ·have z1:¬i+k5+1=a.size:=by simpa using z1
    have z2:¬i+k5=a.size:=by simpa using z2
    have H:i+k5+1<a.size:=by lia
    have G:k+1<i+k5+j:=by lia
    have D:=m5.ones<|qd _;revert H G D;generalize i+k5=i';generalize out++a.extract i i'=U;show λH G D=>Zs U i' A5 #[J,D,H,G]
   ·show Zs out i A5 #[J,m,C,B]
  clear m5 m C B J hk5;intro out i st6 u;have h6:=u.1;have m:=u.2.1;have C:=u.2.2.1;have B:=u.2.2.2;refine nj<|Xu l ?_;rw[Au l]at m;refine oE (λ_=>nH<|.inl #[h6,_,_,rfl,F1 m.two]) λz=>?_
  have z:¬j+1=b.size:=by simpa using z
  refine nj<|Xu (show i<a.size by lia)<|nj<|yD L (h6.1.trans hk) (ha _<|sO _) hb (by lia) (by lia) λk7 hk7=>?_;dsimp only;have m7:=m.two;have m8:=m7;rw[Pe (i:=j+1) (k:=k7)]at m8;apply Cp (λ(out:Array Keyed) (j:Nat) e=>Gs st e/\Mg a b out (a.toList.drop i) (b.toList.drop j)/\j<b.size/\k+1<i+j)
  case a =>
   intro Zs;refine oE (λ_=>oE (λ_=>nH<|.inl #[h6,_,_,rfl,F1<|m8.twos<|qd _]) λz1=>?_) λ_=>?_
   ·have z1:¬j+1+k7=b.size:=by simpa using z1
    have H:j+1+k7<b.size:=by lia
    have G:k+1<i+(j+1+k7):=by lia
    have D:=m8.twos<|qd _;revert H G D;generalize j+1+k7=j';generalize out.push b[j]++b.extract (j+1) j'=U;show λH G D=>Zs U j' st6 #[h6,D,H,G]
   ·show Zs _ _ st6 #[h6,m7,by lia,by lia]
  clear m7 m8 m B h6 hk7 z l;intro out j st7 u;have h7:=u.1;have m:=u.2.1;have l:=u.2.2.1;have B:=u.2.2.2;refine nj<|Xu (show i<a.size by lia) ?_;rw[Au (show i<a.size by lia)]at m;refine oE (λ_=>nH<|.inl #[h7,_,_,rfl,N4 m.one]) λz=>?_
  have z:¬i+1+1=a.size:=by simpa using z
  show oE (λ_=>nH<|.inr #[h7,_,_,_,_,rfl,m.one,by lia,l,by lia]) λ_=>nH #[h7,_,_,_,_,rfl,m.one,by lia,l,by lia]
 show Cg (yc λr d Y n hr=>nH #[n,r,_,rfl,hr])<|se λout i j d Y n u=>nj<|CF n λA5 J=>nH #[J,_,_,_,_,rfl,u]
theorem Yer{Q:Array Keyed->SortSt->Prop}(hk:kindOf st=kd)(ha:∀x∈a,x∈o)(hb:∀x∈b,x∈o)(a1:1<=a.size)(b1:1<=b.size)(q:∀(r:Array Keyed) l,Gs st l->r.toList.Perm (a.toList++b.toList)->Q r l):wpS (model prog w) A E s (XQ a b) Q st:=by
 have h:Gs st st:=#[rfl,rfl,rfl,rfl]
 refine nj<|xt<|uF #[rfl,?_];refine nj<|Xu (show a.size-1<a.size by lia) ?_;have m0:Mg a b (List.toArray [a[a.size-1]]) (a.toList.take<|a.size-1) (b.toList.take b.size):=by
  have:Mg a b #[] (a.toList.take a.size) (b.toList.take b.size):=by
   rw[uD (by simp),uD<|by simp];show qd _
  show(this.perm (zJ a1<|nw _).symm (qd _)).one
 have F1:∀{out:Array Keyed}{i j:Nat},Mg a b out (a.toList.take i) (b.toList.take j)->(a.extract 0 i++b.extract 0 j++out.reverse).toList.Perm (a.toList++b.toList):=λz=>by
  rw[uS,uS,BH,BH,Ij];show(vY.trans<|(Da _).append_right _).trans z
 have N4:∀{out:Array Keyed}{i j:Nat},Mg a b out (a.toList.take i) (b.toList.take j)->(b.extract 0 j++a.extract 0 i++out.reverse).toList.Perm (a.toList++b.toList):=λz=>by
  rw[uS,uS,BH,BH,Ij];show(vY.trans<|(Da _).append_right _).trans z.swap
 refine oE (λ_=>nH<|q _ _ h<|F1 m0) λe1=>oE (λ_=>nH<|q _ _ h<|N4 m0) λe2=>?_
 have e1:¬a.size-1=0:=by simpa using e1
 have e2:¬b.size=1:=by simpa using e2
 refine nj<|uL ?_;refine nj (sM (rQ
  (I:=λk=>tY st (Al a b k) λo i j d=>(none,i,j,o,d))
  (Q:=wQ st (a.toList++b.toList) λr d=>(some r,d)) ?_ ?_ #[h,_,_,_,_,rfl,m0,by lia,by lia,by lia,by lia,by lia]) ?_)
 rotate_left
 ·show se λo i j d U M u=>absurd u.2.2.2.2.2 (by have:=u.2.1;have:=u.2.2.2.1;lia)
 ·show yc λr d U M hr=>nH<|q r U M hr
 intro k c l _ k2;revert c l;refine se λout i j d l M u=>?_
 refine nj (sM (rQ
  (I:=λk'=>tY st (Al a b<|k+k') λo i j d=>(none,i,j,o,d))
  (Q:=λc U=>wQ st (a.toList++b.toList) (λr d=>(some r,d)) c U\/tY st (Al a b<|k+1) (λo i j d=>(none,i,j,o,d)) c U) ?_ ?_ #[M,_,_,_,_,rfl,u]) ?_)
 ·clear u M;intro k' c e _ k3;revert c e;refine se λout i j d e n u=>?_
  have m:=u.1;have J:=u.2.1;have H:=u.2.2.1;have D:=u.2.2.2.1;have N:=u.2.2.2.2.1;have k1:=u.2.2.2.2.2;dsimp only;refine nj<|Xu (show j-1<b.size by lia)<|nj<|Xu (show i-1<a.size by lia)<|nj<|AL L (n.1.trans hk) (hb _<|sO _) (ha _<|sO _) λc=>?_;cases c with
  | true =>
   refine nj<|Xu (show i-1<a.size by lia) ?_;have m:=(m.perm (zJ J H).symm (qd _)).one;refine oE (λ_=>nH<|.inl #[n,_,_,rfl,F1 m]) λz=>?_
   have z:¬i-1=0:=by simpa using z
   show oE (λ_=>nH<|.inr #[n,_,_,_,_,rfl,m,by lia,by lia,D,N,by lia]) λ_=>nH #[n,_,_,_,_,rfl,m,by lia,by lia,D,N,by lia]
  | false =>
   refine nj<|Xu (show j-1<b.size by lia) ?_;have m:=(m.perm (qd _) (zJ (by lia) N).symm).two;refine oE (λ_=>nH<|.inl #[n,_,_,rfl,N4 m]) λz=>?_
   have z:¬j-1=1:=by simpa using z
   show oE (λ_=>nH<|.inr #[n,_,_,_,_,rfl,m,J,H,by lia,by lia,by lia]) λ_=>nH #[n,_,_,_,_,rfl,m,J,H,by lia,by lia,by lia]
 ·show se λo i j d U M u=>.inr #[M,_,_,_,_,rfl,u.1,u.2.1,u.2.2.1,u.2.2.2.1,u.2.2.2.2.1,by have:=u.2.2.2.2.2;lia]
 clear u M;refine Cg (yc λr d e n hr=>nH #[n,r,_,rfl,hr])<|se λout i j d e n u=>?_;refine nj<|xt<|uF #[rfl,?_];refine nj (sM (rQ
  (I:=λk'=>tY st (Al a b<|k+1) λo i j d=>(none,i,j,o,d))
  (Q:=λc U=>wQ st (a.toList++b.toList) (λr d=>(some r,d)) c U\/tY st (Al a b<|k+1) (λo i j d=>(none,i,j,o,d)) c U) ?_ (λ_ _=>.inr) #[n,_,_,_,_,rfl,u]) ?_)
 ·clear u n;intro k' c e _ k3;revert c e;refine se λout i j d e n u=>?_
  have m:=u.1;have J:=u.2.1;have H:=u.2.2.1;have D:=u.2.2.2.1;have N:=u.2.2.2.2.1;have k1:=u.2.2.2.2.2;dsimp only;generalize d.1=g;apply Hw (λ(_:Nat) l=>Gs st l)
  case a =>
   intro Zs;refine oE (λ_=>?_) λ_=>?_
   ·generalize g-1=g';show Zs g' e n
   ·show Zs g e n
  intro g st4 h4;refine nj<|CF h4 λA5 C=>?_;refine nj<|Xu (show j-1<b.size by lia)<|nj<|yD L (C.1.trans hk) (hb _<|sO _) ha (by lia) (by lia) λB hk5=>?_;dsimp only;generalize i-B=ac;have m5:=(m.perm (PU hk5).symm (qd _)).ones (qd _);apply Cp (λ(out:Array Keyed) (i:Nat) l=>Gs st l/\Mg a b out (a.toList.take i) (b.toList.take j)/\1<=i/\i<=a.size/\k+1+i+j<a.size+b.size)
  case a =>
   intro Zs;refine oE (λ_=>oE (λ_=>nH<|.inl #[C,_,_,rfl,F1 m5]) λz1=>?_) λ_=>?_
   ·have z1:¬B=0:=by simpa using z1
    have r1:1<=B:=by lia
    have r2:B<=a.size:=by lia
    have r3:k+1+B+j<a.size+b.size:=by lia
    have r4:=m5;revert r4 r1 r2 r3;generalize out++(a.extract B i).reverse=Y;generalize B=i';show λr1 r2 r3 r4=>Zs Y i' A5 #[C,r4,r1,r2,r3]
   ·show Zs out i A5 #[C,m,J,H,k1]
  clear m5 m J H k1 C hk5;intro out i st6 u;have h6:=u.1;have m:=u.2.1;have J:=u.2.2.1;have H:=u.2.2.2.1;have k1:=u.2.2.2.2;refine nj<|Xu (show j-1<b.size by lia) ?_;have m:=(m.perm (qd _) (zJ (by lia) N).symm).two;refine oE (λ_=>nH<|.inl #[h6,_,_,rfl,N4 m]) λz=>?_
  have z:¬j-1=1:=by simpa using z
  refine nj<|Xu (show i-1<a.size by lia)<|nj<|yD L (h6.1.trans hk) (ha _<|sO _) hb (by lia) (by lia) λG hk7=>?_;dsimp only;generalize j-1-G=bc;have m8:=(m.perm (qd _) (PU hk7).symm).twos (qd _);apply Cp (λ(out:Array Keyed) (j:Nat) l=>Gs st l/\Mg a b out (a.toList.take i) (b.toList.take j)/\2<=j/\j<=b.size/\k+1+i+j<a.size+b.size)
  case a =>
   intro Zs;refine oE (λ_=>oE (λ_=>nH<|.inl #[h6,_,_,rfl,N4 m8]) λz1=>oE (λ_=>nH<|.inl #[h6,_,_,rfl,F1 m8]) λz2=>?_) λ_=>?_
   ·have z1:¬G=1:=by simpa using z1
    have z2:¬G=0:=by simpa using z2
    have r1:2<=G:=by lia
    have r2:G<=b.size:=by lia
    have r3:k+1+i+G<a.size+b.size:=by lia
    have r4:=m8;revert r4 r1 r2 r3;generalize out.push b[j-1]++(b.extract G<|j-1).reverse=Y;generalize G=j';show λr1 r2 r3 r4=>Zs Y j' st6 #[h6,r4,r1,r2,r3]
   ·show Zs _ _ st6 #[h6,m,by lia,by lia,by lia]
  clear m8 m k1 h6 hk7 z D N;intro out j st7 u;have h7:=u.1;have m:=u.2.1;have D:=u.2.2.1;have N:=u.2.2.2.1;have k1:=u.2.2.2.2;refine nj<|Xu (show i-1<a.size by lia) ?_;have m:=(m.perm (zJ J H).symm (qd _)).one;refine oE (λ_=>nH<|.inl #[h7,_,_,rfl,F1 m]) λz=>?_
  have z:¬i-1=0:=by simpa using z
  show oE (λ_=>nH<|.inr #[h7,_,_,_,_,rfl,m,by lia,by lia,D,N,by lia]) λ_=>nH #[h7,_,_,_,_,rfl,m,by lia,by lia,D,N,by lia]
 show Cg (yc λr d e n hr=>nH #[n,r,_,rfl,hr])<|se λout i j d e n u=>nj<|CF n λA5 C=>nH #[C,_,_,_,_,rfl,u]
omit L
theorem Yb5{u:Type}{M:Model}{Q:PUnit->u->Prop}{q r:u}(h:Q ⟨⟩ r):wpS M A E s (set r:StateT u Sem PUnit) Q q:=by
 unfold wpS;rw[StateT.run_set];show nq #[rfl,h]
theorem LK:∀(l:lP Keyed)(off k:Nat)(u:Array Keyed),off+k+l.length<=u.size->((l.zipIdx k).foldl (λa x=>a.setIfInBounds (off+x.2) x.1) u).toList=u.toList.take (off+k)++l++u.toList.drop (off+k+l.length)
 | [],off,k,u,_=>by simp
 | x ::l,off,k,u,h=>by
  rw[pi]at h;rw[List.zipIdx_cons,List.foldl_cons,LK l off (k+1) _ (by rw[Array.size_setIfInBounds];lia),Ox];have r:(u.toList.set (off+k) x).take (off+(k+1))=u.toList.take (off+k)++[x]:=by
   rw[show off+(k+1)=off+k+1 by lia,ol,List.take_set_of_le<|nw _,FK<|by simpa using(by lia:off+k<u.size)]
   rfl
  rw[r,List.drop_set_of_lt (by lia),pi,pp,pp,show off+(k+1)+l.length=off+k+(l.length+1) by lia];simp
theorem XR{u m:Array Keyed}{i j k:Nat}(q:i<=j)(n:j<=k)(d:k<=u.size)(r:m.toList.Perm ((u.extract i j).toList++(u.extract j k).toList)) :
  ((m.toList.zipIdx).foldl (λa x=>a.setIfInBounds (i+x.2) x.1) u).Perm u:=by
 have e:(u.extract i j).toList++(u.extract j k).toList=(u.toList.drop i).take (k-i):=by
  rw[wZ,wZ,xA,xA,show k-i=(j-i)+(k-j) by lia,FQ,List.drop_drop,show i+(j-i)=j by lia]
 rw[e]at r;have l:=r.length_eq;have h:u.toList.length=u.size:=ue;rw[oq,zr,h]at l;rw[Jr,LK m.toList i 0 u<|by lia];have g:u.toList=u.toList.take i++(u.toList.drop i).take (k-i)++u.toList.drop (i+(k-i)):=by
  rw[<-FQ,wT]
 rw[show i+0+m.toList.length=i+(k-i) by lia];show((r.append_left _).append_right _).trans (by rw[Dq,<-g])
def Ch:Nat->lP (Nat×Nat×Nat)->Nat->Prop
 | a,[],b=>a=b
 | a,x ::r,b=>x.1=a/\1<=x.2.1/\Ch (a+x.2.1) r b
theorem Ch.le:∀{l:lP (Nat×Nat×Nat)}{a b:Nat},Ch a l b->a<=b
 | [],_,_,h=>wr h
 | _ ::_,_,_,⟨_,_,h⟩=>oi (Nat.le_add_right _ _) h.le
theorem Ch.snoc{n q:Nat}:∀{l:lP (Nat×Nat×Nat)}{a b:Nat},Ch a l b->1<=n->Ch a (l++[(b,n,q)]) (b+n)
 | [],_,_,h,u=>by cases(h:_=_);show#[rfl,u,rfl]
 | _ ::_,_,_,⟨r,j,h⟩,u=>#[r,j,h.snoc u]
theorem Ch.mod{f:Nat×Nat×Nat->Nat×Nat×Nat}(u:∀x,(f x).1=x.1/\(f x).2.1=x.2.1):∀{l:lP (Nat×Nat×Nat)}{k a b:Nat},Ch a l b->Ch a (l.modify k f) b
 | [],k,_,_,h=>by rw[List.modify_nil];show h
 | x ::r,0,_,_,⟨q,n,h⟩=>by rw[List.modify_zero_cons];show#[(u x).1.trans q,by rw[(u x).2];show n,by rw[(u x).2];show h]
 | x ::r,k+1,_,_,⟨q,n,h⟩=>by rw[List.modify_succ_cons];show#[q,n,h.mod u]
theorem Ch.two{x y:Nat×Nat×Nat}{post:lP (Nat×Nat×Nat)}:∀{pre:lP (Nat×Nat×Nat)}{a b:Nat},Ch a (pre++x ::y ::post) b->x.1+x.2.1=y.1/\1<=x.2.1/\1<=y.2.1/\y.1+y.2.1<=b/\Ch a (pre++(x.1,x.2.1+y.2.1,x.2.2) ::post) b
 | [],a,b,⟨u,r,q,n,h⟩=>#[by rw[u,q],r,n,by rw[q];show h.le,u,by change 1<=x.2.1+y.2.1;lia,by change Ch (a+(x.2.1+y.2.1)) post b;rw[<-Nat.add_assoc];show h]
 | z ::pre,a,b,⟨u,r,h⟩=>by
  obtain⟨q,n,l,j,g⟩:=h.two;show#[q,n,l,j,u,r,g]
include L
theorem Tb{pre post:lP (Nat×Nat×Nat)}{x y:Nat×Nat×Nat}{Q:Bool->SortSt->Prop}(h:Ps kd o p st)(C:p.toList=pre++x ::y ::post)(e:x.1+x.2.1=y.1)(hb:y.1+y.2.1<=o.size)(n1:1<=x.2.1)(n2:1<=y.2.1)
  (q:∀(H:Array (Nat×Nat×Nat)) u,H.toList=pre++(x.1,x.2.1+y.2.1,x.2.2) ::post->Ps kd o H u->Q true u):wpS (model prog w) A E s (mergeAt' pre.length) Q st:=by
 obtain⟨n,l,N⟩:=x;obtain⟨d,c,qw⟩:=y;have g1:(pendingOf st)[pre.length]? =some (n,l,N):=by rw[h.pend,<-wL,C];simp
 have g2:(pendingOf st)[pre.length+1]? =some (d,c,qw):=by rw[h.pend,<-wL,C];simp
 dsimp only at e hb n1 n2 q;have es:=h.many;refine nj<|uL ?_;change wpS _ _ _ _ (match((pendingOf st)[pre.length]?,(pendingOf st)[pre.length+1]?)with
  | (some (n,l,power),some (d,c,snd_))=>_
  | x=>_) _ _
 rw[g1,g2];refine nj<|Yb5 ?_;have H:(((pendingOf st).setIfInBounds pre.length (n,l+c,N)).eraseIdxIfInBounds (pre.length+1)).toList=pre++(n,l+c,N) ::post:=by
  rw[h.pend,Array.toList_eraseIdxIfInBounds,Ox,C,List.set_append_right _ _<|nw _,List.eraseIdx_append_of_length_le<|tw _];simp
 have M:∀x∈arrOf st,x∈o:=λx J=>h.mem J
 have Y:∀u:SortSt,Ps kd o (((pendingOf st).setIfInBounds pre.length (n,l+c,N)).eraseIdxIfInBounds (pre.length+1)) u->Q true u:=λu z=>q _ u H z
 clear q;refine nj<|Xu (show d<(arrOf st).size by lia)<|nj<|yD L h.kind (M _<|sO _) M (show n+l<=(arrOf st).size by lia) (show 0<l by lia) λk hk=>?_;refine oE (λ_=>nH<|Y _ #[h.perm,h.kind,h.good,rfl]) λ(z:¬(l-k ==0)=true)=>?_
 have z:¬l-k=0:=by simpa using z
 refine nj<|Xu (show n+k+(l-k)-1<(arrOf st).size by lia)<|nj<|yD L h.kind (M _<|sO _) M (show d+c<=(arrOf st).size by lia) (show c-1<c by lia) λG hk3=>?_;refine oE (λ_=>nH<|Y _ #[h.perm,h.kind,h.good,rfl]) λ(B:¬(G ==0)=true)=>?_
 have B:¬G=0:=by simpa using B
 have jn:∀(r:Array Keyed)(U u:SortSt),Gs U u->arrOf U=arrOf st->kindOf U=kd->failedOf U=none->pendingOf U=((pendingOf st).setIfInBounds pre.length (n,l+c,N)).eraseIdxIfInBounds (pre.length+1)->r.toList.Perm (((arrOf st).extract (n+k) d).toList++((arrOf st).extract d (d+G)).toList)->
   wpS (model prog w) A E s (do
    modify λs=>setArr s<|r.toList.zipIdx.foldl (λa x=>a.setIfInBounds (n+k+x.2) x.1)<|arrOf s
    let x <-get
    pure (failedOf x).isNone) Q u:=λr U u g b1 b2 b3 b4 I=>by
  refine nj<|Ad<|nj<|uL<|nH ?_;have e3:failedOf u=none:=g.2.2.2.trans b3;have e4:=g.2.1.trans b1;change Q (failedOf u).isNone _;rw[e3];refine Y _ #[?_,g.1.trans b2,e3,g.2.2.1.trans b4];change(r.toList.zipIdx.foldl (λa x=>a.setIfInBounds (n+k+x.2) x.1)<|arrOf u).Perm o;rw[e4];show(XR (by lia) (by lia) (by lia) I).trans h.perm
 have z0:1<=((arrOf st).extract (n+k) d).size:=by rw[Kj];lia
 have z3:1<=((arrOf st).extract d (d+G)).size:=by rw[Kj];lia
 have D:∀{i j:Nat},∀x∈(arrOf st).extract i j,x∈o:=λx J=>M x (by
  rw[<-AD]at J ⊢;rw[wZ,xA]at J;show List.mem_of_mem_drop<|xq J)
 show oE (λ_=>nj<|ZO L h.kind D D z0 z3 λr u g I=>jn r _ u g rfl h.kind h.good rfl I) λ_=>nj<|Yer L h.kind D D z0 z3 λr u g I=>jn r _ u g rfl h.kind h.good rfl I
omit L in
theorem WW{u:Type}{l:lP u}{i:Nat}(h:i+1<l.length):∃pre x y post,l=pre++x ::y ::post/\pre.length=i:=by
 refine#[l.take i,l[i],l[i+1],l.drop<|i+2,?_,by rw[oq];lia];rw[<-wo,<-wo,wT]
theorem Kv{lo i:Nat}{Q:Bool->SortSt->Prop}(h:Ps kd o p st)(c:Ch 0 p.toList lo)(n:lo<=o.size)(j:i+1<p.size)(q:∀(u:Array (Nat×Nat×Nat)) r,Ps kd o u r->Ch 0 u.toList lo->Q true r):wpS (model prog w) A E s (mergeAt' i) Q st:=by
 obtain⟨pre,x,y,post,e,rfl⟩:=WW (l:=p.toList) (i:=i) (by simpa using j);rw[e]at c;obtain⟨g,d,Y,J,U⟩:=c.two;show Tb L h e g (by lia) d Y λu r N M=>q u r M (by rw[N];show U)
theorem SC{Q:Unit->SortSt->Prop}(h:Ps kd o #[] st)(q:∀r,(arrOf r).Perm o->failedOf r=none->Q () r):wpS (model prog w) A E s sortRuns' Q st:=by
 rw[sortRuns'_eq];refine nj<|uL ?_;dsimp only;rw[h.many];generalize minRun' o.size o.size 0=H;refine nj<|sM (rQ (I:=λ_ c r=>∃lo p,c=(none,lo)/\Ps kd o p r/\Ch 0 p.toList lo/\lo<=o.size) (Q:=λc r=>∃lo p,c=(none,lo)/\Ps kd o p r/\Ch 0 p.toList lo/\lo<=o.size) ?_ (λ_ _ z=>z) #[0,#[],rfl,h,rfl,pH _]) ?_
 ·rintro x c r _ _ ⟨lo,p,rfl,d,Y,i⟩;dsimp only;refine oE (λ_=>nH #[lo,p,rfl,d,Y,i]) λz=>?_
  refine nj<|Rg L d (by lia) (by lia) λn U j N G=>?_;dsimp only;apply Hw (λ(n:Nat) r=>Ps kd o p r/\1<=n/\lo+n<=o.size)
  case a =>
   intro Zs;refine oE (λD=>nj<|xt<|uF #[rfl,nj<|Ybd L j (by lia) λg M=>?_]) λ_=>?_
   ·have D:1<=min (o.size-lo) H:=by lia
    have C:lo+min (o.size-lo) H<=o.size:=by lia
    simp only[HJ,ub,rD];revert D C;generalize min (o.size-lo) H=n';show λD C=>Zs n' g #[M,D,C]
   ·show Zs n U #[j,N,by lia]
  clear d j N G;rintro n g ⟨M,N,G⟩;refine nj<|uL ?_;apply El (λr=>∃p,Ps kd o p r/\Ch 0 p.toList lo)
  case a =>
   intro Zs;cases C:(pendingOf g).back? with
   | none=>show Zs g #[p,M,Y]
   | some y =>
    refine nj<|sM (rQ (I:=λ_ c l=>c=(none,())/\∃p,Ps kd o p l/\Ch 0 p.toList lo) (Q:=λc l=>c=(none,())/\∃p,Ps kd o p l/\Ch 0 p.toList lo) ?_ (λ_ _ z=>z) #[rfl,p,M,Y]) ?_
    ·rintro x c l _ _ ⟨rfl,J,u,e⟩;refine nj<|uL ?_
     by_cases D:(pendingOf l).size >1
     ·rw[mT D,Gy (pendingOf l) ((pendingOf l).size-2)<|by lia];refine oE (λ_=>nH #[rfl,J,u,e]) λ_=>nj<|Kv L u e i ?_ λB st6 h6 c6=>nH #[rfl,B,h6,c6]
      rw[<-u.pend];lia
     ·rw[mS D];show nH #[rfl,J,u,e]
    ·rintro c l ⟨rfl,J,u,e⟩;refine nj<|Ad<|Zs _ #[_,#[u.perm,u.kind,u.good,rfl],?_];rw[u.pend,Array.toList_modify];refine Ch.mod (λ_=>?_) e;show#[rfl,rfl]
  rintro l ⟨J,u,e⟩;refine nj<|Ad<|nH #[lo+n,_,rfl,#[u.perm,u.kind,u.good,rfl],?_,G];rw[u.pend,Gv];show e.snoc N
 ·rintro c r ⟨lo,p,rfl,d,Y,i⟩;dsimp only;refine nj<|sM (rQ (I:=λ_ c l=>c=(none,())/\∃p,Ps kd o p l/\Ch 0 p.toList lo) (Q:=λc l=>c=(none,())/\∃p,Ps kd o p l/\Ch 0 p.toList lo) ?_ (λ_ _ z=>z) #[rfl,p,d,Y]) ?_
  ·rintro x c U _ _ ⟨rfl,u,j,n⟩;refine nj<|uL ?_;refine oE (λ_=>nH #[rfl,u,j,n]) λz=>nj<|Kv L j n i ?_ λB st6 h6 c6=>nH #[rfl,B,h6,c6]
   rw[j.pend]at z ⊢;have g:∀b:Bool,(if b=true then u.size-2-1 else u.size-2)+1<u.size:=λb=>by cases b<;>simp<;>lia
   show g _
  ·rintro c U ⟨rfl,u,j,n⟩;show nH<|q U j.perm j.good
end
open PySem.Spec
def Z6.nil_iff{xs:lP V}{us:lP lS}(r:Z6 xs us):us=[]↔xs=[]:=by
 cases r with
 | nil=>simp
 | cons _ _=>simp
section
variable {X:Cx} {pos:Pos}
def Yfu(c:TT)(s:TS):TS:=λD z H=>∃W:Nat->St->Hp->Prop,(∃m,W m z H)/\∀m z H,W m z H->
 c z H λb x=>if b=true then ∃N:St->Hp->Prop,(∀y w,N y w->∃u,u<m/\W u y w)/\s {D with nx:=N,ct:=N,bk:=D.nx} z x else D.nx z x
def Zz1{c:lZ}{body:lP lW}{g:TT}{e:TS}(d:PassesOwn (model X.prog X.w) X.A X.env X.xe)(M:PT X c g)(L:qZ X body e):PS X (.While c body [] pos) (Yfu g e):=by
 intro q s z H D I h;obtain⟨W,⟨J,G⟩,E⟩:=h;refine wpAny_While<|codeAny_whileLoop (λn r=>∃y w,mG X q y w r/\W n y w) ?_ J #[z,H,I,G];rintro n C ⟨x,a,B,A⟩;refine xg d<|mX (M q C x a _ B<|E n x a A) λb s2 ⟨Y,U,u⟩=>?_;cases b with
 | true =>
  obtain⟨N,Q,u⟩:=u;rw[mT rfl];refine xg d<|mX (L q s2 x Y _ U u) λf N r=>?_;cases f with
  | next =>
   obtain⟨y,w,p,o⟩:=r;obtain⟨l,j,i⟩:=Q y w o;show#[l,j,y,w,p,i]
  | cont =>
   obtain⟨y,w,p,o⟩:=r;obtain⟨l,j,i⟩:=Q y w o;show#[l,j,y,w,p,i]
  | brk=>show r
  | ret v=>show r
 | false =>
  rw[mS oH];show Av #[x,Y,U,u]
end
section
variable {X:Cx} {e:lZ} {te:TE} {lo hi:lU lZ} {tl th:TO} {pos p2:Pos}
def Uf(K:lV):R2:=λx y H Q=>∃a b w z,x=.ref a/\y=.ref b/\SqT K H a w/\SqT K H b z/\w≠[]/\w.length+z.length<=sizeLine/\
 (z=[]->Q (.ref a) H)/\(z≠[]->∀p,H p=none->Q (.ref p) (mH H p<|.tup<|w++z))
def Ybs:nV X (binaryOp .Add) (Uf X.K):=by
 intro J s z H x y v u Q I j i h;obtain⟨a,b,g,d,rfl,rfl,c,Y,U,l,N,M⟩:=h;cases j;cases i;obtain⟨r,n,L,_⟩:=I.tuple c;obtain⟨r,p,p2,_⟩:=I.tuple Y;refine HT.cat_tup L p2 (λw=>U<|n.nil_iff.mp w) (λw=>#[.ref a,H,I,rfl,N<|p.nil_iff.mp w]) (λw=>?_) (by rw[<-n.length,<-p.length];show l);refine#[.ref #v[s],_,I.laid (t':=s.toks) (o:=.tup<|g++d) (λb r q=>nO _ q) (nw _) ?_,rfl,M (λr=>w<|p.nil_iff.mpr r) _<|I.hok.fresh<|nw _];show#[by rw[nW];show l,_,n.append p,IsTup.new _ _]
end
section
variable {X:Cx} {a b:lZ} {ta tb:TE} {pos:Pos}
def ZY(K:lV)(T:String)(r:V->lP V->Hp->VK->Prop)(to:TE):TE:=λz H Q=>to z H λx y=>EF K T x y/\r x [] y Q
variable {o e:lZ} {es:lP lZ} {to:TE} {t:TA} {name:lQ} {u0 g9:Pos} {T id:String} {r:V->lP V->Hp->VK->Prop}
def Uv(p:PlainAttrs T)(slot:Slot T name id)(y:typeOf (.builtin id)=pure (.type "method_descriptor"))(n:Aq X id r)(l:PE X o to)
  (j:attributeBase o name X.env (eval o X.env)=eval o X.env:=by rfl) (i:(u0.endLine ==g9.line)=true:=by rfl):PE X (.Call (.Attribute o name u0) [] [] g9) (ZY X.K T r to):=by
 intro w s z H Q I h;refine HP j i<|mX (l w s z H _ I h) λv g ⟨x,d,u,q,c,Y⟩=>?_;obtain⟨U,N⟩:=PQ u q c;show#[T,id,p,slot,y,U,N,yt rfl<|Fq<|n w g z d x [] v [] Q u q .nil Y]
end
section
theorem Z6.zero:∀{us:lP lS},Z6 [] us->us=[]
 | _,.nil=>rfl
end
section
def Z6.dropLast{xs:lP V}{us:lP lS}(h:Z6 xs us):Z6 xs.dropLast us.dropLast:=by
 induction h with
 | nil=>show .nil
 | cons r t z =>
  cases t with
  | nil=>show .nil
  | cons q y=>show .cons r z
end
section
def Zt1{z:Type}(l:lP z):l.eraseIdx (l.length-1)=l.dropLast:=by
 induction l with
 | nil=>rfl
 | cons a r y =>
  cases r with
  | nil=>rfl
  | cons b r =>
   have e:(a ::b ::r).length-1=((b ::r).length-1)+1:=by
    have x:(a ::b ::r).length=r.length+2:=rfl;have w:(b ::r).length=r.length+1:=rfl;lia
   rw[e,DL,y]
   all_goals rfl
end
variable {X:Cx}
def UM:V->lP V->Hp->VK->Prop:=λx w H Q=>∃l z y,x=.ref l/\w=[]/\H l=some (.lst z)/\z[z.length-1]? =some y/\Q y (mH H l<|.lst z.dropLast)
def Yen:BQ X "list.pop" UM:=by
 intro N s z H x M v L Q I i g h;obtain⟨l,w,y,rfl,rfl,j,d,q⟩:=h;cases i;have c:=g.zero;subst c;obtain⟨w,p,n,r,a,e⟩:=I.lstM j;obtain⟨u,Y,U⟩:=r.get d;have o:p.toArray[p.toArray.size-1]? =some u:=by
  change p.toArray[p.length-1]? =some u;rw[<-wL,<-a];show Y
 refine zq Ao #[_,e,rfl] F.entry_list_pop (F.args_list_pop_1 _) (MeetsSeq.list_pop_last l p.toArray n u o<|by rw[oz];lia) #[e,?_];refine#[y,_,I.lset (its':=p.dropLast) j e ?_ r.dropLast ?_,U,q]
 ·change p.toArray.eraseIdxIfInBounds (p.toArray.size-1)=p.dropLast.toArray;rw[oz,Qd,Zt1]
 ·rw[KI];lia
section
variable {prog:ma} {w:lY} {A:md} {E:lS->lT->Prop} {s:lT}
def XV{a b:lQ}{t u:Tok}{Q:Bool->lT->Prop}(h:Q (decide<|a.cps.toList<b.cps.toList) s):wpAny (model prog w) A (oneLt' false (.str a t)<|.str b u) Q E s:=by
 rw[oneLt'_eq];simp only[ub,rD];refine mP<|wpAny_richCompare_same (op:=.Lt) (xj s a t) (xj s b u) slot_str_lt<|call_str_lt #[(λz=>nomatch z),?_];show uP h
end
section
def zp:lS->lR
 | .ref a=>a
 | _=>0
end
section
theorem NA:∀{out:lP lS}{as:lP lR},(∀v∈out,v∈as.map Value.ref)->out=(out.map zp).map Value.ref
 | [],_,_=>rfl
 | v ::out,as,h=>by
  obtain⟨a,_,e⟩:=mV.mp<|h v oM;rw[nS,nS,<-NA λu z=>h u<|pc _ z,<-e]
  rfl
end
section
theorem Ln:∀as:lP lR,Z6 (as.map V.ref) (as.map Value.ref)
 | []=>.nil
 | a ::as=>.cons rfl<|Ln as
end
section
variable {prog:ma} {w:lY} {A:md} {E:lS->lT->Prop} {s:lT}
theorem WJ:∀{vs:lP lS},vs.length<2->(vs.toArray.zip vs.toArray).map (·.2)=vs.toArray
 | [],_=>by simp
 | [_],_=>by simp
 | _ ::_ ::_,h=>absurd h (by simp)
def Ru{a:lR}{vs:lP lS}{n:Nat}{kd:SortKind}{P:Fin->lT->Prop}(q:s.heap.get? a=some (seqObj "list" vs.toArray n))(i:vs.length<=sizeLine)
  (Y:2<=vs.length->∀y:lX,(∀b x,b≠a->s.heap.get? b=some x->y.get? b=some x)->(∀Q:SortKind->lT->Prop,Q kd {s with heap:=y}->wpAny (model prog w) A (keyKind' vs.toArray) Q E {s with heap:=y})/\zj prog w A {s with heap:=y} kd (pairsOf vs))
  (h:∀out:lP lS,out.Perm vs->P (.done<|.ret .none) {s with heap:=sortedHeap s.heap a vs out.toArray}):wpAny (model prog w) A (Builtin.«list.sort» #[[.ref a],[]]) P E s:=by
 rw[list_sort_plain];have C:a<#v[s]:=nI q;refine mP (listItems_at q rfl<|mP<|listUpdate_at q rfl ?_ (hsz:=by simpa using i));obtain⟨g,r⟩:∃g,(s.heap.update a<|Obj.mapSeq λ_=>#[]).get? a=some (seqObj "list" #[] g):=#[_,get?_update_seq q _]
 refine mP<|seqEpoch_at r rfl<|mP<|wpAny_newTuple (hsz:=by simpa using i)<|mP<|wpAny_newList<|qH ?_;generalize d:((s.heap.update a<|Obj.mapSeq λ_=>#[]).push (seqObj "tuple" vs.toArray 0)).push (seqObj "list" #[] 0)=y;have z:∀b x,(s.heap.update a<|Obj.mapSeq λ_=>#[]).get? b=some x->y.get? b=some x:=λb x o=>by
  rw[<-d];show nO _<|nO _ o
 have p:=z _ _ r;have z:∀b x,b≠a->s.heap.get? b=some x->y.get? b=some x:=λb x U o=>z b x (by rw[uf _ _ (pb U)];show o)
 have fin:∀out:lP lS,out.Perm vs->P (.done<|.ret .none) {s with heap:=y.update a (Obj.mapSeq λ_=>out.toArray)}:=λout N=>by
  have:=h out N;unfold sortedHeap at this;rw[d]at this;show this
 change wpAny (model prog w) A _ P E {s with heap:=y};dsimp only
 by_cases u:vs.toArray.size<2
 ·rw[mT u,mT u];refine mP<|nq ?_;rw[StateT.run_pure];refine mP<|nq ?_;dsimp only;refine mP (seqEpoch_at p rfl<|mP<|listUpdate_at p rfl ?_ (hsz2:=by rw[Array.size_map];change(pairsOf vs).size<=_;rw[pairsOf_size];lia));simp only[DI,ub,rD];refine nq ?_;change P _ {s with heap:=y.update a (Obj.mapSeq λ_=>(vs.toArray.zip vs.toArray).map (·.2))};rw[WJ (by simpa using u)];show fin vs<|qd _
 ·rw[mS u,mS u];have l:2<=vs.length:=by
   have:¬vs.length<2:=by simpa using u
   lia
  obtain⟨M,L⟩:=Y l y z;refine mP<|M _ ?_;refine mP<|pT (SC L (st:=SortSt.mk' kd (vs.toArray.zip vs.toArray) #[] 7 none) (Q:=λ_ st=>(arrOf st).Perm (pairsOf vs)/\failedOf st=none) #[Array.Perm.refl _,rfl,rfl,rfl] λst J I=>#[J,I]) ?_ λ_ _ e=>e;rintro⟨⟨⟩,st⟩ B ⟨rfl,c,H⟩;dsimp only;have j:(arrOf st).size=vs.length:=c.size_eq.trans<|pairsOf_size _;refine mP (seqEpoch_at p rfl<|mP<|listUpdate_at p rfl ?_ (hsz2:=by rw[Array.size_map,j];lia));rw[H];simp only[DI,ub,rD];refine nq ?_;have G:(arrOf st).toList.Perm (vs.zip vs):=by rw[<-pairsOf_toList];show Jr.mp c
  have D:(arrOf st).map (·.2)=((arrOf st).toList.map (·.2)).toArray:=by rw[<-Array.toList_map,Array.toArray_toList]
  change P _ {s with heap:=y.update a (Obj.mapSeq λ_=>(arrOf st).map (·.2))};rw[D];show fin _ ((G.map _).trans (by rw[List.map_snd_zip (nw _)]))
def vn(h:lX)(v:lS):Prop:=∃(a:lR)(z:Obj)(x:lS)(u:lP lS)(n:Nat),v=.ref a/\h.get? a=some z/\z.cls=.type "tuple"/\z.data=.seq (x ::u).toArray n/\∀y∈x ::u,∃p t,y=Value.str p t
theorem PL{b fin:Bool}{Q:Bool->lT->Prop}(q:∀b,Q b s):∀(l:lP (lS×lS)) (i:Nat),(∀p∈l,(∃x t,p.1=Value.str x t)/\∃x t,p.2=Value.str x t)->PySem.W.KatLex prog w A b fin Q l i s
 | [],_,_=>PySem.W.kat_nil (q _)
 | (u,v) ::l,i,h=>by
  obtain⟨⟨x,t,rfl⟩,y,z,rfl⟩:=h _ oM;refine EA<|Dr<|HS (λ_=>GH<|PL q l (i+1) λp z=>h p<|pc _ z) λ_=>Gn ?_;cases b && i ==0 with
  | true=>show oneLt_str (q _)
  | false=>show XV<|q _
def Zzb{vs:lP lS}(h:∀v∈vs,vn s.heap v):zj prog w A s (tuples' true) (pairsOf vs):=λx z y o U Q q=>by
 have mem:∀x∈pairsOf vs,vn s.heap x.1:=λx z=>by
  rw[<-AD,pairsOf_toList]at z;show h _ (tz z).1
 obtain⟨a,p,u,N,n,l,j,M,i,g⟩:=mem x z;obtain⟨b,u,v,vs,m,e,d,p,c,Y⟩:=mem y o;rw[l,e];refine PySem.W.kat_lt j i d c<|PL q _ 0 λp r=>?_;show#[g _ (by simpa using(tz r).1),Y _<|by simpa using(tz r).2]
def Sl{vs:lP lS}{Q:SortKind->lT->Prop}(h:∀v∈vs,vn s.heap v)(o:2<=vs.length)(q:Q (tuples' true) s):wpAny (model prog w) A (keyKind' vs.toArray) Q E s:=by
 have all:∀l:lP lS,(∀v∈l,vn s.heap v)->∃fs,PySem.W.KatTups s.heap l fs/\fs.length=l.length/\∀f∈fs,∃p t,f=Value.str p t:=by
  intro l
  induction l with
  | nil=>show λ_=>#[[],Lc,rfl,λ_ z=>nomatch z]
  | cons v l j =>
   intro h;obtain⟨fs,y,o,x⟩:=j λv r=>h v<|pc _ r
   obtain⟨a,c,u,Y,n,rfl,i,g,e,d⟩:=h v oM;refine#[u ::fs,Pz i g e rfl y,by rw[pi,pi,o],λf z=>?_];rcases nQ.mp z with rfl|z
   ·show d _ oM
   ·show x f z
 obtain⟨fs,y,e,x⟩:=all vs h;refine PySem.W.kat_kind (T:=.type "str") y (by lia) (λv r=>?_) (by lk) q;obtain⟨p,t,rfl⟩:=x v r;show .now
end
section
def GY{z y:Type}{R:z->y->Prop}{as u:lP z}(p:u.Perm as):∀{bs:lP y},Paired R as bs->∃s,s.Perm bs/\Paired R u s:=by
 induction p with
 | nil=>show λh=>#[_,qd _,h]
 | cons x _ w =>
  rintro _ (_|⟨r,t⟩);obtain⟨s,p,q⟩:=w t;show#[_,p.cons _,.cons r q]
 | swap x w l =>
  rintro _ (_|⟨r,_|⟨q,t⟩⟩);show#[_,.swap _ _ _,.cons q<|.cons r t]
 | trans _ _ w q =>
  intro bs h;obtain⟨g,o,n⟩:=q h;obtain⟨l,j,i⟩:=w n;show#[l,j.trans o,i]
end
section
variable {prog:ma} {w:lY} {A:md} {E:lS->lT->Prop} {s:lT}
def uK{z:Type}[DecidableEq z](lt:z->z->Bool):lP z->lP z->Bool
 | [],[]=>false
 | [],_ ::_=>true
 | _ ::_,[]=>false
 | a ::x,b ::y=>if a=b then uK lt x y else lt a b
def wO(a b:lQ):Bool:=decide<|a.cps.toList<b.cps.toList
theorem HX:∀{z:lP lQ}{vs:lP lS},ItemsAre (PySem.strKind prog w) z vs->StrsAre vs z
 | _,_,.nil=>.nil
 | _,_,.cons h t=>by
  obtain⟨u,rfl⟩:=Value.isStrOf_shape h;show .cons _ _<|HX t
def Zn6{x y:lP lQ}{a b:lR}{P:Fin->lT->Prop}(B:IsTupleKey (PySem.strKind prog w) s.heap x a)(C:IsTupleKey (PySem.strKind prog w) s.heap y b)(h:P (.done<|.ret<|.bool<|uK wO x y) s) :
  wpAny (model prog w) A (Builtin.«tuple.__lt__» #[[.ref a,.ref b],[]]) P E s:=by
 have M:=C.typeIs;obtain⟨z,c,u,L,_,J,n⟩:=B;obtain⟨z,Y,u,E2,_,R6,l⟩:=C;change wpAny _ _ (isInstance (.ref b) (.type "tuple")>>=_) _ _ s;refine mP<|wpAny_isInstance M isSubtype_tuple_tuple ?_;simp only[HJ,ub,rD];refine mP<|wpAny_tupleItemsOf L J<|mP<|wpAny_tupleItemsOf E2 R6<|mP ?_;have n:=HX n;have l:=HX l;refine wpAny_forIn_list _ (λZs r i=>r.1=none/\i=s/\∃U Q p e,Zs=List.zip p e/\StrsAre p U/\StrsAre e Q/\uK wO U Q=uK wO x y/\decide (p.length<e.length)=decide (c.size<Y.size)) _ ?_ ?_ _ _ #[rfl,rfl,x,y,c.toList,Y.toList,rfl,n,l,rfl,by simp]
 ·rintro⟨u,v⟩ Zs r i ⟨I,rfl,U,Q,p,e,g,j,o,q,H⟩;cases j with
  | nil=>simp at g
  | cons G t1 u =>
   cases o with
   | nil=>simp at g
   | cons D t2 d =>
    simp only[List.zip_cons_cons,yZ,yQ]at g;obtain⟨⟨rfl,rfl⟩,rfl⟩:=g;refine mP<|Dr ?_
    by_cases N:G=D
    ·rw[nM N];simp only[HJ,ub,rD];refine nq #[rfl,rfl,_,_,_,_,rfl,u,d,?_,by simpa using H];rw[<-q];show(mT N).symm
    ·rw[og N];simp only[Bool.not_false,tI];have hf:wO G D=uK wO x y:=by rw[<-q];show(mS N).symm
     refine mP<|uF<|mP<|wpAny_richCompare_same (op:=.Lt) (xj i G t1) (xj i D t2) slot_str_lt<|call_str_lt #[(λz=>nomatch z),?_];rw[<-hf]at h;show mP<|nq<|nq<|nq h
 ·rintro⟨u,d⟩ i ⟨I,rfl,U,Q,p,e,g,j,o,q,H⟩;simp only at I;subst I;refine nq ?_;have z:decide (c.size<Y.size)=uK wO x y:=by
   rw[<-q,<-H];cases j with
   | nil =>
    cases o with
    | nil=>simp[uK]
    | cons _ _ _=>simp[uK]
   | cons _ _ _ =>
    cases o with
    | nil=>simp[uK]
    | cons _ _ _=>simp at g
  change P (.done<|.ret<|.bool<|decide<|c.size<Y.size) i;rw[z];show h
def Zx1{x y:lP lQ}{a b:lR}{Q:Bool->lT->Prop}(r:A.units<cLine)(z:IsTupleKey (PySem.strKind prog w) s.heap x a)(u:IsTupleKey (PySem.strKind prog w) s.heap y b)(h:Q (uK wO x y) s):wpAny (model prog w) A (oneLt' false (.ref a)<|.ref b) Q E s:=by
 rw[oneLt'_eq];simp only[ub,rD];show mP<|wpAny_richCompare_same_room (op:=.Lt) z.typeIs u.typeIs Ko (BK Ko z.typeIs PySem.F.entry_tuple_lt (Zn6 z u #[_,rfl,(λe=>nomatch e),uP h])<|PySem.F.args_tuple_lt_2 _ _) r
end
section
def PD(K:lV):R2:=λx y H Q=>∃a b z w,x=.ref a/\y=.ref b/\SqT K H a z/\SqT K H b w/\z≠[]/\w≠[]/\z.length+w.length<=sizeLine/\pK H (.tup<|z++w) Q
end
section
def No{X:Cx}:nV X (binaryOp .Add) (PD X.K):=Ybs.imp λx y H Q ⟨a,b,w,u,s,r,q,o,n,l,j,i⟩=>#[a,b,w,u,s,r,q,o,n,j,λz=>absurd z l,λ_ p h=>i.at p h]
end
section
variable {prog:ma} {w:lY} {A:md} {E:lS->lT->Prop} {s:lT}
def vt(prog:ma)(w:lY)(h:lX)(v:lS):Prop:=∃(a:lR)(z:Obj)(p:lQ)(t:Tok)(x:lP lS)(n:Nat),v=.ref a/\h.get? a=some z/\z.cls=.type "tuple"/\z.data=.seq (.str p t ::x).toArray n/\∀y∈x,∃b u,y=Value.ref b/\IsTupleKey (PySem.strKind prog w) h u b
def vt.mono{h h':lX}{v:lS}(k:∀b z,z.cls=.type "tuple"->h.get? b=some z->h'.get? b=some z)(x:vt prog w h v):vt prog w h' v:=by
 obtain⟨a,z,p,t,q,n,e,f,c,d,r⟩:=x;refine#[a,z,p,t,q,n,e,k a z c f,c,d,λy l=>?_];obtain⟨b,j,i,o,g,m,Y,u,U⟩:=r y l;show#[b,j,i,o,g,m,k b o u Y,u,U]
theorem Mw{fin:Bool}{Q:Bool->lT->Prop}(y:A.units<cLine)(q:∀b,Q b s):∀(l:lP (lS×lS)) (i:Nat),(∀p∈l,(∃b z,p.1=Value.ref b/\IsTupleKey (PySem.strKind prog w) s.heap z b)/\∃b z,p.2=Value.ref b/\IsTupleKey (PySem.strKind prog w) s.heap z b)->PySem.W.KatLex prog w A true fin Q l (i+1) s
 | [],_,_=>PySem.W.kat_nil (q _)
 | (u,v) ::l,i,h=>by
  obtain⟨⟨b,z,x,o⟩,c,j,r,n⟩:=h _ oM;have x:u=.ref b:=x;have r:v=.ref c:=r;subst x r;show EA (wpAny_eqBool_tuple y o n (HS (λ_=>GH<|Mw y q l (i+1) λp j=>h p<|pc _ j) λ_=>Gn (show wpAny _ _ (oneLt' false (.ref b)<|.ref c) _ _ _ from Zx1 y o n<|q _)))
theorem Pi:∀{z:lP lQ}{vs:lP lS},StrsAre vs z->ItemsAre (PySem.strKind prog w) z vs
 | _,_,.nil=>.nil
 | _,_,.cons x t h=>.cons (by simp[PySem.strKind,Value.isStrOf])<|Pi h
def XO{vs:lP lS}(o:A.units<cLine)(h:∀v∈vs,vt prog w s.heap v):zj prog w A s (tuples' true) (pairsOf vs):=λx u y l J j q=>by
 have mem:∀x∈pairsOf vs,vt prog w s.heap x.1:=λx u=>by
  rw[<-AD,pairsOf_toList]at u;show h _ (tz u).1
 obtain⟨a,z,p,t,i,n,g,e,r,d,c⟩:=mem x u;obtain⟨b,z,Y,U,vs,m,Q,N,r,M,L⟩:=mem y l;rw[g,Q];refine PySem.W.kat_lt e d N M ?_;change PySem.W.KatLex prog w A true _ j ((.str p t,.str Y U) ::i.zip vs) 0 s;show EA<|Dr<|HS (λ_=>GH<|Mw o q _ 0 λz r=>#[c _ (tz r).1,L _ (tz r).2]) λ_=>Gn<|oneLt_str<|q _
def ZV{vs:lP lS}{Q:SortKind->lT->Prop}(h:∀v∈vs,vt prog w s.heap v)(r:2<=vs.length)(q:Q (tuples' true) s):wpAny (model prog w) A (keyKind' vs.toArray) Q E s:=by
 have all:∀l:lP lS,(∀v∈l,vt prog w s.heap v)->∃fs,PySem.W.KatTups s.heap l fs/\fs.length=l.length/\∀f∈fs,∃p t,f=Value.str p t:=by
  intro l
  induction l with
  | nil=>show λ_=>#[[],Lc,rfl,λ_ z=>nomatch z]
  | cons v l o =>
   intro h;obtain⟨fs,y,r,x⟩:=o λv u=>h v<|pc _ u
   obtain⟨a,e,p,t,d,n,rfl,j,i,g,c⟩:=h v oM;refine#[.str p t ::fs,Pz j i g rfl y,by rw[pi,pi,r],λf z=>?_];rcases nQ.mp z with rfl|z
   ·show#[p,t,rfl]
   ·show x f z
 obtain⟨fs,y,e,x⟩:=all vs h;refine PySem.W.kat_kind (T:=.type "str") y (by lia) (λv u=>?_) (by lk) q;obtain⟨p,t,rfl⟩:=x v u;show .now
end
section
def Oj{X:Cx}(hu:X.A.units+64<cLine){d:lP (lR×Obj)}{s:lT}{z:St}{H:Hp}{Q:VK}{p:lR}{ts:lP lR}(I:mG X d z H s)(pl:PlainL s.heap p (ts.map Value.ref).toArray)(u:(ts.map Value.ref).length<=sizeLine){Pv:lX->lS->Prop}(M:∀v∈ts.map Value.ref,Pv s.heap v)
  (B:∀{h h':lX}{v:lS},(∀b r,r.cls=.type "tuple"->h.get? b=some r->h'.get? b=some r)->Pv h v->Pv h' v)
  (pk:∀{A:md}{E:lS->lT->Prop}{s:lT}{vs:lP lS}{Q:SortKind->lT->Prop},(∀v∈vs,Pv s.heap v)->2<=vs.length->Q (tuples' true) s->wpAny (model X.prog X.w) A (keyKind' vs.toArray) Q E s)
  (pa:∀{A:md}{s:lT}{vs:lP lS},A.units<cLine->(∀v∈vs,Pv s.heap v)->zj X.prog X.w A s (tuples' true) (pairsOf vs))
  (q:∀L:lP lR,L.Perm ts->pK H (.lst<|L.map V.ref) Q):∅ (call (.builtin "sorted") [.ref p]) (EP X d z Q) X.xe s:=by
 refine Eh kind_sorted plain_sorted entry_sorted (args_sorted1 _) ?_;unfold Builtin.«sorted»;refine mP (m:=checkCount "sorted" 1 1 _)<|nq<|mP<|collect_list pl.isList (hsz:=u)<|mP<|wpAny_newList (hsz:=u) ?_;generalize hV:ts.map Value.ref=vs at M u pl ⊢;have Y:((s.heap.push<|seqObj "list" #[] 0).update #v[s] (Obj.mapSeq (· ++vs.toArray))).objs.size=#v[s]+1:=by rw[Heap.size_update,size_push']
 have U:(((s.heap.push<|seqObj "list" #[] 0).update #v[s] (Obj.mapSeq (· ++vs.toArray))).push (seqObj "list" vs.toArray 0)).get? (#v[s]+1)=some (seqObj "list" vs.toArray 0):=by
  rw[<-Y];show oK _ rfl
 have J:∀b o,s.heap.get? b=some o->(((s.heap.push<|seqObj "list" #[] 0).update #v[s] (Obj.mapSeq (· ++vs.toArray))).push (seqObj "list" vs.toArray 0)).get? b=some o:=λb o j=>by
  have lt:=nI j;rw[Heap.get?_push_ne _ _ _ (by rw[Y];show nR<|Ei lt),uf _ _<|wX lt];show nO _ j
 change wpAny _ _ _ _ _ {s with heap:=((s.heap.push<|seqObj "list" #[] 0).update #v[s] (Obj.mapSeq (· ++vs.toArray))).push (seqObj "list" vs.toArray 0)};rw[Y];have fin:∀out:lP lS,out.Perm vs->∃y G,mG X d z G {s with heap:=sortedAll s.heap vs out.toArray}/\Yj y (.ref<|#v[s]+1)/\Q y G:=λout i=>by
  subst hV;have D:out=(out.map zp).map Value.ref:=NA λv N=>i.mem_iff.mp N
  have w:(out.map zp).Perm ts:=by
   have:=i.map zp;rw[oO,show(zp ∘ Value.ref)=id from rfl,Fu]at this;show this
  generalize C:out.map zp=n at D w;subst D;obtain⟨e,he⟩:=sortedAll_at s.heap (ts.map Value.ref) (n.map Value.ref).toArray;have hl:=w.length_eq;rw[mI]at u;show#[.ref<|#v[s]+1,_,I.laid (a:=#v[s]+1) (o:=.lst<|n.map V.ref) (t':=s.toks) (λb o h=>sortedAll_old h) (tw _) (show Yc X.prog X.w _ _ _ (.lst _)from#[by rw[mI];lia,n.map Value.ref,e,Ln _,he]),rfl,(q n w).at _ (I.hok.fresh<|tw _)]
 unfold sortedAll at fin;generalize hG:((s.heap.push<|seqObj "list" #[] 0).update #v[s] (Obj.mapSeq (· ++vs.toArray))).push (seqObj "list" vs.toArray 0)=g at U J fin ⊢;have so:∀(A:md)(E:lS->lT->Prop)(P:Fin->lT->Prop),A.units<cLine->(∀out:lP lS,out.Perm vs->P (.done<|.ret .none) {s with heap:=sortedHeap g (#v[s]+1) vs out.toArray})->wpAny (model X.prog X.w) A (Builtin.«list.sort» #[[.ref (#v[s]+1)],[]]) P E {s with heap:=g}:=λA E P C h =>
  have mono:∀l:lX,(∀b r,b≠#v[s]+1->g.get? b=some r->l.get? b=some r)->∀v∈vs,Pv l v:=λl k v N=>B (λb r c j=>k b r (λx=>by
   have:=nI j;rw[x]at this;show absurd this<|Nat.not_lt.mpr<|tw _)<|J b r j) (M v N)
  Ru (s:={s with heap:=g}) (kd:=tuples' true) U u (λx l k=>#[λQ q=>pk (s:={s with heap:=l}) (mono l k) x q,pa (s:={s with heap:=l}) C<|mono l k]) h
 show mP<|qH<|BK slot_list_sort #[_,U,rfl] entry_list_sort (so _ _ _ (by simp only[Wu];lia) λout i=>#[_,rfl,nq #[_,rfl,fin out i]])<|args_list_sort _
end
section
def NV(K:lV):lP V->Hp->VK->Prop:=λw H Q=>∃(p:lR)(z:lP lR),w=[.ref p]/\SqL K H p (z.map V.ref)/\(∀t∈z,∃(sig:lQ)(y:lP lR),H t=some (.tup<|.str sig ::y.map V.ref)/\∀u∈y,∃l:lP lQ,H u=some (.tup<|l.map V.str))/\∀x:lP lR,x.Perm z->pK H (.lst<|x.map V.ref) Q
end
section
def Sd{X:Cx}(g:X.A.units+64<cLine):Xd X (.builtin "sorted") (NV X.K):=by
 intro c7 s z H xs n Q I r h;obtain⟨p,j,rfl,e,d,q⟩:=h;obtain⟨u,rfl,c⟩:=qg r;cases c;obtain⟨a,Y,U,i⟩:=I.list e;have w:=wJ Y;subst w;have o:(j.map Value.ref).length<=sizeLine:=by rw[mI]at i ⊢;show i
 have N:∀v∈j.map Value.ref,vt X.prog X.w s.heap v:=λv M=>by
  obtain⟨t,L,rfl⟩:=mV.mp M;obtain⟨sig,n,J,G⟩:=d t L;obtain⟨_,a,E,D,C,B,m,A⟩:=(show Yc X.prog X.w H s.heap t (.tup<|.str sig ::n.map V.ref)from I.hok _ _ J)
  cases E with
  | cons y zs =>
   obtain⟨tk,rfl⟩:=y;have w:=wJ zs;subst w;refine#[t,D,sig,tk,_,m,rfl,C,B,A,λx hy=>?_];obtain⟨u,p,rfl⟩:=mV.mp hy;obtain⟨l,hl⟩:=G u p;obtain⟨_,ws,C8,o3,g1,g2,m3,g3⟩:=(show Yc X.prog X.w H s.heap u (.tup<|l.map V.str)from I.hok _ _ hl)
   show#[u,l,rfl,o3,ws.toArray,m3,g1,g2,g3,by simpa using Pi (Bv C8)]
 show Oj g I U o N vt.mono ZV XO q
end
section
def vn.up{h h':lX}{v:lS}(k:∀b z,z.cls=.type "tuple"->h.get? b=some z->h'.get? b=some z)(x:vn h v):vn h' v:=let⟨b,z,y,w,m,e,f,c,d,r⟩:=x;#[b,z,y,w,m,e,k b z c f,c,d,r]
end
section
def Zyr{w:lP lQ}{vs:lP lS}(h:StrsAre vs w):∀y∈vs,∃p t,y=Value.str p t:=by
 induction h with
 | nil=>intro y z;cases z
 | cons x t _ u =>
  intro y z;rcases nQ.mp z with rfl|z
  ·show#[_,_,rfl]
  ·show u y z
end
section
def Hy(K:lV):lP V->Hp->VK->Prop:=λw H Q=>∃(p:lR)(z:lP lR),w=[.ref p]/\SqL K H p (z.map V.ref)/\(∀t∈z,∃(x:lQ)(l:lP lQ),H t=some (.tup<|(x ::l).map V.str))/\∀y:lP lR,y.Perm z->pK H (.lst<|y.map V.ref) Q
end
section
def KG{X:Cx}(i:X.A.units+64<cLine):Xd X (.builtin "sorted") (Hy X.K):=by
 intro A s z H xs us Q I r h;obtain⟨p,n,rfl,g,e,q⟩:=h;obtain⟨u,rfl,d⟩:=qg r;cases d;obtain⟨c,a,Y,j⟩:=I.list g;have U:=wJ a;subst U;have o:(n.map Value.ref).length<=sizeLine:=by rw[mI]at j ⊢;show j
 have N:∀v∈n.map Value.ref,vn s.heap v:=λv M=>by
  obtain⟨t,L,rfl⟩:=mV.mp M;obtain⟨x,l,J⟩:=e t L;obtain⟨_,c,G,E,D,C,m,B⟩:=(show Yc X.prog X.w H s.heap t (.tup<|(x ::l).map V.str)from I.hok _ _ J)
  cases G with
  | cons y p =>
   obtain⟨tk,rfl⟩:=y;refine#[t,E,_,_,m,rfl,D,C,B,λw u=>?_];rcases nQ.mp u with rfl|u
   ·show#[_,_,rfl]
   ·show Zyr (Bv p) w u
 show Oj i I Y o N vn.up Sl (λ_=>Zzb) q
end
end L2
section
namespace L2
open PySem PySem.Spec PyProof.Rows
def Ou(K:lV):R2:=λx y H Q=>∃a w z,x=.ref a/\y=.str z/\SqT K H a w/\Q (.bl false) H
def Yc2{X:Cx}(j:X.A.units+64<cLine):nV X (compareOp .Eq) (Ou X.K):=by
 intro i s z H x y v u Q I r p h;obtain⟨a,g,w,rfl,rfl,o,q⟩:=h;cases r;obtain⟨t,rfl⟩:=(show ∃t,u=Value.str w t from p)
 obtain⟨n,g,l,_⟩:=I.tuple o;show SeqAt.RcAt.tuple_str w t (show s.heap.IsTuple a n.toArray from l) (by lia) _ _ _ _ #[.bl false,H,I,rfl,q]
def Jx(K:lV):R2:=λx y H Q=>za K x y H Q\/Ou K x y H Q
def YB{X:Cx}{k:Nat}(z:Y6 k X.A):nV X (compareOp .Eq) (Jx X.K):=(BF z).or (Yc2 z.units)
def qC{X:Cx}{K:lV}{a b:lZ}{z y:TE}{pos:Pos}(x:X.K=K)(w:PE X a z)(u:PE X b y)(s:FE b:=by show λ_ _=>rfl):PE X (.Subscript a b pos) (qU (zh K) z y):=by subst x;show OU LC w u s
def mM{n:Nat}(h:n<=1000:=by simp):n<=sizeLine:=sz h
end L2
namespace L2
def oG{z:Sort u}{p R:z->Prop}{w:z}(h:p w)(k:R w):∃x,p x/\R x:=#[w,h,k]
def wm{z:Sort u}{y:Sort v}{p R:z->y->Prop}{q:z->y->Prop}{w:z}{s:y}(h:p w s)(g:q w s)(k:R w s):∃x r,p x r/\q x r/\R x r:=#[w,s,h,g,k]
end L2
def ny:=@L2.Paired.mapP
def pF:=@L2.PW.pt
def mO:=@L2.SqL.of
def mQ:=@L2.SqT.of
def qy:=@L2.Xz.k
def pL:=@L2.mz.refl
def pA:=@L2.Wl.set
def pQ:=@L2.WS.of
def su:=@L2.WE.of
def mJ:=@L2.WSs.step
def mK:=@L2.WSs.last
def pU:=@L2.WSs.cut
def uw:=@L2.Im.tup
def tP:=@L2.Im.lst
def oQ:=@L2.Paired.get
def pJ:=@L2.Paired.append
def pr:=@L2.mz.new
def Cv:=@L2.mz.thaw
namespace K65
open PySem L2 NM
def nk(i:Nat):lW:=PySem.Challenge.pw_yardkeep_k62_ways_set.main.body.getD i<|.Pass #[0,0,0,0]
abbrev ZK:lW:=Z8 (nk 7) 0
abbrev Zkd:lW:=Z8 (nk 8) 0
abbrev Rc:lW:=Z8 (nk 9) 0
abbrev Zwl:lW:=nk 16
abbrev Zkn:lW:=Z8 (nk 17) 0
abbrev Zru:lW:=Z8 (nk 17) 1
abbrev Zsj:lW:=Z8 (nk 17) 2
abbrev XY:lW:=Z8 (nk 17) 3
abbrev Wi:lW:=Z8 (nk 17) 4
def Go:Zx ["self","end","lie","one","two"] ["self","end","lie"] (Zk Wi):={}
abbrev Ti:lW:=Z8 (nk 17) 5
abbrev Sb:lW:=Z8 (nk 19) 0
abbrev Va:lW:=Z8 (nk 19) 1
abbrev SL:lW:=Z8 (nk 21) 0
abbrev RI:lW:=Z8 (nk 21) 1
abbrev Vb:lW:=Z8 (nk 21) 2
abbrev Sv:lW:=Z8 (nk 21) 3
abbrev Zqr:lW:=Z8 (nk 22) 0
abbrev ZI:lW:=Z8 (nk 22) 1
abbrev VY:lW:=Z8 (nk 22) 2
abbrev WI:lW:=nk 26
abbrev SN:lW:=nk 27
abbrev Mf:lW:=nk 28
def MA:uM ["name","known"] Mf:={}
abbrev LN:lW:=nk 29
def EY:Zx ["parts","part_of","part"] ["parts"] (Zk LN):={}
abbrev Pp:lW:=nk 30
def Wb:Zx ["part_of","part_at","name","part","end"] ["part_of"] (Zk Pp):={}
abbrev ND:lW:=nk 31
def LL:Zx ["join","part_at","joined","end"] ["join","part_at","joined"] (Zk ND):={}
abbrev OQ:lW:=nk 32
def Ik:Zx ["joins","part_at","joined","join"] ["joins","part_at"] (Zk OQ):={}
abbrev Vp:lW:=nk 33
abbrev Ku:lW:=nk 34
def AU:Zx ["signals","part_at","post_of","signal","name","end"] ["signals","part_at"] (Zk Ku):={}
abbrev Y4:lW:=Z8 (nk 35) 0
def EK:Zx ["self","parts","joins","signals","asked_signals","part_at"] ["self","parts","joins","signals"] (Zk Y4):={}
abbrev Zl4:lW:=Z8 (nk 35) 1
abbrev VR:lW:=Z8 (nk 35) 2
abbrev RB:lW:=Z8 (nk 35) 3
abbrev Zgw:lW:=Z8 (nk 35) 4
abbrev Zi1:lW:=Z8 (nk 35) 5
abbrev TB:lW:=Z8 (nk 35) 6
abbrev Zt9:lW:=nk 36
abbrev Sn:lW:=nk 37
abbrev Zkw:lW:=nk 38
abbrev IK:lW:=nk 41
def Qo:uM ["tracks","gate"] IK:={}
abbrev PH:lW:=nk 42
def Jz:uM ["long"] PH:={}
abbrev Uj:lW:=nk 43
abbrev Vi:lW:=Z8 (nk 46) 0
abbrev JI:lW:=nk 49
def zA:Zx ["tracks","end","name","entry","part","steps"] ["tracks","end"] (Zk JI):={}
abbrev XJ:lW:=nk 50
abbrev SV:lW:=nk 51
abbrev SY:lW:=nk 53
abbrev Lv:lW:=nk 54
def Ix:Zx ["paths","part","train","path"] ["paths","part"] (Zk Lv):={}
abbrev Lf:lW:=nk 55
def Iy:Zx ["paths","steps","ahead","part"] ["paths","steps"] (Zk Lf):={}
abbrev Cn:lW:=nk 56
def Pu:Zx ["paths","train","steps","told"] ["paths","train","steps"] (Zk Cn):={}
abbrev Qh:lW:=nk 59
def DZ:Zx ["tracks","begun","post","last","passed"] ["tracks","begun"] (Zk Qh):={}
abbrev Jp:lW:=nk 60
def W1:Zx ["tracks","signal","found","begun","ahead","step"] ["tracks","signal"] (Zk Jp):={}
abbrev OR:lW:=nk 61
def Gg:Zx ["tracks","thing","place"] ["tracks","thing"] (Zk OR):={}
abbrev VD:lW:=nk 62
abbrev X1:lW:=nk 64
def Um:uM ["part"] X1:={}
abbrev Xr:lW:=nk 65
def ZD:uM ["part"] Xr:={}
abbrev Yz:lW:=nk 66
def Rj:uM ["part"] Yz:={}
abbrev X0:lW:=nk 67
def Jn:Zx ["part","lie","stiff"] ["part","lie"] (Zk X0):={}
abbrev NG:lW:=nk 68
def Ht:Zx ["route","rules","step"] ["route"] (Zk NG):={}
abbrev Ml:lW:=nk 69
def Fj:Zx ["rules","ground","rule","told"] ["rules","ground"] (Zk Ml):={}
abbrev IG:lW:=nk 71
def Jf:Zx ["lies","route","told"] ["lies","route"] (Zk IG):={}
abbrev JY:lW:=nk 73
def Ii:uM ["told"] JY:={}
abbrev Zih:lW:=Z8 (nk 74) 0
abbrev Mi:lW:=Z8 (nk 74) 1
def MG:uM ["self","train"] Mi:={}
abbrev QW:lW:=Z8 (nk 74) 2
abbrev PK:lW:=Z8 (nk 74) 3
def PB:uM ["self","train","length","gate","seen"] PK:={}
abbrev Ni:lW:=Z8 (nk 74) 4
def Ww:Zx ["self","train","route","seen","path"] ["self","train","route","seen"] (Zk Ni):={}
abbrev YR:lW:=Z8 (nk 74) 6
abbrev Mo:lW:=Z8 (nk 74) 12
def Kd:uM ["self","train"] Mo:={}
abbrev Zms:lW:=Z8 (nk 74) 13
abbrev Zn5:lW:=Z8 (nk 74) 14
abbrev Zmu:lW:=Z8 (nk 74) 15
abbrev Uu:lW:=Z8 (nk 74) 16
abbrev Zkv:lW:=Z8 (nk 74) 17
abbrev MV:lW:=nk 76
def JF:Zx ["_law_cell","_law_k","_law_left"] ["_law_cell","_law_k"] (Zk MV):={}
abbrev Znh:lW:=nk 77
abbrev XU:lW:=nk 78
abbrev QS:lW:=nk 79
abbrev KQ:lW:=nk 80
def GG:Zx ["_law_kind","_law_cell","_law_k","_law_letters","_law_signs"] ["_law_kind","_law_cell","_law_k"] (Zk KQ):={}
abbrev QD:lW:=nk 81
def Z1:Zx ["_law_cell","_law_names","_law_one","_law_two","_law_three","_law_four","_law_way","_law_ends_here","_law_far","_law_joins","_law_parts","_law_turn","_law_aside","_law_rest"] ["_law_cell","_law_names"] (Zk QD):={}
abbrev Nc:lW:=nk 82
def Yy:Zx ["_law_cells_here","_law_parts","_law_joins","_law_end","_law_k","_law_cell","_law_names","_law_j","_law_block_here"] ["_law_cells_here"] (Zk Nc):={}
abbrev OJ:lW:=nk 83
def BL:Zx ["_law_parts","_law_joins","_law_rest","_law_cell","_law_j","_law_end","_law_name"] ["_law_parts","_law_joins","_law_rest","_law_cell"] (Zk OJ):={}
abbrev IN:lW:=nk 84
def Yp:Zx ["_law_cells_here","_law_parts","_law_joins","_law_rest","_law_k","_law_cell","_law_kind","_law_ends_here","_law_name","_law_fresh","_law_near","_law_other"] ["_law_cells_here"] (Zk IN):={}
abbrev Jt:lW:=nk 85
def Yb:Zx ["_law_parts","_law_cell","_law_letters","_law_ends_here","_law_kind","_law_name","_law_end","_law_found","_law_k","_law_draw","_law_signs"] ["_law_parts","_law_cell"] (Zk Jt):={}
abbrev Om:lW:=nk 86
def Xn:Zx ["_law_cells_here","_law_cell","_law_found","_law_parts","_law_joins","_law_at"] ["_law_cells_here","_law_cell"] (Zk Om):={}
abbrev ZQ:lW:=nk 87
abbrev YD:lW:=nk 88
abbrev PJ:lW:=nk 89
def Xt:Zx ["_law_doing","e","_law_kinds","_law_words","_law_word"] ["_law_doing"] (Zk PJ):={}
abbrev QI:lW:=nk 90
def JU:Zx ["_law_keeper","_law_told"] ["_law_keeper"] (Zk QI):={}
abbrev NR:lW:=nk 91
def Yo:Zx ["_law_yard","_law_cells_here","_law_tracks_here","_law_gates","_law_kind","_law_one","_law_points","_law_k","_law_came","_law_turn","_law_cell","_law_gate","_law_keeper","_law_name"] ["_law_yard","_law_cells_here"] (Zk NR):={}
abbrev LB:lW:=nk 92
def yb:Zx ["_law_keeper","_law_tracks_here","_law_name","_law_cell","_law_seen","_law_step","_law_signal","_law_ways","_law_way"] ["_law_keeper","_law_tracks_here","_law_name","_law_cell","_law_seen"] (Zk LB):={}
abbrev Jo:lW:=nk 93
def Wn:Zx ["_law_keeper","_law_way","_law_seen","_law_held","_law_name","_law_step"] ["_law_keeper","_law_way","_law_seen"] (Zk Jo):={}
abbrev Ly:lW:=nk 94
def Xk:Zx ["_law_keeper","_law_tracks_here","_law_name","_law_cell","_law_path","_law_signals","_law_signal","_law_ways","_law_way"] ["_law_keeper","_law_tracks_here","_law_name","_law_cell"] (Zk Ly):={}
abbrev Qf:lW:=nk 95
def Xh:Zx ["_law_keeper","_law_tracks_here","_law_cell","_law_seen","_law_names","_law_ahead","_law_lies","_law_end","_law_due","_law_state_here","_law_step","_law_name","_law_way"] ["_law_keeper","_law_tracks_here","_law_cell","_law_seen"] (Zk Qf):={}
abbrev vz:lW:=nk 96
def uB:Zx ["_law_script","_law_yard","_law_k","_law_begun_here","_law_keeper","_law_held","_law_cell","_law_seen","_law_j","_law_one"] ["_law_script"] (Zk vz):={}
set_option genInjectivity false in
set_option genSizeOf false in
structure Tx(K:Frag)(mg:Str->Option Value) where
 aL:Dn K "__init__" "Held.__init__" ZK ["self","part"]
 bd:Dn K "__init__" "Seen.__init__" Zkd ["self","part"]
 bq:Dn K "__init__" "Stiff.__init__" Rc ["self","part"]
 gi:DG K mg "is_name" Zwl ["thing"]
 ao:Dn K "__init__" "Part.__init__" Zkn ["self","name"]
 cz:Dn K "ends" "Part.ends" Zru ["self"]
 aM:Dn K "lies" "Part.lies" Zsj ["self"]
 cj:Dn K "pairs" "Part.pairs" XY ["self","lie"]
 aS:yn K "leads" "Part.leads" Wi ["self","end","lie"] (.str "")
 aT:Dn K "bears" "Part.bears" Ti ["self"]
 cA:Dn K "ends" "Stop.ends" Sb ["self"]
 ck:Dn K "pairs" "Stop.pairs" Va ["self","lie"]
 cL:Dn K "ends" "Points.ends" SL ["self"]
 cM:Dn K "lies" "Points.lies" RI ["self"]
 cE:Dn K "pairs" "Points.pairs" Vb ["self","lie"]
 cF:Dn K "bears" "Points.bears" Sv ["self"]
 cS:Dn K "ends" "Cross.ends" Zqr ["self"]
 cN:Dn K "pairs" "Cross.pairs" ZI ["self","lie"]
 cO:Dn K "bears" "Cross.bears" VY ["self"]
 gj:DG K mg "is_pair" WI ["thing"]
 fw:DG K mg "is_known" SN ["end","ends"]
 aJ:DG K mg "refuse_name" Mf ["name","known"]
 dm:DG K mg "parts_by_name" LN ["parts"]
 dq:DG K mg "ends_to_parts" Pp ["part_of"]
 dN:DG K mg "refuse_join" ND ["join","part_at","joined"]
 dO:DG K mg "joined_ends" OQ ["joins","part_at"]
 dP:DG K mg "refuse_post" Vp ["end","part_at","ends_with_signals"]
 fz:DG K mg "posts_of" Ku ["signals","part_at"]
 bM:yn K "__init__" "Tracks.__init__" Y4 ["self","parts","joins","signals"] .non
 bQ:Dn K "names" "Tracks.names" Zl4 ["self"]
 br:Dn K "named" "Tracks.named" VR ["self","name"]
 bf:Dn K "beyond" "Tracks.beyond" RB ["self","end"]
 ar:Dn K "signal_at" "Tracks.signal_at" Zgw ["self","end"]
 aZ:Dn K "signals" "Tracks.signals" Zi1 ["self"]
 aY:Dn K "end_of" "Tracks.end_of" TB ["self","signal"]
 fA:DG K mg "gates_of" Zt9 ["tracks"]
 eU:DG K mg "points_of" Sn ["tracks"]
 du:DG K mg "lies_at_first" Zkw ["tracks"]
 aK:DG K mg "refuse_gate" IK ["tracks","gate"]
 aD:DG K mg "refuse_length" PH ["long"]
 dw:DG K mg "refuse_points" Uj ["tracks","points"]
 bN:Dn K "__init__" "Ground.__init__" Vi ["self","lie_of","stiff_ones","path_of","told"]
 em:DG K mg "steps_into" JI ["tracks","end"]
 er:DG K mg "end_behind" XJ ["step"]
 eu:DG K mg "ends_there" SV ["tracks","step"]
 fE:DG K mg "parts_of" SY ["steps"]
 gR:DG K mg "holder" Lv ["paths","part"]
 bJ:DG K mg "refuse_held" Lf ["paths","steps"]
 cq:DG K mg "longer" Cn ["paths","train","steps"]
 fF:DG K mg "steps_on" Qh ["tracks","begun"]
 dQ:DG K mg "routes_from" Jp ["tracks","signal"]
 fG:DG K mg "is_route" OR ["tracks","thing"]
 gk:DG K mg "lies_of" VD ["route"]
 dA:DG K mg "rule_held" X1 ["part"]
 de:DG K mg "rule_taken" Xr ["part"]
 df:DG K mg "rule_stiff" Yz ["part"]
 dB:DG K mg "rule_lies" X0 ["part","lie"]
 fH:DG K mg "rules_of" NG ["route"]
 gm:DG K mg "against" Ml ["rules","ground"]
 iw:DG K mg "laid" IG ["lies","route"]
 ag:DG K mg "refuse_against" JY ["told"]
 bO:Dn K "__init__" "Keeper.__init__" Zih ["self","tracks"]
 aj:Dn K "refuse_no_train" "Keeper.refuse_no_train" Mi ["self","train"]
 bg:Dn K "ground" "Keeper.ground" QW ["self","seen"]
 aF:Dn K "come" "Keeper.come" PK ["self","train","length","gate","seen"]
 aE:Dn K "set_way" "Keeper.set_way" Ni ["self","train","route","seen"]
 cp:Dn K "stiffen" "Keeper.stiffen" YR ["self","points"]
 ap:Dn K "path" "Keeper.path" Mo ["self","train"]
 aW:Dn K "paths" "Keeper.paths" Zms ["self"]
 aU:Dn K "lies" "Keeper.lies" Zn5 ["self"]
 bR:Dn K "stiff" "Keeper.stiff" Zmu ["self"]
 cw:Dn K "length" "Keeper.length" Uu ["self","train"]
 aw:Dn K "trains" "Keeper.trains" Zkv ["self"]
 ak:DG K mg "_law_mixed" MV ["_law_cell","_law_k"]
 ax:DG K mg "_law_cell_at" Znh ["_law_script","_law_k"]
 ez:DG K mg "_law_cells" XU ["_law_script","_law_at","_law_end"]
 eV:DG K mg "_law_ends" QS ["_law_kind"]
 dC:DG K mg "_law_name_by" KQ ["_law_kind","_law_cell","_law_k"]
 eF:DG K mg "_law_block" QD ["_law_cell","_law_names"]
 eW:DG K mg "_law_line" Nc ["_law_cells_here"]
 dR:DG K mg "_law_closed" OJ ["_law_parts","_law_joins","_law_rest","_law_cell"]
 eG:DG K mg "_law_drawn" IN ["_law_cells_here"]
 cW:DG K mg "_law_signals_by" Jt ["_law_parts","_law_cell"]
 dD:DG K mg "_law_yard_by" Om ["_law_cells_here","_law_cell"]
 eZ:DG K mg "_law_part" ZQ ["_law_kind","_law_name"]
 dS:DG K mg "_law_tracks" YD ["_law_yard"]
 aq:DG K mg "_law_caught" PJ ["_law_doing"]
 eI:DG K mg "_law_state" QI ["_law_keeper"]
 dh:DG K mg "_law_begun" NR ["_law_yard","_law_cells_here"]
 ef:DG K mg "_law_led" LB ["_law_keeper","_law_tracks_here","_law_name","_law_cell","_law_seen"]
 dE:DG K mg "_law_against" Jo ["_law_keeper","_law_way","_law_seen"]
 dU:DG K mg "_law_way_by" Ly ["_law_keeper","_law_tracks_here","_law_name","_law_cell"]
 ei:DG K mg "_law_set" Qf ["_law_keeper","_law_tracks_here","_law_cell","_law_seen"]
 {cT:Addr}
 jY:mg "Part"=some (.ref cT)
 gw:pO K cT
 hW:mU K cT "name"
 jS:Mk K cT ao.f
 gS:Xa K cT "ends" cz.f
 gT:Xa K cT "lies" aM.f
 gx:Xa K cT "pairs" cj.f
 gy:Xa K cT "bears" aT.f
 gz:Xa K cT "leads" aS.f
 {bS:Addr}
 iZ:mg "Plain"=some (.ref bS)
 eJ:pO K bS
 ff:mU K bS "name"
 iL:Mk K bS ao.f
 gA:Xa K bS "ends" cz.f
 gB:Xa K bS "lies" aM.f
 fX:Xa K bS "pairs" cj.f
 fY:Xa K bS "bears" aT.f
 fZ:Xa K bS "leads" aS.f
 {bz:Addr}
 iX:mg "Stop"=some (.ref bz)
 fJ:pO K bz
 fK:mU K bz "name"
 ja:Mk K bz ao.f
 gU:Xa K bz "ends" cA.f
 gV:Xa K bz "lies" aM.f
 gC:Xa K bz "pairs" ck.f
 gD:Xa K bz "bears" aT.f
 gE:Xa K bz "leads" aS.f
 {bA:Addr}
 iY:mg "Gate"=some (.ref bA)
 fL:pO K bA
 fM:mU K bA "name"
 jb:Mk K bA ao.f
 gW:Xa K bA "ends" cA.f
 gX:Xa K bA "lies" aM.f
 gF:Xa K bA "pairs" ck.f
 gG:Xa K bA "bears" aT.f
 gH:Xa K bA "leads" aS.f
 {aH:Addr}
 il:mg "Points"=some (.ref aH)
 dF:pO K aH
 eK:mU K aH "name"
 ix:Mk K aH ao.f
 gc:Xa K aH "ends" cL.f
 ge:Xa K aH "lies" cM.f
 fN:Xa K aH "pairs" cE.f
 fO:Xa K aH "bears" cF.f
 fP:Xa K aH "leads" aS.f
 {bT:Addr}
 jc:mg "Cross"=some (.ref bT)
 eL:pO K bT
 fg:mU K bT "name"
 iM:Mk K bT ao.f
 gI:Xa K bT "ends" cS.f
 gJ:Xa K bT "lies" aM.f
 gf:Xa K bT "pairs" cN.f
 gg:Xa K bT "bears" cO.f
 gh:Xa K bT "leads" aS.f
 {aV:Addr}
 iN:mg "Tracks"=some (.ref aV)
 am:pO K aV
 bF:mU K aV "part_of"
 cG:mU K aV "joined"
 bH:mU K aV "post_of"
 bP:mU K aV "signal_on"
 iy:Mk K aV bM.f
 dG:Xa K aV "names" bQ.f
 cU:Xa K aV "named" br.f
 cQ:Xa K aV "beyond" bf.f
 aQ:Xa K aV "signal_at" ar.f
 cJ:Xa K aV "signals" aZ.f
 cx:Xa K aV "end_of" aY.f
 {cP:Addr}
 iO:mg "Ground"=some (.ref cP)
 dH:pO K cP
 dI:mU K cP "lie_of"
 cV:mU K cP "stiff_ones"
 dz:mU K cP "path_of"
 eM:mU K cP "told"
 iz:Mk K cP bN.f
 {aO:Addr}
 iP:mg "Keeper"=some (.ref aO)
 ae:pO K aO
 aG:mU K aO "tracks"
 bU:mU K aO "lie_of"
 bu:mU K aO "stiff_ones"
 cH:mU K aO "length_of"
 ay:mU K aO "path_of"
 iA:Mk K aO bO.f
 bn:Xa K aO "refuse_no_train" aj.f
 cR:Xa K aO "ground" bg.f
 dW:Xa K aO "come" aF.f
 cK:Xa K aO "set_way" aE.f
 eR:Xa K aO "stiffen" cp.f
 bo:Xa K aO "path" ap.f
 bV:Xa K aO "paths" aW.f
 bK:Xa K aO "lies" aU.f
 dJ:Xa K aO "stiff" bR.f
 ft:Xa K aO "length" cw.f
 aN:Xa K aO "trains" aw.f
 {au:Addr}
 hZ:mg "YardError"=some (.ref au)
 {az:Addr}
 iC:mg "BadName"=some (.ref az)
 {bv:Addr}
 iQ:mg "BadEnd"=some (.ref bv)
 {bt:Addr}
 iD:mg "TooMany"=some (.ref bt)
 {aB:Addr}
 iE:mg "NoTrain"=some (.ref aB)
 {aI:Addr}
 iR:mg "BadWay"=some (.ref aI)
 {cI:Addr}
 iS:mg "NoTurn"=some (.ref cI)
 {aX:Addr}
 gY:mg "Held"=some (.ref aX)
 {bh:Addr}
 iF:mg "Seen"=some (.ref bh)
 {aR:Addr}
 iG:mg "Stiff"=some (.ref aR)
 ba:mg "len"=none
 di:mg "range"=none
 af:mg "isinstance"=none
 ej:mg "list"=none
 ek:mg "dict"=none
 eN:mg "tuple"=none
 fh:mg "str"=none
 cD:mg "enumerate"=none
 jv:mg "max"=none
 jw:mg "min"=none
 jx:mg "sum"=none
 cY:mg "sorted"=none
 jy:mg "all"=none
 fQ:mg "bool"=none
 fi:mg "int"=none
 fR:mg "repr"=none
 gK:mg "ValueError"=none
 jd:mg "reversed"=none
 jP:kitOne K (.type "tuple") (.type "tuple")=some true
 jT:kitOne K (.type "str") (.type "str")=some true
 lM:kitOne K (.type "NoneType") (.type "str")=some false
 jZ:kitOne K (.type "int") (.type "int")=some true
 ke:kitOne K (.type "int") (.type "bool")=some false
 kg:kitOne K (.type "bool") (.type "int")=some true
 kh:kitOne K (.type "bool") (.type "bool")=some true
 ki:kitOne K (.type "NoneType") (.type "int")=some false
 kl:kitOne K (.type "str") (.type "int")=some false
 lN:kitOne K (.type "int") (.type "str")=some false
 jz:kB K cT bz false
 je:kB K bS bz false
 jC:kB K bz bz true
 jD:kB K bA bz true
 iT:kB K aH bz false
 jf:kB K bT bz false
 jE:kB K cT bA false
 jg:kB K bS bA false
 jF:kB K bz bA false
 jG:kB K bA bA true
 iU:kB K aH bA false
 jh:kB K bT bA false
 jH:kB K cT aH false
 ji:kB K bS aH false
 jI:kB K bz aH false
 jJ:kB K bA aH false
 iV:kB K aH aH true
 jj:kB K bT aH false
 kn:kB K az az true
 kq:kB K az bv false
 kr:kB K az bt false
 kt:kB K az aB false
 ku:kB K az aI false
 ky:kB K az cI false
 kz:kB K az aX false
 kE:kB K az bh false
 kG:kB K az aR false
 jK:kB K aB az false
 iK:kB K aB bv false
 jk:kB K aB bt false
 iH:kB K aB aB true
 io:kB K aB aI false
 jU:kB K aB cI false
 jt:kB K aB aX false
 jV:kB K aB bh false
 jL:kB K aB aR false
 jQ:kB K aI az false
 jW:kB K aI bv false
 jX:kB K aI bt false
 kH:kB K aI aB false
 kI:kB K aI aI true
 kJ:kB K aI cI false
 kK:kB K aI aX false
 kL:kB K aI bh false
 kM:kB K aI aR false
 kN:kB K bh az false
 kO:kB K bh bv false
 kP:kB K bh bt false
 kQ:kB K bh aB false
 kR:kB K bh aI false
 kS:kB K bh cI false
 kT:kB K bh aX false
 kU:kB K bh bh true
 kW:kB K bh aR false
 kX:kB K aX az false
 kY:kB K aX bv false
 kZ:kB K aX bt false
 lh:kB K aX aB false
 li:kB K aX aI false
 lq:kB K aX cI false
 lu:kB K aX aX true
 lv:kB K aX bh false
 ly:kB K aX aR false
 lz:kB K aR az false
 lB:kB K aR bv false
 lC:kB K aR bt false
 lD:kB K aR aB false
 lE:kB K aR aI false
 lF:kB K aR cI false
 jR:kB K aR aX false
 lG:kB K aR bh false
 lH:kB K aR aR true
 c0:PySem.W.kitCls K (.ref az) (.ref au)=some true
 c1:PySem.W.kitCls K (.ref aB) (.ref au)=some true
 c2:PySem.W.kitCls K (.ref aI) (.ref au)=some true
 c3:PySem.W.kitCls K (.ref bh) (.ref au)=some true
 c4:PySem.W.kitCls K (.ref aX) (.ref au)=some true
 c5:PySem.W.kitCls K (.ref aR) (.ref au)=some true
 v0:kitOne K (.ref az) (.type "ValueError")=some true
 v1:kitOne K (.ref aB) (.type "ValueError")=some true
 v2:kitOne K (.ref aI) (.type "ValueError")=some true
 v3:kitOne K (.ref bh) (.type "ValueError")=some true
 v4:kitOne K (.ref aX) (.type "ValueError")=some true
 v5:kitOne K (.ref aR) (.type "ValueError")=some true
 lI:kitOne K (.ref au) (.type "BaseException")=some true
 lJ:kitOne K (.type "str") (.type "tuple")=some false
 lK:kitOne K (.type "NoneType") (.type "tuple")=some false
 lL:kitOne K (.type "int") (.type "tuple")=some false
 kf:kitOne K (.type "list") (.type "tuple")=some false
 bW:OE K mg "YardError" au
 gn:OE K mg "BadName" az
 gZ:OE K mg "BadEnd" bv
 cZ:OE K mg "TooMany" bt
 ip:OE K mg "NoTrain" aB
 fS:OE K mg "BadWay" aI
 jM:OE K mg "NoTurn" cI
 dL:XI K aX au aL.f "part"
 jp:XG K aX
 eS:XI K bh au bd.f "part"
 jq:XG K bh
 eO:XI K aR au bq.f "part"
 iW:XG K aR
 gq:∃tk,mg "LETTERS"=some (.str "abcdefghijklmnopqrstuvwxyz" tk)
 iq:∃tk,mg "FIGURES"=some (.str "0123456789" tk)
 ir:XG K az
 jN:XG K bv
 ju:XG K bt
 iu:XG K aB
 iI:XG K aI
 jO:XG K cI
 fT:∃tk,mg "LONGEST_NAME"=some (.int 6 tk)
 gL:∃tk,mg "MOST_PARTS"=some (.int 40 tk)
 fU:∃tk,mg "MOST_SIGNALS"=some (.int 40 tk)
 bI:∃tk,mg "LONGEST_TRAIN"=some (.int 4 tk)
 gM:∃tk,mg "MOST_STEPS"=some (.int 12 tk)
 {dM:Addr}
 hU:mg "NO_END"=some (.ref dM)
 iJ:∀H:Hp,SqT K H dM ([.str "",.str ""]:List V)
 tG:PySem.W.specialIn K (.builtin "object.__class__") "__get__"=some (some<|.builtin "getset_descriptor.__get__")
 tK:PySem.W.takesIn K (.builtin "object.__class__")=some true
 ib:cB K cT
 ic:PySem.W.mroIn K cT (.type "object")=some true
 gN:cB K bS
 gO:PySem.W.mroIn K bS (.type "object")=some true
 ig:cB K bz
 ii:PySem.W.mroIn K bz (.type "object")=some true
 ij:cB K bA
 ik:PySem.W.mroIn K bA (.type "object")=some true
 fV:cB K aH
 fW:PySem.W.mroIn K aH (.type "object")=some true
 gP:cB K bT
 gQ:PySem.W.mroIn K bT (.type "object")=some true
 lO:(Value.ref aX ==Value.ref au)=false
 {bX:Addr}
 eP:uU K dA.fd bX
 {bw:Addr}
 dX:uU K de.fd bw
 {bi:Addr}
 dY:uU K df.fd bi
 {bY:Addr}
 eQ:uU K dB.fd bY
 {bx:Addr}
 dZ:uU K dh.fd bx
 {cy:Addr}
 fk:uU K ef.fd cy
 {ci:Addr}
 fm:uU K ei.fd ci
section
variable {P:ma} {w:lY} {K:lV} {mg:lQ->lU lS} {mB:lX} (T:Tx K mg)
seal PySem.wpAny
structure qQ(T:Tx K mg)(H:Hp):Prop where
 rule_held:H T.bX=some (.tbl<|sQ (tR<|oY X1)<|~~~"rule_held")
 rule_taken:H T.bw=some (.tbl<|sQ (tR<|oY Xr)<|~~~"rule_taken")
 rule_stiff:H T.bi=some (.tbl<|sQ (tR<|oY Yz)<|~~~"rule_stiff")
 rule_lies:H T.bY=some (.tbl<|sQ (tR<|oY X0)<|~~~"rule_lies")
 _law_begun:H T.bx=some (.tbl<|Xy [(558,36,~~~"_law_begun")])
 _law_led:H T.cy=some (.tbl<|Xy [(571,34,~~~"_law_led")])
 _law_set:H T.ci=some (.tbl<|Xy [(605,27,~~~"_law_set"),(614,19,~~~"_law_set")])
def qQ.mono{T:Tx K mg}{H z:Hp}(e:mz H z)(h:qQ T H):qQ T z:=#[e _ _ h.rule_held,e _ _ h.rule_taken,e _ _ h.rule_stiff,e _ _ h.rule_lies,e _ _ h._law_begun,e _ _ h._law_led,e _ _ h._law_set]
abbrev Tx.tabs(T:Tx K mg):lP (lR×Array lS):=[(T.bX,(sQ (tR<|oY X1)<|~~~"rule_held")),(T.bw,(sQ (tR<|oY Xr)<|~~~"rule_taken")),(T.bi,(sQ (tR<|oY Yz)<|~~~"rule_stiff")),(T.bY,(sQ (tR<|oY X0)<|~~~"rule_lies")),(T.bx,(Xy [(558,36,~~~"_law_begun")])),(T.cy,(Xy [(571,34,~~~"_law_led")])),(T.ci,(Xy [(605,27,~~~"_law_set"),(614,19,~~~"_law_set")]))]
def qQ.of{T:Tx K mg}{H:Hp}(h:∀p∈T.tabs,H p.1=some (.tbl p.2)):qQ T H:=#[h (T.bX,(sQ (tR<|oY X1)<|~~~"rule_held")) (by simp),h (T.bw,(sQ (tR<|oY Xr)<|~~~"rule_taken")) (by simp),h (T.bi,(sQ (tR<|oY Yz)<|~~~"rule_stiff")) (by simp),h (T.bY,(sQ (tR<|oY X0)<|~~~"rule_lies")) (by simp),h (T.bx,(Xy [(558,36,~~~"_law_begun")])) (by simp),h (T.cy,(Xy [(571,34,~~~"_law_led")])) (by simp),h (T.ci,(Xy [(605,27,~~~"_law_set"),(614,19,~~~"_law_set")]))<|by simp]
open YM
inductive HM:Sp
 | mk (c k):vs=[.int c,.int k]->Q (.int<|uh c k) H->HM  vs H Q E
inductive GB(K:lV):Sp
 | mk (a) (ns:lP Int) (k:Nat):vs=[.ref a,.int k]->SqL K H a (ns.map V.int)->Q (.int<|zC ns k) H->GB K vs H Q E
def Yaa:T.ak.O P w mg mB 1 HM:=by
 refine T.ak.F.okW JF ?_;rfl'
 ·obtain⟨c,k,rfl,q⟩:=h;intro X D;refine mJ (mY 2 JF<|Zp Ye (Zp xc (Zp Wo (pv 0)<|Zp xc Zc<|pv 1) Zc) Zc) ?_;refine#[.inl #[by lk,by lk],.inl #[.inr #[by lk,by lk],(by change(0:Int)<2147483647;decide),?_]];refine mK (Zl<|Zp Ye (Zp xc (pv 2)<|Zp Wo (Zp Wo (pv 2)<|Zp xc Zc<|pv 1) Zc) Zc) ?_;refine#[.inl #[by lk,by lk],.inl<|.inl #[.inl ?_,(by change(0:Int)<2147483629;decide),q]];have z:=pZ ((c+7919 * k) * 48271) (show(2147483647:Int)≠0 by lk);have y:=qj ((c+7919 * k) * 48271) (show(0:Int)<2147483647 by lk)
  constructor<;>lia
def Wj(h:1<=k:=by lk):T.ak.O P w mg mB k HM:=(Yaa T).mono h
def Ycn:T.ax.O P w mg mB 2 (GB K):=by
 refine T.ax.F.okA ?_;rfl'
 ·obtain⟨a,x,k,rfl,u,q⟩:=h;intro X D;refine mJ (Zr (Z2 ug (pv 1) (pq T.ba<|pv 0)<|Ym _) Zn Zi) ?_;refine(.inl #[.inl u,Yf (λy=>?_) λy=>?_])
  ·have y:=ow y;rw[mI]at y;have z:k<x.length:=by lia
   have e:x[k]? =some x[k]:=by simp[z]
   refine mK (Zl<|Xs (Wj T) hr rfl T.ak.m T.ak.F.kp T.ak.b .nil Zz<|Zb (mW (pv 0)<|pv 1)<|Zb (pv 1) Za)<|.inl #[u,Zm (by rw[nK,e];rfl),x[k],k,rfl,?_];unfold zC at q;rw[e]at q;show q
  ·have y:¬((k:Int)<((x.map V.int).length:Int)):=λz=>y<|nM z
   rw[mI]at y;have e:x[k]? =none:=vO (by lia);unfold zC at q;rw[e]at q;show mK (Zl Zc) q
def Fp(h:2<=k:=by lk):T.ax.O P w mg mB k (GB K):=(Ycn T).mono h
inductive QF:Sp
 | mk (k):vs=[.str k]->(∀p H',mz H H'->H p=none->H' p=some (.lst<|(Yt k).map V.str)->Q (.ref p) H')->QF  vs H Q E
def Ka:T.eV.O P w mg mB 1 QF:=by
 refine T.eV.F.okA ?_;rfl'
 ·obtain⟨k,rfl,q⟩:=h;intro X D;refine mJ (Zr (We hr (pv 0) Zf) Zn Zi)<|.inl #[rfl,Yf (λz=>?_) λz=>?_]
  ·have z:k ="points":=by simpa using z
   subst z;show mK (Zl<|Zo<|Zb Zf<|Zb Zf<|Zb Zf Za) #[mM,λp y x u r=>q p y x u r]
  have o:¬k ="points":=by simpa using z
  refine mJ (Zr (We hr (pv 0) Zf) Zn Zi)<|.inl #[rfl,Yf (λz=>?_) λz=>?_]
  ·have z:k ="cross":=by simpa using z
   subst z;show mK (Zl<|Zo<|Zb Zf<|Zb Zf<|Zb Zf<|Zb Zf Za) #[mM,λp y x u r=>q p y x u r]
  have n:¬k ="cross":=by simpa using z
  refine mJ (Zr (We hr (pv 0) Zf) Zn Zi)<|.inl #[rfl,Yf (λz=>?_) λz=>?_]
  ·have z:k ="plain":=by simpa using z
   subst z;show mK (Zl<|Zo<|Zb Zf<|Zb Zf Za) #[mM,λp y x u r=>q p y x u r]
  have l:¬k ="plain":=by simpa using z
  show mK (Zl<|Zo<|Zb Zf Za) #[mM,λp y x u r=>q p y x u (by unfold Yt;rw[mS o,mS n,mS l];show r)]
def AV(y:l.length=n)(x:0<=i)(u:i<n):oy l i=some (l.getD i.toNat 0):=by
 have e:i=((i.toNat:Nat):Int):=by lia
 have z:i.toNat<l.length:=by lia
 rw[e];refine Zm ?_;rw[tN,zL,oA z]
 rfl
def tE(c:Int):Int:=c%2028+2028 * (c / 2028%2)
def QL(c:Int):tE c%3=c%3:=by unfold tE;lia
def nmZ(c:Int):tE c / 2028%3=c / 2028%2:=by unfold tE;lia
def ZT(c:Int):tE c / 3%26=c / 3%26:=by unfold tE;lia
def Rb(c:Int):tE c / 78%26=c / 78%26:=by unfold tE;lia
inductive NL:Sp
 | mk (kind:lQ) (c) (k:Nat):vs=[.str kind,.int c,.int k]->0<kind.length->kind.length<=100->0<=c->k<100->Q (.str<|Yv kind (tE c) k) H->NL  vs H Q E
def PP:T.dC.O P w mg mB 1 NL:=by
 refine T.dC.F.okW GG ?_;rfl'
 ·obtain⟨kind,c,k,rfl,u,o,e,r,q⟩:=h;intro X D;refine mJ (mY 3 GG Zf) ?_;have d:=BW k r;refine mJ (Zr (We hr (Zp Ye (pv 1) Zc) Zc) Zn Zi) #[(by change(0:Int)<3;decide),.inl #[rfl,Yf (λz=>?_) λz=>?_]]
  ·have z:c%3=0:=by simpa using z
   unfold Yv at q;rw[mT ((QL c).trans z)]at q;refine mK (Zl<|Zp Wo (mW (pv 0) Zc)<|Yu Bp (by rfl) T.fh wH<|Zb (pv 2) Za)<|.inr<|.inr #[kind,0,kind.cps.toList.getD 0 0,rfl,rfl,sz (by lia),?_,(k:Int),rfl,Ft r,.inr<|.inl<|wm rfl rfl #[sz ?_,q]]
   ·have:(0:Int)<kind.cps.toList.length:=by rw[ue];show Int.ofNat_lt.mpr u
    show AV (n:=kind.cps.toList.length) rfl (by lk) this
   ·change 1+(sH k).length<=1000;lia
  have z:¬c%3=0:=by simpa using z
  have l:=pZ (c / 3) (show(26:Int)≠0 by lk);have j:=qj (c / 3) (show(0:Int)<26 by lk);have i:=pZ (c / 78) (show(26:Int)≠0 by lk);have g:=qj (c / 78) (show(0:Int)<26 by lk);have a:=pZ (c / 2028) (show(2:Int)≠0 by lk);have Y:=qj (c / 2028) (show(0:Int)<2 by lk);obtain⟨y,x⟩:∃y:Nat,c / 2028%2=(y:Int):=#[(c / 2028%2).toNat,by lia]
  unfold Yv at q;rw[QL,mS z,nmZ,x,zL,ZT,Rb]at q;refine mJ (mY 4 GG<|Zp Wo (mW (pv 3)<|Zp Ye (Zp Yi (pv 1) Zc) Zc)<|mW (pv 3)<|Zp Ye (Zp Yi (pv 1) Zc) Zc) #[#[by lk,by lk],(by change(0:Int)<26;decide),.inr<|.inr #[_,_,sZ<|c / 3%26,rfl,rfl,sz (by rw[Dg];decide),(by rw[BP];show AV (n:=26) rfl l j),?_]];refine#[#[by lk,by lk],(by change(0:Int)<26;decide),.inr<|.inr #[_,_,sZ<|c / 78%26,rfl,rfl,sz (by rw[Dg];decide),(by rw[BP];show AV (n:=26) rfl i g),.inr<|.inl #[_,_,rfl,rfl,sz (by change 1+1<=1000;decide),?_]]];have U:(rV "0" y).length<=2:=by
   have:y<3:=by lia
   have hd:∀m,m<3->(rV "0" m).length<=2:=by left
   show hd y this
  have p:(#[(List.toArray [sZ (c / 3%26)])]++#[(List.toArray [sZ (c / 78%26)])]:lQ).length=2:=by rw[pW];rfl
  refine mK (Zl<|Zp Wo (Zp Wo (pv 4)<|Zp NE Zf<|Zp Ye (Zp Yi (pv 1) Zc) Zc)<|Yu Bp (by rfl) T.fh wH<|Zb (pv 2) Za) #[#[by lk,by lk],(by change(0:Int)<2;decide),"0",y,rfl,by rw[<-x],by change 1 * y<=1000;lia,by lia,.inr<|.inl<|wm rfl rfl #[sz (by rw[p];lia),(k:Int),rfl,Ft r,.inr<|.inl<|wm rfl rfl #[sz ?_,q]]];change _+(sH k).length<=1000;rw[pW,p];lia
def Zu(H:Hp)(t:lR)(q:Zh):Prop:=H t=some (.tup [.str q.1,.str q.2])
def W3(H:Hp)(t:lR)(j:Zh×Zh):Prop:=∃a b,H t=some (.tup [.ref a,.ref b])/\Zu H a j.1/\Zu H b j.2
def Zw(H:Hp)(l:lR)(ps:lP Zh):Prop:=∃z:lP lR,H l=some (.lst<|z.map V.ref)/\Paired (Zu H) z ps
def Yq(H:Hp)(l:lR)(y:lP (Zh×Zh)):Prop:=∃z:lP lR,H l=some (.lst<|z.map V.ref)/\Paired (W3 H) z y
def Zu.mono(e:mz H z)(h:Zu H t q):Zu z t q:=e.at h
def W3.mono(e:mz H z)(h:W3 H t j):W3 z t j:=let⟨a,b,y,x,u⟩:=h;#[a,b,e.at y,x.mono e,u.mono e]
def Zw.mono(e:mz H z)(h:Zw H l ps):Zw z l ps:=let⟨y,x,u⟩:=h;#[y,e.at x,ny u λ_ _ r=>r.mono e]
def Yq.mono(e:mz H z)(h:Yq H l y):Yq z l y:=let⟨x,u,s⟩:=h;#[x,e.at u,ny s λ_ _ r=>r.mono e]
inductive Na:Sp
 | mk (c nl n1 n2 n3 n4):vs=[.int c,.ref nl]->H nl=some (.lst [.str n1,.str n2,.str n3,.str n4])->(∀(t:lR)(H':Hp)(pl jl ie oe:lR)(ps:lP Zh)(js:lP (Zh×Zh)) (e1 e2:Zh),mz H H'->H' t=some (.tup [.ref pl,.ref jl,.ref ie,.ref oe])->Zw H' pl ps->Yq H' jl js->Zu H' ie e1->Zu H' oe e2->qt n1 n2 n3 n4 ps js e1 e2->Q (.ref t) H')->Na  vs H Q E
def Cj :∃w,oy [u,v] (n%2)=some w/\((n%2=0/\w=u)\/(n%2=1/\w=v)):=by
 have z:=pZ n (show(2:Int)≠0 by lk);have y:=qj n (show(0:Int)<2 by lk);generalize n%2=m at z y;have:m=0\/m=1:=by lia
 rcases this with rfl|rfl
 ·show#[u,rfl,.inl #[rfl,rfl]]
 ·show#[v,rfl,.inr #[rfl,rfl]]
def UJ{l D:lR}{xs:lP lQ}{x:lQ}{r:Hp}{Q:VK}{z:St}(Y:r l=some (.lst<|xs.map V.str))(N:xs.length<=100)(h:r D=none)(q:∀u,mz r u->u D=some (.lst<|(xs.filter λe=>decide<|e≠x).map V.str)->Q (.ref D) u){fr:St->St}(U:fr z=[none,some<|.str x]){g:TT}(j:g=xM (qU (uq K) (rO 0)<|rO 1)) :
  sw (tW K l) fr (qW 0) g (rO 0) Q z r D:=by
 refine Xc (xs:=xs.map V.str) (λi p u=>p=((xs.take i).filter λe=>decide<|e≠x).map V.str/\u D=some (.lst p)/\mz r u) #[rfl,Zd,pr h] ?_ ?_ ?_
 ·rintro i p u _ ⟨_,_,n⟩;show mO<|n.at Y
 ·rintro k v p u d ⟨rfl,c,n⟩;rw[nK]at d;obtain⟨y,a,rfl⟩:=nU.mp d;unfold qG;rw[U,j];refine#[pA rfl,.inl #[rfl,Yf (λs=>?_) λs=>?_]]
  ·have s:y≠x:=by simpa using s
   refine#[c,?_,?_,Zd,λb o e=>?_]
   ·rw[mI];have:=wI (λe:lQ=>decide<|e≠x)<|xs.take k;rw[oq]at this;show Zq (by lia)
   ·rw[ol,a,tD,ng,show(some y).toList=[y]from rfl,rC,mT<|nM s]
    rfl
   ·rw[Ze (Zg e h)];show n.at e
  ·have s:¬y≠x:=by simpa using s
   refine#[?_,c,n];rw[ol,a,tD,show(some y).toList=[y]from rfl,rC,mS (by simpa using s),AA,qf]
 ·rintro p s ⟨rfl,y,o⟩;rw[mI,oR]at y;show q s o y
def RX:T.eF.O P w mg mB 1 Na:=by
 refine T.eF.F.okW Z1 ?_;rfl'
 ·obtain⟨c,x,n1,n2,n3,n4,rfl,hnl,q⟩:=h;intro X D;refine mJ (Mc (pv 1)<|Yel rfl<|Zy (oh 2 Z1)<|Zy (oh 3 Z1)<|Zy (oh 4 Z1)<|Zy (oh 5 Z1) Xq) #[mO hnl,rfl,rfl,?_];refine mJ (mY 6 Z1<|Zp Ye (pv 0) Zc) #[(by change(0:Int)<8;decide),?_];refine mJ (Zr (Z2 ug (pv 6) Zc<|Ym _) Zn Zi)<|Yf (λ_=>?_) λ_=>?_
  ·refine mJ (mY 7 Z1<|mW (Zo<|Zb (Zo<|Zb Zf<|Zb Zf Za)<|Zb (Zo<|Zb Zf<|Zb Zf Za) Za)<|Zp Ye (Zp Yi (pv 0) Zc) Zc) #[mM,λla H1 G _ e1=>#[mM,λlb H2 g _ e2=>#[mM,λll H3 j _ e3=>#[#[by lk,by lk],(by change(0:Int)<2;decide),?_]]]];obtain⟨l7,a,b,C6,h7,C⟩:∃l7 a b,oy [V.ref la,.ref lb] (c / 8%2)=some (.ref l7)/\H3 l7=some (.lst [.str a,.str b])/\(a,b)∈[(("a":lQ),("b":lQ)),("b","a")]:=by
    obtain⟨w,B,h|h⟩:=Cj (n:=c / 8) (u:=V.ref la) (v:=V.ref lb)
    ·show#[la,"a","b",by rw[B,h.2],j.at<|g.at e1,by simp]
    ·show#[lb,"b","a",by rw[B,h.2],j.at e2,by simp]
   refine .inl #[mO e3,C6,?_];have D5:=G.trans<|g.trans j;refine mK (Zl<|Zj<|Zb (Zo<|Zb (Zj<|Zb Zf<|Zb (pv 2) Za) Za)<|Zb (Zo Za)<|Zb (Zj<|Zb (pv 2)<|Zb (mW (pv 7) Zc) Za)<|Zb (Zj<|Zb (pv 2)<|Zb (mW (pv 7) Zc) Za) Za) #[mM,λx H4 l _ e=>#[mM,λpl H5 y _ e5=>#[mM,λjl H6 o _ e6=>(.inl #[mO<|o.at<|y.at<|l.at h7,rfl,mM,λie H7 p _ e7=>(.inl #[mO<|p.at<|o.at<|y.at<|l.at h7,rfl,mM,λoe H8 z _ e8=>#[mM,λt H9 d _ e9=>?_]])])]]];show q t H9 pl jl ie oe _ _ _ _ (D5.trans<|l.trans<|y.trans<|o.trans<|p.trans<|z.trans d) e9 #[[x],d.at<|z.at<|p.at<|o.at e5,.cons (d.at<|z.at<|p.at<|o.at<|y.at e) .nil] #[[],d.at<|z.at<|p.at e6,.nil] (d.at<|z.at e7) (d.at e8)<|.plain a b C
  refine mJ (Zr (Z2 ug (pv 6) Zc<|Ym _) Zn Zi)<|Yf (λ_=>?_) λ_=>?_
  ·refine mJ (mY 8 Z1<|mW (Zo<|Zb (Zo<|Zb Zf<|Zb Zf Za)<|Zb (Zo<|Zb Zf<|Zb Zf Za) Za)<|Zp Ye (Zp Yi (pv 0) Zc) Zc) #[mM,λla H1 G _ e1=>#[mM,λlb H2 g _ e2=>#[mM,λll H3 j _ e3=>#[#[by lk,by lk],(by change(0:Int)<2;decide),?_]]]];obtain⟨l7,a,b,C6,h7,C⟩:∃l7 a b,oy [V.ref la,.ref lb] (c / 8%2)=some (.ref l7)/\H3 l7=some (.lst [.str a,.str b])/\(a,b)∈[(("left":lQ),("right":lQ)),("right","left")]:=by
    obtain⟨w,B,h|h⟩:=Cj (n:=c / 8) (u:=V.ref la) (v:=V.ref lb)
    ·show#[la,"left","right",by rw[B,h.2],j.at<|g.at e1,by simp]
    ·show#[lb,"right","left",by rw[B,h.2],j.at e2,by simp]
   refine .inl #[mO e3,C6,?_];have D5:=G.trans<|g.trans j;refine mJ (mY 9 Z1<|Zo<|Zb (Zj<|Zb (Zj<|Zb (pv 2)<|Zb Zf Za)<|Zb (Zj<|Zb (pv 3)<|Zb Zf Za) Za)<|Zb (Zj<|Zb (Zj<|Zb (pv 2)<|Zb Zf Za)<|Zb (Zj<|Zb (pv 4)<|Zb Zf Za) Za) Za) #[mM,λa1 H4 l _ Y=>#[mM,λa2 H5 y _ U=>#[mM,λj1 H6 o _ N=>#[mM,λa3 H7 p _ M=>#[mM,λa4 H8 z _ L=>#[mM,λj2 H9 d _ J=>#[mM,λjA M0 x _ I=>?_]]]]]]];have J1:W3 M0 j1 ((n1,"left"),(n2,"a")):=#[a1,a2,x.at<|d.at<|z.at<|p.at N,x.at<|d.at<|z.at<|p.at<|o.at<|y.at Y,x.at<|d.at<|z.at<|p.at<|o.at U]
   have J2:W3 M0 j2 ((n1,"right"),(n3,"a")):=#[a3,a4,x.at J,x.at<|d.at<|z.at M,x.at<|d.at L]
   have s0A:=D5.trans<|l.trans<|y.trans<|o.trans<|p.trans<|z.trans<|d.trans x;have h7:=(l.trans<|y.trans<|o.trans<|p.trans<|z.trans<|d.trans x).at h7;clear G g j l y o p z d x Y U N M L J e1 e2 e3 D5;refine mJ (mY 9 Z1<|Zp Wo (pv 9)<|Zo<|Zb (Zj<|Zb (Zj<|Zb (pv 3)<|Zb Zf Za)<|Zb (Zj<|Zb (pv 5)<|Zb (mW (pv 8) Zc) Za) Za)<|Zb (Zj<|Zb (Zj<|Zb (pv 5)<|Zb (mW (pv 8) Zc) Za)<|Zb (Zj<|Zb (pv 4)<|Zb Zf Za) Za) Za) #[mM,λb1 H11 B1 _ Y=>(.inl #[mO<|B1.at h7,rfl,mM,λb2 R0 y9 _ U=>#[mM,λj3 M3 m6 _ N=>(.inl #[mO<|m6.at<|y9.at<|B1.at h7,rfl,mM,λb3 H14 x8 _ M=>#[mM,λb4 H15 D3 _ L=>#[mM,λj4 V4 B8 _ J=>#[mM,λjB H17 e _ f8=>.inr<|.inr #[(B1.trans<|y9.trans<|m6.trans<|x8.trans<|D3.trans<|B8.trans e).at I,f8,mM,λjl H18 M4 _ f9=>?_]]]]])]])];have sAB:=B1.trans<|y9.trans<|m6.trans<|x8.trans<|D3.trans<|B8.trans<|e.trans M4;have J3:W3 H18 j3 ((n2,"b"),(n4,a)):=#[b1,b2,(x8.trans<|D3.trans<|B8.trans<|e.trans M4).at N,(y9.trans<|m6.trans<|x8.trans<|D3.trans<|B8.trans<|e.trans M4).at Y,(m6.trans<|x8.trans<|D3.trans<|B8.trans<|e.trans M4).at U]
   have J4:W3 H18 j4 ((n4,b),(n3,"b")):=#[b3,b4,(e.trans M4).at J,(D3.trans<|B8.trans<|e.trans M4).at M,(B8.trans<|e.trans M4).at L]
   have w6:Yq H18 jl [((n1,"left"),(n2,"a")),((n1,"right"),(n3,"a")),((n2,"b"),(n4,a)),((n4,b),(n3,"b"))]:=#[[j1,j2,j3,j4],f9,.cons (J1.mono sAB)<|.cons (J2.mono sAB)<|.cons J3<|.cons J4 .nil]
   have s0B:=s0A.trans sAB;clear J1 J2 J3 J4 B1 y9 m6 x8 D3 B8 e M4 sAB s0A Y U N M L J I f8 f9 h7;refine mJ (mY 10 Z1<|Zo<|Zb (Zj<|Zb Zf<|Zb (pv 2) Za)<|Zb (Zj<|Zb Zf<|Zb (pv 3) Za)<|Zb (Zj<|Zb Zf<|Zb (pv 4) Za)<|Zb (Zj<|Zb Zf<|Zb (pv 5) Za) Za) #[mM,λc1 G1 G _ Y=>#[mM,λc2 G2 g _ U=>#[mM,λc3 G3 j _ N=>#[mM,λc4 G4 l _ M=>#[mM,λpl G5 y _ L=>?_]]]]];have p0:Zw G5 pl [("points",n1),("plain",n2),("plain",n3),("points",n4)]:=#[[c1,c2,c3,c4],L,.cons (y.at<|l.at<|j.at<|g.at Y)<|.cons (y.at<|l.at<|j.at U)<|.cons (y.at<|l.at N)<|.cons (y.at M) .nil]
   have sG:=G.trans<|g.trans<|j.trans<|l.trans y;refine mK (Zl<|Zj<|Zb (pv 10)<|Zb (pv 9)<|Zb (Zj<|Zb (pv 2)<|Zb Zf Za)<|Zb (Zj<|Zb (pv 5)<|Zb Zf Za) Za) #[mM,λie G6 o _ J=>#[mM,λoe G7 p _ I=>#[mM,λt G8 z _ f8=>?_]]];have i:=o.trans<|p.trans z;show q t G8 pl jl ie oe _ _ _ _ (s0B.trans<|sG.trans i) f8 (p0.mono i) (w6.mono<|sG.trans i) ((p.trans z).at J) (z.at I)<|.loop a b C
  refine mJ (Zr (Z2 ug (pv 6) Zc<|Ym _) Zn Zi)<|Yf (λ_=>?_) λ_=>?_
  ·refine mJ (mY 7 Z1<|Zo<|Zb Zf<|Zb Zf<|Zb Zf Za) #[mM,λle H1 G _ e1=>?_];refine mJ (mY 11 Z1<|Zp Ye (Zp Yi (pv 0) Zc) Zc) #[#[by lk,by lk],(by change(0:Int)<3;decide),?_];obtain⟨x,r0,r1,C6,R3,hpm⟩:∃x r0 r1:lQ,oy [V.str "stem",.str "left",.str "right"] (2-c / 8%3)=some (.str x)/\(([("stem":lQ),"left","right"].filter λe=>decide<|e≠x)=[r0,r1])/\[x,r0,r1].Perm ["stem","left","right"]:=by
    have h0:=pZ (c / 8) (show(3:Int)≠0 by lk);have h1:=qj (c / 8) (show(0:Int)<3 by lk);generalize c / 8%3=m at h0 h1;have:m=0\/m=1\/m=2:=by lia
    rcases this with rfl|rfl|rfl
    ·show#["right","stem","left",rfl,by left,by left]
    ·show#["left","stem","right",rfl,by left,by left]
    ·show#["stem","left","right",rfl,by left,by left]
   refine mJ (mY 12 Z1<|mW (pv 7)<|Zp Ej Zc<|pv 11)<|.inl #[mO e1,C6,?_];refine mJ (mY 9 Z1<|Zo<|Zb (Zj<|Zb (Zj<|Zb (pv 2)<|Zb (pv 12) Za)<|Zb (Zj<|Zb (pv 3)<|Zb Zf Za) Za)<|Zb (Zj<|Zb (Zj<|Zb (pv 3)<|Zb Zf Za)<|Zb (Zj<|Zb (pv 4)<|Zb Zf Za) Za) Za) #[mM,λa1 H2 g _ Y=>#[mM,λa2 H3 j _ U=>#[mM,λj1 H4 l _ N=>#[mM,λa3 H5 y _ M=>#[mM,λa4 H6 o _ L=>#[mM,λj2 H7 p _ J=>#[mM,λjl H8 z _ I=>?_]]]]]]];have w6:Yq H8 jl [((n1,x),(n2,"b")),((n2,"a"),(n3,"a"))]:=#[[j1,j2],I,.cons #[a1,a2,(y.trans<|o.trans<|p.trans z).at N,(j.trans<|l.trans<|y.trans<|o.trans<|p.trans z).at Y,(l.trans<|y.trans<|o.trans<|p.trans z).at U]<|.cons #[a3,a4,z.at J,(o.trans<|p.trans z).at M,(p.trans z).at L] .nil]
   have s28:=g.trans<|j.trans<|l.trans<|y.trans<|o.trans<|p.trans z;have Q3:=G.trans s28;have e1:=s28.at e1;clear G g j l y o p z Y U N M L J I s28;refine mJ (yO 13 ["_law_end","_law_aside"] Z1 (oZ 1 [12] rfl) (Yn<|pv 7) (oF 0) (uY<|Z2 (r:=uq K) (vD hr) (pv 0) (pv 1)<|Ym _) (pv 0)) #[mO e1,λe hlr=>?_];refine UJ (xs:=["stem","left","right"]) (x:=x) e1 (by lk) hlr (λH9 d e9=>?qq) ?aa ?bb
   case aa=>rfl
   case bb=>rfl
   rw[R3]at e9;obtain⟨kd,P6,hkm⟩:∃kd:lQ,oy [V.str "stop",.str "gate"] (c / 24%2)=some (.str kd)/\kd∈[("stop":lQ),"gate"]:=by
    obtain⟨w,B,h|h⟩:=Cj (n:=c / 24) (u:=V.str "stop") (v:=V.str "gate")
    ·show#["stop",by rw[B,h.2],by simp]
    ·show#["gate",by rw[B,h.2],by simp]
   refine mJ (mY 10 Z1<|Zo<|Zb (Zj<|Zb Zf<|Zb (pv 2) Za)<|Zb (Zj<|Zb Zf<|Zb (pv 3) Za)<|Zb (Zj<|Zb (mW (Zo<|Zb Zf<|Zb Zf Za)<|Zp Ye (Zp Yi (pv 0) Zc) Zc)<|Zb (pv 4) Za) Za) #[mM,λc1 G1 G _ Y=>#[mM,λc2 G2 g _ U=>#[mM,λlk G3 j _ N=>#[#[by lk,by lk],(by change(0:Int)<2;decide),.inl #[mO N,P6,mM,λc3 G4 l _ M=>#[mM,λpl G5 y _ L=>?_]]]]]];have p0:Zw G5 pl [("points",n1),("plain",n2),(kd,n3)]:=#[[c1,c2,c3],L,.cons (y.at<|l.at<|j.at<|g.at Y)<|.cons (y.at<|l.at<|j.at U)<|.cons (y.at M) .nil]
   have sG:=G.trans<|g.trans<|j.trans<|l.trans y;obtain⟨a,b,ha,hb,C⟩:∃a b:lQ,oy [V.str r0,.str r1] (c / 48%2)=some (.str a)/\oy [V.str r0,.str r1] (1-c / 48%2)=some (.str b)/\[x,a,b].Perm ["stem","left","right"]:=by
    have h0:=pZ (c / 48) (show(2:Int)≠0 by lk);have h1:=qj (c / 48) (show(0:Int)<2 by lk);generalize c / 48%2=m at h0 h1;have:m=0\/m=1:=by lia
    rcases this with rfl|rfl
    ·show#[r0,r1,rfl,rfl,hpm]
    ·show#[r1,r0,rfl,rfl,((Bm r0 r1 []).cons x).trans hpm]
   refine mK (Zl<|Zj<|Zb (pv 10)<|Zb (pv 9)<|Zb (Zj<|Zb (pv 2)<|Zb (mW (pv 13)<|Zp Ye (Zp Yi (pv 0) Zc) Zc) Za)<|Zb (Zj<|Zb (pv 2)<|Zb (mW (pv 13)<|Zp Ej Zc<|Zp Ye (Zp Yi (pv 0) Zc) Zc) Za) Za) #[#[by lk,by lk],(by change(0:Int)<2;decide),.inl #[mO<|sG.at e9,ha,mM,λie G6 o _ J=>?_]];refine#[#[by lk,by lk],(by change(0:Int)<2;decide),.inl #[mO<|o.at<|sG.at e9,hb,mM,λoe G7 p _ I=>#[mM,λt G8 z _ f8=>?_]]];have i:=o.trans<|p.trans z;show q t G8 pl jl ie oe _ _ _ _ (Q3.trans<|d.trans<|sG.trans i) f8 (p0.mono i) (w6.mono<|d.trans<|sG.trans i) ((p.trans z).at J) (z.at I)<|.siding x a b kd C hkm
  refine mJ (mY 9 Z1<|Zo<|Zb (Zj<|Zb (Zj<|Zb (pv 2)<|Zb Zf Za)<|Zb (Zj<|Zb (pv 3)<|Zb Zf Za) Za)<|Zb (Zj<|Zb (Zj<|Zb (pv 4)<|Zb Zf Za)<|Zb (Zj<|Zb (pv 2)<|Zb Zf Za) Za) Za) #[mM,λa1 H2 g _ Y=>#[mM,λa2 H3 j _ U=>#[mM,λj1 H4 l _ N=>#[mM,λa3 H5 y _ M=>#[mM,λa4 H6 o _ L=>#[mM,λj2 H7 p _ J=>#[mM,λjl H8 z _ I=>?_]]]]]]];have w6:Yq H8 jl [((n1,"c"),(n2,"a")),((n3,"a"),(n1,"d"))]:=#[[j1,j2],I,.cons #[a1,a2,(y.trans<|o.trans<|p.trans z).at N,(j.trans<|l.trans<|y.trans<|o.trans<|p.trans z).at Y,(l.trans<|y.trans<|o.trans<|p.trans z).at U]<|.cons #[a3,a4,z.at J,(o.trans<|p.trans z).at M,(p.trans z).at L] .nil]
  have Q3:=g.trans<|j.trans<|l.trans<|y.trans<|o.trans<|p.trans z;clear g j l y o p z Y U N M L J I;obtain⟨kd,P6,hkm⟩:∃kd:lQ,oy [V.str "gate",.str "stop"] (c / 8%2)=some (.str kd)/\kd∈[("gate":lQ),"stop"]:=by
   obtain⟨w,B,h|h⟩:=Cj (n:=c / 8) (u:=V.str "gate") (v:=V.str "stop")
   ·show#["gate",by rw[B,h.2],by simp]
   ·show#["stop",by rw[B,h.2],by simp]
  refine mJ (mY 10 Z1<|Zo<|Zb (Zj<|Zb Zf<|Zb (pv 2) Za)<|Zb (Zj<|Zb Zf<|Zb (pv 3) Za)<|Zb (Zj<|Zb (mW (Zo<|Zb Zf<|Zb Zf Za)<|Zp Ye (Zp Yi (pv 0) Zc) Zc)<|Zb (pv 4) Za) Za) #[mM,λc1 G1 G _ Y=>#[mM,λc2 G2 g _ U=>#[mM,λlk G3 j _ N=>#[#[by lk,by lk],(by change(0:Int)<2;decide),.inl #[mO N,P6,mM,λc3 G4 l _ M=>#[mM,λpl G5 y _ L=>?_]]]]]];have p0:Zw G5 pl [("cross",n1),("gate",n2),(kd,n3)]:=#[[c1,c2,c3],L,.cons (y.at<|l.at<|j.at<|g.at Y)<|.cons (y.at<|l.at<|j.at U)<|.cons (y.at M) .nil]
  have sG:=G.trans<|g.trans<|j.trans<|l.trans y;refine mK (Zl<|Zj<|Zb (pv 10)<|Zb (pv 9)<|Zb (Zj<|Zb (pv 2)<|Zb Zf Za)<|Zb (Zj<|Zb (pv 2)<|Zb Zf Za) Za) #[mM,λie G6 o _ J=>#[mM,λoe G7 p _ I=>#[mM,λt G8 z _ f8=>?_]]];have i:=o.trans<|p.trans z;show q t G8 pl jl ie oe _ _ _ _ (Q3.trans<|sG.trans i) f8 (p0.mono i) (w6.mono<|sG.trans i) ((p.trans z).at J) (z.at I)<|.cross kd hkm
end
end K65
end
section
namespace K65
open PySem L2 NM YM
section
variable {P:ma} {w:lY} {K:lV} {mg:lQ->lU lS} {mB:lX} (T:Tx K mg)
seal PySem.wpAny
def yj(xs:lP V)(k:Nat):rh xs (some (k:Int)) none=xs.drop k:=by
 unfold rh;rw[HT.sIx_nat,HT.sIx_none]
 by_cases h:k<=xs.length
 ·rw[Nat.min_eq_left h,uD (by rw[zr];show nw _)]
 ·rw[Nat.min_eq_right (by lia),Be,List.take_nil,List.drop_of_length_le<|by lia]
def Co(xs:lP V)(k:Nat):rh xs none (some (k:Int))=xs.take k:=by
 unfold rh;rw[HT.sIx_nat,HT.sIx_none,EO,Nat.sub_zero]
 by_cases h:k<=xs.length
 ·rw[Nat.min_eq_left h]
 ·rw[Nat.min_eq_right (by lia),oR,uD<|by lia]
def Zw.app(z:Paired (Zu H) ts ps)(y:Paired (Zu H) us qs)(e:H l=some (.lst<|ts.map V.ref++us.map V.ref)):Zw H l (ps++qs):=#[ts++us,by rw[ng];show e,pJ z y]
def Yq.app(z:Paired (W3 H) ts ps)(y:Paired (W3 H) us qs)(e:H l=some (.lst<|ts.map V.ref++us.map V.ref)):Yq H l (ps++qs):=#[ts++us,by rw[ng];show e,pJ z y]
inductive OM(K:lV):Sp
 | mk (cl) (cs:lP Int):vs=[.ref cl]->SqL K H cl (cs.map V.int)->(∀c∈cs,0<=c)->(∀(t:lR)(H':Hp)(pl jl:lR)(ps:lP Zh)(js:lP (Zh×Zh)),mz H H'->H' t=some (.tup [.ref pl,.ref jl])->Zw H' pl ps->Yq H' jl js->H pl=none->H jl=none->Net ps js []->ps.length<=38->(∀p∈ps,p=((("gate":lQ),("g":lQ)):Zh)\/p=((("gate":lQ),("h":lQ)):Zh)\/wp p.2 36)->Q (.ref t) H')->OM K vs H Q E
inductive Oo(H H5:Hp)(cl:Addr)(i:Nat):St->Hp->Prop
 | mk (pl jl e o4 o5 o6 o7 o8 ps js R7):mz H5 H'->Zw H' pl ps->Yq H' jl js->Zu H' e R7->vE i ps js R7->H pl=none->H jl=none->Oo H H5 cl i [some (.ref cl),some<|.ref pl,some<|.ref jl,some<|.ref e,o4,o5,o6,o7,o8] H'
def RR:T.eW.O P w mg mB 2 (OM K):=by
 refine T.eW.F.okW Yy ?_;rfl'
 ·obtain⟨cl,cs,rfl,w5,O2,q⟩:=h;intro X D;refine mJ (mY 1 Yy<|Zo<|Zb (Zj<|Zb Zf<|Zb Zf Za) Za) #[mM,λt1 x s1 _ e1=>#[mM,λpl0 p s2 n2 e2=>?_]];refine mJ (mY 2 Yy<|Zo Za) #[mM,λjl0 x s3 n3 e3=>?_];refine mJ (mY 3 Yy<|Zj<|Zb Zf<|Zb Zf Za) #[mM,λe0 H4 s4 n4 e4=>?_];have J9:=s1.trans<|s2.trans<|s3.trans s4;have hp0:Zw H4 pl0 [("gate","g")]:=#[[t1],s4.at<|s3.at e2,.cons (s4.at<|s3.at<|s2.at e1) .nil]
  have hj0:Yq H4 jl0 []:=#[[],s4.at e3,.nil]
  have f0:H pl0=none:=s1.free n2;have f1:H jl0=none:=s1.free<|s2.free n3;clear s1 s2 s3 s4 n2 n3 n4 e1 e2 e3;refine mJ (Y9 pC rfl (xS rfl T.cD<|Zb (Xp (r:=qV K) rj (pv 0) X5<|X2 Zc) Za) (sI rfl<|Zy (oh 4 Yy)<|Zy (oh 5 Yy) Xq) Zn)<|.inr<|.inl #[J9.seq w5,λx H5 s5 p e5=>#[mO e5,?_]];rw[show(some (9:Int))=some ((9:Nat):Int)from rfl,Co,<-vW]at e5;have K5:=J9.trans s5;refine yP (xs:=(cs.take 9).map V.int) (Oo H H5 cl)
   (.mk pl0 jl0 e0 none none none none none _ _ _ (pL _) (hp0.mono s5) (hj0.mono s5) (s5.at e4) vE.start f0 f1) ?_ ?_ ?_
  ·rintro i z H' _ ⟨_,_,_,_,_,_,_,_,_,_,_,x,_⟩;show mO<|x.at e5
  ·rintro i v z H6 hi ⟨pl,jl,e,o4,o5,o6,o7,o8,ps,js,R7,s6,p0,w6,g,u,fp,fj⟩ tp H7 N n7 e7;rw[nK]at hi;obtain⟨c,hc,rfl⟩:=nU.mp hi;have hi9:i<9:=by
    have:=(oN.mp hc).1;rw[oq]at this;lia
   have hc0:0<=c:=O2 c<|xq<|pe hc;refine#[mQ e7,rfl,rfl,?_];have C0:=s6.trans N;have p0:=p0.mono N;have w6:=w6.mono N;have g:=g.mono N;obtain⟨nm,E3⟩:∃nm:Nat->lQ,nm=λj=>Yv ((["p","q","r","t"]:lP lQ).getD j "p") (tE<|c / 96+5 * (j:Int)) (4 * i+j):=#[_,rfl]
   refine mJ (mY 6 Yy<|Zo Za) #[mM,λD x s75 hD e75=>?_];let I1:IF:=λj z H'=>(∃o7,z=[some (.ref cl),some<|.ref pl,some<|.ref jl,some<|.ref e,some<|.int (i:Int),some<|.int c,some<|.ref D,o7,o8])/\H' D=some (.lst<|((List.range j).map nm).map V.str)/\mz H7 H'
   refine mJ (Y9 pC rfl (Ld rfl T.di<|Zb Zc Za) (oh 7 Yy) Zn)<|oG rfl #[by lk,by lk,wS (lo:=0) (n:=4) I1 #[#[_,rfl],e75,s75] ?_ ?_]
   ·rintro j z H8 hj ⟨⟨o7,rfl⟩,p,d⟩;obtain⟨kd,C⟩:∃kd,kd=(["p","q","r","t"]:lP lQ).getD j "p":=#[_,rfl]
    have a:j=0\/j=1\/j=2\/j=3:=by lia
    obtain⟨x,C6,B⟩:∃x,oy (Str.cps "pqrt").toList ((0:Int)+(j:Int))=some x/\(#[(List.toArray [x])]:lQ)=kd:=by
     rw[C];rcases a with rfl|rfl|rfl|rfl<;>show#[_,rfl,rfl]
    have hkl:kd.length=1:=by
     rw[<-B]
     rfl
    refine mK (Z3<|ro (pv 6)<|Zv (PP T) hr<|Zb (mW Zf<|pv 7)<|Zb (Zp Wo (Zp Yi (pv 5) Zc)<|Zp xc Zc<|pv 7)<|Zb (Zp Wo (Zp xc Zc<|pv 4)<|pv 7) Za) #[.inl #[rfl,_,mO p],.inr<|.inr #[_,_,x,rfl,rfl,sz (by left),C6,#[by lk,by lk],.inl #[by lk,by lk],.inl #[.inl #[by lk,by lk],.inl #[kd,c / 96+5 * (j:Int),4 * i+j,?_,by lia,by lia,?_,by lia,p,?_,#[_,rfl],?_,λb o y=>?_]]]]
    ·change[V.str #[(List.toArray [x])],V.int<|c / 96+5 * (0+(j:Int)),V.int<|4 * (i:Int)+(0+(j:Int))]=_;rw[B,show(0:Int)+(j:Int)=j by lia,show 4 * (i:Int)+(j:Int)=((4 * i+j:Nat):Int) by lia]
    ·have:=Int.ediv_nonneg hc0 (show(0:Int)<=96 by lk);lia
    ·rw[mI,mI,DC];show Zq (by lia)
    ·rw[Zd,Dk,ng,ng,E3,C]
     rfl
    ·rw[Ze (Zg y hD)];show d.at y
   ·rintro z H8 ⟨⟨o7,rfl⟩,p,d⟩;have p0:=p0.mono d;have w6:=w6.mono d;have g:=g.mono d;refine mJ (mY 8 Yy<|Zv (RX T) hr<|Zb (pv 5)<|Zb (pv 6) Za) #[c,D,nm 0,nm 1,nm 2,nm 3,rfl,p,λt H9 bp bj ie oe qs ks a b Y e9 hbp hbj hie hoe B=>?_];subst E3;have P4:=u.more (by lia) (by left) (by left) (by left) (by left) B;obtain⟨ts,ht,i9⟩:=p0.mono Y;obtain⟨us,hu,m9⟩:=hbp;obtain⟨M,hj1,l⟩:=w6.mono Y;obtain⟨js2,hj2,o⟩:=hbj;have lp:=u.pl;have lj:=u.jl;have lb:=B.len;have c1:=nG i9;have c2:=nG m9;have c3:=nG l;have c4:=nG o;refine mJ (mY 1 Yy<|Zp Wo (pv 1)<|mW (pv 8) Zc)<|.inr<|.inl #[mQ e9,rfl,.inr<|.inr #[ht,hu,?_,λpl' M0 U n10 jK=>?_]]
    ·rw[mI,mI];show sz (by lia)
    refine mJ (mY 2 Yy<|Zp Wo (Zp Wo (pv 2)<|mW (pv 8) Zc)<|Zo<|Zb (Zj<|Zb (pv 3)<|Zb (mW (pv 8) Zc) Za) Za)<|.inr<|.inl #[mQ<|U.at e9,rfl,.inr<|.inr #[U.at hj1,U.at hj2,?_,λjm H11 I a iK=>(.inr<|.inl #[mQ<|I.at<|U.at e9,rfl,mM,λtj R0 L n12 jk=>#[mM,λl2 M3 J n13 iH=>.inr<|.inr #[(L.trans J).at iK,iH,?_,λjl' H14 G n14 io=>?_]]])]]
    ·rw[mI,mI];show sz (by lia)
    ·rw[nW,mI,mI];show sz (by simp;lia)
    have C:=I.trans<|L.trans<|J.trans G;have x:=U.trans C;refine mK (mY 3 Yy<|mW (pv 8) Zc)<|.inr<|.inl #[mQ<|x.at e9,rfl,.mk pl' jl' oe _ _ _ _ _ _ _ _ (C0.trans<|d.trans<|Y.trans x) ?_ ?_ (hoe.mono x) P4 ?_ ?_]
    ·show Zw.app (ts:=ts) (us:=us) (ny i9 λ_ _ r=>r.mono x) (ny m9 λ_ _ r=>r.mono x)<|C.at jK
    ·have a:Paired (W3 H14) (M++js2) (js++ks):=pJ (ny l λ_ _ r=>r.mono x)<|ny o λ_ _ r=>r.mono x;refine Yq.app (ts:=M++js2) (us:=[tj]) a (.cons #[e,ie,(J.trans G).at jk,(g.mono Y).mono x,hie.mono x] .nil) ?_;rw[ng];show io
    ·show K5.free<|C0.free<|d.free<|Y.free n10
    ·show K5.free<|C0.free<|d.free<|Y.free<|(U.trans<|I.trans<|L.trans J).free n14
  ·rintro z H6 ⟨pl,jl,e,o4,o5,o6,o7,o8,ps,js,R7,s6,p0,w6,g,u,fp,fj⟩;rw[mI,oq]at u;have hm:min 9 cs.length<=9:=Nat.min_le_left ..;have C:=u.done (by lia);obtain⟨ts,ht,i9⟩:=p0;obtain⟨M,hj1,l⟩:=w6;have lp:=u.pl;have lj:=u.jl;have c1:=nG i9;have c3:=nG l;refine mK (Zl<|Zj<|Zb (Zp Wo (pv 1)<|Zo<|Zb (Zj<|Zb Zf<|Zb Zf Za) Za)<|Zb (Zp Wo (pv 2)<|Zo<|Zb (Zj<|Zb (pv 3)<|Zb (Zj<|Zb Zf<|Zb Zf Za) Za) Za) Za) #[mM,λt1 H7 N _ e7=>#[mM,λp H8 d _ x=>.inr<|.inr #[d.at<|N.at ht,x,?_,λpl' H9 Y B e9=>#[mM,λt2 M0 U _ jK=>#[mM,λt3 H11 I _ iK=>#[mM,λl2 R0 L _ jk=>.inr<|.inr #[(N.trans<|d.trans<|Y.trans<|U.trans<|I.trans L).at hj1,jk,?_,λjl' M3 J n13 iH=>#[mM,λt H14 G _ io=>?_]]]]]]]]
   ·rw[mI];show sz (by simp;lia)
   ·rw[mI];show sz (by simp;lia)
   have j:=N.trans<|d.trans<|Y.trans<|U.trans<|I.trans L;have o:=j.trans<|J.trans G;have a:=U.trans<|I.trans<|L.trans<|J.trans G;refine q t H14 pl' jl' _ _ (K5.trans<|s6.trans o) io ?_ ?_ (K5.free<|s6.free<|N.free<|d.free B) (K5.free<|s6.free<|j.free n13) C ?_ ?_
   ·show Zw.app (ts:=ts) (us:=[t1]) (ny i9 λ_ _ r=>r.mono o) (.cons ((d.trans<|Y.trans a).at e7) .nil)<|a.at e9
   ·show Yq.app (ts:=M) (us:=[t3]) (ny l λ_ _ r=>r.mono o) (.cons #[e,t2,(L.trans<|J.trans G).at iK,g.mono o,(I.trans<|L.trans<|J.trans G).at jK] .nil)<|G.at iH
   ·rw[nW];simp;lia
   ·intro p hp;rcases ou.mp hp with y|y
    ·rcases u.nm p y with x|⟨kd,c,k,h1,h2,h3⟩
     ·show .inl x
     ·show .inr<|.inr #[kd,c,k,h1,by lia,h3]
    ·simp at y;subst y;show .inr<|.inl rfl
inductive MX(K:lV):Sp
 | mk (a) (ns:lP Int) (i j:Nat):vs=[.ref a,.int i,.int j]->SqL K H a (ns.map V.int)->ns.length<=63->i<=1000->j<=1000->(∀(p:lR)(H':Hp)(cs:lP Int),mz H H'->H p=none->H' p=some (.lst<|cs.map V.int)->(∀c∈cs,0<=c/\c<2147483629)->cs.length<=63->Q (.ref p) H')->MX K vs H Q E
def Vs:T.ez.O P w mg mB 2 (MX K):=by
 refine T.ez.F.okA ?_;rfl'
 ·obtain⟨a,x,i,j,rfl,Y,z,o,e,q⟩:=h;intro X D;have y:(if((x.map V.int).length:Int)<(j:Int)then((x.map V.int).length:Int)else(j:Int))=((min j x.length:Nat):Int):=by
   rw[mI];split<;>lia
  refine mK (Zl<|pR ["_law_k","_law_script"] (oZ 1 [0] rfl) (zU rfl T.di<|Zb (pv 1)<|Zb (Z7 (Sg rfl) (by rfl) T.jw PyProof.Rows.boot_min<|Zb (pv 2)<|Zb (pq T.ba<|pv 0) Za) Za) (oF 0) Wh (Xs (Wj T) hr rfl T.ak.m T.ak.F.kp T.ak.b .nil Zz<|Zb (qC (K:=K) rfl (pv 1)<|pv 0)<|Zb (pv 0) Za))<|.inl #[.inl Y,_,_,rfl,_,_,rfl,?_,λD l=>?_]
  ·rw[y];lia
  rw[y];obtain⟨m,M⟩:∃m:Nat,(((min j x.length:Nat):Int)-(i:Int)).toNat=m:=#[_,rfl]
  rw[M];refine MP (lo:=(i:Int)) (n:=m) (λk r z=>(∃u:lP Int,r=u.map V.int/\u.length=k/\∀c∈u,0<=c/\c<2147483629)/\z D=some (.lst r)/\mz H z) #[#[[],rfl,rfl,by simp],Zd,pr l] ?_ ?_
  ·rintro k r U L ⟨⟨u,rfl,N,g⟩,d,p⟩;unfold qG;have a:i+k<x.length:=by lia
   refine#[pA rfl,.inl #[p.seq Y,(show oy _ _=some (.int<|x.getD (i+k) 0)from ?_),_,_,rfl,d,?_,#[u++[uh (x.getD (i+k) 0) ((i:Int)+(k:Int))],?_,?_,?_],Zd,λb o e=>?_]]
   ·rw[show(i:Int)+(k:Int)=((i+k:Nat):Int) by lia];refine Zm ?_;rw[nK,oA a,tN,oA a]
    rfl
   ·rw[mI];show Zq (by lia)
   ·rw[ng];rfl
   ·rw[nW];simp;show N
   ·intro c o;rcases ou.mp o with z|z
    ·show g c z
    ·simp at z;rw[z];show#[VJ _ _,VE _ _]
   ·rw[Ze (Zg e l)];show p.at e
  ·rintro r U ⟨⟨u,rfl,N,g⟩,d,p⟩;show q D U u p l d g (by lia)
def W4(h:Paired (Zu H) ts ps)(y:H c=some (.lst xs)):Paired (Zu<|mH H c o) ts ps :=
 ny h λt q r=>by
  unfold Zu at r ⊢;rw[Ze λz=>by rw[z,y]at r;cases r];show r
def W3.off(h:W3 H t j)(r:H c=some (.lst xs)):W3 (mH H c o) t j:=by
 obtain⟨a,b,s,y,x⟩:=h;unfold Zu at y x;have u:∀{t:lR}{q:lP V},H t=some (.tup q)->t≠c:=λh z=>by rw[z,r]at h;cases h
 show#[a,b,by rw[Ze (u s)];show s,by unfold Zu;rw[Ze (u y)];show y,by unfold Zu;rw[Ze (u x)];show x]
def wW(h:Paired (W3 H) ts z)(y:H c=some (.lst xs)):Paired (W3<|mH H c o) ts z:=ny h λ_ _ r=>r.off y
inductive II:Sp
 | mk (pl jl rl c) (ps:lP Zh) (js:lP (Zh×Zh)) (Zs:lP Zh):vs=[.ref pl,.ref jl,.ref rl,.int c]->Zw H pl ps->Yq H jl js->Zw H rl Zs->pl≠jl->rl≠pl->rl≠jl->ps.length<=100->js.length<=200->Zs.length<=90->(∀(H':Hp)(E1:lP Zh)(F9:lP (Zh×Zh)),(∀b o,b≠pl->b≠jl->H b=some o->H' b=some o)->Zw H' pl (ps++E1)->Yq H' jl (js++F9)->wV Zs Zs.length E1 F9->Q .non H')->II  vs H Q E
def Zlg:T.dR.O P w mg mB 2 II:=by
 refine T.dR.F.okW BL ?_;rfl'
 ·obtain⟨p,I,rl,c,ps,js,Zs,rfl,p0,w6,⟨rs,Q4,K6⟩,n1,n2,n3,x,u,r,q⟩:=h;intro X D;have lrs:=nG K6;let I2:IF:=λi z H'=>(∃o4 o5 o6,z=[some (.ref p),some<|.ref I,some<|.ref rl,some<|.int c,o4,o5,o6])/\(∀b o,b≠p->b≠I->H b=some o->H' b=some o)/\∃d U,Zw H' p (ps++d)/\Yq H' I (js++U)/\wV Zs i d U
  refine mK (Y9 pC rfl (xS rfl T.cD<|Zb (pv 2) Za) (sI rfl<|Zy (oh 4 BL)<|Zy (oh 5 BL) Xq) Zn) #[mO Q4,yP (xs:=rs.map V.ref) I2
   #[#[none,none,none,rfl],λ_ _ _ _ y=>y,[],[],by rw[qf];show p0,by rw[qf];show w6,[],rfl,by simp,rfl,rfl] ?_ ?_ ?_]
  ·rintro i z H' _ ⟨_,M,_⟩;show mO<|M _ _ n2 n3 Q4
  ·rintro i v z H2 hi ⟨⟨o4,o5,o6,rfl⟩,M,d,U,⟨n,ht,i9⟩,⟨us,hu,m9⟩,G⟩ tp H3 s3 n3' e3;rw[nK]at hi;obtain⟨te,T0,rfl⟩:=nU.mp hi;obtain⟨x,hy,u⟩:=oQ K6 T0;have B3:i<rs.length:=(oN.mp T0).1;obtain⟨ks,hkl,hks,hnp,hnj⟩:=id G;have c1:=nG i9;have c2:=nG m9;rw[nW,hnp,mI,DC]at c1;rw[nW,hnj,mI,DC]at c2;have C:Zu H2 te x:=by
    unfold Zu at u ⊢;refine M _ _ (λy=>?_) (λy=>?_) u
    ·obtain⟨_,N,_⟩:=p0;rw[y,N]at u;cases u
    ·obtain⟨_,N,_⟩:=w6;rw[y,N]at u;cases u
   refine#[mQ e3,rfl,rfl,?_];have fl:=BW i (by lia);refine mJ (mY 6 BL<|Zp Wo Zf<|Yu Bp (by rfl) T.fh wH<|Zb (pv 4) Za) #[(i:Int),rfl,Ft (by lia),.inr<|.inl<|wm rfl rfl #[sz (by change 1+(sH i).length<=1000;lia),?_]];obtain⟨L,P6,hkm⟩:∃L:lQ,oy [V.str "gate",.str "stop",.str "gate"] (uh c (i:Int)%3)=some (.str L)/\(L ="gate"\/L ="stop"):=by
    have h0:=pZ (uh c (i:Int)) (show(3:Int)≠0 by lk);have N:=qj (uh c (i:Int)) (show(0:Int)<3 by lk);generalize uh c (i:Int)%3=m at h0 N;have:m=0\/m=1\/m=2:=by lia
    rcases this with rfl|rfl|rfl
    ·show#["gate",rfl,.inl rfl]
    ·show#["stop",rfl,.inr rfl]
    ·show#["gate",rfl,.inl rfl]
   refine mJ (Z3<|ro (pv 0)<|Zj<|Zb (mW (Zo<|Zb Zf<|Zb Zf<|Zb Zf Za)<|Zp Ye (Xs (Wj T) hr rfl T.ak.m T.ak.F.kp T.ak.b .nil Zz<|Zb (pv 3)<|Zb (pv 4) Za) Zc)<|Zb (pv 6) Za) #[.inl #[rfl,_,mO<|s3.at ht],mM,λlk H4 s4 n4 e4=>#[c,(i:Int),rfl,(by change(0:Int)<3;decide),.inl #[mO e4,P6,mM,λg a s5 n5 e5=>#[s5.at<|s4.at<|s3.at ht,?_,?_]]]]
   ·rw[mI];show Zq (by lia)
   have J:=s3.trans<|s4.trans s5;have l:=J.at ht;have B:Paired (Zu a) n (ps++d):=ny i9 λ_ _ r=>r.mono J
   have hus5:Paired (W3 a) us (js++U):=ny m9 λ_ _ r=>r.mono J
   have p6:Paired (Zu<|mH a p<|.lst<|n.map V.ref++[.ref g]) (n++[g]) ((ps++d)++[(L,oU i)]):=W4 (pJ B<|.cons e5 .nil) l;have j6:=wW (o:=.lst<|n.map V.ref++[.ref g]) hus5 l;have j:mH a p (.lst<|n.map V.ref++[.ref g]) I=some (.lst<|us.map V.ref):=(Ze<|pb n1).trans (J.at hu);have k6:∀b o,b≠p->b≠I->H b=some o->mH a p (.lst<|n.map V.ref++[.ref g]) b=some o:=λb o b1 b2 y=>(Ze b1).trans (J.at<|M b o b1 b2 y)
   have y6:Zu (mH a p<|.lst<|n.map V.ref++[.ref g]) te x:=by
    have y:=C.mono J;unfold Zu at y ⊢;show(Ze λw=>by rw[w,l]at y;cases y).trans y
   have e6:mH a p (.lst<|n.map V.ref++[.ref g]) p=some (.lst<|(n++[g]).map V.ref):=by rw[Zd,ng];rfl
   generalize(mH a p<|.lst<|n.map V.ref++[.ref g])=H6 at p6 j6 j k6 y6 e6;refine mK (Z3<|ro (pv 1)<|Zj<|Zb (pv 5)<|Zb (Zj<|Zb (pv 6)<|Zb Zf Za) Za) #[.inl #[rfl,_,mO j],mM,λt7 H7 Y n7 e7=>#[mM,λt8 H8 e n8 e8=>#[e.at<|Y.at j,?_,#[_,_,_,rfl],λb o b1 b2 y=>?_,d++[(L,oU i)],U++[(x,(oU i,("a":lQ)))],#[n++[g],?_,?_],#[us++[t8],?_,?_],G.more hkm hy]]]
   ·rw[mI];show Zq (by lia)
   ·show(Ze b2).trans (e.at<|Y.at<|k6 b o b1 b2 y)
   ·show(Ze n1).trans (e.at<|Y.at e6)
   ·rw[<-pp];show W4 (ny p6 λ_ _ r=>r.mono<|Y.trans e)<|e.at<|Y.at j
   ·rw[Zd,ng];rfl
   ·rw[<-pp];show wW (pJ (ny j6 λ_ _ r=>r.mono<|Y.trans e)<|.cons #[te,t7,e8,y6.mono<|Y.trans e,e.at e7] .nil)<|e.at<|Y.at j
  ·rintro z H2 ⟨⟨o4,o5,o6,rfl⟩,M,d,U,N,x,G⟩;rw[mI,lrs]at G;show q H2 d U M N x G
def ph(q:Zh):Tr:=.tup [.str q.1,.str q.2]
def La{H:Hp}{ts:lP lR}{ps:lP Zh}(h:Paired (Zu H) ts ps):Paired (Im K H 1) (ps.map ph) (ts.map V.ref):=by
 induction h with
 | nil=>show .nil
 | cons r _ z=>show .cons (uw (mQ r)<|.cons (.str _)<|.cons (.str _) .nil) z
def Zw.im{H:Hp}{l:lR}{ps:lP Zh}(h:Zw H l ps):Im K H 2 (.lst<|ps.map ph) (.ref l):=let⟨_,z,y⟩:=h;tP (mO z) (La y)
def Mj{l D:lR}{xs:lP lQ}{x:lQ}{p:Hp}{Q:VK}{z:St}(U:p l=some (.lst<|xs.map V.str))(I:xs.length<=100)(d:p D=none)(q:∀u,mz p u->Zw u D (xs.map λe=>(x,e))->Q (.ref D) u){fr:St->St}(N:fr z=[none,some<|.str x]){c:TE}(M:c=QA (uk (rO 1)<|uk (rO 0) wD)) :
  sw (tW K l) fr (qW 0) Ay c Q z p D:=by
 refine Xc (xs:=xs.map V.str) (λi n u=>(∃s:lP lR,n=s.map V.ref/\Paired (Zu u) s ((xs.take i).map λe=>(x,e)))/\u D=some (.lst n)/\mz p u) #[#[[],rfl,.nil],Zd,pr d] ?_ ?_ ?_
 ·rintro i n u _ ⟨_,_,g⟩;show mO<|g.at U
 ·rintro k v n u a ⟨⟨s,rfl,j⟩,Y,g⟩;rw[nK]at a;obtain⟨y,L,rfl⟩:=nU.mp a;unfold qG;rw[N,M];have H:s.length<=100:=by
   have:=nG j;rw[mI,oq]at this;lia
  refine#[pA rfl,mM,λt y h r J=>#[h.at Y,by rw[mI];show Zq (by lia),#[s++[t],by rw[ng];rfl,?_],Zd,λb o e=>?_]]
  ·rw[ol,L,ng];show W4 (pJ (ny j λ_ _ r=>r.mono h)<|.cons J .nil)<|h.at Y
  ·rw[Ze (Zg e d)];show h.at<|g.at e
 ·rintro n y ⟨⟨s,rfl,j⟩,r,o⟩;rw[mI,oR]at j;show q y o #[s,r,j]
def Zu.offL{H:Hp}{c t:lR}{o:HO}{xs:lP V}{q:Zh}(h:Zu H t q)(y:H c=some (.lst xs)):Zu (mH H c o) t q:=by
 unfold Zu at h ⊢;show(Ze λz=>by rw[z,y]at h;cases h).trans h
def Zw.offL{H:Hp}{c l:lR}{o:HO}{xs:lP V}{ps:lP Zh}(h:Zw H l ps)(z:H c=some (.lst xs))(y:l≠c):Zw (mH H c o) l ps:=let⟨x,u,s⟩:=h;#[x,(Ze y).trans u,W4 s z]
def Zw.erased{H:Hp}{l:lR}{ts:lP lR}{ps:lP Zh}(z:H l=some (.lst<|ts.map V.ref))(y:Paired (Zu H) ts ps)(k:Nat):Zw (mH H l<|.lst<|(ts.map V.ref).eraseIdx k) l (ps.eraseIdx k):=#[ts.eraseIdx k,by rw[Zd,Op],W4 (NZ y k) z]
def Lx{k n:Nat}(h:k<n):seqIndex? (k:Int) n=some k:=by
 unfold seqIndex?;have z:¬(k:Int)<0:=by lia
 simp only[z,rD];rw[mT (by simp;lia)];simp
def tO{a:Int}{n:Nat}(h:0<n):∃k:Nat,a%(n:Int)=(k:Int)/\k<n:=by
 have z:=pZ a (show(n:Int)≠0 by lia);have y:=qj a (show(0:Int)<n by lia);show#[(a%(n:Int)).toNat,by lia,by lia]
def Zte{z y:Type}{R:z->y->Prop}{l₁:lP z}{l₂:lP y}(h:Paired R l₁ l₂)(n:Nat):Paired R (l₁.drop n) (l₂.drop n):=by
 induction n generalizing l₁ l₂ with
 | zero=>show h
 | succ n x =>
  cases h with
  | nil=>show .nil
  | cons _ t=>show x t
def Qj{l D:lR}{ts:lP lR}{qs:lP Zh}{keep:Zh->Bool}{w:lU V}{u:Hp}{Q:VK}{z:St}(L:u l=some (.lst<|ts.map V.ref))(c:Paired (Zu u) ts qs)(H:qs.length<=100)(a:u D=none)(q:∀y,mz u y->Zw y D (qs.filter keep)->Q (.ref D) y){fr:St->St}(J:fr z=[none,w]){Y:TT}(h:∀(t:lR)(x:Zh)(y:Hp)(R:Bool->Hp->Prop),mz u y->Zu y t x->x∈qs->R (keep x) y->Y [some (.ref t),w] y R) :
  sw (tW K l) fr (qW 0) Y (rO 0) Q z u D:=by
 have g:=nG c;refine Xc (xs:=ts.map V.ref) (λi j y=>(∃s:lP lR,j=s.map V.ref/\Paired (Zu u) s ((qs.take i).filter keep))/\y D=some (.lst j)/\mz u y) #[#[[],rfl,.nil],Zd,pr a] ?_ ?_ ?_
 ·rintro i j y _ ⟨_,_,p⟩;show mO<|p.at L
 ·rintro k v j y U ⟨⟨s,rfl,n⟩,N,p⟩;rw[nK]at U;obtain⟨t,I,rfl⟩:=nU.mp U;obtain⟨x,r,M⟩:=oQ c I;unfold qG;rw[J];have G:s.length<=100:=by
   rw[nG n];have:=wI keep<|qs.take k;rw[oq]at this;lia
  refine#[pA rfl,h t x y _ p (M.mono p) (pe r)<|Yf (λd=>?_) λd=>?_]
  ·refine#[N,by rw[mI];show Zq (by lia),#[s++[t],by rw[ng];rfl,?_],Zd,λb o e=>?_]
   ·rw[ol,r,tD];refine pJ n ?_;rw[show(some x).toList=[x]from rfl,rC,mT d];show .cons M .nil
   ·rw[Ze (Zg e a)];show p.at e
  ·refine#[#[s,rfl,?_],N,p];rw[ol,r,tD,show(some x).toList=[x]from rfl,rC,mS d,AA,qf];show n
 ·rintro j e ⟨⟨s,rfl,n⟩,d,o⟩;rw[mI,g,oR]at n;show q e o #[s,d,ny n λ_ _ r=>r.mono o]
inductive Os(K:lV):Sp
 | mk (cl) (cs:lP Int):vs=[.ref cl]->SqL K H cl (cs.map V.int)->(∀c∈cs,0<=c)->cs.length<=63->(∀(t:lR)(H':Hp)(pl jl:lR)(ps:lP Zh)(js:lP (Zh×Zh)) (n:Nat),mz H H'->H' t=some (.tup [.ref pl,.ref jl])->Zw H' pl ps->Yq H' jl js->H pl=none->H jl=none->Net ps js []->ps.length<=39->(∀p∈ps,Ge p.2 63\/∃j,j<90/\p.2=oU j)->Q (.ref t) H')->Os K vs H Q E
inductive NW(H:Hp)(cl pl jl:Addr)(i:Nat):St->Hp->Prop
 | mk (rl o4 o5 o6 o7 o8 o9 R8 o11 ps js Zs):mz H H'->Zw H' pl ps->Yq H' jl js->Zw H' rl Zs->Xx i (2 * i) ps js Zs->H rl=none->rl≠pl->rl≠jl->NW H cl pl jl i [some (.ref cl),some<|.ref pl,some<|.ref jl,some<|.ref rl,o4,o5,o6,o7,o8,o9,R8,o11] H'
inductive Je(H:Hp)(pl jl rl lf:Addr)(i:Nat)(pn:List Zh)(H':Hp):Prop
 | mk (rest' fresh' js'):mz H H'->Zw H' pl pn->Yq H' jl js'->Zw H' rl rest'->Zw H' lf fresh'->Xx (i+1) (2 * i+1) pn js' (rest'++fresh')->Je H pl jl rl lf i pn H'
def Uc:T.eG.O P w mg mB 3 (Os K):=by
 refine T.eG.F.okW Yp ?_;rfl'
 ·obtain⟨cl,cs,rfl,w5,O2,x,q⟩:=h;intro X D;refine mJ (mY 1 Yp<|Zo Za) #[mM,λe x s1 n1 e1=>?_];refine mJ (mY 2 Yp<|Zo Za) #[mM,λg x s2 n2 e2=>?_];refine mJ (mY 3 Yp<|Zo Za) #[mM,λrl0 H3 s3 n3 e3=>?_];have D5:=s1.trans<|s2.trans s3;have fp:H e=none:=n1;have fj:H g=none:=s1.free n2;have fr0:H rl0=none:=s1.free<|s2.free n3;have npj:e≠g:=Zg e1 n2;have nrp:rl0≠e:=pb<|Zg (s2.at e1) n3;have nrj:rl0≠g:=pb<|Zg e2 n3;have hp0:Zw H3 e []:=#[[],s3.at<|s2.at e1,.nil]
  have hj0:Yq H3 g []:=#[[],s3.at e2,.nil]
  have hr0:Zw H3 rl0 []:=#[[],e3,.nil]
  clear s1 s2 s3 n1 n2 n3 e1 e2 e3;refine mJ (Y9 pC rfl (xS rfl T.cD<|Zb (pv 0) Za) (sI rfl<|Zy (oh 4 Yp)<|Zy (oh 5 Yp) Xq) Zn) #[D5.seq w5,yP (xs:=cs.map V.int) (NW H cl e g)
   (.mk rl0 none none none none none none none none _ _ _ D5 hp0 hj0 hr0 Xx.start fr0 nrp nrj) ?_ ?_ ?_]
  ·rintro i z H' _ ⟨_,_,_,_,_,_,_,_,_,_,_,_,sm,_⟩;show sm.seq w5
  ·rintro i v z H4 hi ⟨rl,o4,o5,o6,o7,o8,o9,R8,o11,ps,js,Zs,s4,p0,w6,Q4,l,frl,d,Y⟩ tp H5 s5 n5 e5;rw[nK]at hi;obtain⟨c,hc,rfl⟩:=nU.mp hi;have hi63:i<63:=by
    have:=(oN.mp hc).1;lia
   have hc0:0<=c:=O2 c<|pe hc;refine#[mQ e5,rfl,rfl,?_];obtain⟨U,P6,hkm⟩:∃U:lQ,oy [V.str "plain",.str "plain",.str "plain",.str "points",.str "points",.str "cross",.str "gate",.str "stop"] (c%8)=some (.str U)/\U∈qm:=by
    have h0:=pZ c (show(8:Int)≠0 by lk);have h1:=qj c (show(0:Int)<8 by lk);generalize c%8=m at h0 h1;have:m=0\/m=1\/m=2\/m=3\/m=4\/m=5\/m=6\/m=7:=by lia
    rcases this with rfl|rfl|rfl|rfl|rfl|rfl|rfl|rfl<;>show#[_,rfl,by simp[qm]]
   obtain⟨u,J,g3,I,G,C⟩:=Dw U hkm;refine mJ (mY 6 Yp<|mW (Zo<|Zb Zf<|Zb Zf<|Zb Zf<|Zb Zf<|Zb Zf<|Zb Zf<|Zb Zf<|Zb Zf Za)<|Zp Ye (pv 5) Zc) #[mM,λlk H6 s6 n6 e6=>#[(by change(0:Int)<8;decide),.inl #[mO e6,P6,?_]]];refine mJ (mY 7 Yp<|Zv (Ka T) hr<|Zb (pv 6) Za) #[U,rfl,λle u s7 n7 e7=>?_];have s47:=s5.trans<|s6.trans s7;have C0:=s4.trans s47;have nl1:e≠le:=let⟨_,y,_⟩:=p0;Zg ((s5.trans s6).at y) n7;have nl2:g≠le:=let⟨_,y,_⟩:=w6;Zg ((s5.trans s6).at y) n7;have p0:=p0.mono s47;have w6:=w6.mono s47;have Q4:=Q4.mono s47;obtain⟨ts,ht,i9⟩:=p0;obtain⟨rs,M5,K6⟩:=Q4;have c1:=nG i9;have c2:=nG K6;refine mJ (Zr (Z2 yH (Zp Wo (Zp Wo (pq T.ba<|pv 1)<|pq T.ba<|pv 3)<|pq T.ba<|pv 7) Zc<|Ym _) Zn Zi)<|.inl #[.inl<|mO ht,.inl #[.inl<|mO M5,.inl<|.inl #[.inl<|mO e7,.inl<|Yf (λhgt=>?_) λhgt=>?_]]]
   ·show mK TF<|.mk rl _ _ _ _ _ _ _ _ ps js Zs C0 #[ts,ht,i9] w6 #[rs,M5,K6] (l.mono (by lia)<|by lia) frl d Y
   have hgt:ps.length+Zs.length+(Yt U).length<=38:=by
    have y:¬(((ts.map V.ref).length:Int)+((rs.map V.ref).length:Int)+(((Yt U).map V.str).length:Int)>38):=λy=>hgt<|nM y
    rw[mI,mI,mI]at y;lia
   obtain⟨n,hn⟩:∃n,n=Yv U (tE<|c / 8) i:=#[_,rfl]
   refine mJ (mY 8 Yp<|Zv (PP T) hr<|Zb (pv 6)<|Zb (Zp Yi (pv 5) Zc)<|Zb (pv 4) Za) #[#[by lk,by lk],U,c / 8,i,rfl,g3,by lia,Int.ediv_nonneg hc0 (by lk),by lia,?_];rw[<-hn];refine mJ (Z3<|ro (pv 1)<|Zj<|Zb (pv 6)<|Zb (pv 8) Za) #[.inl #[rfl,_,mO ht],mM,λt8 H8 s8 n8 e8=>#[s8.at ht,?_,?_]]
   ·rw[mI];show Zq (by lia)
   have ok8:=l.add (c:=tE<|c / 8) (by lia) hkm hgt;rw[<-hn]at ok8;obtain⟨us,hu,m9⟩:=w6.mono s8;have p9:Zw (mH H8 e<|.lst<|ts.map V.ref++[.ref t8]) e (ps++[(U,n)]):=#[ts++[t8],by rw[Zd,ng];rfl,W4 (pJ (ny i9 λ_ _ r=>r.mono s8)<|.cons e8 .nil)<|s8.at ht]
   have j9:Yq (mH H8 e<|.lst<|ts.map V.ref++[.ref t8]) g js:=#[us,(Ze<|pb npj).trans hu,wW m9<|s8.at ht]
   have r9:Zw (mH H8 e<|.lst<|ts.map V.ref++[.ref t8]) rl Zs:=#[rs,(Ze d).trans (s8.at M5),W4 (ny K6 λ_ _ r=>r.mono s8)<|s8.at ht]
   have e9:mH H8 e (.lst<|ts.map V.ref++[.ref t8]) le=_:=(Ze<|pb nl1).trans (s8.at e7);have D6:mz H (mH H8 e<|.lst<|ts.map V.ref++[.ref t8]):=λb o y=>(Ze<|Zg y fp).trans (s8.at<|C0.at y)
   generalize(mH H8 e<|.lst<|ts.map V.ref++[.ref t8])=H9 at p9 j9 r9 e9 D6;have P4:=l;clear i9 K6 ht M5 hu m9 s8 s47 C0 w6 l n8 e8;refine mJ (yO 9 ["_law_end","_law_name"] Yp (oZ 1 [8] rfl) (Yn<|pv 7) (oF 0) Wh (Zj<|Zb (pv 1)<|Zb (pv 0) Za)) #[mO e9,λlf hlf=>?_];refine Mj (xs:=Yt U) (x:=n) e9 (by lia) hlf (λu u6 f10=>?qq) ?aa ?bb
   case aa=>rfl
   case bb=>rfl
   have p10:=p9.mono u6;have j10:=j9.mono u6;have r10:=r9.mono u6;have s010:=D6.trans u6;have flf:H lf=none:=D6.free hlf;have nfp:lf≠e:=let⟨_,y,_⟩:=p9;pb (Zg y hlf);have nfj:lf≠g:=let⟨_,y,_⟩:=j9;pb (Zg y hlf);have nfr:lf≠rl:=let⟨_,y,_⟩:=r9;pb (Zg y hlf);clear p9 j9 r9 D6 e9 u6;let I3:IC:=λz H'=>z=[some (.ref cl),some<|.ref e,some<|.ref g,some<|.ref rl,some<|.int i,some<|.int c,some<|.str U,some<|.ref le,some<|.str n,some<|.ref lf,R8,o11]/\Je H e g rl lf i (ps++[(U,n)]) H'
   refine pU I3 ?_ ?_
   ·refine pQ (Zr (sy hr (pv 3)<|Zo Za) Zn Zi) #[mM,λl0 H11 B1 u J=>.inr<|.inl #[2,.lst<|Zs.map ph,.lst [],by lk,.inr #[_,_,rfl,rfl],Zw.im<|r10.mono B1,tP (mO J) .nil,Yf (λu9=>?_) λu9=>?_]]
    ·have u9:0<Zs.length:=by
      cases Zs with
      | nil=>simp at u9
      | cons=>simp
     obtain⟨V8,K0,hrs1⟩:=r10.mono B1;obtain⟨u,hf1,J⟩:=f10.mono B1;obtain⟨us1,hu1,hus1⟩:=j10.mono B1;have cr:=nG hrs1;have cf:=nG J;have cu:=nG hus1;rw[mI]at cf;have hjl1:=P4.jl;obtain⟨I,hk1,G⟩:=tO (a:=c / 24) (n:=(V8.map V.ref).length) (by rw[mI];lia);obtain⟨k2,hk2,C⟩:=tO (a:=c / 100) (n:=(u.map V.ref).length) (by rw[mI];lia);obtain⟨ta,hta⟩:∃ta,V8[I]? =some ta:=#[_,oA (by rw[mI]at G;show G)]
     obtain⟨tb,htb⟩:∃tb,u[k2]? =some tb:=#[_,oA (by rw[mI]at C;show C)]
     obtain⟨qa,hqa,hqat⟩:=oQ hrs1 hta;obtain⟨qb,hqb,hqbt⟩:=oQ J htb;refine mK (Z3<|ro (pv 2)<|Zj<|Zb (Ah xT Ao Gr Mb (pv 3)<|Zb (Zp Ye (Zp Yi (pv 5) Zc)<|pq T.ba<|pv 3) Za)<|Zb (Ah xT Ao Gr Mb (pv 9)<|Zb (Zp Ye (Zp Yi (pv 5) Zc)<|pq T.ba<|pv 9) Za) Za) #[.inl #[rfl,_,mO hu1],.inl #[rfl,_,mO K0],#[by lk,by lk],.inl #[.inl<|mO K0,by lia,rl,_,_,I,.ref ta,rfl,rfl,K0,by lia,by rw[mI]at G;lia,by rw[hk1];show Lx G,by rw[nK,hta];rfl,?_]];have r12:=Zw.erased K0 hrs1 I;have f12:=Zw.offL (o:=.lst<|(V8.map V.ref).eraseIdx I) #[u,hf1,J] K0 nfr;have p12:=(p10.mono B1).offL (o:=.lst<|(V8.map V.ref).eraseIdx I) K0 (pb d);have hu12:mH H11 rl (.lst<|(V8.map V.ref).eraseIdx I) g=_:=(Ze<|pb Y).trans hu1;have hus12:=wW (o:=.lst<|(V8.map V.ref).eraseIdx I) hus1 K0;have C2:mH H11 rl (.lst<|(V8.map V.ref).eraseIdx I) lf=_:=(Ze nfr).trans hf1;have hfs12:=W4 (o:=.lst<|(V8.map V.ref).eraseIdx I) J K0;have a12:=hqat.offL (o:=.lst<|(V8.map V.ref).eraseIdx I) K0;have b12:=hqbt.offL (o:=.lst<|(V8.map V.ref).eraseIdx I) K0;have y9:mz H (mH H11 rl<|.lst<|(V8.map V.ref).eraseIdx I):=λb o y=>(Ze<|Zg y frl).trans (B1.at<|s010.at y)
     generalize(mH H11 rl<|.lst<|(V8.map V.ref).eraseIdx I)=R0 at r12 f12 p12 hu12 hus12 C2 hfs12 a12 b12 y9;refine#[.inl #[rfl,_,mO C2],#[by lk,by lk],.inl #[.inl<|mO C2,by lia,lf,_,_,k2,.ref tb,rfl,rfl,C2,by lia,by rw[mI]at C;lia,by rw[hk2];show Lx C,by rw[nK,htb];rfl,?_]];have f13:=Zw.erased C2 hfs12 k2;have r13:=r12.offL (o:=.lst<|(u.map V.ref).eraseIdx k2) C2<|pb nfr;have p13:=p12.offL (o:=.lst<|(u.map V.ref).eraseIdx k2) C2<|pb nfp;have hu13:mH R0 lf (.lst<|(u.map V.ref).eraseIdx k2) g=_:=(Ze<|pb nfj).trans hu12;have K7:=wW (o:=.lst<|(u.map V.ref).eraseIdx k2) hus12 C2;have a13:=a12.offL (o:=.lst<|(u.map V.ref).eraseIdx k2) C2;have b13:=b12.offL (o:=.lst<|(u.map V.ref).eraseIdx k2) C2;have m6:mz H (mH R0 lf<|.lst<|(u.map V.ref).eraseIdx k2):=λb o y=>(Ze<|Zg y flf).trans (y9.at y)
     generalize(mH R0 lf<|.lst<|(u.map V.ref).eraseIdx k2)=M3 at f13 r13 p13 hu13 K7 a13 b13 m6;refine#[mM,λtj H14 j n14 io=>#[j.at hu13,?_,?_]]
     ·rw[mI];show Zq (by lia)
     have B:=j.at hu13;have hqn:qb.1=n:=by
      rw[nK]at hqb;obtain⟨x,_,rfl⟩:=nU.mp hqb
      rfl
     have hqo:qa.1≠qb.1:=by
      rw[hqn,hn];have h1:=AN<|P4.net.perm.subset<|qc _<|pe hqa;show λy=>P4.new (by lia) hkm<|y ▸ h1
     refine#[rfl,.mk (Zs.eraseIdx I) _ (js++[(qa,qb)]) (λb o y=>(Ze<|Zg y fj).trans (j.at<|m6.at y)) ((p13.mono j).offL B npj) #[us1++[tj],?_,?_] ((r13.mono j).offL B Y) ((f13.mono j).offL B nfj)<|ok8.join (Uy hqa hqb) hqo]
     ·rw[Zd,ng];rfl
     ·show wW (pJ (ny K7 λ_ _ r=>r.mono j)<|.cons #[ta,tb,io,a13.mono j,b13.mono j] .nil) B
    ·show#[rfl,.mk Zs _ js (s010.trans B1) (p10.mono B1) (j10.mono B1) (r10.mono B1) (f10.mono B1)<|ok8.mono (nw _)<|by lia]
   rintro z R0 ⟨rfl,⟨rest2,fresh2,js2,s012,p12,j12,⟨u,hr12,hrs2⟩,⟨u,C2,hfs2⟩,R9⟩⟩;have sm12:=R9.sum;have cr:=nG hrs2;have cf:=nG hfs2;rw[nW,nW]at sm12;refine mJ (mY 3 Yp<|Zp Wo (pv 3)<|pv 9)<|.inr<|.inr #[hr12,C2,?_,λrm M3 m6 n13 iH=>?_]
   ·rw[mI,mI];show sz (by lia)
   have r13:Zw M3 rm (rest2++fresh2):=Zw.app (ny hrs2 λ_ _ r=>r.mono m6) (ny hfs2 λ_ _ r=>r.mono m6) iH;have p13:=p12.mono m6;have j13:=j12.mono m6;have s013:=s012.trans m6;have frm:H rm=none:=s012.free n13;have nmp:rm≠e:=let⟨_,y,_⟩:=p12;pb (Zg y n13);have nmj:rm≠g:=let⟨_,y,_⟩:=j12;pb (Zg y n13);clear hr12 C2 hrs2 hfs2 p12 j12 s012 m6 p10 j10 r10 f10 s010 iH;obtain⟨op,hop⟩:∃op,op=rest2++fresh2:=#[_,rfl]
   rw[<-hop]at r13 R9;have hopl:op.length<=39:=by rw[hop,nW];lia
   clear hop sm12 cr cf;obtain⟨rs,hrm,K6⟩:=r13;have crs:=nG K6;refine mJ (yO 10 ["_law_end","_law_rest"] Yp (oZ 1 [3] rfl) (Yn<|Xp (r:=qV K) rj (pv 3) (X2 Zc) X5) (oF 0) (uY<|Z2 (r:=uq K) (vD hr) (qC (K:=K) rfl (pv 0) Zc) (qC (K:=K) rfl (qC (K:=K) rfl (pv 1) Zc) Zc)<|Ym _) (pv 0))<|.inr<|.inl #[mO hrm,λu H14 j n14 io=>#[mO io,λD hD=>?_]];rw[show(some (1:Int))=some ((1:Nat):Int)from rfl,yj,<-Iu]at io;have T1:Paired (Zu H14) rs op:=ny K6 λ_ _ r=>r.mono j
   have N:=j.at hrm;obtain⟨q0,hq0⟩:∃q0,q0=op.getD 0 ("",""):=#[_,rfl]
   refine Qj (keep:=λx=>decide<|x.1≠q0.1) (w:=some<|.ref rm) io (Zte T1 1) (by rw[zr];lia) hD (λH15 D3 f15=>?q2) ?a2 ?b2
   case a2=>rfl
   case b2 =>
    intro t x H' R sm hx hm hR;cases T1 with
    | nil=>simp at hm
    | cons r0 _ =>
     subst hq0;refine(.inr<|.inl #[mQ hx,rfl,.inl #[mO<|sm.at N,(show oy _ ((0:Nat):Int)=_ from Zm rfl),.inr<|.inl #[mQ<|sm.at r0,rfl,.inl #[rfl,?_]]]]);change R _ H';simpa using hR
   obtain⟨U8,hnear⟩:∃U8,U8=(op.drop 1).filter λx=>decide (x.1≠q0.1):=#[_,rfl]
   rw[<-hnear]at f15;have p15:=(p13.mono j).mono D3;have j15:=(j13.mono j).mono D3;have M:=D3.at N;have L:Paired (Zu H15) rs op:=ny T1 λ_ _ r=>r.mono D3
   have s015:=s013.trans<|j.trans D3;clear p13 j13 s013 j D3 N T1 hrm K6 io;refine mK (Zr (pF<|vU (sy hr (pv 10)<|Zo Za)<|wj<|We hr (Zp Ye (Zp Yi (pv 5) Zc) Zc) Zc) Zn Zi) #[mM,λl0 V4 p u J=>.inr<|.inl #[2,.lst<|U8.map ph,.lst [],by lk,.inr #[_,_,rfl,rfl],Zw.im<|f15.mono p,tP (mO J) .nil,Yf (λu9=>?_) λu9=>?_]]
   ·refine#[#[by lk,by lk],(by change(0:Int)<3;decide),.inl #[rfl,Yf (λ_=>?_) λ_=>?_]]
    ·obtain⟨ns,hnl,A9⟩:=f15.mono p;have cn:=nG A9;have hnl0:0<U8.length:=by
      cases U8 with
      | nil=>simp at u9
      | cons=>simp
     obtain⟨k3,hk3,hk3l⟩:=tO (a:=c / 1500) (n:=(ns.map V.ref).length) (by rw[mI];lia);obtain⟨to,hto⟩:∃to,ns[k3]? =some to:=#[_,oA (by rw[mI]at hk3l;show hk3l)]
     obtain⟨q3,hq3,hq3t⟩:=oQ A9 hto;have hq3m:q3∈U8:=pe hq3;refine mJ (mY 11 Yp<|mW (pv 10)<|Zp Ye (Zp Yi (pv 5) Zc)<|pq T.ba<|pv 10) #[#[by lk,by lk],.inl #[.inl<|mO hnl,by lia,.inl #[mO hnl,(show oy _ _=some (.ref to)from by rw[hk3];show Zm<|by rw[nK,hto];rfl),?_]]];obtain⟨us,hu,m9⟩:=j15.mono p;have cu:=nG m9;have hju:=R9.jl;have G:=p.at M;have hrs16:Paired (Zu V4) rs op:=ny L λ_ _ r=>r.mono p
     rw[hnear]at hq3m;obtain⟨hqd,hqk⟩:=vA.mp hq3m;have hqk:q3.1≠q0.1:=ow hqk;obtain⟨t0,U9,tl,rfl,rfl,r0,hrt⟩:∃t0 U9 tl,rs=t0 ::U9/\op=q0 ::tl/\Zu V4 t0 q0/\Paired (Zu V4) U9 tl:=by
      cases hrs16 with
      | nil=>simp at hqd
      | cons r0 rt=>show#[_,_,_,rfl,by rw[hq0];rfl,by rw[hq0];show r0,rt]
     have hqd:q3∈tl:=hqd;refine mJ (Z3<|ro (pv 2)<|Zj<|Zb (pv 11)<|Zb (mW (pv 3) Zc) Za) #[.inl #[rfl,_,mO hu],.inl #[mO G,(show oy _ ((0:Nat):Int)=_ from Zm rfl),mM,λtj H17 K2 n17 jV=>#[K2.at hu,?_,?_]]]
     ·rw[mI];show Zq (by lia)
     have J:=K2.at hu;have j18:Yq (mH H17 g<|.lst<|us.map V.ref++[.ref tj]) g (js2++[(q3,q0)]):=#[us++[tj],by rw[Zd,ng];rfl,wW (pJ (ny m9 λ_ _ r=>r.mono K2)<|.cons #[to,t0,jV,hq3t.mono K2,r0.mono K2] .nil) J]
     have p18:=((p15.mono p).mono K2).offL (o:=.lst<|us.map V.ref++[.ref tj]) J npj;have C:mH H17 g (.lst<|us.map V.ref++[.ref tj]) rm=_:=(Ze nmj).trans (K2.at G);have B:=W4 (o:=.lst<|us.map V.ref++[.ref tj]) (ny hrt λ_ _ r=>r.mono K2) J;have q18:=(hq3t.mono K2).offL (o:=.lst<|us.map V.ref++[.ref tj]) J;have M4:mz H (mH H17 g<|.lst<|us.map V.ref++[.ref tj]):=λb o y=>(Ze<|Zg y fj).trans (K2.at<|p.at<|s015.at y)
     generalize(mH H17 g<|.lst<|us.map V.ref++[.ref tj])=H18 at j18 p18 C B q18 M4;refine mK (mY 3 Yp<|pR ["_law_end","_law_other"] (oZ 1 [11] rfl) (Yn<|Xp (r:=qV K) rj (pv 3) (X2 Zc) X5) (oF 0) (uY<|Z2 (r:=uq K) (vD hr) (pv 0) (pv 1)<|Ym _) (pv 0))<|.inr<|.inl #[mO C,λl2 H19 I n19 e19=>#[mO e19,λD2 A4=>?_]];rw[show(some (1:Int))=some ((1:Nat):Int)from rfl,yj,<-Iu]at e19;have q19:=q18.mono I;refine Qj (ts:=U9) (qs:=tl) (keep:=λx=>decide<|x≠q3) (w:=some<|.ref to) e19 (ny B λ_ _ r=>r.mono I) (by simp at hopl;lia) A4 (λH20 s20 f20=>?q4) ?a4 ?b4
     case a4=>rfl
     case b4 =>
      intro t x H' R sm hx hm hR;refine(.inr<|.inl #[1,ph x,ph q3,by lk,.inl #[_,_,rfl,rfl],uw (mQ hx)<|.cons (.str _)<|.cons (.str _) .nil,uw (mQ<|q19.mono sm)<|.cons (.str _)<|.cons (.str _) .nil,?_]);have:(!decide (ph x=ph q3))=decide (x≠q3):=by
       rw[sj];simp[ph,Prod.ext_iff]
      rw[mT rfl,this];show hR
     have u:=I.trans s20;show .mk D2 _ _ _ _ _ _ _ _ _ _ _ (M4.trans u) (p18.mono u) (j18.mono u) f20 ((R9.join (YL R9.net.ond hqd) hqk).mono (by lia) (by lia)) ((M4.trans I).free A4) (let⟨_,y,_⟩:=p18;pb (Zg (I.at y) A4)) (let⟨_,y,_⟩:=j18;pb (Zg (I.at y) A4))
    ·show .mk rm _ _ _ _ _ _ _ _ _ _ _ (s015.trans p) (p15.mono p) (j15.mono p) #[rs,p.at M,ny L λ_ _ r=>r.mono p] (R9.mono (by lia)<|by lia) frm nmp nmj
   ·show .mk rm _ _ _ _ _ _ _ _ _ _ _ (s015.trans p) (p15.mono p) (j15.mono p) #[rs,p.at M,ny L λ_ _ r=>r.mono p] (R9.mono (by lia)<|by lia) frm nmp nmj
  ·rintro z H4 ⟨rl,o4,o5,o6,o7,o8,o9,R8,o11,ps,js,Zs,s4,p0,w6,Q4,l,frl,d,Y⟩;rw[mI]at l;have M:=l.sum;have L:=l.jl;refine mJ (Z3<|Zv (Zlg T) hr<|Zb (pv 1)<|Zb (pv 2)<|Zb (pv 3)<|Zb (Z7 (Zys rfl) (by rfl) T.jx PyProof.Rows.boot_sum<|Zb (pv 0) Za) Za) #[cl,cs,rfl,s4.seq w5,e,g,rl,zW cs,ps,js,Zs,rfl,p0,w6,Q4,npj,d,Y,by lia,by lia,by lia,λH5 J p I r n x=>?_];have u:=l.done (by lia) x;have hnl:J.length=Zs.length:=by obtain⟨G,hk1,hk2,hk3,N⟩:=x;rw[hk3,mI,DC]
   refine mK (Zl<|Zj<|Zb (pv 1)<|Zb (pv 2) Za) #[mM,λt H6 s6 n6 e6=>q t H6 e g _ _ 0 (λb o y=>s6.at<|I b o (Zg y fp) (Zg y fj)<|s4.at y) e6 (r.mono s6) (n.mono s6) fp fj u ?_ ?_]
   ·rw[nW];lia
   ·intro p C;rcases ou.mp C with y|y
    ·obtain⟨U,h1,c,k,B,j⟩:=l.nm p y;show .inl #[U,h1,c,k,by lia,j]
    ·obtain⟨G,hk1,hk2,hk3,N⟩:=x;rw[hk3]at y;obtain⟨j,B,rfl⟩:=mV.mp y;show .inr #[j,by have:=zI.mp B;lia,rfl]
def rf(n k:Nat):lQ:=("s":lQ)++Str.ofString (toString (n:Int))++(#[(List.toArray [qL.getD (k / 26) 0])]:lQ)++(#[(List.toArray [qL.getD (k%26) 0])]:lQ)
def Hl:∀i<26,qL.getD i 0=97+i:=by lk
def Fo(n k:Nat):(rf n k).cps.toList=(("s":lQ)++Str.ofString (toString (n:Int))).cps.toList++[qL.getD (k / 26) 0]++[qL.getD (k%26) 0]:=by
 unfold rf;rw[yd,yd]
def Zy9(q:k<600)(u:z<600)(h:rf n k=rf p z):k=z:=by
 have:=oJ (λs:lQ=>s.cps.toList) h;simp only[Fo]at this;obtain⟨r,y⟩:=List.append_inj' this rfl;obtain⟨_,x⟩:=List.append_inj' r rfl;rw[yZ]at y x;rw[Hl _ (by lia),Hl _<|by lia]at y x;lia
def An(H:Hp)(t:lR)(q:lQ×lQ×lQ):Prop:=H t=some (.tup [.str q.1,.str q.2.1,.str q.2.2])
def uO(H:Hp)(l:lR)(y:lP (lQ×lQ×lQ)):Prop:=∃z:lP lR,H l=some (.lst<|z.map V.ref)/\Paired (An H) z y
def Wg(ps:lP Zh):lP Zh:=ps.flatMap λp=>if p.1∈[("plain":lQ),"gate","stop"]then(Yt p.1).map (λx=>(p.2,x))else[]
def Zux(ps:lP Zh)(p:Zh):Wg (ps++[p])=Wg ps++(if p.1∈[("plain":lQ),"gate","stop"]then(Yt p.1).map (λx=>(p.2,x))else[]):=by
 unfold Wg;rw[yB];simp
structure rX(es:List Zh)(i:Nat)(sg:List (Str×Str×Str)):Prop where
 at_:(sg.map λq=>((q.2.1,q.2.2):Zh)).Sublist (es.take i)
 name:∀q∈sg,q.1=q.2.1\/∃n k,n<99/\k<i/\q.1=rf n k
 nd:(sg.map fst).Nodup
 len:sg.length<=40
def rX.skip(h:rX y i x):rX y (i+1) x:=by
 refine#[h.at_.trans ?_,λq u=>?_,h.nd,h.len]
 ·rw[ol];show OF _ _
 ·rcases h.name q u with z|⟨n,k,a,b,c⟩
  ·show .inl z
  ·show .inr #[n,k,a,by lia,c]
def rX.add(h:rX u i x)(he:u[i]? =some e)(s:nm=e.1\/∃n,n<99/\nm=rf n i)(r:nm∉x.map fst)(l:x.length<40):rX u (i+1) (x++[(nm,e.1,e.2)]):=by
 refine#[?_,λq p=>?_,?_,by rw[nW];simp;lia]
 ·rw[ol,he,ng];show List.Sublist.append h.at_<|List.Sublist.refl _
 ·rcases ou.mp p with z|z
  ·show h.skip.name q z
  ·rw[pD]at z;subst z;rcases s with y|⟨n,a,b⟩
   ·show .inl y
   ·show .inr #[n,i,a,by lia,b]
 ·rw[ng,qp];refine#[h.nd,by simp,λa o b y z=>?_];simp at y;show r (by rw[<-y,<-z];show o)
def rX.fresh(h:rX y i s)(x:i<600)(r:∀n k e,e∈y->n<99->k<600->e.1≠rf n k)(p:n<99):rf n i∉s.map fst:=λo=>by
 obtain⟨q,u,e⟩:=mV.mp o;rcases h.name q u with z|⟨l,k,a,b,c⟩
 ·have:((q.2.1,q.2.2):Zh)∈y:=xq<|h.at_.subset<|mV.mpr #[q,u,rfl];show r n i _ this p x<|z.symm.trans e
 ·have:=Zy9 x (by lia)<|e.symm.trans c;lia
def uO.mono(e:mz H z)(h:uO H l y):uO z l y:=let⟨x,u,s⟩:=h;#[x,e.at u,ny s λ_ _ r=>e.at r]
inductive PN(K:lV):Sp
 | mk (pl c) (ps:lP Zh):vs=[.ref pl,.int c]->Zw H pl ps->ps.length<=45->(∀n k e,e∈Wg ps->n<99->k<600->e.1≠rf n k)->(∀(l:lR)(H':Hp)(sg:lP (lQ×lQ×lQ)),mz H H'->H l=none->uO H' l sg->rX (Wg ps) (Wg ps).length sg->Q (.ref l) H')->PN K vs H Q E
def Dm(k:lQ):(Yt k).length<=4:=by
 unfold Yt;split
 ·decide
 ·split
  ·decide
  ·split<;>decide
theorem DF:∀ps:lP Zh,(Wg ps).length<=4 * ps.length
 | []=>by simp[Wg]
 | p ::ps=>by
  have:=DF ps;have z:=Dm p.1;rw[show Wg (p ::ps)=(if p.1∈[("plain":lQ),"gate","stop"]then(Yt p.1).map (λx=>((p.2,x):Zh))else[])++Wg ps from rfl,nW,pi];split
  ·rw[mI];lia
  ·simp;lia
def Jc:∀n<99,(Str.ofString<|toString ((n:Nat):Int)).length<=2:=by left
def Ybb:∀n<99,(((n:Nat):Int).natAbs).log2<1920:=by left
def SU:T.cW.O P w mg mB 2 (PN K):=by
 refine T.cW.F.okW Yb ?_;rfl'
 ·obtain⟨pl,c,d,rfl,⟨ts,i9,V0⟩,x,u9,q⟩:=h;intro X D;have N5:ts.length=d.length:=nG V0;refine mJ (mY 2 Yb Zf) ?_;refine mJ (mY 3 Yb<|Zo Za) #[mM,λl0 x s1 u e1=>?_];let I4:IF:=λi z a=>∃le,(∃o4 B o6,z=[some (.ref pl),some<|.int c,some<|.str "abcdefghijklmnopqrstuvwxyz",some<|.ref le,o4,B,o6,none,none,none,none])/\mz H a/\Zw a le (Wg<|d.take i)
  refine mJ (Y9 pC rfl (Yn<|pv 0) (sI rfl<|Zy (oh 4 Yb)<|Zy (oh 5 Yb) Xq) Zn) #[mO<|s1.at i9,W2 (xs:=ts.map V.ref) I4 #[l0,#[none,none,none,rfl],s1,[],e1,.nil] ?_ ?_ ?_]
  ·rintro i z a _ ⟨_,_,sm,_⟩;show mO<|sm.at i9
  ·rintro i v z H2 hi ⟨le,⟨o4,B,o6,rfl⟩,I,Y,G9,U⟩;rw[nK]at hi;obtain⟨t,g,rfl⟩:=nU.mp hi;obtain⟨p,J,rp⟩:=oQ V0 g;have B3:i<ts.length:=(oN.mp g).1;have N:=DF<|d.take i;rw[oq]at N;have C7:Y.length=(Wg<|d.take i).length:=nG U;have u:Wg (d.take<|i+1)=Wg (d.take i)++(if p.1∈[("plain":lQ),"gate","stop"]then(Yt p.1).map (λx=>((p.2,x):Zh))else[]):=by
    rw[ol,J];show Zux _ _
   refine#[mQ<|I.at rp,rfl,rfl,?_];refine mK (Zr (uj hr (pv 4)<|Zo<|Zb Zf<|Zb Zf<|Zb Zf Za) Zn Zi) #[mM,λlk H3 G n3 e3=>.inl #[.inl<|mO e3,rfl,rfl,?_]];rw[mS oH,show ud (.str p.1) [.str "plain",.str "gate",.str "stop"]=decide (p.1∈[("plain":lQ),"gate","stop"])from Xw p.1 ["plain","gate","stop"]];refine Yf (λo=>?_) λo=>#[le,#[_,_,_,rfl],I.trans G,?_]
   ·have o:=ow o;rw[mT o]at u;refine mK (mY 3 Yb<|Zp Wo (pv 3)<|pR ["_law_end","_law_name"] (oZ 1 [5] rfl) (Yn<|Zv (Ka T) hr<|Zb (pv 4) Za) (oF 0) Wh (Zj<|Zb (pv 1)<|Zb (pv 0) Za)) #[p.1,rfl,λx H4 C n e=>#[mO e,λD hD=>?_]];have U2:=Dm p.1;refine Mj (xs:=Yt p.1) (x:=p.2) e (by lia) hD (λH5 s5 f5=>?qq) ?aa ?bb
    case aa=>rfl
    case bb=>rfl
    case qq =>
     obtain⟨vs,hv,L⟩:=f5;have N6:vs.length=(Yt p.1).length:=by rw[nG L,mI]
     have x:=G.trans<|C.trans s5;refine .inr<|.inr #[x.at G9,hv,by rw[mI,mI];show sz (by lia),λln H6 n n6 e6=>#[ln,#[_,_,_,rfl],I.trans<|x.trans n,?_]];rw[u];show#[Y++vs,by rw[e6,ng],pJ (ny U λ_ _ r=>(x.trans n).at r)<|ny L λ_ _ r=>n.at r]
   ·have o:¬p.1∈[("plain":lQ),"gate","stop"]:=λy=>o<|nM y
    rw[u,mS o,qf];show Zw.mono G #[Y,G9,U]
  rintro z H2 ⟨le,⟨o4,B,o6,rfl⟩,I,hE⟩;rw[mI,N5,oR]at hE;obtain⟨Y,G9,U⟩:=hE;have N:=DF d;have C7:Y.length=(Wg d).length:=nG U;obtain⟨es,B7⟩:∃es,es=Wg d:=#[_,rfl]
  rw[<-B7]at U C7 u9 q N;refine mJ (mY 7 Yb<|Zo Za) #[mM,λlf H3 G n3 e3=>?_];let I5:IF:=λi z a=>(∃B o6 o8 o9 R8,z=[some (.ref pl),some<|.int c,some<|.str "abcdefghijklmnopqrstuvwxyz",some<|.ref le,o4,B,o6,some<|.ref lf,o8,o9,R8])/\mz H2 a/\∃j,uO a lf j/\rX es i j
  refine mJ (Y9 pC rfl (xS rfl T.cD<|Zb (pv 3) Za) (sI rfl<|Zy (oh 8 Yb)<|Zy (oh 6 Yb) Xq) Zn) #[mO<|G.at G9,yP (xs:=Y.map V.ref) I5 #[#[_,_,none,none,none,rfl],G,[],#[[],e3,.nil],#[DJ _,(λ_ y=>nomatch y),ul,pH _]] ?_ ?_ ?_]
  ·rintro i z a _ ⟨_,sm,_⟩;show mO<|sm.at G9
  ·rintro i x' z H4 hi ⟨⟨o5',o6',o8,o9,R8,rfl⟩,C,j,M,ok⟩ p H5 s5 n5 e5;rw[nK]at hi;obtain⟨te,T0,rfl⟩:=nU.mp hi;obtain⟨e,he,re⟩:=oQ U T0;have B3:i<Y.length:=(oN.mp T0).1;have L:i<600:=by lia
   refine#[mQ e5,rfl,rfl,?_];have re5:Zu H5 te e:=s5.at<|C.at re;obtain⟨gs,g,J⟩:=M.mono s5;have hgl:gs.length=j.length:=nG J;have B5:=C.trans s5;refine mJ (mY 9 Yb<|Xs (Wj T) hr rfl T.ak.m T.ak.F.kp T.ak.b .nil Zz<|Zb (pv 1)<|Zb (pv 8) Za) #[c,_,rfl,?_];generalize uh c ((i:Nat):Int)=dr;have skip:∃j,uO H5 lf j/\rX es (i+1) j:=#[j,#[gs,g,J],ok.skip]
   refine mK (Zr (pF<|vU (Z2 yH (Zp Ye (pv 9) Zc) (Zp Ye (pv 1) Zc)<|Ym _)<|wj<|Z2 ug (pq T.ba<|pv 7) Zc<|Ym _) Zn Zi) #[(by change(0:Int)<8;decide),(by change(0:Int)<7;decide),Yf (λ_=>(.inl #[.inl<|mO g,Yf (λhl=>?_) λ_=>#[#[_,_,_,_,_,rfl],B5,skip]])) λ_=>#[#[_,_,_,_,_,rfl],B5,skip]];have hl:j.length<40:=by
    have:=ow hl;rw[mI]at this;lia
   have m0:=pZ (dr / 8) (show(99:Int)≠0 by lk);have m1:=qj (dr / 8) (show(0:Int)<99 by lk);obtain⟨n,hn⟩:∃n:Nat,dr / 8%99=(n:Int):=#[(dr / 8%99).toNat,by lia]
   have u:n<99:=by lia
   have R3:=Jc n u;have d9:(("s":lQ)++Str.ofString (toString (n:Int))).length<=3:=by rw[pW];change 1+_<=3;lia
   have a1:oy qL ((i:Int) / 26)=some (qL.getD (i / 26) 0):=by
    have:=AV (n:=26) (l:=qL) (i:=(i:Int) / 26) rfl (by lia) (by lia);rw[show((i:Int) / 26).toNat=i / 26 by lia]at this;show this
   have a2:oy qL ((i:Int)%26)=some (qL.getD (i%26) 0):=by
    have:=AV (n:=26) (l:=qL) (i:=(i:Int)%26) rfl (by lia) (by lia);rw[show((i:Int)%26).toNat=i%26 by lia]at this;show this
   refine mJ (mY 10 Yb<|Zp Wo (mW (pv 2)<|Zp Yi (pv 8) Zc)<|mW (pv 2)<|Zp Ye (pv 8) Zc) #[#[by lk,by lk],.inr<|.inr #[_,_,qL.getD (i / 26) 0,rfl,rfl,sz (by rw[Dg];decide),by rw[BP];show a1,(by change(0:Int)<26;decide),.inr<|.inr #[_,_,qL.getD (i%26) 0,rfl,rfl,sz (by rw[Dg];decide),by rw[BP];show a2,.inr<|.inl<|wm rfl rfl #[sz (by change 1+1<=1000;lia),?_]]]];refine mK (Z3<|ro (pv 7)<|Zj<|Zb (Zp Wo (Zp Wo Zf<|Yu Bp (by rfl) T.fh wH<|Zb (Zp Ye (Zp Yi (pv 9) Zc) Zc) Za)<|pv 10)<|Zb (mW (pv 6) Zc)<|Zb (mW (pv 6) Zc) Za) #[.inl #[rfl,_,mO g],#[by lk,by lk],(by change(0:Int)<99;decide),(n:Int),?_,Ybb n u,.inr<|.inl<|wm rfl rfl #[sz (by change 1+_<=1000;lia),.inr<|.inl<|wm rfl rfl #[sz (by change _+2<=1000;lia),.inr<|.inl #[mQ re5,rfl,.inr<|.inl #[mQ re5,rfl,mM,λt H7 s7 x e7=>#[s7.at g,by rw[mI];show Zq (by lia),#[_,_,_,_,_,rfl],λb o y=>?_,j++[(rf n i,e.1,e.2)],#[gs++[t],?_,?_],ok.add he (.inr #[n,u,rfl]) (ok.fresh L u9 u) hl]]]]]]
   ·change[V.int (dr / 8%99)]=[V.int (n:Int)];rw[hn]
   ·rw[Ze (Zg y n3)];show s7.at<|B5.at y
   ·rw[Zd,ng];rfl
   ·have off:∀{b:lR}{o:lP V},H7 b=some (.tup o)->(mH H7 lf<|.lst<|gs.map V.ref++[V.ref t]) b=some (.tup o):=λ{b o} y=>by
     rw[Ze λx=>by rw[x,s7.at g]at y;cases y];show y
    show pJ (ny J λ_ _ r=>off<|s7.at r)<|.cons (off e7) .nil
  ·rintro z H4 ⟨⟨o5',o6',o8,o9,R8,rfl⟩,C,j,M,ok⟩;refine mK (Zl<|pv 7)<|q lf H4 j (I.trans C) (I.free n3) M ?_;rw[mI,C7]at ok;show ok
def vq(s:lQ):Nat:=s.cps.toList.getLastD 0
def Mh{x y:lQ}(h:0<y.length):vq (x++y)=vq y:=by
 unfold vq;rw[yd];have:y.cps.toList≠[]:=λz=>by
  have:y.cps.toList.length=0:=by rw[z];rfl
  rw[ue]at this;show absurd h (by change ¬0<y.cps.size;lia)
 obtain⟨u,b,e⟩:=List.eq_nil_or_concat y.cps.toList|>.resolve_left this
 rw[e];simp
def LX:∀k<100,vq (sH k)<58:=by left
def SA{kd:lQ}{c:Int}{k:Nat}(h:k<100):vq (Yv kd c k)<58:=by
 have z:=LX k h;have y:=Dd k h;unfold Yv;split<;>rw[Mh y]<;>show z
def QV{j:Nat}(h:j<100):vq (oU j)<58:=by
 unfold oU;rw[Mh (Dd j h)];show LX j h
def SQ{n k:Nat}:97<=vq (rf n k):=by
 unfold vq;rw[Fo];have:=Hl (k%26) (by lia);simp only[List.getLastD_concat];lia
def KS{n k:Nat}:2<=(rf n k).cps.toList.length:=by
 rw[Fo,nW,nW];simp
def Rh{s:lQ}{n k:Nat}(h:s ="g"\/s ="h"\/vq s<58):s≠rf n k:=λz=>by
 rcases h with rfl|rfl|h
 ·have:=@KS n k;rw[<-z]at this;show absurd this (by lk)
 ·have:=@KS n k;rw[<-z]at this;show absurd this (by lk)
 ·have:=@SQ n k;rw[<-z]at this;lia
def Zzw{ps:lP Zh}{e:Zh}(h:e∈Wg ps):∃p∈ps,e.1=p.2:=by
 unfold Wg at h;obtain⟨p,z,he⟩:=vJ.mp h;refine#[p,z,?_];split at he
 ·obtain⟨x,_,rfl⟩:=mV.mp he;rfl
 ·cases he
def vQ(s:lQ):Prop:=s ="g"\/s ="h"\/wp s 63\/∃j,j<90/\s=oU j
def vQ.sig{s:lQ}{n k:Nat}(h:vQ s):s≠rf n k:=by
 refine Rh ?_;rcases h with h|h|⟨y,c,j,_,z,rfl⟩|⟨j,z,rfl⟩
 ·show .inl h
 ·show .inr<|.inl h
 ·show .inr (.inr<|SA<|by lia)
 ·show .inr (.inr<|QV<|by lia)
def Cm(p:Zh):Prop:=p=((("gate":lQ),("g":lQ)):Zh)\/p=((("gate":lQ),("h":lQ)):Zh)\/wp p.2 63\/∃j,j<90/\p.2=oU j
def Cm.nm{p:Zh}(h:Cm p):vQ p.2:=by
 rcases h with rfl|rfl|h|h
 ·show .inl rfl
 ·show .inr<|.inl rfl
 ·show .inr<|.inr<|.inl h
 ·show .inr<|.inr<|.inr h
structure Aa(ps:List Zh)(js:List (Zh×Zh))(sg:List (Str×Str×Str)):Prop where
 net:Net ps js []
 len:ps.length<=39
 name:∀p∈ps,Cm p
 sigs:∃O4,O4.Perm ps/\rX (Wg O4) (Wg O4).length sg
def Net.perm'(h:Net ps s [])(z:r.Perm ps)(u:y.Perm s):Net r y []:=by
 obtain⟨a,b,c,d⟩:=h;rw[qf]at a;refine#[?_,(z.map _).nodup_iff.mpr b,λj x=>c j<|u.mem_iff.mp x,λp x=>d p<|z.mem_iff.mp x];rw[qf];show((u.flatMap_right _).trans a).trans (z.flatMap_right _).symm
def Yg1(h:wp s n)(l:n<=m):wp s m:=let⟨z,c,k,a,b,e⟩:=h;#[z,c,k,a,by lia,e]
def ZH(h:Ge s n):wp s n:=by
 obtain⟨z,y,c,k,a,e⟩:=h;refine#[z,c,k,?_,a,e];have:∀z∈qm,96<z.cps.toList.getD 0 0/\z.cps.toList.getD 0 0<123:=by left
 show this z y
def WP{z y:Type}{R:z->y->Prop}{x:lP z}{u:lP y}(h:Paired R x u):Paired R x.reverse u.reverse:=by
 induction h with
 | nil=>show .nil
 | cons r _ s=>rw[Eb,Eb];show pJ s<|.cons r .nil
theorem OA{z y:Type}{R:z->y->Prop}:∀(n:Nat){x:lP z}{u:lP y},Paired R x u->Paired R (x.drop n) (u.drop n)
 | 0,_,_,h=>h
 | _+1,_,_,.nil=>.nil
 | n+1,_,_,.cons _ t=>OA n t
theorem Bl{z y:Type}{R:z->y->Prop}:∀(n:Nat){x:lP z}{u:lP y},Paired R x u->Paired R (x.take n) (u.take n)
 | 0,_,_,_=>.nil
 | _+1,_,_,.nil=>.nil
 | n+1,_,_,.cons r t=>.cons r<|Bl n t
inductive ON(K:lV):Sp
 | mk (cl c) (cs:lP Int):vs=[.ref cl,.int c]->SqL K H cl (cs.map V.int)->(∀c∈cs,0<=c)->cs.length<=63->(∀(t pl jl sl:lR)(H':Hp)(ps:lP Zh)(js:lP (Zh×Zh)) (sg:lP (lQ×lQ×lQ)),mz H H'->H' t=some (.tup [.ref pl,.ref jl,.ref sl])->Zw H' pl ps->Yq H' jl js->uO H' sl sg->Aa ps js sg->Q (.ref t) H')->ON K vs H Q E
def SX:T.dD.O P w mg mB 4 (ON K):=by
 refine T.dD.F.okW Xn ?_;rfl'
 ·obtain⟨cl,c,cs,rfl,hS,hc0,w5,q⟩:=h;intro X D;refine mJ (mY 2 Xn<|Zv (RR T) hr<|Zb (pv 0) Za) #[cl,cs,rfl,hS,hc0,λt H1 o j x i G C M L n1 n2 net len nm=>?_];let I6:IC:=λz J=>∃t o j x i,z=[some (.ref cl),some<|.int c,some<|.ref t,none,none,none]/\mz H J/\J t=some (.tup [.ref o,.ref j])/\Zw J o x/\Yq J j i/\Net x i []/\x.length<=39/\∀p∈x,Cm p
  refine pU I6 ?_ ?_
  ·refine pQ (Zr (We hr (Zp Ye (pv 1) Zc) Zc) Zn Zi) #[(by change(0:Int)<3;decide),.inl #[rfl,Yf (λ_=>?_) λ_=>#[t,o,j,x,i,rfl,G,C,M,L,net,by lia,λp I=>?_]]]
   ·refine mK (mY 2 Xn<|Zv (Uc T) hr<|Zb (pv 0) Za) #[cl,cs,rfl,G.seq hS,hc0,w5,λt H2 o j x i _ N e2 M L _ _ net len nm=>#[t,o,j,x,i,rfl,G.trans N,e2,M,L,net,len,λp I=>?_]];rcases nm p I with y|y
    ·show .inr<|.inr<|.inl<|ZH y
    ·show .inr<|.inr<|.inr y
   ·rcases nm p I with y|y|y
    ·show .inl y
    ·show .inr<|.inl y
    ·show .inr (.inr<|.inl<|Yg1 y<|by lk)
  clear C M L n1 n2 net len nm G;rintro z H1 ⟨t,o,j,x,i,rfl,G,C,M,L,net,len,nm⟩;refine mJ (Mc (pv 2)<|sI rfl<|Zy (oh 3 Xn)<|Zy (oh 4 Xn) Xq) #[mQ C,rfl,rfl,?_];obtain⟨g,hu,m9⟩:=id M;have C7:g.length=x.length:=nG m9;obtain⟨B,hmx,hm1⟩:∃B:Int,(if((g.map V.ref).length:Int)>1 then((g.map V.ref).length:Int)else 1)=B/\0<B:=by
   refine(oG rfl ?_);split<;>lia
  have a0:=pZ (c / 3) (show B≠0 by lia);obtain⟨u,C6⟩:∃k:Nat,c / 3%B=(k:Int):=#[(c / 3%B).toNat,by lia]
  refine mJ (mY 5 Xn<|Zp Ye (Zp Yi (pv 1) Zc)<|Z7 (Zx5 rfl) (by rfl) T.jv PyProof.Rows.boot_max<|Zb Zc<|Zb (pq T.ba<|pv 3) Za) #[#[by lk,by lk],.inl #[.inl<|mO hu,_,_,rfl,?_,?_]]
  ·change(0:Int)<(if((g.map V.ref).length:Int)>1 then((g.map V.ref).length:Int)else 1);rw[hmx];show hm1
  change WSs _ _ _ [some (.ref cl),some<|.int c,some<|.ref t,some<|.ref o,some<|.ref j,some<|.int<|c / 3%(if((g.map V.ref).length:Int)>1 then((g.map V.ref).length:Int)else 1)] H1;rw[hmx,C6];let I7:IC:=λz J=>∃d a,z=[some (.ref cl),some<|.int c,some<|.ref t,some<|.ref o,some<|.ref d,some<|.int (u:Int)]/\mz H1 J/\Yq J d a/\a.Perm i
  refine pU I7 ?_ ?_
  ·obtain⟨n,e,y⟩:=id L;refine pQ (Zr (We hr (Zp Ye (Zp Yi (pv 1) Zc) Zc) Zc) Zn Zi) #[#[by lk,by lk],(by change(0:Int)<2;decide),.inl #[rfl,Yf (λ_=>?_) λ_=>#[j,i,rfl,pL _,L,qd _]]];refine mK (mY 4 Xn<|Yea (ops:=λl r=>[l,r]) (pv 4) (X2<|vi vF Zc) λ_ _=>by with_unfolding_all rfl) #[j,_,rfl,rfl,mO e,λl H2 N n2 e2=>#[l,i.reverse,rfl,N,#[n.reverse,by rw[e2,List.map_reverse],?_],Da _]];show WP<|ny y λ_ _ r=>r.mono N
  rintro z H2 ⟨d,a,rfl,N,hJ',hjp⟩;refine mK (Zl<|Zj<|Zb (Zp Wo (Xp (r:=qV K) rj (pv 3) (X2<|pv 5) X5)<|Xp (r:=qV K) rj (pv 3) X5<|X2<|pv 5)<|Zb (pv 4)<|Zb (Zv (SU T) hr<|Zb (pv 3)<|Zb (Zp Yi (pv 1) Zc) Za) Za)<|.inr<|.inl #[mO<|N.at hu,λl e s3 n3 y=>(.inr<|.inl #[mO<|s3.at<|N.at hu,λlb H4 s4 n4 n=>.inr<|.inr #[s4.at y,n,?_,λlc H5 s5 n5 e5=>?_]])]
  ·rw[yj,Co,zr,oq,mI];show sz (by lia)
  have B5:=s3.trans<|s4.trans s5;have D3:=N.trans B5;refine#[#[by lk,by lk],o,_,x,rfl,M.mono D3,by lia,λn k e he _ _=>?_,λsl y sg s6 l hG ok=>#[mM,λt' H7 s7 n7 e7=>?_]]
  ·obtain⟨p,I,C⟩:=Zzw he;rw[C];show vQ.sig (nm p I).nm
  rw[yj,Co,<-Iu,<-vW,<-ng]at e5;have Y:=s6.trans s7;have U:(x.drop u++x.take u).Perm x:=by
   have:=vY (l₁:=x.drop u) (l₂:=x.take u);rwa[wT]at this
  refine q t' lc d sl H7 (x.drop u++x.take u) a sg (G.trans<|D3.trans Y) e7 #[g.drop u++g.take u,Y.at e5,?_] (hJ'.mono<|B5.trans Y) (hG.mono s7) #[Net.perm' net U hjp,?_,λp I=>nm p<|U.mem_iff.mp I,#[x,U.symm,ok]]
  ·have:=ny m9 λ_ _ r=>Zu.mono (D3.trans Y) r
   show pJ (OA _ this)<|Bl _ this
  ·rw[U.length_eq];show len
def rT(c:Nat):Bool:=decide (97<=c) && decide (c<=122)
def pS(c:Nat):Bool:=rT c || (decide (48<=c) && decide (c<=57))
def Xb(s:lQ):Prop:=1<=s.length/\s.length<=6/\rT (s.cps.toList.headD 0)=true/\s.cps.toList.all pS=true
def DS:∀k<100,(sH k).cps.toList.all pS=true:=by left
def Hq:∀i<26,rT (qL.getD i 0)=true:=by lk
def Yem(h:rT c=true):pS c=true:=by unfold pS;rw[h];rfl
def wb{x y:lQ}(z:x.cps.toList.all pS=true)(u:y.cps.toList.all pS=true):(x++y).cps.toList.all pS=true:=by
 rw[yd,List.all_append,z,u];rfl
def wA{x y:lQ}(h:0<x.length):(x++y).cps.toList.headD 0=x.cps.toList.headD 0:=by
 rw[yd];cases e:x.cps.toList with
 | nil =>
  have:x.cps.size=0:=by rw[<-ue,e];rfl
  show absurd h (by change ¬0<x.cps.size;lia)
 | cons a l=>rfl
def zS(h:rT c=true):(#[(List.toArray [c])]:lQ).cps.toList.all pS=true:=by
 change([c]:lP Nat).all pS=true;simp[Yem h]
def YH{j:Nat}(h:j<100):Xb (oU j):=by
 have z:=BW j h;have y:=Dd j h;unfold oU;refine#[?_,?_,?_,wb (by left)<|DS j h]
 ·rw[pW];lia
 ·rw[pW,show("e":lQ).length=1 by left];lia
 ·rw[wA (by left)];decide +kernel
def TL{n k:Nat}(y:n<99)(q:k<600):Xb (rf n k):=by
 have p:=Jc n y;have x:=Hq (k / 26) (by lia);have u:=Hq (k%26) (by lia);have z:("s":lQ).length=1:=by left
 have s:0<(("s":lQ)++Str.ofString (toString (n:Int))).length:=by rw[pW,z];lia
 have r:(Str.ofString<|toString (n:Int)).cps.toList.all pS=true:=DS n (by lia);unfold rf;refine#[?_,?_,?_,wb (wb (wb (by left) r)<|zS x)<|zS u]
 ·rw[pW,pW];lia
 ·rw[pW,pW,pW,z];change 1+_+1+1<=6;lia
 ·rw[wA (by rw[pW];lia),wA s,wA<|by rw[z];decide];decide +kernel
def VO:Xb "g":=#[by left,by left,by left,by left]
def Sm:Xb "h":=#[by left,by left,by left,by left]
def Ey(z:0<=i)(y:i<26):rT (sZ i)=true:=Hq i.toNat (by lia)
def Yff:∀m<3,(rV "0" m).cps.toList.all pS=true:=by left
def Zx4{kd:lQ}{c:Int}{k:Nat}(r:96<kd.cps.toList.getD 0 0/\kd.cps.toList.getD 0 0<123)(z:k<100):Xb (Yv kd c k):=by
 have q:=zk (kind:=kd) (c:=c) z;refine#[by lia,Uq z,?_,?_]
 ·unfold Yv;split
  ·rw[wA (by change 0<1;decide)];change rT (kd.cps.toList.getD 0 0)=true;unfold rT;simp only[qx,yf];lia
  ·have y:=pZ (c / 3) (show(26:Int)≠0 by lk);have x:=qj (c / 3) (show(0:Int)<26 by lk);rw[wA (by rw[pW,pW];change 0<1+1+_;lia),wA (by rw[pW];change 0<1+1;decide),wA<|by change 0<1;decide];show Ey y x
 ·unfold Yv;split
  ·refine wb (zS ?_)<|DS k z;unfold rT;simp only[qx,yf];lia
  ·have y:=pZ (c / 3) (show(26:Int)≠0 by lk);have x:=qj (c / 3) (show(0:Int)<26 by lk);have u:=pZ (c / 78) (show(26:Int)≠0 by lk);have s:=qj (c / 78) (show(0:Int)<26 by lk);have p:=pZ (c / 2028) (show(3:Int)≠0 by lk);have o:=qj (c / 2028) (show(0:Int)<3 by lk);show wb (wb (wb (zS<|Ey y x)<|zS<|Ey u s)<|Yff _<|by lia)<|DS k z
def vQ.ok(h:vQ s):Xb s:=by
 rcases h with rfl|rfl|⟨x,c,j,z,y,rfl⟩|⟨j,y,rfl⟩
 ·show VO
 ·show Sm
 ·show Zx4 z (by lia)
 ·show YH (by lia)
def HI(h:e∈Wg ps):∃p∈ps,e.1=p.2/\p.1∈[("plain":lQ),"gate","stop"]/\e.2∈Yt p.1:=by
 unfold Wg at h;obtain⟨p,y,he⟩:=vJ.mp h
 by_cases z:p.1∈[("plain":lQ),"gate","stop"]
 ·rw[mT z]at he;obtain⟨x,u,rfl⟩:=mV.mp he;show#[p,y,rfl,z,u]
 ·rw[mS z]at he;cases he
def SH(k:lQ):(Yt k).Nodup:=by
 unfold Yt;split
 ·decide
 ·split
  ·decide
  ·split<;>decide
theorem LV:∀{ps:lP Zh},(ps.map snd).Nodup->(Wg ps).Nodup
 | [],_=>ul
 | p ::ps,h=>by
  rw[nS,pN]at h;have u:=LV h.2;change((if p.1∈[("plain":lQ),"gate","stop"]then(Yt p.1).map (λx=>((p.2,x):Zh))else[])++Wg ps).Nodup;refine qp.mpr #[?_,u,λa y b s e=>?_]
  ·split
   ·show FV _ (λa b h z=>h (Prod.mk.inj z).2)<|SH p.1
   ·show ul
  ·subst e;obtain⟨z,r,q,_⟩:=HI s;split at y
   ·obtain⟨x,_,rfl⟩:=mV.mp y;show h.1<|mV.mpr #[z,r,q.symm]
   ·cases y
structure yg(ps:List Zh)(sg:List (Str×Str×Str)):Prop where
 name:∀q∈sg,Xb q.1
 nd:(sg.map fst).Nodup
 one:(sg.map snd).Nodup
 at_:∀q∈sg,∃p∈ps,p.2=q.2.1/\p.1∈[("plain":Str),"gate","stop"]/\q.2.2∈Yt p.1
 len:sg.length<=40
def rX.sigs(h:rX (Wg ps) (Wg ps).length u)(s:(ps.map snd).Nodup)(nm:∀p∈ps,vQ p.2)(r:ps.length<=45):yg ps u:=by
 have sub:=h.at_;rw[oR]at sub;have o:=DF ps;have mem:∀q∈u,((q.2.1,q.2.2):Zh)∈Wg ps:=λq y=>sub.subset<|mV.mpr #[q,y,rfl]
 refine#[λq y=>?_,h.nd,List.Nodup.sublist sub<|LV s,λq y=>?_,h.len]
 ·rcases h.name q y with z|⟨n,k,a,b,c⟩
  ·obtain⟨p,x,e,_⟩:=HI<|mem q y;rw[z,show q.2.1=p.2 from e];show vQ.ok<|nm p x
  ·rw[c];show TL a (by lia)
 ·obtain⟨p,x,e,k,m⟩:=HI<|mem q y;show#[p,x,e.symm,k,m]
def yg.perm(h:yg z y)(x:z.Perm ps):yg ps y :=
 #[h.name,h.nd,h.one,λq u=>let⟨p,a,b⟩:=h.at_ q u;#[p,x.mem_iff.mp a,b],h.len]
def Aa.sigsV(h:Aa ps u y):yg ps y:=by
 obtain⟨x,z,ok⟩:=h.sigs;show(ok.sigs ((z.map _).nodup_iff.mpr h.net.nd) (λp x=>(h.name p<|z.mem_iff.mp x).nm) (by rw[z.length_eq];have:=h.len;lia)).perm z
inductive wl(K:lV):Sp
 | mk (x C dx nm):vs=[.ref x,.str nm]->H x=some (.ins C dx [])->pO K C->mU K C "name"->Q .non (mH H x<|.ins C dx [("name",.str nm)])->wl K vs H Q E
def X8:T.ao.O P w mg mB 1 (wl K):=by
 refine T.ao.F.okA ?_;rfl'
 ·obtain⟨x,C,u,nm,rfl,z,c,y,q⟩:=h;intro X D;show mK (Wz (pv 0) (pv 1) rfl) #[z,c,y,by simp,q]
def qo(H:Hp)(C x:lR)(nm:lQ):Prop:=∃z,H x=some (.ins C z [("name",.str nm)])
def yk(C:lR):lP V->Hp->VK->Prop:=λy H Q=>∃nm:lQ,y=[.str nm]/\∀x z,mz H z->H x=none->qo z C x nm->Q (.ref x) z
def zP(c:pO K C)(n:mU K C "name"):∀vs H Q,yk C vs H Q->∀x z,H x=none->H z=none->z≠x->wl K (.ref x ::(vs++[])) (mH (mH H z<|.own x) x<|.ins C z []) (λv u=>v=.non/\Q (.ref x) u) E0:=by
 rintro vs H Q ⟨nm,rfl,q⟩ x z y s r;refine#[x,C,z,nm,rfl,Zd,c,n,rfl,q x _ (λb o e=>?_) y #[z,Zd]];rw[Ze (Zg e y),Ze<|Zg e y,Ze<|Zg e s];show e
abbrev Oy(T:Tx K mg):lP V->Hp->VK->Prop:=yk T.bS
def ZE:∀vs H Q,Oy T vs H Q->∀x z,H x=none->H z=none->z≠x->wl K (.ref x ::(vs++[])) (mH (mH H z<|.own x) x<|.ins T.bS z []) (λv y=>v=.non/\Q (.ref x) y) E0:=zP T.eJ T.ff
abbrev IL(T:Tx K mg):lP V->Hp->VK->Prop:=yk T.bz
def Tj:∀vs H Q,IL T vs H Q->∀x z,H x=none->H z=none->z≠x->wl K (.ref x ::(vs++[])) (mH (mH H z<|.own x) x<|.ins T.bz z []) (λv y=>v=.non/\Q (.ref x) y) E0:=zP T.fJ T.fK
abbrev Nt(T:Tx K mg):lP V->Hp->VK->Prop:=yk T.bA
def Ua:∀vs H Q,Nt T vs H Q->∀x z,H x=none->H z=none->z≠x->wl K (.ref x ::(vs++[])) (mH (mH H z<|.own x) x<|.ins T.bA z []) (λv y=>v=.non/\Q (.ref x) y) E0:=zP T.fL T.fM
abbrev Kf(T:Tx K mg):lP V->Hp->VK->Prop:=yk T.aH
def ZJ:∀vs H Q,Kf T vs H Q->∀x z,H x=none->H z=none->z≠x->wl K (.ref x ::(vs++[])) (mH (mH H z<|.own x) x<|.ins T.aH z []) (λv y=>v=.non/\Q (.ref x) y) E0:=zP T.dF T.eK
abbrev Mp(T:Tx K mg):lP V->Hp->VK->Prop:=yk T.bT
def SD:∀vs H Q,Mp T vs H Q->∀x z,H x=none->H z=none->z≠x->wl K (.ref x ::(vs++[])) (mH (mH H z<|.own x) x<|.ins T.bT z []) (λv y=>v=.non/\Q (.ref x) y) E0:=zP T.eL T.fg
def X6(k:lQ)(C:lR):Prop:=(k ="points"/\C=T.aH)\/(k ="cross"/\C=T.bT)\/(k ="gate"/\C=T.bA)\/(k ="stop"/\C=T.bz)\/(k ="plain"/\(C=T.cT\/C=T.bS))
inductive Qs:Sp
 | mk (k nm:lQ):vs=[.str k,.str nm]->k∈qm->nm.length<=6->(∀(x C:lR)(H':Hp),mz H H'->H x=none->X6 T k C->qo H' C x nm->Q (.ref x) H')->Qs vs H Q E
def Zp2:T.eZ.O P w mg mB 3 (Qs T):=by
 refine T.eZ.F.okA ?_;rfl'
 ·obtain⟨k,nm,rfl,l,I,q⟩:=h;intro X D;let M:IC:=λz r=>z=[some (.str k),some<|.str nm]/\r=H/\k≠ "points"
  refine pU M ?_ ?_
  ·refine pQ (Zr (We hr (pv 0) Zf) Zn Zi)<|.inl #[rfl,Yf (λu=>?_) λu=>#[rfl,rfl,λy=>u<|by rw[y];simp]];have u:k ="points":=V.str.inj<|ow u;show mK (Zl<|wM (Kf T) T.ix (X8 T) hr.m rfl T.il T.ao.b .nil Zz (ZJ T)<|Zb (pv 1) Za) #[nm,rfl,λx r p n o=>q x _ r p n (.inl #[u,rfl]) o]
  rintro z G ⟨rfl,j,i⟩;rw[j];let L:IC:=λz r=>z=[some (.str k),some<|.str nm]/\r=H/\k≠ "cross"
  refine pU L ?_ ?_
  ·refine pQ (Zr (We hr (pv 0) Zf) Zn Zi)<|.inl #[rfl,Yf (λu=>?_) λu=>#[rfl,rfl,λy=>u<|by rw[y];simp]];have u:k ="cross":=V.str.inj<|ow u;show mK (Zl<|wM (Mp T) T.iM (X8 T) hr.m rfl T.jc T.ao.b .nil Zz (SD T)<|Zb (pv 1) Za) #[nm,rfl,λx r p n o=>q x _ r p n (.inr<|.inl #[u,rfl]) o]
  rintro z C ⟨rfl,g,e⟩;rw[g];let d:IC:=λz r=>z=[some (.str k),some<|.str nm]/\r=H/\k≠ "gate"
  refine pU d ?_ ?_
  ·refine pQ (Zr (We hr (pv 0) Zf) Zn Zi)<|.inl #[rfl,Yf (λu=>?_) λu=>#[rfl,rfl,λy=>u<|by rw[y];simp]];have u:k ="gate":=V.str.inj<|ow u;show mK (Zl<|wM (Nt T) T.jb (X8 T) hr.m rfl T.iY T.ao.b .nil Zz (Ua T)<|Zb (pv 1) Za) #[nm,rfl,λx r p n o=>q x _ r p n (.inr<|.inr<|.inl #[u,rfl]) o]
  rintro z B ⟨rfl,c,a⟩;rw[c];let Y:IC:=λz r=>z=[some (.str k),some<|.str nm]/\r=H/\k≠ "stop"
  refine pU Y ?_ ?_
  ·refine pQ (Zr (We hr (pv 0) Zf) Zn Zi)<|.inl #[rfl,Yf (λu=>?_) λu=>#[rfl,rfl,λy=>u<|by rw[y];simp]];have u:k ="stop":=V.str.inj<|ow u;show mK (Zl<|wM (IL T) T.ja (X8 T) hr.m rfl T.iX T.ao.b .nil Zz (Tj T)<|Zb (pv 1) Za) #[nm,rfl,λx r p n o=>q x _ r p n (.inr<|.inr<|.inr<|.inl #[u,rfl]) o]
  rintro z H4 ⟨rfl,U,N⟩;rw[U];have J:k ="plain":=by
   unfold qm at l;simp only[nQ,ut,sU]at l;rcases l with y|y|y|y|y
   ·show y
   ·show absurd y i
   ·show absurd y e
   ·show absurd y a
   ·show absurd y N
  show mK (Zl<|wM (Oy T) T.iL (X8 T) hr.m rfl T.iZ T.ao.b .nil Zz (ZE T)<|Zb (pv 1) Za) #[nm,rfl,λx r p n o=>q x _ r p n (.inr<|.inr<|.inr<|.inr #[J,.inr rfl]) o]
section
variable {α β κ:Type} [DecidableEq κ] {f:α->κ} {R R':α->β->V->Prop} {kvs:lP (κ×V)}
def DP(f:α->κ)(R:α->β->V->Prop)(kvs:lP (κ×V))(qs:lP (α×β)):Prop:=Paired (λ(kv:κ×V) (q:α×β)=>kv.1=f q.1/\R q.1 q.2 kv.2) kvs qs
def DP.none(h:DP f R kvs qs)(inj:∀a b,f a=f b->a=b){a:α}(n:a∉qs.map fst):Xm kvs (f a)=none:=by
 unfold DP at h
 induction h with
 | nil=>rfl
 | cons r t y =>
  rw[nS,nQ,not_or]at n;rw[wF (λz=>n.1 (inj _ _<|r.1.symm.trans z).symm)];show y n.2
def DP.get(h:DP f R kvs qs)(inj:∀a b,f a=f b->a=b)(y:(qs.map fst).Nodup){a:α}{b:β}(m:(a,b)∈qs):∃v,Xm kvs (f a)=some v/\R a b v:=by
 unfold DP at h
 induction h with
 | nil=>cases m
 | @cons kv q _ _ r t x =>
  rw[nS,pN]at y;rcases nQ.mp m with z|z
  ·rw[<-z]at r;show#[_,yV r.1,r.2]
  ·have:a≠q.1:=λe=>y.1 (by rw[<-e];show mV.mpr #[_,z,rfl])
   rw[wF (λe=>this (inj _ _<|r.1.symm.trans e).symm)];show x y.2 z
def DP.put(h:DP f R kvs qs){a:α}{b:β}(n:Xm kvs (f a)=Option.none)(r:R a b v):DP f R (Wy kvs (f a) v) (qs++[(a,b)]):=by
 rw[JM v n];show Dc h #[rfl,r]
def DP.len(h:DP f R kvs qs):kvs.length=qs.length:=nG h
def DP.mapR(h:DP f R kvs qs)(m:∀a b v,R a b v->R' a b v):DP f R' kvs qs:=ny h λ_ _ z=>#[z.1,m _ _ _ z.2]
def DP.keys(h:DP f R kvs qs):kvs.map fst=qs.map λq=>f q.1:=by
 unfold DP at h
 induction h with
 | nil=>rfl
 | cons r t z=>rw[nS,nS,z,r.1]
end
def Xe(e:Zh):lP mZ:=[.inr e.1,.inr e.2]
def uv(a b:Zh)(h:Xe a=Xe b):a=b:=by
 obtain⟨z,y⟩:=a;obtain⟨z,y⟩:=b;unfold Xe at h;simp only[yZ,Sum.inr.injEq,Bu]at h;rw[h.1,h.2]
def Xl(s:lQ):mZ:=.inr s
def yF(a b:lQ)(h:Xl a=Xl b):a=b:=wx h
def qP(ps:lP Zh):lP (lQ×lQ):=ps.map λp=>(p.2,p.1)
def qA(ps:lP Zh):lP (Zh×lQ):=ps.flatMap λp=>(Yt p.1).map λe=>((p.2,e),p.1)
def qJ(z:lP (Zh×Zh)):lP (Zh×Zh):=z.flatMap λj=>[(j.1,j.2),(j.2,j.1)]
def qS(z:lP (lQ×lQ×lQ)):lP (lQ×Zh):=z.map λq=>(q.1,(q.2.1,q.2.2))
def qO(z:lP (lQ×lQ×lQ)):lP (Zh×lQ):=z.map λq=>((q.2.1,q.2.2),q.1)
def Fe(ps:lP Zh):(qP ps).map fst=ps.map snd:=by unfold qP;rw[oO];rfl
def Cs(ps:lP Zh):(qA ps).map fst=Ys ps:=by
 unfold qA Ys;rw[List.map_flatMap];simp only[oO]
 rfl
def tJ(z:lP (Zh×Zh)):(qJ z).map fst=Xv z:=by
 unfold qJ Xv;rw[List.map_flatMap]
 rfl
def Lu(z:lP (lQ×lQ×lQ)):(qS z).map fst=z.map fst:=by unfold qS;rw[oO];rfl
def Gb(z:lP (lQ×lQ×lQ)):(qO z).map fst=z.map snd:=by unfold qO;rw[oO];rfl
def RP(H:Hp):lQ->lQ->V->Prop:=λnm k v=>∃x C,v=.ref x/\X6 T k C/\qo H C x nm
def RA(H:Hp):Zh->lQ->V->Prop:=λe k v=>∃x C,v=.ref x/\X6 T k C/\qo H C x e.1
def RJ(H:Hp):Zh->Zh->V->Prop:=λ_ e v=>∃t,v=.ref t/\Zu H t e
def RS(H:Hp):lQ->Zh->V->Prop:=λ_ e v=>∃t,v=.ref t/\Zu H t e
def RO:Zh->lQ->V->Prop:=λ_ s v=>v=.str s
def qo.mono(e:mz H y)(h:qo H C x nm):qo y C x nm:=let⟨u,z⟩:=h;#[u,e.at z]
def RP.mono(e:mz H z)(a b:lQ)(v:V)(h:RP U H a b v):RP U z a b v:=let⟨x,C,y,u,s⟩:=h;#[x,C,y,u,s.mono e]
def RJ.mono(e:mz H z)(a b:Zh)(v:V)(h:RJ H a b v):RJ z a b v:=let⟨t,y,x⟩:=h;#[t,y,x.mono e]
def RS.mono(e:mz H z)(a:lQ)(b:Zh)(v:V)(h:RS H a b v):RS z a b v:=let⟨t,y,x⟩:=h;#[t,y,x.mono e]
def Nb(h:Zu H t e):H t=some (.tup<|(Xe e).map kV):=h
abbrev Ab:lQ :="abcdefghijklmnopqrstuvwxyz"
abbrev Hj:lQ :="0123456789"
def UB:∀c,c<128->(!(Builtin.Str.occurrences Ab #[(List.toArray [c])] 0 Ab.length 1).isEmpty)=rT c:=by left
def XF:∀c,c<128->(!(Builtin.Str.occurrences (Ab++Hj) #[(List.toArray [c])] 0 (Ab++Hj).length 1).isEmpty)=pS c:=by left
def WB:Ab.length+Hj.length<=sizeLine:=by rw[tU];decide +kernel
def KF(h:pS c=true):c<128:=by
 unfold pS rT at h;simp at h;lia
def zx(x:lQ):Bool:=(decide (1<=x.length) && decide (x.length<=6)) && (rT (x.cps.toList.headD 0) && x.cps.toList.all pS)
def Xb.b(h:Xb x):zx x=true:=by
 obtain⟨z,y,u,s⟩:=h;unfold zx;rw[nM z,nM y,u,s]
 rfl
def Xb.low(h:Xb x):∀c∈x.cps.toList,c<128:=λc z=>KF<|wE.mp h.2.2.2 c z
def Ck(K:lV)(H:Hp)(v:V)(b:Bool):Prop:=(∃x:lQ,v=.str x/\(∀c∈x.cps.toList,c<128)/\x.length<=100/\zx x=b)\/(b=false/\∃t,Xi K H v t/\kitOne K t (.type "str")=some false)
def Xb.asked(h:Xb x):Ck K H (.str x) true:=.inl #[x,rfl,h.low,by have:=h.2.1;lia,h.b]
inductive KU(K:lV):Sp
 | mk (v) (b:Bool):vs=[v]->Ck K H v b->(∀H',mz H H'->Q (.bl b) H')->KU K vs H Q E
def zR:T.gi.O P w mg mB 1 (KU K):=by
 refine T.gi.F.okA ?_;rfl'
 ·obtain⟨v,b,rfl,G,q⟩:=h;intro X D;rcases G with⟨x,rfl,y,z,Y⟩|⟨rfl,t,C,k⟩
  ·have B:x.cps.toList.length=x.length:=ue;refine mJ (Zr (Y5<|Yk<|qD "str" T.af T.fh wH<|pv 0) Zn Zi) #[Xi.str x,.inl<|oG rfl T.jT,?_];refine mJ (Zr (pF<|W0 (We hr (pv 0) Zf)<|Wv<|Z2 yH (pq T.ba<|pv 0) (W6 (by rfl) T.fT)<|Ym _) Zn Zi)<|.inl #[rfl,Yf (λz=>?_) λz0=>(.inr<|.inl #[x,rfl,sz (by lia),Yf (λz=>?_) λz1=>?_])]
   ·have e:x=("":lQ):=V.str.inj<|ow z;have:b=false:=by rw[<-Y,e];decide +kernel
    rw[this]at q;show mK (Zl qr)<|q H<|pL _
   ·have z:(6:Int)<(x.length:Int):=ow z;have:b=false:=by
     rw[<-Y];unfold zx;rw[og (show ¬x.length<=6 by lia),Bool.and_false]
     rfl
    rw[this]at q;show mK (Zl qr)<|q H<|pL _
   have h6:¬(6:Int)<(x.length:Int):=λz=>z1<|nM z
   have u9:x.cps.toList≠[]:=λz=>z0 (nM (by
    have:x=("":lQ):=PyProof.Rows.ext_toList (z.trans<|by left);rw[this]))
   obtain⟨c,l,g⟩:∃c l,x.cps.toList=c ::l:=by
    cases e:x.cps.toList with
    | nil=>show absurd e u9
    | cons c l=>show#[c,l,rfl]
   have U:1<=x.length:=by rw[<-B,g,pi];lia
   refine mK (Zl<|wn (Qm hr (mW (pv 0) Zc)<|Es (by rfl) T.gq)<|yz<|Z7 (r:=KY K) (Zxd rfl) (by rfl) T.jy PyProof.Rows.boot_all<|Zb (pR ["sign"] (oZ 1 [] rfl) (Ul<|pv 0) (oF 0) Wh (zo (r:=DV K) (Gu hr) (pv 0) (Zp Wo (Es (by rfl) T.gq)<|Es (by rfl) T.iq)<|by with_unfolding_all rfl)) Za)<|.inr<|.inr #[x,0,c,rfl,rfl,sz (by lia),by rw[g];show Zm (j:=0) rfl,.inr<|.inr<|.inl<|wm rfl rfl ?_];rw[UB c (y c (by rw[g];show oM))];have u:b=(rT c && x.cps.toList.all pS):=by
    rw[<-Y];unfold zx;rw[nM U,nM (show x.length<=6 by lia),g]
    rfl
   cases L:rT c with
   | false =>
    refine ?_;rw[u,L]at q;show q H (pL _)
   | true =>
    rw[L,Bool.true_and]at u;refine#[x,rfl,?_,λD J=>?_]
    ·rw[Array.all_eq_true'];show λc n=>nM<|y c<|AD.mpr n
    refine Vd (λi d p=>d=(x.cps.toList.take i).map (λc=>V.bl<|pS c)/\p D=some (.lst d)/\mz H p) #[rfl,Zd,λI o e=>by rw[Ze (Zg e J)];show e] ?_ ?_
    ·rintro i a d p hi ⟨rfl,N,M⟩;have n:x.cps.toList[i]? =some a:=by simpa using hi
     have Q7:a<128:=y a<|pe n;refine#[pA rfl,.inr<|.inl #[_,_,rfl,rfl,WB,.inr<|.inr<|.inl #[_,_,rfl,rfl,N,?_,?_]]]
     ·rw[mI,oq,tU];lia
     ·rw[XF a Q7];refine#[?_,Zd,λI o e=>?_]
      ·rw[ol,n];simp
      ·rw[Ze (Zg e J)];show M I o e
    ·rintro d p ⟨rfl,N,M⟩;refine#[D,(x.cps.toList.map pS),rfl,?_,?_]
     ·have e:(List.map pS x.cps.toList).map V.bl=List.map (λc=>V.bl<|pS c) (List.take x.cps.size x.cps.toList):=by
       rw[oO,uD<|by simp]
       rfl
      rw[e];show mO N
     ·have e:(List.map pS x.cps.toList).all id=b:=by rw[List.all_map,u];rfl
      rw[e];show q p M
  ·refine mJ (Zr (Y5<|Yk<|qD "str" T.af T.fh wH<|pv 0) Zn Zi) #[C,.inl<|oG rfl k,?_];show mK (Zl qr)<|q H<|pL _
inductive QO:Sp
 | mk (s d kvs):vs=[.str s,.ref d]->Xb s->H d=some (.dK kvs)->Xm kvs (Xl s)=none->(∀H',mz H H'->Q .non H')->QO  vs H Q E
def BO:T.aJ.O P w mg mB 2 QO:=by
 refine T.aJ.F.okW MA ?_;rfl'
 ·obtain⟨x,d,u,rfl,r,hd,p,q⟩:=h;intro X D;refine mJ (Zr (Y5<|Yk<|Zv (zR T) hr<|Zb (pv 0) Za) Zn Zi) #[_,true,rfl,r.asked,λo y=>(?_)];refine mK (Zr (uj hr (pv 0)<|pv 1) Zn Zi)<|.inr<|.inl #[d,_,rfl,qy (k:=Xl x)<|y.at hd,Yf (λz=>?_) λ_=>q o y];rw[p]at z;show absurd z (by lk)
def tL(k:lQ):lP lQ:=if k ="points" then["left","right"]else[""]
def Ec(k z:lQ):lP (lQ×lQ):=if k ="points" then[("stem",z)]else if k ="cross" then[("a","b"),("c","d")]else if k ="plain" then[("a","b")]else[("","a")]
def Ez(k:lQ):Bool:=decide<|k∈[("plain":lQ),"gate","stop"]
def yx(e:lQ):lP (lQ×lQ)->lQ
 | [] =>""
 | (one,two) ::r=>if e=one then two else if e=two then one else yx e r
def ve(k e z:lQ):lQ:=if z∈tL k then yx e (Ec k z)else ""
def Tv(H:Hp)(p:lR)(l:lP (lQ×lQ)):Prop:=∃z:lP lR,H p=some (.lst<|z.map V.ref)/\Paired (λa (q:lQ×lQ)=>H a=some (.tup [.str q.1,.str q.2])) z l
inductive vp(xs:lP V):Sp
 | mk (v):vs=[v]->(∀p H',mz H H'->H p=none->H' p=some (.lst xs)->Q (.ref p) H')->vp xs vs H Q E
inductive yN(f:lQ->lP (lQ×lQ)):Sp
 | mk (v A1):vs=[v,.str A1]->(∀p H',mz H H'->Tv H' p (f A1)->Q (.ref p) H')->yN f vs H Q E
inductive zX(b:Bool):Sp
 | mk (v):vs=[v]->Q (.bl b) H->zX b vs H Q E
def Kr:T.cz.O P w mg mB 1 (vp<|(["a","b"]:lP lQ).map V.str):=by
 refine T.cz.F.okA ?_;rfl'
 ·obtain⟨v,rfl,k⟩:=h;intro X D;show mK (Zl<|Zo<|Zb Zf<|Zb Zf Za) #[mM,k]
def Am:T.aM.O P w mg mB 1 (vp<|([""]:lP lQ).map V.str):=by
 refine T.aM.F.okA ?_;rfl'
 ·obtain⟨v,rfl,k⟩:=h;intro X D;show mK (Zl<|Zo<|Zb Zf Za) #[mM,k]
def Nd:T.cj.O P w mg mB 1 (yN λy=>[("a","b")]):=by
 refine T.cj.F.okA ?_;rfl'
 ·obtain⟨v,y,rfl,k⟩:=h;intro X D;show mK (Zl<|Zo<|Zb (Zj<|Zb Zf<|Zb Zf Za) Za) #[mM,λx n u l r=>#[mM,λq p z j o=>k q p (u.trans z) #[[x],o,.cons (z.at r) .nil]]]
def Bx:T.aT.O P w mg mB 1 (zX true):=by
 refine T.aT.F.okA ?_;rfl'
 ·obtain⟨v,rfl,k⟩:=h;intro X D;show mK (Zl qr) k
def LF:T.cA.O P w mg mB 1 (vp<|(["a"]:lP lQ).map V.str):=by
 refine T.cA.F.okA ?_;rfl'
 ·obtain⟨v,rfl,k⟩:=h;intro X D;show mK (Zl<|Zo<|Zb Zf Za) #[mM,k]
def Nx:T.ck.O P w mg mB 1 (yN λy=>[("","a")]):=by
 refine T.ck.F.okA ?_;rfl'
 ·obtain⟨v,y,rfl,k⟩:=h;intro X D;show mK (Zl<|Zo<|Zb (Zj<|Zb Zf<|Zb Zf Za) Za) #[mM,λx n u l r=>#[mM,λq p z j o=>k q p (u.trans z) #[[x],o,.cons (z.at r) .nil]]]
def Zm8:T.cL.O P w mg mB 1 (vp<|(["stem","left","right"]:lP lQ).map V.str):=by
 refine T.cL.F.okA ?_;rfl'
 ·obtain⟨v,rfl,k⟩:=h;intro X D;show mK (Zl<|Zo<|Zb Zf<|Zb Zf<|Zb Zf Za) #[mM,k]
def VP:T.cM.O P w mg mB 1 (vp<|(["left","right"]:lP lQ).map V.str):=by
 refine T.cM.F.okA ?_;rfl'
 ·obtain⟨v,rfl,k⟩:=h;intro X D;show mK (Zl<|Zo<|Zb Zf<|Zb Zf Za) #[mM,k]
def YT:T.cE.O P w mg mB 1 (yN λz=>[("stem",z)]):=by
 refine T.cE.F.okA ?_;rfl'
 ·obtain⟨v,z,rfl,k⟩:=h;intro X D;show mK (Zl<|Zo<|Zb (Zj<|Zb Zf<|Zb (pv 1) Za) Za) #[mM,λx n u l r=>#[mM,λq p y j o=>k q p (u.trans y) #[[x],o,.cons (y.at r) .nil]]]
def TJ:T.cF.O P w mg mB 1 (zX false):=by
 refine T.cF.F.okA ?_;rfl'
 ·obtain⟨v,rfl,k⟩:=h;intro X D;show mK (Zl qr) k
def Zno:T.cS.O P w mg mB 1 (vp<|(["a","b","c","d"]:lP lQ).map V.str):=by
 refine T.cS.F.okA ?_;rfl'
 ·obtain⟨v,rfl,k⟩:=h;intro X D;show mK (Zl<|Zo<|Zb Zf<|Zb Zf<|Zb Zf<|Zb Zf Za) #[mM,k]
def VV:T.cN.O P w mg mB 1 (yN λx=>[("a","b"),("c","d")]):=by
 refine T.cN.F.okA ?_;rfl'
 ·obtain⟨v,x,rfl,k⟩:=h;intro X D;show mK (Zl<|Zo<|Zb (Zj<|Zb Zf<|Zb Zf Za)<|Zb (Zj<|Zb Zf<|Zb Zf Za) Za) #[mM,λu i r g q=>#[mM,λp e y d o=>#[mM,λn l z c j=>k n l (r.trans<|y.trans z) #[[u,p],j,.cons (z.at<|y.at q)<|.cons (z.at o) .nil]]]]
def Ro:T.cO.O P w mg mB 1 (zX false):=by
 refine T.cO.F.okA ?_;rfl'
 ·obtain⟨v,rfl,k⟩:=h;intro X D;show mK (Zl qr) k
def X6.ends{T:Tx K mg}{k:lQ}{C:lR}(h:X6 T k C):∃f fd,Xa K C "ends" f/\qv K fd ["self"] []/\∀(P:ma)(w:lY)(mB:lX)(j:Nat),1<=j->Xf P w K mg mB oP j f fd ["self"] (vp<|(Yt k).map V.str):=by
 rcases h with⟨rfl,rfl⟩|⟨rfl,rfl⟩|⟨rfl,rfl⟩|⟨rfl,rfl⟩|⟨rfl,rfl|rfl⟩
 ·show#[_,_,T.gc,T.cL.b,λP w mB j z=>(Zm8 T).mono z]
 ·show#[_,_,T.gI,T.cS.b,λP w mB j z=>(Zno T).mono z]
 ·show#[_,_,T.gW,T.cA.b,λP w mB j z=>(LF T).mono z]
 ·show#[_,_,T.gU,T.cA.b,λP w mB j z=>(LF T).mono z]
 ·show#[_,_,T.gS,T.cz.b,λP w mB j z=>(Kr T).mono z]
 ·show#[_,_,T.gA,T.cz.b,λP w mB j z=>(Kr T).mono z]
def X6.lies{T:Tx K mg}{k:lQ}{C:lR}(h:X6 T k C):∃f fd,Xa K C "lies" f/\qv K fd ["self"] []/\∀(P:ma)(w:lY)(mB:lX)(j:Nat),1<=j->Xf P w K mg mB oP j f fd ["self"] (vp<|(tL k).map V.str):=by
 rcases h with⟨rfl,rfl⟩|⟨rfl,rfl⟩|⟨rfl,rfl⟩|⟨rfl,rfl⟩|⟨rfl,rfl|rfl⟩
 ·show#[_,_,T.ge,T.cM.b,λP w mB j z=>(VP T).mono z]
 ·show#[_,_,T.gJ,T.aM.b,λP w mB j z=>(Am T).mono z]
 ·show#[_,_,T.gX,T.aM.b,λP w mB j z=>(Am T).mono z]
 ·show#[_,_,T.gV,T.aM.b,λP w mB j z=>(Am T).mono z]
 ·show#[_,_,T.gT,T.aM.b,λP w mB j z=>(Am T).mono z]
 ·show#[_,_,T.gB,T.aM.b,λP w mB j z=>(Am T).mono z]
def X6.pairs{T:Tx K mg}{k:lQ}{C:lR}(h:X6 T k C):∃f fd,Xa K C "pairs" f/\qv K fd ["self","lie"] []/\∀(P:ma)(w:lY)(mB:lX)(j:Nat),1<=j->Xf P w K mg mB oP j f fd ["self","lie"] (yN<|Ec k):=by
 rcases h with⟨rfl,rfl⟩|⟨rfl,rfl⟩|⟨rfl,rfl⟩|⟨rfl,rfl⟩|⟨rfl,rfl|rfl⟩
 ·show#[_,_,T.fN,T.cE.b,λP w mB j z=>(YT T).mono z]
 ·show#[_,_,T.gf,T.cN.b,λP w mB j z=>(VV T).mono z]
 ·show#[_,_,T.gF,T.ck.b,λP w mB j z=>(Nx T).mono z]
 ·show#[_,_,T.gC,T.ck.b,λP w mB j z=>(Nx T).mono z]
 ·show#[_,_,T.gx,T.cj.b,λP w mB j z=>(Nd T).mono z]
 ·show#[_,_,T.fX,T.cj.b,λP w mB j z=>(Nd T).mono z]
def X6.bears{T:Tx K mg}{k:lQ}{C:lR}(h:X6 T k C):∃f fd,Xa K C "bears" f/\qv K fd ["self"] []/\∀(P:ma)(w:lY)(mB:lX)(j:Nat),1<=j->Xf P w K mg mB oP j f fd ["self"] (zX<|Ez k):=by
 rcases h with⟨rfl,rfl⟩|⟨rfl,rfl⟩|⟨rfl,rfl⟩|⟨rfl,rfl⟩|⟨rfl,rfl|rfl⟩
 ·show#[_,_,T.fO,T.cF.b,λP w mB j z=>(TJ T).mono z]
 ·show#[_,_,T.gg,T.cO.b,λP w mB j z=>(Ro T).mono z]
 ·show#[_,_,T.gG,T.aT.b,λP w mB j z=>(Bx T).mono z]
 ·show#[_,_,T.gD,T.aT.b,λP w mB j z=>(Bx T).mono z]
 ·show#[_,_,T.gy,T.aT.b,λP w mB j z=>(Bx T).mono z]
 ·show#[_,_,T.fY,T.aT.b,λP w mB j z=>(Bx T).mono z]
def X6.cls{T:Tx K mg}{k:lQ}{C:lR}(h:X6 T k C):pO K C/\mU K C "name"/\Xa K C "leads" T.aS.f:=by
 rcases h with⟨rfl,rfl⟩|⟨rfl,rfl⟩|⟨rfl,rfl⟩|⟨rfl,rfl⟩|⟨rfl,rfl|rfl⟩
 ·show#[T.dF,T.eK,T.fP]
 ·show#[T.eL,T.fg,T.gh]
 ·show#[T.fL,T.fM,T.gH]
 ·show#[T.fJ,T.fK,T.gE]
 ·show#[T.gw,T.hW,T.gz]
 ·show#[T.eJ,T.ff,T.fZ]
def X6.stop{T:Tx K mg}{k:lQ}{C x:lR}{nm:lQ}{H:Hp}(h:X6 T k C)(o:qo H C x nm):∃t,Xi K H (.ref x) t/\kitOne K t (.ref T.bz)=some (decide<|k ="gate"\/k ="stop"):=by
 obtain⟨z,o⟩:=o;rcases h with⟨rfl,rfl⟩|⟨rfl,rfl⟩|⟨rfl,rfl⟩|⟨rfl,rfl⟩|⟨rfl,rfl|rfl⟩
 ·show#[_,Xi.ins o T.dF T.fV T.tG T.tK T.fW,T.iT]
 ·show#[_,Xi.ins o T.eL T.gP T.tG T.tK T.gQ,T.jf]
 ·show#[_,Xi.ins o T.fL T.ij T.tG T.tK T.ik,T.jD]
 ·show#[_,Xi.ins o T.fJ T.ig T.tG T.tK T.ii,T.jC]
 ·show#[_,Xi.ins o T.gw T.ib T.tG T.tK T.ic,T.jz]
 ·show#[_,Xi.ins o T.eJ T.gN T.tG T.tK T.gO,T.je]
inductive JH:Sp
 | mk (k a C nm e l):vs=[.ref a,.str e,.str l]->X6 T k C->qo H C a nm->(∀H',mz H H'->Q (.str<|ve k e l) H')->JH vs H Q E
def SE:T.aS.O P w mg mB 2 (JH T):=by
 refine T.aS.F.okW Go ?_;rfl'
 ·obtain⟨k,a,C,nm,e,l,rfl,g,⟨z,U⟩,q⟩:=h;intro X D;obtain⟨z,y,B,b1,g1⟩:=g.lies;obtain⟨z,y,m2,b2,g2⟩:=g.pairs;have N:=g.cls.1;refine mJ (Zr (rP hr (pv 2) AF) Zn Zi)<|su (Yh (pv 0) N B (g1 _ _ _ 1<|by lk) hr b1 .nil Zz) #[U,rfl,_,rfl,λp H1 n y z=>.inl #[.inl<|mO z,rfl,Y8 _,?_]];rw[mT rfl,Xw];refine Yf (λu=>?_) λu=>?_
  ·have u:¬l∈tL k:=by simpa using u
   refine mK (Zl Zf) ?_;have:ve k e l ="":=by unfold ve;rw[mS u]
   rw[this]at q;show q H1 n
  ·have u:l∈tL k:=by simpa using u
   refine mJ (Y9 pC rfl (Yn AF) (sI rfl<|Zy (oh 3 Go)<|Zy (oh 4 Go) Xq) Zn)<|su (Ya (pv 0) N m2 (g2 _ _ _ 1<|by lk) hr b2 .nil Zz<|Zb (pv 2) Za) #[n.at U,rfl,_,l,rfl,λy H2 d e2=>?_];obtain⟨M,L,J⟩:=e2;let c:IF:=λi z j=>(∃I G,z=[some (.ref a),some<|.str e,some<|.str l,I,G])/\mz H2 j/\yx e ((Ec k l).drop i)=ve k e l
   refine#[mO L,W2 (xs:=M.map V.ref) c ?_ ?_ ?_ ?_]
   ·refine#[#[none,none,rfl],pL _,?_];unfold ve;rw[mT u]
    rfl
   ·rintro i z j _ ⟨_,p,_⟩;show mO<|p.at L
   ·rintro i x z j C ⟨⟨I,G,rfl⟩,p,r⟩;rw[nK]at C;obtain⟨y,Y,rfl⟩:=nU.mp C;obtain⟨⟨one,two⟩,hq,ht⟩:=oQ J Y;rw[GM hq]at r;refine#[mQ<|p.at ht,rfl,rfl,?_];refine mJ (Zr (We hr (pv 1)<|pv 3) Zn Zi)<|.inl #[rfl,Yf (λu=>?_) λu=>?_]
    ·have u:e=one:=V.str.inj<|ow u;refine mK (Zl<|pv 4) ?_;unfold yx at r;rw[mT u]at r;rw[<-r]at q;show q _<|n.trans<|d.trans p
    ·have u:¬e=one:=λy=>u (nM<|by rw[y])
     refine mK (Zr (We hr (pv 1)<|pv 4) Zn Zi)<|.inl #[rfl,Yf (λo=>?_) λo=>?_]
     ·have o:e=two:=V.str.inj<|ow o;refine mK (Zl<|pv 3) ?_;unfold yx at r;rw[mS u,mT o]at r;rw[<-r]at q;show q _<|n.trans<|d.trans p
     ·have o:¬e=two:=λy=>o (nM<|by rw[y])
      unfold yx at r;rw[mS u,mS o]at r;show#[#[_,_,rfl],p,r]
   ·rintro z j ⟨_,p,r⟩;refine mK (Zl Zf) ?_;have y:(Ec k l).drop (M.map V.ref).length=[]:=by rw[mI,nG J,Be]
    rw[y]at r;rw[<-r]at q;show q _<|n.trans<|d.trans p
def _root_.L2.mz.upd0(s:mz H z)(n:H d=none):mz H (mH z d o):=λb u e=>by rw[Ze (Zg e n)];show s.at e
def PO(H:Hp)(x:lR)(p:Zh):Prop:=∃C,X6 T p.1 C/\qo H C x p.2
def PO.mono(e:mz H z)(h:PO U H x p):PO U z x p:=let⟨C,y,u⟩:=h;#[C,y,u.mono e]
inductive Lq:Sp
 | mk (l) (xs:lP lR) (ps:lP Zh):vs=[.ref l]->H l=some (.lst<|xs.map V.ref)->Paired (PO T H) xs ps->(ps.map snd).Nodup->(∀p∈ps,Xb p.2)->ps.length<=100->(∀(d:lR)(kvs:lP (mZ×V)) (H':Hp),mz H H'->H d=none->H' d=some (.dK kvs)->DP Xl (RP T H) kvs (qP ps)->Q (.ref d) H')->Lq vs H Q E
def Zji:T.dm.O P w mg mB 3 (Lq T):=by
 refine T.dm.F.okW EY ?_;rfl'
 ·obtain⟨l,xs,j,rfl,N,M,nd,nm,len,q⟩:=h;intro X D;have e:=nG M;refine mJ (mY 1 EY Ws) λd H1 L J e1=>?_
  let c:IF:=λi z a=>(∃o,z=[some (.ref l),some<|.ref d,o])/\mz H a/\∃y,a d=some (.dK y)/\DP Xl (RP T H) y (qP<|j.take i)
  refine mJ (Y9 pC rfl (Yn<|pv 0) (oh 2 EY) Zn) #[mO<|L.at N,W2 (K:=K) (xs:=xs.map V.ref) c #[#[none,rfl],L,[],e1,.nil] ?_ ?_ ?_]
  ·rintro i z a _ ⟨_,u,_⟩;show mO<|u.at N
  ·rintro i v z I G ⟨⟨o,rfl⟩,u,y,hd,r⟩;rw[nK]at G;obtain⟨x,Y,rfl⟩:=nU.mp G;obtain⟨p,g,C,n,dx,U⟩:=oQ M Y;have hm:p∈j:=pe g;have B3:=(oN.mp g).1;have B:Xm y (Xl p.2)=none:=r.none yF (by
    rw[Fe,vW];show AY nd<|by rw[nK,g];rfl)
   have hkl:y.length<=100:=by
    have:=r.len;unfold qP at this;rw[mI,oq]at this;lia
   refine mJ (Z3<|Zv (BO T) hr<|Zb (Yd (pv 2) rfl)<|Zb (pv 1) Za) #[u.at U,n.cls.1,n.cls.2.1,rfl,p.2,d,y,rfl,nm p hm,hd,B,λH3 s3=>?_];have m6:=u.trans s3;refine mK (tT (Xo hr) (pv 1) (Yd (pv 2) rfl) (pv 2) rfl) #[m6.at U,n.cls.1,n.cls.2.1,rfl,qN.k (k:=Xl p.2) (s3.at hd) (Zq<|by lia),#[_,rfl],m6.upd0 J,_,Zd,?_];have:qP (j.take<|i+1)=qP (j.take i)++[(p.2,p.1)]:=by
    unfold qP;rw[ol,g,ng]
    rfl
   rw[this];show r.put B #[x,C,rfl,n,dx,U]
  ·rintro z I ⟨⟨o,rfl⟩,u,y,hd,r⟩;rw[mI,e,oR]at r;show mK (Zl<|pv 1)<|q d y I u J hd r
def _root_.L2.mz.frz(s:mz H y):mz (mH H d u) (mH y d u):=λb o e=>by
 by_cases z:b=d
 ·rw[z,Zd]at e ⊢;show e
 ·rw[Ze z]at e ⊢;show s.at e
inductive JS:Sp
 | mk (d kvs) (ps:lP Zh):vs=[.ref d]->H d=some (.dK kvs)->DP Xl (RP T H) kvs (qP ps)->(ps.map snd).Nodup->ps.length<=100->(∀(a:lR)(ka:lP (lP mZ×V)) (H':Hp),mz H H'->H a=none->H' a=some (.dT ka)->DP Xe (RA T H) ka (qA ps)->Q (.ref a) H')->JS vs H Q E
def JR(ps:lP Zh):(qA ps).length<=4 * ps.length:=by
 induction ps with
 | nil=>decide
 | cons p ps z =>
  have:=Dm p.1;have e:qA (p ::ps)=(Yt p.1).map (λe=>((p.2,e),p.1))++qA ps:=rfl;rw[e,nW,mI,pi];lia
def LP{ps:lP Zh}{i:Nat}{p:Zh}(h:ps[i]? =some p):qA (ps.take<|i+1)=qA (ps.take i)++(Yt p.1).map λe=>((p.2,e),p.1):=by
 unfold qA;rw[ol,h,yB];simp
def Zjp:T.dq.O P w mg mB 2 (JS T):=by
 refine T.dq.F.okW Wb ?_;rfl'
 ·obtain⟨d,n,L,rfl,hd,hD,nd,len,q⟩:=h;intro X D;have hkl:n.length=L.length:=by have:=hD.len;unfold qP at this;rw[mI]at this;show this
  refine mJ (mY 1 Wb QP) λa H1 s1 B e1=>?_
  have U:a≠d:=λy=>by rw[y,hd]at B;cases B
  refine mJ (KO<|Y9 pC rfl (Bc<|pv 0) (sI rfl<|Zy (oh 2 Wb)<|Zy (oh 3 Wb) Xq) Zn) #[s1.at hd,λo nf=>JK (λi z Y=>(∃o2 o3 N,z=[some (.ref d),some<|.ref a,o2,o3,N])/\mz (mH H d<|.frz o<|.dK n) Y/\∃l,Y a=some (.dT l)/\DP Xe (RA T H) l (qA<|L.take i)) #[#[none,none,none,rfl],s1.frz,[],by rw[Ze U];show e1,.nil] ?_ ?_ ?_]
  ·rintro i z Y _ ⟨_,J,_⟩;show J.at Zd
  ·rintro i kv z H2 hi ⟨⟨o2,o3,N,rfl⟩,J,l,ha,hA⟩ tp H3 s3 n3 e3;obtain⟨⟨nm,u⟩,hq,hk,x,C,hv,hC,dx,hO⟩:=oQ hD hi;have I:L[i]? =some (u,nm):=by
    unfold qP at hq;rw[nK]at hq;obtain⟨⟨p,p2⟩,I,e⟩:=nU.mp hq;rw[I];simp only[yQ]at e;rw[e.1,e.2]
   have B3:=(oN.mp I).1;have hxd:x≠d:=λy=>by rw[y,hd]at hO;cases hO
   have hOF:mH H d (.frz o<|.dK n) x=some (.ins C dx [("name",.str nm)]):=by rw[Ze hxd];show hO
   obtain⟨p,d1,m1,b1,g1⟩:=hC.ends;have hk:kv.1=Sum.inr nm:=hk;rw[hk,hv]at e3;have hFa:mH H d (.frz o<|.dK n) a=none:=by rw[Ze U];show B
   refine#[mQ e3,rfl,rfl,?_];have G:=J.trans s3;refine mK (Y9 pC rfl (Yn AF) (oh 4 Wb) Zn)<|su (Yh (pv 3) hC.cls.1 m1 (g1 _ _ _ 1<|by lk) hr b1 .nil Zz) #[G.at hOF,rfl,_,rfl,λp H4 s4 n4 e4=>#[mO e4,W2 (K:=K) (xs:=(Yt u).map V.str) (λj z Y=>(∃N,z=[some (.ref d),some<|.ref a,some<|.str nm,some<|.ref x,N])/\mz (mH H d<|.frz o<|.dK n) Y/\Y p=some (.lst<|(Yt u).map V.str)/\∃l,Y a=some (.dT l)/\DP Xe (RA T H) l (qA (L.take i)++((Yt u).take j).map λe=>((nm,e),u))) #[#[_,rfl],G.trans s4,e4,l,s4.at<|s3.at ha,by rw[List.take_zero,uH,qf];show hA] ?_ ?_ ?_]]
   ·rintro j z Y _ ⟨_,_,y,_⟩;show mO y
   ·rintro j v z H5 hj ⟨⟨N,rfl⟩,s5,M,g,c,r⟩;rw[nK]at hj;obtain⟨e,he,rfl⟩:=nU.mp hj;have hlen5:g.length<=500:=by
     have p:=r.len;have h2:=JR<|L.take i;have h3:=Dm u;rw[nW,mI,oq]at p;rw[oq]at h2;lia
    have w9:Xm g (Xe (nm,e))=none:=r.none uv (by
     have p:(Ys<|L.take<|i+1).Nodup:=xQ (by rw[vW];show nd.sublist<|List.take_sublist _ _);rw[<-Cs,LP I,ng]at p;rw[ng];have ed:Yt u=(Yt u).take j++(e ::(Yt u).drop (j+1)):=by rw[<-GM he,wT]
     rw[show((u,nm):Zh).1=u from rfl,ed,ng,ng,nS,nS,<-pp,qp]at p;intro m;show p.2.2 _ m _ oM rfl)
    refine mK (tT (Xo hr) (pv 1) (Zj<|Zb (pv 2)<|Zb (pv 4) Za) (pv 3) rfl) #[mM,λt H6 s6 n6 e6=>#[qN.t (k:=Xe (nm,e)) (s6.at c) e6 (Zq<|by lia),#[_,rfl],(s5.trans s6).upd0 hFa,?_,_,Zd,?_]]
    ·rw[Ze (Pd M c (λy=>nomatch y))];show s6.at M
    ·have:((Yt u).take (j+1)).map (λe=>((nm,e),u))=((Yt u).take j).map (λe=>((nm,e),u))++[((nm,e),u)]:=by
      rw[ol,he,ng]
      rfl
     rw[this,<-pp];show r.put w9 #[x,C,rfl,hC,dx,hO]
   ·rintro z H5 ⟨⟨N,rfl⟩,s5,M,g,c,r⟩;rw[mI,oR]at r;refine#[#[_,_,_,rfl],s5,g,c,?_];rw[LP I];show r
  ·rintro z H2 ⟨⟨o2,o3,N,rfl⟩,J,l,ha,hA⟩;rw[hkl,oR]at hA;refine#[d,o,_,J.at Zd,nf,mK (Zl<|pv 1)<|q a l _ (J.thaw hd) B ?_ hA];rw[Ze U];show ha
inductive OK:Sp
 | mk (t u v):vs=[.ref t]->H t=some (.tup [u,v])->Q (.bl true) H->OK  vs H Q E
def ML:T.gj.O P w mg mB 1 OK:=by
 refine T.gj.F.okA ?_;rfl'
 ·obtain⟨t,u,v,rfl,z,q⟩:=h;intro X D;show mK (Zl<|wn (qD "tuple" T.af T.eN zO<|pv 0)<|yz<|sW hr (pq T.ba<|pv 0) Zc) #[Xi.tup z,.inl<|oG rfl T.jP,(.inl #[.inr<|mQ z,.inl #[rfl,q]])]
inductive Mx:Sp
 | mk (t d e kvs):vs=[.ref t,.ref d]->Zu H t e->H d=some (.dT kvs)->Q (.bl (Xm kvs<|Xe e).isSome) H->Mx  vs H Q E
def zc:T.fw.O P w mg mB 2 Mx:=by
 refine T.fw.F.okA ?_;rfl'
 ·obtain⟨t,d,e,y,rfl,z,hd,q⟩:=h;intro X D;show mK (Zl<|wn (Zv (ML T) hr<|Zb (pv 0) Za)<|wn (qD "str" T.af T.fh wH<|mW (pv 0) Zc)<|wn (qD "str" T.af T.fh wH<|mW (pv 0) Zc)<|yz<|Qm hr (pv 0)<|pv 1) #[t,_,_,rfl,z,(.inr<|.inl #[mQ z,Zm (j:=0) rfl,Xi.str _,.inl<|oG rfl T.jT,(.inr<|.inl #[mQ z,Zm (j:=1) rfl,Xi.str _,.inl<|oG rfl T.jT,(.inr<|.inl #[d,_,rfl,Xz.t (k:=Xe e) hd z,q])])])]
inductive Nk:Sp
 | mk (t pa d a b) (e1 e2:Zh) (ka kd):vs=[.ref t,.ref pa,.ref d]->H t=some (.tup [.ref a,.ref b])->Zu H a e1->Zu H b e2->H pa=some (.dT ka)->H d=some (.dT kd)->(Xm ka<|Xe e1).isSome=true->(Xm ka<|Xe e2).isSome=true->Xm kd (Xe e1)=none->Xm kd (Xe e2)=none->e1.1≠e2.1->Q .non H->Nk  vs H Q E
def Tl:T.dN.O P w mg mB 3 Nk:=by
 refine T.dN.F.okW LL ?_;rfl'
 ·obtain⟨t,c,d,a,b,L,J,Y,I,rfl,u,U,N,n,hd,G,C,B,n2,ne,q⟩:=h;intro X D;refine mJ (Zr (Y5<|Yk<|Zv (ML T) hr<|Zb (pv 0) Za) Zn Zi) #[t,_,_,rfl,u,?_];let l:IF:=λi z p=>(∃o,z=[some (.ref t),some<|.ref c,some<|.ref d,o])/\p=H
  refine mJ (Y9 pC rfl (xo<|pv 0) (oh 3 LL) Zn) #[mQ u,BN (K:=K) (xs:=[.ref a,.ref b]) l #[#[none,rfl],rfl] ?_ ?_ ?_]
  ·rintro i z p _ ⟨_,rfl⟩;show mQ u
  ·rintro i v z p r ⟨⟨o,rfl⟩,g⟩;rw[g];obtain⟨x,e,rfl,M,h1,h2⟩:∃x e,v=V.ref x/\Zu H x e/\(Xm Y<|Xe e).isSome=true/\Xm I (Xe e)=none:=by
    match i,r with
    | 0,r=>cases r;show#[a,L,rfl,U,G,B]
    | 1,r=>cases r;show#[b,J,rfl,N,C,n2]
   refine mJ (Zr (Y5<|Yk<|Zv (zc T) hr<|Zb (pv 3)<|Zb (pv 1) Za) Zn Zi) #[x,c,e,Y,rfl,M,n,Yf (λy=>?_) λ_=>?_]
   ·rw[h1]at y;show absurd y (by lk)
   refine mK (Zr (uj hr (pv 3)<|pv 2) Zn Zi)<|.inr<|.inl #[d,_,rfl,Xz.t (k:=Xe e) hd M,Yf (λy=>?_) λ_=>#[#[_,rfl],rfl]];rw[h2]at y;show absurd y (by lk)
  ·rintro z p ⟨⟨o,rfl⟩,g⟩;rw[g];refine mK (Zr (We hr (mW (mW (pv 0) Zc) Zc)<|mW (mW (pv 0) Zc) Zc) Zn Zi)<|.inr<|.inl #[mQ u,Zm (j:=0) rfl,.inr<|.inl #[mQ U,Zm (j:=0) rfl,.inr<|.inl #[mQ u,Zm (j:=1) rfl,.inr<|.inl #[mQ N,Zm (j:=0) rfl,.inl #[rfl,Yf (λy=>?_) λ_=>q]]]]];show absurd (V.str.inj<|ow y) ne
inductive QK:Sp
 | mk (jl pa) (js:lP (Zh×Zh)) (ka:lP (lP mZ×V)):vs=[.ref jl,.ref pa]->Yq H jl js->H pa=some (.dT ka)->(∀e∈Xv js,(Xm ka<|Xe e).isSome=true)->ka.length=(Xv js).length->(Xv js).Nodup->(∀j∈js,j.1.1≠j.2.1)->js.length<=300->(∀(d:lR)(kj:lP (lP mZ×V)) (H':Hp),mz H H'->H d=none->H' d=some (.dT kj)->DP Xe (RJ H) kj (qJ js)->Q (.ref d) H')->QK  vs H Q E
def KC{z:lP (Zh×Zh)}{i:Nat}{j:Zh×Zh}(h:z[i]? =some j):qJ (z.take<|i+1)=qJ (z.take i)++[(j.1,j.2)]++[(j.2,j.1)]:=by
 unfold qJ;rw[ol,h,yB];simp
def Og(z:lP (Zh×Zh)):(qJ z).length=2 * z.length:=by
 induction z with
 | nil=>rfl
 | cons j z y =>
  have e:qJ (j ::z)=[(j.1,j.2),(j.2,j.1)]++qJ z:=rfl;rw[e,nW,y];simp only[pi,Ff];lia
def Zlk:T.dO.O P w mg mB 4 QK:=by
 refine T.dO.F.okW Ik ?_;rfl'
 ·obtain⟨jl,M,p,Y,rfl,hJ,g,hk,L,nd,apart,len,q⟩:=h;intro X D;obtain⟨ts,hl,i9⟩:=hJ;have N5:=nG i9;refine mJ (mY 2 Ik QP) λd H1 s1 J e1=>?_
  let I:IF:=λi z G=>(∃o,z=[some (.ref jl),some<|.ref M,some<|.ref d,o])/\mz H G/\∃x,G d=some (.dT x)/\DP Xe (RJ H) x (qJ<|p.take i)
  refine mJ (Y9 pC rfl (Yn<|pv 0) (oh 3 Ik) Zn) #[mO<|s1.at hl,W2 (K:=K) (xs:=ts.map V.ref) I #[#[none,rfl],s1,[],e1,.nil] ?_ ?_ ?_]
  ·rintro i z G _ ⟨_,u,_⟩;show mO<|u.at hl
  ·rintro i v z C hi ⟨⟨o,rfl⟩,u,x,hd,n⟩;rw[nK]at hi;obtain⟨t,B,rfl⟩:=nU.mp hi;obtain⟨j,U,a,b,e,ha,hb⟩:=oQ i9 B;have hm:j∈p:=pe U;have B3:=(oN.mp U).1;have m1:j.1∈Xv p:=vJ.mpr #[j,hm,by simp];have m2:j.2∈Xv p:=vJ.mpr #[j,hm,by simp];have d9:x.length<=600:=by
    have l:=n.len;rw[Og,oq]at l;lia
   have K4:(Xv (p.take i)++[j.1]++[j.2]).Nodup:=by
    have l:(Xv<|p.take<|i+1).Nodup:=nd.sublist (by
     have:Xv p=Xv (p.take<|i+1)++Xv (p.drop<|i+1):=by rw[<-Ba,wT]
     rw[this];show OF _ _)
    rw[<-tJ,KC U,ng,ng,tJ]at l;show l
   have nd1:j.1∉Xv (p.take i):=λy=>(qp.mp (qp.mp K4).1).2.2 _ y _ oM rfl
   have c:j.2∉Xv (p.take i)++[j.1]:=λy=>(qp.mp K4).2.2 _ y _ oM rfl
   have v1:Xm x (Xe j.1)=none:=n.none uv (by rw[tJ];show nd1);have v2:Xm x (Xe j.2)=none:=n.none uv (by rw[tJ];show λy=>c<|vT _ y);refine mJ (Z3<|Zv (Tl T) hr<|Zb (pv 3)<|Zb (pv 1)<|Zb (pv 2) Za) #[t,M,d,a,b,j.1,j.2,Y,x,rfl,u.at e,ha.mono u,hb.mono u,u.at g,hd,hk _ m1,hk _ m2,v1,v2,apart j hm,?_];have U5:DP Xe (RJ H) (Wy x (Xe j.1)<|.ref b) (qJ (p.take i)++[(j.1,j.2)]):=n.put v1 #[b,rfl,hb];have hl1:=BB x (Xe j.1)<|.ref b;have v3:Xm (Wy x (Xe j.1)<|.ref b) (Xe j.2)=none:=U5.none uv (by rw[ng,tJ];show c);refine mJ (tT (Xo hr) (pv 2) (mW (pv 3) Zc) (mW (pv 3) Zc) rfl)<|.inr<|.inl #[mQ<|u.at e,Zm (j:=1) rfl,.inr<|.inl #[mQ<|u.at e,Zm (j:=0) rfl,qN.t (k:=Xe j.1) hd (Nb<|ha.mono u) (Zq<|by lia),?_]];have N:mz H (mH C d<|.dT<|Wy x (Xe j.1)<|.ref b):=u.upd0 J;refine mK (tT (Xo hr) (pv 2) (mW (pv 3) Zc) (mW (pv 3) Zc) rfl)<|.inr<|.inl #[mQ<|N.at e,Zm (j:=0) rfl,.inr<|.inl #[mQ<|N.at e,Zm (j:=1) rfl,qN.t (k:=Xe j.2) Zd (Nb<|hb.mono N) (Zq<|by lia),#[_,rfl],N.upd0 J,_,Zd,?_]];rw[KC U];show U5.put v3 #[a,rfl,ha]
  ·rintro z C ⟨⟨o,rfl⟩,u,x,hd,n⟩;rw[mI,N5,oR]at n;have j:x.length=Y.length:=by
    have l:=n.len;rw[L,l,<-tJ,mI]
   refine mJ (Zr (Z2 ug (Z7 (r:=FO) Lj (by rfl) T.ba IE<|Zb (pv 2) Za) (Z7 (r:=FO) Lj (by rfl) T.ba IE<|Zb (pv 1) Za)<|Ym _) Zn Zi) #[d,x,rfl,hd,M,Y,rfl,u.at g,Yf (λy=>?_) λ_=>?_]
   ·have:(x.length:Int)<(Y.length:Int):=ow y;show absurd this (by lia)
   show mK (Zl<|pv 2)<|q d x C u J hd n
inductive IH:Sp
 | mk (t pa l x C e k nm ka) (us:lP lR) (es):vs=[.ref t,.ref pa,.ref l]->Zu H t e->H pa=some (.dT ka)->Xm ka (Xe e)=some (.ref x)->X6 T k C->qo H C x nm->Ez k=true->H l=some (.lst<|us.map V.ref)->Paired (Zu H) us es->e∉es->Q .non H->IH vs H Q E
def Cf(h:ph a=ph b):a=b:=by
 obtain⟨z,y⟩:=a;obtain⟨z,y⟩:=b;unfold ph at h;simp only[Tr.tup.injEq,yZ,Tr.str.injEq,Bu]at h;rw[h.1,h.2]
def Zne:T.dP.O P w mg mB 3 (IH T):=by
 refine T.dP.F.okA ?_;rfl'
 ·obtain⟨t,i,l,x,C,e,k,nm,g,d,r,rfl,u,y,p,o,⟨G,c⟩,a,Y,U,N,q⟩:=h;intro X D;obtain⟨x,G,M,L,J⟩:=o.bears;refine mJ (Zr (Y5<|Yk<|Zv (zc T) hr<|Zb (pv 0)<|Zb (pv 1) Za) Zn Zi) #[t,i,e,g,rfl,u,y,Yf (λz=>?_) λ_=>?_]
  ·rw[p]at z;show absurd z (by simp)
  refine mJ (Zr (Y5<|Yk AF) Zn Zi)<|su (Yh (W5 (Xo hr) (pv 1) (pv 0) λ_ _=>rfl) o.cls.1 M (J _ _ _ 2<|by lk) hr L .nil Zz) #[by rw[<-p];show Xz.t (k:=Xe e) y u,c,rfl,_,rfl,Yf (λz=>?_) λ_=>?_]
  ·rw[a]at z;show absurd z (by lk)
  refine mK (Zr (uj hr (pv 0)<|pv 2) Zn Zi)<|.inr<|.inr<|.inr #[l,1,ph e,r.map ph,d,rfl,mO Y,by lk,uw (n:=0) (mQ u)<|.cons (.str _)<|.cons (.str _) .nil,La U,Yf (λz=>?_) λ_=>q];have z:ph e∈r.map ph:=ow z;obtain⟨x,j,I⟩:=mV.mp z;rw[Cf I]at j;show absurd j N
def Zu.offD(h:Zu H t q)(y:H c=some (.dK xs)):Zu (mH H c o) t q:=by
 unfold Zu at h ⊢;show(Ze λz=>by rw[z,y]at h;cases h).trans h
inductive Py:Sp
 | mk (sl pa) (ts:lP lR) (sg:lP (lQ×lQ×lQ)) (ka):vs=[.ref sl,.ref pa]->H sl=some (.lst<|ts.map V.ref)->Paired (An H) ts sg->H pa=some (.dT ka)->(∀q∈sg,Xb q.1)->(sg.map fst).Nodup->(sg.map snd).Nodup->sg.length<=100->(∀q∈sg,∃x C k,Xm ka (Xe (q.2.1,q.2.2))=some (.ref x)/\X6 T k C/\qo H C x q.2.1/\Ez k=true)->(∀(d:lR)(ks:lP (mZ×V)) (H':Hp),mz H H'->H d=none->H' d=some (.dK ks)->DP Xl (RS H') ks (qS sg)->Q (.ref d) H')->Py vs H Q E
def YJ(h:DP Xl (RS H) z qs):∃us:lP lR,z.map (λkv=>kv.2)=us.map V.ref/\Paired (Zu H) us (qs.map snd):=by
 unfold DP at h
 induction h with
 | nil=>show#[[],rfl,.nil]
 | cons r _ y =>
  obtain⟨us,x,u⟩:=y;obtain⟨_,t,s,q⟩:=r;show#[t ::us,by rw[nS,nS,x,s],.cons q u]
def Ztd:T.fz.O P w mg mB 4 (Py T):=by
 refine T.fz.F.okW AU ?_;rfl'
 ·obtain⟨sl,pa,ts,o,ka,rfl,hl,i9,G,E3,nd,one,len,hk,q⟩:=h;intro X D;have N5:=nG i9;refine mJ (mY 2 AU Ws) λd H1 s1 n1 e1=>?_
  let B:IF:=λi z L=>(∃o3 o4 o5,z=[some (.ref sl),some<|.ref pa,some<|.ref d,o3,o4,o5])/\mz H L/\∃p,L d=some (.dK p)/\DP Xl (RS L) p (qS<|o.take i)
  refine mJ (Y9 pC rfl (Yn<|pv 0) (oh 3 AU) Zn) #[mO<|s1.at hl,W2 (K:=K) (xs:=ts.map V.ref) B #[#[none,none,none,rfl],s1,[],e1,.nil] ?_ ?_ ?_]
  ·rintro i z L _ ⟨_,g,_⟩;show mO<|g.at hl
  ·rintro i v z H2 hi ⟨⟨o3,o4,o5,rfl⟩,g,p,hd,a⟩;rw[nK]at hi;obtain⟨t,hti,rfl⟩:=nU.mp hi;obtain⟨⟨nm,e,Y⟩,N,J⟩:=oQ i9 hti;have J:H t=some (.tup [.str nm,.str e,.str Y]):=J;have hm:((nm,e,Y):lQ×lQ×lQ)∈o:=pe N;have B3:=(oN.mp N).1;obtain⟨x,C,k,hv,hC,hO,hb⟩:=hk _ hm;have d9:p.length<=100:=by
    have h1:=a.len;unfold qS at h1;rw[mI,oq]at h1;lia
   have hn:Xm p (Xl nm)=none:=a.none yF (by
    rw[Lu,vW];show AY nd<|by rw[nK,N];rfl)
   have he:((e,Y):Zh)∉(qS<|o.take i).map snd:=by
    have:(qS<|o.take i).map snd=(o.map snd).take i:=by
     unfold qS;rw[oO,vW]
     rfl
    rw[this];show AY one (by rw[nK,N];rfl)
   refine mJ (mY 4 AU<|mW (pv 3) Zc)<|.inr<|.inl #[mQ<|g.at J,Zm (j:=0) rfl,?_];refine mJ (mY 5 AU<|Xp (r:=qV K) rj (pv 3) (X2 Zc) X5)<|.inl #[mQ<|g.at J,(show ¬(HT.sIx 3 0 (some 1)=0/\HT.sIx 3 3 none=3) by lk),λI H3 M r e3=>?_];have m6:=g.trans M;have T0:Zu H3 I (e,Y):=e3;refine mJ (Z3<|Zv (BO T) hr<|Zb (pv 4)<|Zb (pv 2) Za) #[nm,d,p,rfl,E3 _ hm,M.at hd,hn,λH4 U=>?_];have x8:=m6.trans U;have Q5:DP Xl (RS H4) p (qS<|o.take i):=a.mapR λ_ _ _ y=>RS.mono (M.trans U) _ _ _ y
   obtain⟨us,m9,hup⟩:=YJ Q5;refine mJ (Z3<|Zv (Zne T) hr<|Zb (pv 5)<|Zb (pv 1)<|Zb (Vy rfl (by rfl) T.ej<|pv 2) Za) #[d,p,rfl,.inl<|U.at<|M.at hd,λl H5 n n5 e5=>#[I,pa,l,x,C,(e,Y),k,e,ka,us,_,rfl,(T0.mono U).mono n,(x8.trans n).at G,hv,hC,hO.mono<|x8.trans n,hb,by rw[<-m9];show e5,ny hup λ_ _ r=>r.mono n,he,?_]];have D3:=x8.trans n;have c:H5 d=some (.dK p):=n.at<|U.at<|M.at hd;refine mK (tT (Xo hr) (pv 2) (pv 4) (pv 5) rfl) #[qN.k (k:=Xl nm) c (Zq<|by lia),#[_,_,_,rfl],D3.upd0 n1,_,Zd,?_];have:qS (o.take<|i+1)=qS (o.take i)++[(nm,(e,Y))]:=by
    unfold qS;rw[ol,N,ng]
    rfl
   rw[this];have J8:DP Xl (RS<|mH H5 d<|.dK<|Wy p (Xl nm)<|.ref I) p (qS<|o.take i):=Q5.mapR λ_ _ _ ⟨u,z1,z2⟩=>#[u,z1,(z2.mono n).offD c]
   show J8.put hn #[I,rfl,((T0.mono U).mono n).offD c]
  ·rintro z H2 ⟨⟨o3,o4,o5,rfl⟩,g,p,hd,a⟩;rw[mI,N5,oR]at a;show mK (Zl<|pv 2)<|q d p H2 g n1 hd a
structure Z5(T:Tx K mg)(H:Hp)(x:Addr)(ps:List Zh)(js:List (Zh×Zh))(sg:List (Str×Str×Str)):Prop where
 ex:∃(dx po jo so si:Addr)(kp ks:List (mZ×V)) (kj ko:List (List mZ×V)),H x=some (.ins T.aV dx [("part_of",.ref po),("joined",.ref jo),("post_of",.ref so),("signal_on",.ref si)])/\
  H po=some (.dK kp)/\DP Xl (RP T H) kp (qP ps)/\H jo=some (.dT kj)/\DP Xe (RJ H) kj (qJ js)/\H so=some (.dK ks)/\DP Xl (RS H) ks (qS sg)/\H si=some (.dT ko)/\DP Xe RO ko (qO sg)
def Z5.mono(e:mz H z)(h:Z5 U H x ps y u):Z5 U z x ps y u:=by
 obtain⟨s,r,q,p,o,n,l,j,i,g,d,c,a,Y,Q,N,M,L⟩:=h.ex;show#[s,r,q,p,o,n,l,j,i,e.at g,e.at d,c.mapR<|RP.mono e,e.at a,Y.mapR<|RJ.mono e,e.at Q,N.mapR<|RS.mono e,e.at M,L]
def pV(H:Hp)(x:lR):Hp:=λb=>if b=x then none else H b
def Gk :pV H x x=none:=mT rfl
def vC(h:H b=some o)(n:b≠x):pV H x b=some o:=(mS n).trans h
def sk :mz (pV H x) (mH H x o):=λb u e=>by
 unfold pV at e
 by_cases z:b=x
 ·rw[mT z]at e;cases e
 ·rw[mS z]at e;rw[Ze z];show e
def DH(s:mz G H)(n:G x=none):mz G (pV H x):=λb u e=>vC (s.at e)<|Zg e n
structure Y2(ps:List Zh)(js:List (Zh×Zh))(sg:List (Str×Str×Str)):Prop where
 net:Net ps js []
 len:ps.length<=40
 name:∀p∈ps,Xb p.2
 sigs:yg ps sg
def Aa.v(h:Aa ps z y):Y2 ps z y:=#[h.net,by have:=h.len;lia,λp x=>(h.name p x).nm.ok,h.sigsV]
def Sq(ps:lP Zh):(Ys ps).length<=4 * ps.length:=by rw[<-Cs,mI];show JR ps
def _root_.YM.Net.flat(h:Net ps z []):(Xv z).Perm (Ys ps):=by
 have:=h.perm;rw[qf]at this;show this
def _root_.YM.Net.jlen(h:Net ps z [])(l:ps.length<=40):z.length<=300:=by
 have y:=h.flat.length_eq;have x:=Sq ps;rw[<-tJ,mI,Og]at y;lia
def WU(z:p∈ps)(he:e∈Yt p.1):((p.2,e),p.1)∈qA ps:=vJ.mpr #[p,z,mV.mpr #[e,he,rfl]]
inductive Fl:Sp
 | mk (G x dx pl jl sl) (xs:lP lR) (ps js sg):vs=[.ref x,.ref pl,.ref jl,.ref sl]->G x=none->mz G H->H x=some (.ins T.aV dx [])->G pl=some (.lst<|xs.map V.ref)->Paired (PO T G) xs ps->Yq G jl js->uO G sl sg->Y2 ps js sg->(∀H',mz G H'->Z5 T H' x ps js sg->Q .non H')->Fl vs H Q E
def Sa:T.bM.O P w mg mB 5 (Fl T):=by
 refine T.bM.F.okW EK ?_;rfl'
 ·obtain⟨G,x,dx,pl,jl,sl,J,ps,js,L,rfl,hGx,s0,hx,p0,hxs,w6,⟨ts,N1,i9⟩,j,q⟩:=h;intro X D;have hxl:=nG hxs;have N5:=nG i9;have ylen:=j.len;have slen:=j.sigs.len;refine mJ (mY 4 EK<|uQ (Z2 xK (pv 3) rN<|Ym _) (Zo Za)<|pv 3) #[rfl,?_];refine mJ (Zr (pF<|W0 (Z2 yH (pq T.ba<|pv 1) (W6 (by rfl) T.gL)<|Ym _)<|Wv<|Z2 yH (pq T.ba<|pv 4) (W6 (by rfl) T.fU)<|Ym _) Zn Zi)<|.inl #[.inl<|mO<|s0.at p0,Yf (λz=>?_) λ_=>(.inl #[.inl<|mO<|s0.at N1,Yf (λz=>?_) λ_=>?_])]
  ·have z:=ow z;rw[mI]at z;show absurd z (by lia)
  ·have z:=ow z;rw[mI]at z;show absurd z (by lia)
  refine mJ (Wz (pv 0) (Zv (Zji T) hr<|Zb (pv 1) Za) rfl) #[pl,J,ps,rfl,s0.at p0,ny hxs λ_ _ r=>r.mono s0,j.net.nd,j.name,by lia,λpo kp H1 s1 m1 e1 dp=>#[s1.at hx,T.am,T.bF,by simp,?_]];have hpx:po≠x:=λz=>by rw[z,hx]at m1;cases m1
  have g1:mz G (pV H1 x):=DH (s0.trans s1) hGx;have dp1:DP Xl (RP T<|pV H1 x) kp (qP ps):=dp.mapR λa b v ⟨y,C,I,Y,dy,z3⟩=>#[y,C,I,Y,dy,vC (s1.at z3) λz=>by rw[z,hx]at z3;cases z3]
  have ep1:pV H1 x po=some (.dK kp):=vC e1 hpx;refine mJ (mY 5 EK<|Zv (Zjp T) hr<|Zb (Yd (pv 0) rfl) Za) #[Zd,T.am,T.bF,rfl,po,kp,ps,rfl,sk.at ep1,dp1.mapR<|RP.mono sk,j.net.nd,by lia,λpa ka H2 s2 l e2 da=>?_];have B:=s2.at Zd;have ep2:mz G H2:=(g1.trans sk).trans s2;have kaq:∀p∈ps,∀e∈Yt p.1,∃v,Xm ka (Xe (p.2,e))=some v/\RA T _ (p.2,e) p.1 v:=λp hp e he=>da.get uv (by rw[Cs];show xQ j.net.nd)<|WU hp he
  refine mJ (Wz (pv 0) (Zv (Zlk T) hr<|Zb (pv 2)<|Zb (pv 5) Za) rfl) #[jl,pa,js,ka,rfl,w6.mono ep2,e2,λe he=>?_,?_,?_,j.net.apart,j.net.jlen ylen,λjo kj H3 s3 m3 e3 dj=>#[s3.at B,T.am,T.cG,(by change 1<1000;decide),?_]]
  ·have:=j.net.flat.mem_iff.mp he;obtain⟨p,hp,l⟩:=vJ.mp this;obtain⟨e',M,rfl⟩:=mV.mp l;obtain⟨v,hv,_⟩:=kaq p hp e' M;rw[hv];rfl
  ·rw[j.net.flat.length_eq,<-Cs,mI];show da.len
  ·show j.net.flat.nodup_iff.mpr<|xQ j.net.nd
  have hjx:jo≠x:=λz=>by rw[z,B]at m3;cases m3
  have m6:mz (pV H1 x) (pV H3 x):=DH ((sk.trans s2).trans s3) Gk;have ej3:pV H3 x jo=some (.dT kj):=vC e3 hjx;have hpax:pa≠x:=λz=>by rw[z,B]at e2;cases e2
  have epa:pV H3 x pa=some (.dT ka):=vC (s3.at e2) hpax;have dj3:DP Xe (RJ<|pV H3 x) kj (qJ js):=dj.mapR λa b v ⟨u,I,Y⟩=>#[u,I,vC (s3.at Y) λz=>by rw[z]at Y;show nomatch B.symm.trans Y]
  have g3:mz G (pV H3 x):=g1.trans m6;refine mJ (Wz (pv 0) (Zv (Ztd T) hr<|Zb (pv 4)<|Zb (pv 5) Za) rfl) #[sl,pa,ts,L,ka,rfl,sk.at<|g3.at N1,ny i9 λ_ _ r=>(g3.trans sk).at r,sk.at epa,j.sigs.name,j.sigs.nd,j.sigs.one,by lia,λg hg=>?_,λU ks H4 s4 m4 e4 ds=>#[s4.at Zd,T.am,T.bH,(by change 2<1000;decide),?_]]
  ·obtain⟨p,hp,h1,h2,h3⟩:=j.sigs.at_ g hg;obtain⟨v,hv,y,C,rfl,hC,dy,l⟩:=kaq p hp g.2.2 h3;refine#[y,C,p.1,by rw[<-h1];show hv,hC,#[dy,?_],nM h2];have M:y≠x:=λz=>by rw[z,Zd]at l;cases l
   rw[Ze M,<-h1];show s3.at<|s2.at l
  have hsx:U≠x:=λz=>by rw[z,Zd]at m4;cases m4
  have hx4:=s4.at<|Zd (H:=H3) (a:=x);have s34:mz (pV H3 x) (pV H4 x):=DH (sk.trans s4) Gk;have es4:pV H4 x U=some (.dK ks):=vC e4 hsx;have ds4:DP Xl (RS<|pV H4 x) ks (qS L):=ds.mapR λa b v ⟨u,I,Y⟩=>#[u,I,vC Y λz=>by rw[z]at Y;show nomatch hx4.symm.trans Y]
  refine mK (Wz (pv 0) (Yu (r:=Jh) (Tz rfl hr.units) (by rfl) T.ek xJ<|Zb (IB<|pR ["name","end"] (oZ 2 [] rfl) (Bc<|Yd (pv 0) rfl) (ze (K:=K) (n:=2) rfl rfl<|Zy (oF 0)<|Zy (oF 1) Xq) Wh (Zj<|Zb (pv 1)<|Zb (pv 0) Za)) Za) rfl) #[Zd,T.am,T.bH,rfl,sk.at es4,λo nf D hD=>Hd (λi ys H'=>mz (mH (mH H4 x<|.ins T.aV dx [("part_of",.ref po),("joined",.ref jo),("post_of",.ref U)]) U<|.frz o<|.dK ks) H'/\H' D=some (.lst ys)/\∃d:lP lR,ys=d.map V.ref/\Paired (λt (q:lP mZ×V)=>∃a,H' t=some (.tup [.ref a,q.2])/\H' a=some (.tup<|q.1.map kV)) d ((qO<|L.take i).map λq=>(Xe q.1,V.str q.2))) #[pr hD,Zd,[],rfl,.nil] ?_ ?_ ?_]
  ·rintro i ys H' _ ⟨z,_⟩;show z.at Zd
  ·rintro i kv ys H5 hi ⟨s5,U0,d,rfl,N⟩ tp H6 l n6 e6;obtain⟨⟨nm,e⟩,hq,hk,t,hv,ht⟩:=oQ ds4 hi;have hk:kv.1=Sum.inr nm:=hk;rw[hk,hv]at e6;have hg:L[i]? =some (nm,e.1,e.2):=by
    unfold qS at hq;rw[nK]at hq;obtain⟨⟨g1,g2,g3⟩,hg,e'⟩:=nU.mp hq;rw[hg];simp only[yQ]at e';rw[<-e'.1,<-e'.2]
   have B3:=(oN.mp hg).1;have hto:t≠U:=λz=>by rw[z]at ht;show nomatch es4.symm.trans ht
   have htF:mH (mH H4 x<|.ins T.aV dx [("part_of",.ref po),("joined",.ref jo),("post_of",.ref U)]) U (.frz o<|.dK ks) t=some (.tup<|(Xe e).map kV):=by
    rw[Ze hto];show sk.at ht
   have htl':d.length<=100:=by
    have:=nG N;unfold qO at this;rw[mI,mI,oq]at this;lia
   refine#[mQ e6,rfl,rfl,(pA rfl).trans (pA rfl),mM,λt' H7 M n7 e7=>#[M.at<|l.at U0,by rw[mI];show Zq (by lia),?_,Zd,d++[t'],by rw[ng];rfl,?_]]
   ·intro c u z;rw[Ze (Zg z hD)];show M.at<|l.at<|s5.at z
   ·have hD7:=M.at<|l.at U0;have off:∀{c:lR}{J:lP V}{u:HO},H7 c=some (.tup J)->mH H7 D u c=some (.tup J):=λ{c J u} z=>(Ze λy=>by rw[y,hD7]at z;cases z).trans z
    have:(qO<|L.take<|i+1).map (λq=>(Xe q.1,V.str q.2))=(qO<|L.take i).map (λq=>(Xe q.1,V.str q.2))++[(Xe e,V.str nm)]:=by
     unfold qO;rw[ol,hg,ng,ng]
     rfl
    rw[this];show Dc (ny N λ_ _ ⟨a,I,Y⟩=>#[a,off<|M.at<|l.at I,off<|M.at<|l.at Y]) #[t,off e7,off<|M.at<|l.at<|s5.at htF]
  ·rintro ys H5 ⟨s5,U0,d,rfl,N⟩;have hks:ks.length=L.length:=by
    have:=ds4.len;unfold qS at this;rw[mI]at this;show this
   rw[hks,oR]at N;have M:=s5.at Zd;have off:∀{c:lR}{J:lP V}{u:HO},H5 c=some (.tup J)->mH H5 U u c=some (.tup J):=λ{c J u} z=>(Ze λy=>by rw[y,M]at z;cases z).trans z
   have sT:mz (mH H4 x<|.ins T.aV dx [("part_of",.ref po),("joined",.ref jo),("post_of",.ref U)]) (mH H5 U<|.dK ks):=s5.thaw<|sk.at es4;refine#[U,o,_,M,nf,D,d,_,rfl,?_,ny N λ_ _ ⟨a,I,Y⟩=>#[a,off I,off Y],?_,λsi H8 s8 n8 e8=>#[s8.at<|sT.at Zd,T.am,T.bP,(by change 3<1000;decide),?_]]
   ·rw[Ze λy=>by rw[y,M]at U0;cases U0];show U0
   ·rw[oO];have e1:(qO L).map (fst ∘ λq=>(Xe q.1,V.str q.2))=((qO L).map fst).map Xe:=by rw[oO];rfl
    rw[e1,Gb];show j.sigs.one.map Xe λa b ne z=>ne<|uv a b z
   have hix:si≠x:=λz=>by rw[z,sT.at Zd]at n8;cases n8
   have s48:mz (pV H4 x) (pV H8 x):=DH ((sk.trans sT).trans s8) Gk;have ei8:pV H8 x si=some (.dT<|(qO L).map λq=>(Xe q.1,V.str q.2)):=vC e8 hix;have f4:mz (pV H4 x) (mH H8 x<|.ins T.aV dx [("part_of",.ref po),("joined",.ref jo),("post_of",.ref U),("signal_on",.ref si)]):=s48.trans sk;have f3:=s34.trans f4;have f1:=m6.trans f3;refine q _ (g1.trans f1) #[dx,po,jo,U,si,kp,ks,kj,_,Zd,f1.at ep1,dp1.mapR<|RP.mono f1,f3.at ej3,dj3.mapR<|RJ.mono f3,f4.at es4,ds4.mapR<|RS.mono f4,sk.at ei8,?_];have all:∀l:lP (Zh×lQ),DP Xe RO (l.map λq=>(Xe q.1,V.str q.2)) l:=λl=>by
    induction l with
    | nil=>show .nil
    | cons p l ih=>show .cons #[rfl,rfl] ih
   show all _
def Kn:lP V->Hp->VK->Prop:=λn H Q=>∃(r q p:lR)(o:lP lR)(z:lP Zh)(y:lP (Zh×Zh)) (u:lP (lQ×lQ×lQ)),n=[.ref r,.ref q,.ref p]/\H r=some (.lst<|o.map V.ref)/\Paired (PO T H) o z/\Yq H q y/\uO H p u/\Y2 z y u/\∀x s,mz H s->H x=none->Z5 T s x z y u->Q (.ref x) s
def UE:∀vs H Q,Kn T vs H Q->
  ∀x z,H x=none->H z=none->z≠x->Fl T (.ref x ::(vs++[])) (mH (mH H z<|.own x) x<|.ins T.aV z []) (λv r=>v=.non/\Q (.ref x) r) E0:=by
 rintro vs H Q ⟨p,n,l,j,i,h,g,rfl,d,c,a,Y,U,q⟩ x z y u M;refine#[H,x,z,p,n,l,j,i,h,g,rfl,y,λb o e=>?_,Zd,d,c,a,Y,U,λN s t=>#[rfl,q x N s y t]];rw[Ze (Zg e y),Ze<|Zg e u];show e
inductive FU:Sp
 | mk (x nm k ps js sg):vs=[.ref x,.str nm]->Z5 T H x ps js sg->Y2 ps js sg->((k,nm):Zh)∈ps->(∀(y C:lR)(H':Hp),mz H H'->X6 T k C->qo H' C y nm->Q (.ref y) H')->FU vs H Q E
def GL:T.br.O P w mg mB 2 (FU T):=by
 refine T.br.F.okA ?_;rfl'
 ·obtain⟨x,nm,k,j,U,N,rfl,i,r,p,q⟩:=h;intro X D;obtain⟨x,g,U,N,M,L,J,I,G,o,n,e,_⟩:=i.ex;have d:((nm,k):lQ×lQ)∈qP j:=mV.mpr #[(k,nm),p,rfl];obtain⟨v,l,y,C,rfl,c,a⟩:=e.get yF (by rw[Fe];show r.net.nd) d;refine mJ (Zr (pF<|W0 (Y5<|Yk<|Zv (zR T) hr<|Zb (pv 1) Za)<|Wv<|rP hr (pv 1)<|Yd (pv 0) rfl) Zn Zi) #[_,true,rfl,(r.name _ p).asked,λY u=>(#[u.at o,T.am,T.bF,rfl,.inr<|.inl #[g,_,rfl,qy (k:=Xl nm)<|u.at n,Yf (λz=>?_) λ_=>?_]])]
  ·rw[l]at z;show absurd z (by simp)
  show mK (Zl<|W5 (Xo hr) (Yd (pv 0) rfl) (pv 1) λ_ _=>rfl) #[u.at o,T.am,T.bF,rfl,by rw[<-l];show qy (k:=Xl nm)<|u.at n,q y C Y u c<|a.mono u]
inductive Lz:Sp
 | mk (x t e ps js sg):vs=[.ref x,.ref t]->Z5 T H x ps js sg->Y2 ps js sg->Zu H t e->((e∈Ys ps/\∀t' e',((e,e'):Zh×Zh)∈qJ js->Zu H t' e'->Q (.ref t') H)\/(e∉Ys ps/\∀t' H',mz H H'->H t'=none->Zu H' t' ("","")->Q (.ref t') H'))->Lz vs H Q E
def GK:T.bf.O P w mg mB 3 (Lz T):=by
 refine T.bf.F.okA ?_;rfl'
 ·obtain⟨x,t,e,z,g,U,rfl,a,y,r,q⟩:=h;intro X D;obtain⟨z,x,d,U,N,M,L,p,J,o,I,G,n,c,_⟩:=a.ex;have Y:((qJ g).map fst).Nodup:=by rw[tJ];show y.net.flat.nodup_iff.mpr<|xQ y.net.nd
  rcases q with⟨l,q⟩|⟨l,q⟩
  ·have:e∈(qJ g).map fst:=by rw[tJ];show y.net.flat.mem_iff.mpr l
   obtain⟨⟨x,j⟩,z,rfl⟩:=mV.mp this;obtain⟨v,u,i,rfl,U⟩:=c.get uv Y z;refine mK (Zl<|uQ (Yk<|Zv (zc T) hr<|Zb (pv 1)<|Zb (Yd (pv 0) rfl) Za) (W5 (Xo hr) (Yd (pv 0) rfl) (pv 1) λ_ _=>rfl)<|Zj<|Zb Zf<|Zb Zf Za) #[o,T.am,T.cG,rfl,t,d,_,p,rfl,r,n,?_];rw[u];show#[o,T.am,T.cG,rfl,by rw[<-u];show Xz.t (k:=Xe x) n r,q i j z U]
  ·have u:Xm p (Xe e)=none:=c.none uv (by rw[tJ];show λz=>l<|y.net.flat.mem_iff.mp z);refine mK (Zl<|uQ (Yk<|Zv (zc T) hr<|Zb (pv 1)<|Zb (Yd (pv 0) rfl) Za) (W5 (Xo hr) (Yd (pv 0) rfl) (pv 1) λ_ _=>rfl)<|Zj<|Zb Zf<|Zb Zf Za) #[o,T.am,T.cG,rfl,t,d,_,p,rfl,r,n,?_];rw[u];show#[mM,λi z x U j=>q i z x U j]
def Yjc(z:lP (lQ×lQ×lQ))(e:Zh):Bool:=decide<|e∈z.map snd
inductive Oi:Sp
 | mk (x t e ps js) (sg:lP (lQ×lQ×lQ)):vs=[.ref x,.ref t]->Z5 T H x ps js sg->Y2 ps js sg->Zu H t e->(∀nm:lQ,((nm,e)∈qS sg/\Xb nm/\e∈sg.map snd)\/(nm =""/\e∉sg.map snd)->Q (.str nm) H)->Oi vs H Q E
def Y7:T.ar.O P w mg mB 3 (Oi T):=by
 refine T.ar.F.okA ?_;rfl'
 ·obtain⟨x,t,e,z,y,i,rfl,Y,g,p,q⟩:=h;intro X D;obtain⟨z,y,x,l,d,N,M,L,u,o,_,_,_,_,_,_,n,c⟩:=Y.ex;have U:((qO i).map fst).Nodup:=by rw[Gb];show g.sigs.one
  by_cases r:e∈i.map snd
  ·obtain⟨⟨nm,z,y⟩,l,rfl⟩:=mV.mp r;obtain⟨v,j,rfl⟩:=c.get uv U (a:=(z,y)) (b:=nm)<|mV.mpr #[_,l,rfl];refine mK (Zl<|uQ (Yk<|Zv (zc T) hr<|Zb (pv 1)<|Zb (Yd (pv 0) rfl) Za) (W5 (Xo hr) (Yd (pv 0) rfl) (pv 1) λ_ _=>rfl) Zf) #[o,T.am,T.bP,rfl,t,d,_,u,rfl,p,n,?_];have x:Xm u (Xe (z,y))=some (.str nm):=j;rw[show((nm,z,y):lQ×lQ×lQ).snd=(z,y)from rfl,x];show#[o,T.am,T.bP,rfl,by rw[<-x];show Xz.t (k:=Xe (z,y)) n p,q nm<|.inl #[mV.mpr #[_,l,rfl],g.sigs.name _ l,r]]
  ·have j:Xm u (Xe e)=none:=c.none uv (by rw[Gb];show r);refine mK (Zl<|uQ (Yk<|Zv (zc T) hr<|Zb (pv 1)<|Zb (Yd (pv 0) rfl) Za) (W5 (Xo hr) (Yd (pv 0) rfl) (pv 1) λ_ _=>rfl) Zf) #[o,T.am,T.bP,rfl,t,d,_,u,rfl,p,n,?_];rw[j];show(q _<|.inr #[rfl,r])
abbrev S4:=lQ×lQ×lQ×lQ
def qK(H:Hp)(t:lR)(q:S4):Prop:=H t=some (.tup [.str q.1,.str q.2.1,.str q.2.2.1,.str q.2.2.2])
def qK.mono(e:mz H z)(h:qK H t q):qK z t q:=e.at h
inductive Mq:Sp
 | mk (t) (q:S4):vs=[.ref t]->qK H t q->(∀t' H',mz H H'->H t'=none->Zu H' t' (q.1,q.2.2.1)->Q (.ref t') H')->Mq  vs H Q E
def Gm:T.er.O P w mg mB 1 Mq:=by
 refine T.er.F.okA ?_;rfl'
 ·obtain⟨t,y,rfl,z,q⟩:=h;intro X D;show mK (Zl<|Zj<|Zb (mW (pv 0) Zc)<|Zb (mW (pv 0) Zc) Za)<|.inr<|.inl #[mQ z,Zm (j:=0) rfl,.inr<|.inl #[mQ z,Zm (j:=2) rfl,mM,q]]
def vj(z:lP (lQ×lQ×lQ))(q:S4):Bool:=decide (q.2.2.1 ="") || decide (((q.1,q.2.2.1):Zh)∈z.map snd)
inductive KH:Sp
 | mk (x t q ps js sg):vs=[.ref x,.ref t]->Z5 T H x ps js sg->Y2 ps js sg->qK H t q->(∀H',mz H H'->Q (.bl<|vj sg q) H')->KH vs H Q E
def zF(h:Xb s):s≠ "":=λz=>by
 have:=h.1;rw[z]at this;show absurd this (by lk)
def Pa:T.eu.O P w mg mB 4 (KH T):=by
 refine T.eu.F.okA ?_;rfl'
 ·obtain⟨x,t,u,g,d,p,rfl,n,c,l,q⟩:=h;intro X D;obtain⟨y,_,_,_,_,_,_,_,_,a,_⟩:=n.ex;refine mK (Zl<|TR (sW hr (mW (pv 1) Zc) Zf)<|yz<|XH hr (Ya (pv 0) T.am T.aQ (Y7 T) hr.m T.ar.b .nil Zz<|Zb (Zv (Gm T) hr<|Zb (pv 1) Za) Za) Zf)<|.inr<|.inl #[mQ l,Zm (j:=2) rfl,.inl #[rfl,Yf (λz=>?_) λz=>?_]]
  ·have z:u.2.2.1 ="":=V.str.inj<|ow z;have e:vj p u=true:=by unfold vj;rw[nM z];rfl
   rw[e]at q;show q H<|pL _
  ·have z:¬u.2.2.1 ="":=λy=>z (nM<|by rw[y])
   refine#[a,rfl,t,u,rfl,l,λY U i M N=>#[x,Y,_,g,d,p,rfl,n.mono i,c,N,λnm r=>.inl #[rfl,?_]]];have e:vj p u=!decide (V.str nm=V.str ""):=by
    unfold vj;rw[og z];rcases r with⟨_,r,o⟩|⟨r,o⟩
    ·rw[nM o,og λy=>zF r<|V.str.inj y];rfl
    ·rw[og o,r];rfl
   rw[<-e];show q U i
inductive Kl:Sp
 | mk (x) (ps:lP Zh) (js sg):vs=[.ref x]->Z5 T H x ps js sg->Y2 ps js sg->(∀ss:lP lQ,ss.Perm (ps.map snd)->PyProof.Rows.sortedS ss=true->pK H (.lst<|ss.map V.str) Q)->Kl vs H Q E
def PX:T.bQ.O P w mg mB 1 (Kl T):=by
 refine T.bQ.F.okA ?_;rfl'
 ·obtain⟨x,z,i,g,rfl,y,u,q⟩:=h;intro X D;obtain⟨x,p,i,g,e,o,d,c,a,n,l,j,_⟩:=y.ex;refine mK (Zl<|Z7 (r:=BZ) (EE rfl) (by rfl) T.cY yJ<|Zb (Yd (pv 0) rfl) Za) #[n,T.am,T.bF,rfl,p,o,z.map snd,rfl,.inl l,?_,by rw[mI];have:=u.len;lia,q];have:=oJ (List.map kV) j.keys;rw[oO,oO]at this;refine Eq.trans this ?_;rw[<-Fe,oO]
  rfl
def X6.gate{T:Tx K mg}{k:lQ}{C x:lR}{nm:lQ}{H:Hp}(h:X6 T k C)(o:qo H C x nm):∃t,Xi K H (.ref x) t/\kitOne K t (.ref T.bA)=some (decide<|k ="gate"):=by
 obtain⟨z,o⟩:=o;rcases h with⟨rfl,rfl⟩|⟨rfl,rfl⟩|⟨rfl,rfl⟩|⟨rfl,rfl⟩|⟨rfl,rfl|rfl⟩
 ·show#[_,Xi.ins o T.dF T.fV T.tG T.tK T.fW,T.iU]
 ·show#[_,Xi.ins o T.eL T.gP T.tG T.tK T.gQ,T.jh]
 ·show#[_,Xi.ins o T.fL T.ij T.tG T.tK T.ik,T.jG]
 ·show#[_,Xi.ins o T.fJ T.ig T.tG T.tK T.ii,T.jF]
 ·show#[_,Xi.ins o T.gw T.ib T.tG T.tK T.ic,T.jE]
 ·show#[_,Xi.ins o T.eJ T.gN T.tG T.tK T.gO,T.jg]
def X6.pts{T:Tx K mg}{k:lQ}{C x:lR}{nm:lQ}{H:Hp}(h:X6 T k C)(o:qo H C x nm):∃t,Xi K H (.ref x) t/\kitOne K t (.ref T.aH)=some (decide<|k ="points"):=by
 obtain⟨z,o⟩:=o;rcases h with⟨rfl,rfl⟩|⟨rfl,rfl⟩|⟨rfl,rfl⟩|⟨rfl,rfl⟩|⟨rfl,rfl|rfl⟩
 ·show#[_,Xi.ins o T.dF T.fV T.tG T.tK T.fW,T.iV]
 ·show#[_,Xi.ins o T.eL T.gP T.tG T.tK T.gQ,T.jj]
 ·show#[_,Xi.ins o T.fL T.ij T.tG T.tK T.ik,T.jJ]
 ·show#[_,Xi.ins o T.fJ T.ig T.tG T.tK T.ii,T.jI]
 ·show#[_,Xi.ins o T.gw T.ib T.tG T.tK T.ic,T.jH]
 ·show#[_,Xi.ins o T.eJ T.gN T.tG T.tK T.gO,T.ji]
def wu(ps:lP Zh)(kd:lQ)(ss:lP lQ):lP lQ:=ss.filter λn=>decide<|((kd,n):Zh)∈ps
def RF{ps:lP Zh}(h:(ps.map snd).Nodup){a b:Zh}(x:a∈ps)(u:b∈ps)(e:a.2=b.2):a=b:=by
 induction ps with
 | nil=>cases x
 | cons p r s =>
  rw[nS,pN]at h;rcases nQ.mp x with rfl|y
  ·rcases nQ.mp u with rfl|z
   ·rfl
   ·show absurd (mV.mpr #[b,z,e.symm]) h.1
  ·rcases nQ.mp u with rfl|z
   ·show absurd (mV.mpr #[a,y,e]) h.1
   ·show s h.2 y z
def Sr{ps:lP Zh}{kd n:lQ}{ss:lP lQ}{j:Nat}(h:ss[j]? =some n):wu ps kd (ss.take<|j+1)=wu ps kd (ss.take j)++if((kd,n):Zh)∈ps then[n]else[]:=by
 unfold wu;rw[ol,h,tD,show(some n).toList=[n]from rfl,rC]
 by_cases z:((kd,n):Zh)∈ps
 ·rw[mT (nM z),mT z,AA]
 ·rw[mS (by simpa using z),mS z,AA]
def Hu(ps:lP Zh)(kd:lQ)(ss:lP lQ):(wu ps kd ss).length<=ss.length:=wI _ _
def IR{T:Tx K mg}{M x l D:lR}{kd:lQ}{ss:lP lQ}{ps:lP Zh}{d:lP (Zh×Zh)}{c:lP (lQ×lQ×lQ)}{r:Hp}{Q:VK}{z:St}{E:XK}
  (hk:∀{k:lQ}{C y:lR}{nm:lQ}{H:Hp},X6 T k C->qo H C y nm->∃t,Xi K H (.ref y) t/\kitOne K t (.ref M)=some (decide<|k=kd))
  (L:Z5 T r x ps d c) (a:Y2 ps d c) (J:ss.Perm (ps.map snd)) (hl:r l=some (.lst<|ss.map V.str)) (I:r D=none)
  (q:∀s,mz r s->s D=some (.lst<|(wu ps kd ss).map V.str)->Q (.ref D) s) {fr:St->St} (z9:fr z=[none,some<|.ref x]) :
  sw (tW K l) fr (qW 0) (tB<|xY (yy K)<|uk (Et T.aV "named" (FU T) [] E (rO 1) (uk (rO 0) wD))<|uk (tC<|.ref M) wD) (rO 0) Q z r D:=by
 obtain⟨u,o,n,j,g,e,Y,U,N,h1,_⟩:=L.ex;have hn:ss.length<=40:=by rw[J.length_eq,mI];show a.len
 refine Xc (xs:=ss.map V.str) (λi h s=>h=(wu ps kd<|ss.take i).map V.str/\s D=some (.lst h)/\mz r s) #[rfl,Zd,pr I] ?_ ?_ ?_
 ·rintro i h s _ ⟨_,_,p⟩;show mO<|p.at hl
 ·rintro j v h s G ⟨rfl,y8,p⟩;rw[nK]at G;obtain⟨n,B,rfl⟩:=nU.mp G;obtain⟨⟨k,A⟩,Y,rfl⟩:=mV.mp<|J.mem_iff.mp<|pe B;unfold qG;rw[z9];refine#[pA rfl,p.at h1,rfl,x,A,k,ps,d,c,rfl,L.mono p,a,Y,λy C u U hC hO=>?_];obtain⟨t,ht,g⟩:=hk hC hO;have hd:decide (k=kd)=decide (((kd,A):Zh)∈ps):=by
   refine FN.mpr #[λe=>e ▸ Y,λe=>?_];show oJ fst<|RF a.net.nd Y e rfl
  rw[hd]at g;refine#[ht,.inr #[_,rfl,g],?_];have A4:=U.at y8;rw[Sr B];refine Yf (λN=>?_) λN=>?_
  ·rw[mT (ow N)];refine#[A4,?_,?_,Zd,λb o e=>?_]
   ·rw[mI];have:=Hu ps kd<|ss.take j;rw[oq]at this;show Zq (by lia)
   ·rw[ng];rfl
   ·rw[Ze (Zg e I)];show U.at<|p.at e
  ·rw[mS (λu=>N<|nM u),qf];show#[rfl,A4,p.trans U]
 ·rintro h o ⟨rfl,u,n⟩;rw[mI,oR]at u;show q o n u
def JC(h:PyProof.Rows.sortedS l=true)(f:lQ->Bool):PyProof.Rows.sortedS (l.filter f)=true:=by
 refine PyProof.Rows.sortedS_of_pairwise _<|List.Pairwise.filter f ?_;cases l with
 | nil=>show .nil
 | cons x r=>show ED h
inductive HH(kd:lQ):Sp
 | mk (x ps js sg):vs=[.ref x]->Z5 T H x ps js sg->Y2 ps js sg->(∀gs:lP lQ,(gs.Nodup/\PyProof.Rows.sortedS gs=true)->(∀n,n∈gs↔((kd,n):Zh)∈ps)->gs.length<=40->pK H (.lst<|gs.map V.str) Q)->HH kd vs H Q E
def Mu(h:ss.Perm (ps.map snd))(n:lQ):n∈wu ps kd ss↔((kd,n):Zh)∈ps:=by
 unfold wu;rw[vA];show#[λz=>ow z.2,λz=>#[h.mem_iff.mpr<|mV.mpr #[_,z,rfl],nM z]]
def Nf:T.fA.O P w mg mB 3 (HH T "gate"):=by
 refine T.fA.F.okA ?_;rfl'
 ·obtain⟨x,o,i,g,rfl,u,z,q⟩:=h;intro X D;obtain⟨p,n,l,j,a,Y,U,N,M,e,_⟩:=u.ex;refine mK (Zl<|pR ["name","tracks"] (oZ 1 [0] rfl) (Yn<|Yh (pv 0) T.am T.dG (PX T) hr.m T.bQ.b .nil Zz) (oF 0) (uY<|Yk<|Z7 (r:=yy K) CC (by rfl) T.af sr<|Zb (Ya (pv 1) T.am T.cU (GL T) hr.m T.br.b .nil Zz<|Zb (pv 0) Za)<|Zb (X4 (v:=.ref T.bA) (by rfl) T.iY rfl) Za) (pv 0)) #[e,rfl,x,o,i,g,rfl,u,z,λd y c l N p M n=>#[mO n,λD j=>IR X6.gate (u.mono p) z y n j (λa Y U=>q _ ?_ (Mu y) ?_ D a (p.trans Y) (p.free j) U) rfl]]
  ·show#[(y.nodup_iff.mpr z.net.nd).filter _,JC c _]
  ·have:=Hu o "gate" d;rw[y.length_eq,mI]at this;show oi this z.len
def QB:T.eU.O P w mg mB 3 (HH T "points"):=by
 refine T.eU.F.okA ?_;rfl'
 ·obtain⟨x,o,i,g,rfl,u,z,q⟩:=h;intro X D;obtain⟨p,n,l,j,a,Y,U,N,M,e,_⟩:=u.ex;refine mK (Zl<|pR ["name","tracks"] (oZ 1 [0] rfl) (Yn<|Yh (pv 0) T.am T.dG (PX T) hr.m T.bQ.b .nil Zz) (oF 0) (uY<|Yk<|Z7 (r:=yy K) CC (by rfl) T.af sr<|Zb (Ya (pv 1) T.am T.cU (GL T) hr.m T.br.b .nil Zz<|Zb (pv 0) Za)<|Zb (X4 (v:=.ref T.aH) (by rfl) T.il rfl) Za) (pv 0)) #[e,rfl,x,o,i,g,rfl,u,z,λd y c l N p M n=>#[mO n,λD j=>IR X6.pts (u.mono p) z y n j (λa Y U=>q _ ?_ (Mu y) ?_ D a (p.trans Y) (p.free j) U) rfl]]
  ·show#[(y.nodup_iff.mpr z.net.nd).filter _,JC c _]
  ·have:=Hu o "points" d;rw[y.length_eq,mI]at this;show oi this z.len
def Rt{z y x:Type}{F:z->y->Prop}{G:z->x->Prop}{g:y->x}{l:lP z}{m:lP y}(h:Paired F l m)(k:∀a b,F a b->G a (g b)):Paired G l (m.map g):=by
 induction h with
 | nil=>show .nil
 | cons r t u=>show .cons (k _ _ r) u
def Qe{z y:Type}{f:z->y}(u:∀a b,f a=f b->a=b){l:lP z}(h:l.Nodup):(l.map f).Nodup:=List.pairwise_map.mpr<|h.imp λx e=>x<|u _ _ e
def DU(l:lP (lQ×lQ)):lP (mZ×V):=l.map λp=>(Xl p.1,V.str p.2)
inductive Kb:Sp
 | mk (x ps js sg):vs=[.ref x]->Z5 T H x ps js sg->Y2 ps js sg->(∀gs:lP lQ,(gs.Nodup/\PyProof.Rows.sortedS gs=true)->(∀n,n∈gs↔(("points",n):Zh)∈ps)->gs.length<=40->pK H (.dK<|DU<|gs.map λn=>(n,"left")) Q)->Kb vs H Q E
def Zjh:T.du.O P w mg mB 4 (Kb T):=by
 refine T.du.F.okA ?_;rfl'
 ·obtain⟨x,C,B,sg,rfl,tr,yv,q⟩:=h;intro X D;refine mK (Zl<|Yu (r:=CS) (Ho rfl) (by rfl) T.ek xJ<|Zb (pR ["points"] (oZ 1 [] rfl) (Yn<|Zv (QB T) hr<|Zb (pv 0) Za) (oF 0) Wh (Zj<|Zb (pv 0)<|Zb Zf Za)) Za) #[x,C,B,sg,rfl,tr,yv,λY N hm hn l z M y L=>#[mO L,λD J=>Xc (xs:=Y.map V.str) (λi g c=>(∃u:lP lR,g=u.map V.ref/\Paired (Zu c) u ((Y.take i).map λn=>(n,"left")))/\c D=some (.lst g)/\mz z c) #[#[[],rfl,.nil],Zd,pr J] ?_ ?_ ?_]]
  ·rintro i g c _ ⟨_,_,U⟩;show mO<|U.at L
  ·rintro j v g c d ⟨⟨u,rfl,a⟩,I,U⟩;rw[nK]at d;obtain⟨n,hy,rfl⟩:=nU.mp d;have hl:=nG a;rw[mI,oq]at hl;unfold qG;refine#[pA rfl,mM,λt G l z e2=>#[l.at I,?_,#[u++[t],?_,?_],Zd,λb o e=>?_]]
   ·rw[mI];show Zq (by lia)
   ·rw[ng];rfl
   ·rw[ol,hy,ng];have off:∀{b:lR}{p:Zh},Zu G b p->Zu (mH G D<|.lst<|u.map V.ref++[V.ref t]) b p:=λ{b p} z=>by
     unfold Zu at z ⊢;rw[Ze λy=>by rw[y,l.at I]at z;cases z];show z
    show pJ (ny a λ_ _ r=>off<|r.mono l)<|.cons (off e2) .nil
   ·rw[Ze (Zg e J)];show l.at<|U.at e
  ·rintro g e ⟨⟨u,rfl,a⟩,y,z⟩;rw[mI,oR]at a;refine#[D,u,DU<|Y.map λn=>(n,"left"),rfl,y,?_,?_,λd p o l j=>q Y N hm hn d p (M.trans<|z.trans o) (M.free<|z.free l) j]
   ·unfold DU;show Rt a λ_ _ r=>r
   ·unfold DU;rw[oO,oO];show Qe yF N.1
inductive GX(kd:lQ):Sp
 | mk (x g ps js sg):vs=[.ref x,.str g]->Z5 T H x ps js sg->Y2 ps js sg->((kd,g):Zh)∈ps->(∀H',mz H H'->Q .non H')->GX kd vs H Q E
def IV:T.aK.O P w mg mB 4 (GX T "gate"):=by
 refine T.aK.F.okW Qo ?_;rfl'
 ·obtain⟨x,g,z,y,u,rfl,r,p,o,q⟩:=h;intro X D;refine mK (Zr (rP hr (pv 1)<|Zv (Nf T) hr<|Zb (pv 0) Za) Zn Zi) #[x,z,y,u,rfl,r,p,λd c n a l j i Y e=>.inl #[.inl<|mO e,rfl,Y8 _,?_]];rw[mT rfl,Xw,nM<|(n g).mpr o];show(q j i)
inductive Kx:Sp
 | mk (n:Nat):vs=[.int (n:Int)]->1<=n->n<=4->Q .non H->Kx  vs H Q E
def OC:T.aD.O P w mg mB 1 Kx:=by
 refine T.aD.F.okW Jz ?_;rfl'
 ·obtain⟨n,rfl,y,x,q⟩:=h;intro X D;refine mK (Zr (pF<|W0 (Y5<|Yk<|qD "int" T.af T.fi wK<|pv 0)<|W0 (Yk<|qD "bool" T.af T.fQ Bg<|pv 0)<|Wv<|Y5<|AQ vc vc Zc (pv 0)<|W6 (by rfl) T.bI) Zn Zi) #[Xi.int _,.inl<|oG rfl T.jZ,#[Xi.int _,.inl<|oG rfl T.ke,?_]];dsimp only[oB];rw[mS oH];refine Yf (λ_=>?_) λz=>absurd (nM (show(1:Int)<=n by lia)) z;refine Yf (λz=>?_) λ_=>q;have z:(!decide ((n:Int)<=4))=true:=z;rw[nM (show(n:Int)<=4 by lia)]at z;cases z
def xw(v:V)(S:lQ->Prop):Prop:=sX v=true/\∀z:lP lQ,(∀n∈z,S n)->ud v (z.map V.str)=false
def Ybh{S:lQ->Prop}(h:¬S n):xw (.str n) S:=#[rfl,λx y=>by rw[Xw];show og λz=>h<|y n z]
def SW{S:lQ->Prop}(z:sX v=true)(h:∀n,rc (.str n) v=false):xw v S:=#[z,λy _=>by
 unfold ud;rw[List.any_map];show List.any_eq_false.mpr λn _=>by change ¬rc (.str n) v=true;rw[h n];show oH]
def Md(v:V):Prop:=(∃i:Int,v=.int i/\¬(1<=i/\i<=4))\/(∃b,v=.bl b)\/v=.non\/∃s,v=.str s
inductive Hx:Sp
 | mk (v d kvs):vs=[v,.ref d]->H d=some (.dK kvs)->(Ck K H v false\/∃nm:lQ,v=.str nm/\Xb nm/\(Xm kvs<|Xl nm).isSome=true)->(∀H',mz H H'->E (.ref T.az) none H')->Hx vs H Q E
def Tg:Xf P w K mg mB (nZ P w) 2 T.aJ.f T.aJ.fd ["name","known"] (Hx T):=by
 refine T.aJ.F.okX MA ?_;rfl'
 ·obtain⟨v,d,x,rfl,hd,u,q⟩:=h;intro X D;rcases u with r|⟨nm,rfl,p,o⟩
  ·show mJ (Zr (Y5<|Yk<|Zv (zR T) hr<|Zb (pv 0) Za) Zn Zi) #[_,false,rfl,r,λy z=>((mK (Wf T.gn rS rfl<|Zb Zf Za) #[mM,q y z]))]
  ·refine mJ (Zr (Y5<|Yk<|Zv (zR T) hr<|Zb (pv 0) Za) Zn Zi) #[_,true,rfl,p.asked,λy z=>(?_)];refine mK (Zr (uj hr (pv 0)<|pv 1) Zn Zi)<|.inr<|.inl #[d,_,rfl,qy (k:=Xl nm)<|z.at hd,?_];rw[o];show(mK (Wf T.gn rS rfl<|Zb Zf Za) #[mM,q y z])
def WZ(h:2<=k:=by lk):Xf P w K mg mB (nZ P w) k T.aJ.f T.aJ.fd ["name","known"] (Hx T):=(Tg T).mono h
inductive Ep(kd:lQ)(c:lR):Sp
 | mk (x v ps js sg):vs=[.ref x,v]->Z5 T H x ps js sg->Y2 ps js sg->xw v (λn=>((kd,n):Zh)∈ps)->(∀H',mz H H'->E (.ref c) none H')->Ep kd c vs H Q E
def To:Xf P w K mg mB (nZ P w) 4 T.aK.f T.aK.fd ["tracks","gate"] (Ep T "gate" T.bv):=by
 refine T.aK.F.okX Qo ?_;rfl'
 ·obtain⟨x,v,u,r,p,rfl,o,j,y,q⟩:=h;intro X D;refine mK (Zr (rP hr (pv 1)<|Zv (Nf T) hr<|Zb (pv 0) Za) Zn Zi) #[x,u,r,p,rfl,o,j,λi n g c l e d a z=>.inl #[.inl<|mO z,y.1,Y8 _,?_]];rw[mT rfl,y.2 i λn z=>(g n).mp z];show(mK (Wf T.gZ rS rfl<|Zb Zf Za) #[mM,q e d])
def YC(h:4<=k:=by lk):Xf P w K mg mB (nZ P w) k T.aK.f T.aK.fd ["tracks","gate"] (Ep T "gate" T.bv):=(To T).mono h
inductive ID:Sp
 | mk (v):vs=[v]->Md v->E (.ref T.bt) none H->ID vs H Q E
def SK:Xf P w K mg mB (nZ P w) 1 T.aD.f T.aD.fd ["long"] (ID T):=by
 refine T.aD.F.okX Jz ?_;rfl'
 ·obtain⟨v,rfl,x,q⟩:=h;intro X D;rcases x with⟨i,rfl,u⟩|⟨b,rfl⟩|rfl|⟨t,rfl⟩
  ·refine mK (Zr (pF<|W0 (Y5<|Yk<|qD "int" T.af T.fi wK<|pv 0)<|W0 (Yk<|qD "bool" T.af T.fQ Bg<|pv 0)<|Wv<|Y5<|AQ vc vc Zc (pv 0)<|W6 (by rfl) T.bI) Zn Zi) #[Xi.int _,.inl<|oG rfl T.jZ,#[Xi.int _,.inl<|oG rfl T.ke,(Yf (λy=>?_) λy=>?_)]];rotate_left
   ·show((mK (Wf T.cZ rS rfl<|Zb Zf Za) #[mM,q]))
   have y:1<=i:=ow y;dsimp only[tC,vm,oI];rw[show decide (i<=4)=false from og λz=>u #[y,z]];show(mK (Wf T.cZ rS rfl<|Zb Zf Za) #[mM,q])
  ·show mK (Zr (pF<|W0 (Y5<|Yk<|qD "int" T.af T.fi wK<|pv 0)<|W0 (Yk<|qD "bool" T.af T.fQ Bg<|pv 0)<|Wv<|Y5<|AQ vc vc Zc (pv 0)<|W6 (by rfl) T.bI) Zn Zi) #[Xi.bl _,.inl<|oG rfl T.kg,#[Xi.bl _,.inl<|oG rfl T.kh,(mK (Wf T.cZ rS rfl<|Zb Zf Za) #[mM,q])]]
  ·show mK (Zr (pF<|W0 (Y5<|Yk<|qD "int" T.af T.fi wK<|pv 0)<|W0 (Yk<|qD "bool" T.af T.fQ Bg<|pv 0)<|Wv<|Y5<|AQ vc vc Zc (pv 0)<|W6 (by rfl) T.bI) Zn Zi) #[Xi.non,.inl<|oG rfl T.ki,(mK (Wf T.cZ rS rfl<|Zb Zf Za) #[mM,q])]
  ·show mK (Zr (pF<|W0 (Y5<|Yk<|qD "int" T.af T.fi wK<|pv 0)<|W0 (Yk<|qD "bool" T.af T.fQ Bg<|pv 0)<|Wv<|Y5<|AQ vc vc Zc (pv 0)<|W6 (by rfl) T.bI) Zn Zi) #[Xi.str _,.inl<|oG rfl T.kl,(mK (Wf T.cZ rS rfl<|Zb Zf Za) #[mM,q])]
def Zi5(h:1<=k:=by lk):Xf P w K mg mB (nZ P w) k T.aD.f T.aD.fd ["long"] (ID T):=(SK T).mono h
def Hm(H:Hp)(t:lR)(part:lQ)(q:lQ×lQ×lQ):Prop:=H t=some (.tup [.str part,.str q.1,.str q.2.1,.str q.2.2])
def Ax(z:lP Bool)(len j:Nat):Prop:=j<z.length/\z.getD j true=false/\true∈z.drop (j+len)
abbrev Zt:=lQ×(lQ×lQ×lQ)
def Z0{z:Type}(f:z->V)(y:lP (lQ×z)):lP (mZ×V):=y.map λq=>(Sum.inr q.1,f q.2)
theorem uX{z:Type}{f:z->V}:∀{x:lP (lQ×z)}{q:lQ×z},(x.map fst).Nodup->q∈x->Xm (Z0 f x) (Sum.inr q.1)=some (f q.2)
 | [],_,_,h=>by simp at h
 | r ::x,q,u,h=>by
  rw[show Z0 f (r ::x)=(Sum.inr r.1,f r.2) ::Z0 f x from rfl];rw[nS,pN]at u;rcases nQ.mp h with e|e
  ·rw[e];show yV rfl
  ·rw[wF λy=>u.1 (by rw[wx y];show mV.mpr #[q,e,rfl])];show uX u.2 e
theorem X3{z:Type}{f:z->V}:∀{u:lP (lQ×z)}{x:lQ},x∉u.map fst->Xm (Z0 f u) (Sum.inr x)=none
 | [],_,_=>rfl
 | r ::u,x,h=>by
  rw[show Z0 f (r ::u)=(Sum.inr r.1,f r.2) ::Z0 f u from rfl];rw[nS,nQ,not_or]at h;rw[wF λy=>h.1 (wx y).symm];show X3 h.2
def Lh{z:Type}{f:z->V}{y:lP (lQ×z)}{v:z}(h:x∉y.map fst):Wy (Z0 f y) (Sum.inr x) (f v)=Z0 f (y++[(x,v)]):=by
 rw[JM _ (X3 h)];simp[Z0]
def rY(H:Hp)(ts:lP lR)(ss:lP Zt):Prop:=Paired (λt (q:Zt)=>Hm H t q.1 q.2) ts ss
def Yr(H:Hp)(l:lR)(ss:lP Zt):Prop:=∃z,H l=some (.lst<|z.map V.ref)/\rY H z ss
def rY.mono(e:mz H z)(h:rY H ts ss):rY z ts ss:=ny h λ_ _ r=>e.at r
def Yr.mono(e:mz H z)(h:Yr H l ss):Yr z l ss:=let⟨y,x,u⟩:=h;#[y,e.at x,u.mono e]
def rY.off(h:rY H ts ss)(y:∀xs,H c≠some (.tup xs)):rY (mH H c o) ts ss :=
 ny h λt q r=>by
  unfold Hm at r ⊢;rw[Ze λz=>y _<|z ▸ r];show r
def Yr.off(h:Yr H l ss)(z:l≠c)(y:∀xs,H c≠some (.tup xs)):Yr (mH H c o) l ss:=by
 obtain⟨x,u,s⟩:=h;show#[x,by rw[Ze z];show u,s.off y]
def qM(q:Zt):Tr:=.tup [.str q.1,.str q.2.1,.str q.2.2.1,.str q.2.2.2]
def rY.im(h:rY H ts ss):Paired (Im K H 1) (ss.map qM) (ts.map V.ref):=by
 induction h with
 | nil=>show .nil
 | cons r _ z=>show .cons (uw (mQ r)<|.cons (.str _)<|.cons (.str _)<|.cons (.str _)<|.cons (.str _) .nil) z
def Yr.im(h:Yr H l ss):Im K H 2 (.lst<|ss.map qM) (.ref l):=let⟨_,z,y⟩:=h;tP (mO z) y.im
def Yw(H:Hp)(d:lR)(z:lP (lQ×lR))(val:lQ->lP Zt):Prop:=H d=some (.dK<|Z0 V.ref z)/\∀e∈z,Yr H e.2<|val e.1
def Yw.mono{val:lQ->lP Zt}(e:mz H z)(h:Yw H d y val):Yw z d y val:=#[e.at h.1,λx u=>(h.2 x u).mono e]
def LW(e:mz H r)(h:Xz H a y o):Xz r a y o:=by
 rcases h with⟨z,k,x,u,s⟩|⟨z,k,b,x,u,s,q⟩
 ·show .inl #[z,k,e.rd x,u,s]
 ·show .inr #[z,k,b,e.rd x,u,e.at s,q]
def Yht(u:PI X y l a)(r:PI X y l b):PI X y l (λz H R=>a z H R\/b z H R):=λx s z H R I h=>h.elim (u x s z H R I)<|r x s z H R I
def xG(H:Hp)(l:lR)(ss:lP Zt):Prop:=∃z:lP lR,(H l=some (.lst<|z.map V.ref)\/H l=some (.tup<|z.map V.ref))/\rY H z ss
def xG.mono(e:mz H z)(h:xG H l ss):xG z l ss:=let⟨y,x,u⟩:=h;#[y,x.imp e.at e.at,u.mono e]
def Yr.seq(h:Yr H l ss):xG H l ss:=let⟨z,y,x⟩:=h;#[z,.inl y,x]
def QH{fr:St->St}(n:rY s ts ss)(Y:ss.length<=100)(l:s D=none)(q:∀r,mz s r->r D=some (.lst<|(ss.map fst).map V.str)->Q (.ref D) r)(h:fr z=[none])
  (C:∀Pv:Nat->lP V->Hp->Prop,Pv 0 [] (mH s D<|.lst [])->(∀i u H,Pv i u H->mz s H)->(∀i x u H,(ts.map V.ref)[i]? =some x->Pv i u H->qG fr (qW 0) Ay (qU (zh K) (rO 0)<|tC<|.int 0) z D x u H (Pv<|i+1))->(∀u H,Pv (ts.map V.ref).length u H->Q (.ref D) H)->sw J fr (qW 0) Ay (qU (zh K) (rO 0)<|tC<|.int 0) Q z s D):sw J fr (qW 0) Ay (qU (zh K) (rO 0)<|tC<|.int 0) Q z s D:=by
 refine C (λi u r=>u=((ss.map fst).map V.str).take i/\r D=some (.lst u)/\mz s r) #[rfl,Zd,pr l] (λ_ _ _ p=>p.2.2) ?_ ?_
 ·rintro k v u r p ⟨rfl,g,j⟩;rw[nK]at p;obtain⟨t,d,rfl⟩:=nU.mp p;obtain⟨y,c,a⟩:=oQ n d;unfold qG;rw[h];refine#[pA rfl,.inr<|.inl #[mQ<|j.at a,rfl,g,?_,?_,Zd,λb o e=>?_]]
  ·rw[oq,mI,mI];show Zq (by lia)
  ·rw[ol,nK,nK,c];rfl
  ·rw[Ze (Zg e l)];show j.at e
 ·rintro u y ⟨rfl,p,o⟩;refine q y o ?_;rw[p,mI,nG n,uD (by rw[mI,mI];show nw _)]
inductive LH:Sp
 | mk (l) (ss:lP Zt):vs=[.ref l]->xG H l ss->ss.length<=100->(∀p H',mz H H'->H p=none->H' p=some (.lst<|(ss.map fst).map V.str)->Q (.ref p) H')->LH  vs H Q E
def Km:T.fE.O P w mg mB 1 LH:=by
 refine T.fE.F.okA ?_;rfl'
 ·obtain⟨l,z,rfl,y,j,q⟩:=h;intro X D;obtain⟨z,y,g⟩:=y;refine mK (Zl<|pR ["step"] (oZ 1 [] rfl) (Yht (Yn<|pv 0)<|xo<|pv 0) (oF 0) Wh (qC (K:=K) rfl (pv 0) Zc))<|y.imp (λe=>#[mO e,λD z=>QH g j z (λx u r=>q D x u z r) rfl λPv o n=>Xc Pv o λi l H _ p=>mO<|(n i l H p).at e]) λe=>#[mQ e,λD z=>QH g j z (λx u r=>q D x u z r) rfl λPv o n=>FI Pv o λi l H _ p=>mQ<|(n i l H p).at e]
def Fk(z:lP lQ)(val:lQ->lP Zt)(x r:lQ):Prop:=(∃t∈z,x∈(val t).map fst/\r=t)\/((∀t∈z,x∉(val t).map fst)/\r ="")
inductive NS:Sp
 | mk (d x) (es:lP (lQ×lR)) (val:lQ->lP Zt):vs=[.ref d,.str x]->Yw H d es val->(es.map fst).Nodup->es.length<=100->(∀t,(val t).length<=100)->(∀r H',mz H H'->Fk (es.map fst) val x r->Q (.str r) H')->NS  vs H Q E
def IQ:T.gR.O P w mg mB 2 NS:=by
 refine T.gR.F.okW Ix ?_;rfl'
 ·obtain⟨d,x,u,val,rfl,⟨hd,M⟩,y,r,B,q⟩:=h;intro X D;refine mJ (KO<|Y9 pC rfl (Bc<|pv 0) (sI rfl<|Zy (oh 2 Ix)<|Zy (oh 3 Ix) Xq) Zn) #[hd,λo L=>JK (λi z J=>(∃c a,z=[some (.ref d),some<|.str x,c,a])/\mz (mH H d<|.frz o<|.dK<|Z0 V.ref u) J/\∀t∈(u.map fst).take i,x∉(val t).map fst) #[#[none,none,rfl],pL _,by simp] ?_ ?_ ?_]
  ·rintro i z J _ ⟨_,y,_⟩;show y.at Zd
  ·rintro i kv z H2 I ⟨⟨c,a,rfl⟩,l,g⟩ tp H3 G n3 e3;rw[show Z0 V.ref u=u.map λq=>(Sum.inr q.1,V.ref q.2)from rfl,nK]at I;obtain⟨e,he,rfl⟩:=nU.mp I;have r:e∈u:=pe he;have Y:(u.map fst)[i]? =some e.1:=by rw[nK,he];rfl
   have U:e.2≠d:=λy=>by
    obtain⟨j,C,_⟩:=M e r;rw[y,hd]at C;cases C
   have N:Yr H3 e.2 (val e.1):=((M e r).off (o:=.frz o<|.dK<|Z0 V.ref u) U λj y=>by rw[hd]at y;cases y).mono (l.trans G);refine#[mQ e3,rfl,rfl,?_];refine mK (Zr (uj hr (pv 1)<|Zv (Km T) hr<|Zb (pv 3) Za) Zn Zi) #[e.2,val e.1,rfl,N.seq,B e.1,λpf H4 s4 n4 j=>.inl #[.inl<|mO j,rfl,Y8 _,?_]];have p:=l.trans<|G.trans s4;rw[mS oH,Xw];refine Yf (λn=>?_) λn=>?_
   ·have n:x∈(val e.1).map fst:=ow n;show mK (Zl<|pv 2) #[d,o,_,p.at Zd,L,q e.1 _ (Cv hd p)<|.inl #[e.1,mV.mpr #[e,r,rfl],n,rfl]]
   ·have n:x∉(val e.1).map fst:=λy=>n<|nM y
    refine#[#[_,_,rfl],p,λt j=>?_];rw[ol,Y,ou]at j;rcases j with y|y
    ·show g t y
    ·simp at y;rw[y];show n
  ·rintro z H2 ⟨⟨c,a,rfl⟩,l,g⟩;rw[show(Z0 V.ref u).length=(u.map fst).length by rw[mI];show mI ..,oR]at g;show#[d,o,_,l.at Zd,L,mK (Zl Zf)<|q "" _ (Cv hd l)<|.inr #[g,rfl]]
def Yw.read{val:lQ->lP Zt}(h:Yw H d y val)(p:(y.map fst).Nodup)(u:mz (mH H d<|.frz o<|.dK<|Z0 V.ref y) s)(he:e∈y):Yr s e.2 (val e.1)/\Xz s d (.str e.1) (some<|.ref e.2):=by
 obtain⟨hd,r⟩:=h;have x:e.2≠d:=λz=>by
  obtain⟨n,q,_⟩:=r e he;rw[z,hd]at q;cases q
 refine#[((r e he).off (o:=.frz o<|.dK<|Z0 V.ref y) x λn z=>by rw[hd]at z;cases z).mono u,?_];rw[<-uX p he];show .inl #[_,Sum.inr e.1,.inr #[o,u.at Zd],rfl,rfl]
def TW{z:lP (lQ×lR)}{i:Nat}{kv:mZ×V}(y:(Z0 V.ref z)[i]? =some kv):∃e∈z,z[i]? =some e/\(z.map fst)[i]? =some e.1/\kv=(Sum.inr e.1,V.ref e.2):=by
 rw[show Z0 V.ref z=z.map λq=>(Sum.inr q.1,V.ref q.2)from rfl,nK]at y;obtain⟨e,he,rfl⟩:=nU.mp y;show#[e,pe he,he,by rw[nK,he];rfl,rfl]
def Ya7{z:Type}{f:z->V}(y:lP (lQ×z)):(Z0 f y).length=(y.map fst).length:=by rw[mI];show mI ..
def Ts:T.aL.O P w mg mB 1 (wG T.aX "part"):=by
 refine T.aL.F.okA ?_;rfl'
 ·obtain⟨e,t,v,rfl,he,q⟩:=h;intro X D;show mK (GS (pv 0) (pv 1) rfl) #[e,T.aX,T.au,t,rfl,he,T.dL.cls,T.dL.sa,T.dL.na,q]
def Ce(h:1<=k:=by lk):T.aL.O P w mg mB k (wG T.aX "part"):=(Ts T).mono h
def Bf(z:lQ->Prop)(xs:lP lQ)(i:Nat):Prop:=∀j y,j<i->xs[j]? =some y->y∉xs.take j/\¬z y
def MT(z:lQ->Prop)(xs:lP lQ)(x:lQ):Prop:=∃i,xs[i]? =some x/\(x∈xs.take i\/z x)/\Bf z xs i
def uG(z:lP lQ)(val:lQ->lP Zt)(x:lQ):Prop:=∃t∈z,x∈(val t).map fst
inductive IW(C:lR):Sp
 | mk (d p) (es:lP (lQ×lR)) (val:lQ->lP Zt) (ss:lP Zt):vs=[.ref d,.ref p]->Yw H d es val->(es.map fst).Nodup->es.length<=100->(∀t,(val t).length<=100)->(∀t∈es.map fst,t≠ "")->xG H p ss->ss.length<=100->(∀H',mz H H'->Bf (uG (es.map fst) val) (ss.map fst) ss.length->Q .non H')->(∀dx H' x,mz H H'->H dx=none->MT (uG (es.map fst) val) (ss.map fst) x->H' dx=some (.xd [("part",.str x)])->E (.ref C) (some dx) H')->IW C vs H Q E
def KJ{u:lP lQ}{val:lQ->lP Zt}{x r:lQ}(q:∀t∈u,t≠ "")(h:Fk u val x r):(r≠ "")↔uG u val x:=by
 rcases h with⟨t,y,s,rfl⟩|⟨p,rfl⟩
 ·show#[λ_=>#[r,y,s],λ_=>q r y]
 ·show#[λz=>absurd rfl z,λ⟨t,y,s⟩=>absurd s<|p t y]
def SG:Xf P w K mg mB (nZ P w) 3 T.bJ.f T.bJ.fd ["paths","steps"] (IW T.aX):=by
 refine T.bJ.F.okX Iy ?_;rfl'
 ·obtain⟨d,p,C,val,n,rfl,V0,hfd,U2,N6,u9,hp,N1,q,qE⟩:=h;intro X D;refine mJ (mY 2 Iy<|Zo Za) #[mM,λa x s1 n1 e1=>?_];refine mJ (Y9 PassesOwn.leaving rfl (Yn<|Zv (Km T) hr<|Zb (pv 1) Za) (oh 3 Iy) Zn) #[p,n,rfl,hp.mono s1,N1,λpf r x n2 u=>#[mO u,W2 (xs:=(n.map fst).map V.str) (λi z c=>(∃o3,z=[some (.ref d),some<|.ref p,some<|.ref a,o3])/\mz H c/\c pf=some (.lst<|(n.map fst).map V.str)/\c a=some (.lst<|((n.map fst).take i).map V.str)/\Bf (uG (C.map fst) val) (n.map fst) i)
   #[#[none,rfl],s1.trans x,u,x.at e1,λj y h=>absurd h<|CT _] ?_ ?_ ?_]]
  ·rintro i z c _ ⟨_,_,e,_⟩;show mO e
  ·rintro i v z U hi ⟨⟨o3,rfl⟩,Y,e3,l,N⟩;rw[nK]at hi;obtain⟨y,B,rfl⟩:=nU.mp hi;have B3:i<(n.map fst).length:=(oN.mp B).1;rw[mI]at B3;have npa:pf≠a:=λx=>by
    rw[x]at n2;rw[e1]at n2;cases n2
   let I17:IC:=λe c=>e=[some (.ref d),some<|.ref p,some<|.ref a,some<|.str y]/\mz U c/\y∉(n.map fst).take i/\¬uG (C.map fst) val y
   refine pU I17 ?_ ?_
   ·refine pQ (Zr (pF<|W0 (uj hr (pv 3)<|pv 2)<|Wv<|sy hr (Zv (IQ T) hr<|Zb (pv 0)<|Zb (pv 3) Za) Zf) Zn Zi)<|.inl #[.inl<|mO l,rfl,Y8 _,?_];rw[mS oH,Xw];have M:∀g,mz U g->(y∈(n.map fst).take i\/uG (C.map fst) val y)->∀L,g L=none->E (.ref T.aX) (some L) (mH g L<|.xd [("part",.str y)]):=λg u o L hn=>qE L _ y ((Y.trans u).trans (pr hn)) ((Y.trans u).free hn) #[i,B,o,N] Zd
    refine Yf (λJ=>?_) λJ=>?_
    ·show mK (xk T.dL T.bW (Ce T) T.aL.b hr rfl T.gY<|Zb (pv 3) Za)<|oG rfl<|M U (pL _)<|.inl<|ow J
    ·have J:y∉(n.map fst).take i:=λx=>J<|nM x
     refine#[d,y,C,val,rfl,V0.mono Y,hfd,U2,N6,λr g u hh=>.inl #[rfl,Yf (λo=>?_) λo=>?_]]
     ·have o:r≠ "":=λx=>by rw[x]at o;simp at o
      show mK (xk T.dL T.bW (Ce T) T.aL.b hr rfl T.gY<|Zb (pv 3) Za)<|oG rfl<|M g u<|.inr<|(KJ u9 hh).mp o
     ·refine#[rfl,u,J,λx=>o ?_];have:=(KJ u9 hh).mpr x;simp[this]
   rintro e g ⟨rfl,u,I,G⟩;refine mK (Z3<|ro (pv 2)<|pv 3) #[.inl #[rfl,_,mO<|u.at l],u.at l,?_,#[_,rfl],λb o x=>?_,?_,?_,?_]
   ·rw[mI,oq];show Zq (by lia)
   ·rw[Ze (Zg x n1)];show u.at<|Y.at x
   ·rw[Ze npa];show u.at e3
   ·rw[Zd,ol,B,ng]
    rfl
   ·intro j x o r;rcases yR j i with h|h
    ·show N j x h r
    ·have:j=i:=by lia
     subst this;rw[B]at r;cases r;show#[I,G]
  ·rintro z U ⟨_,Y,_,_,N⟩;rw[mI,mI]at N;show WSs.nil<|q U Y N
def X7(y:lP lQ)(val:lQ->lP Zt)(z:lQ)(ss:lP Zt):lQ->lP Zt:=open Classical in λt=>if t=z then(if z∈y then val z else[])++ss else val t
def HG(z:lP lQ)(y:lQ):lP lQ:=open Classical in if y∈z then z else z++[y]
def uI(y:lP (lQ×lR))(z:lQ)(l:lR):lP (lQ×lR):=open Classical in if z∈y.map fst then y.map (λq=>if q.1=z then(z,l)else q)else y++[(z,l)]
def Tq(u:lP (lQ×lR))(x:lQ)(l:lR):(uI u x l).map fst=HG (u.map fst) x:=by
 unfold uI HG
 by_cases z:x∈u.map fst
 ·rw[mT z,mT z,oO];refine AZ λq _=>?_
  by_cases y:q.1=x
  ·simp[y]
  ·simp[y]
 ·rw[mS z,mS z,ng]
  rfl
def QX(u:lP (lQ×lR))(y:lQ)(l:lR):Wy (Z0 V.ref u) (Sum.inr y) (.ref l)=Z0 V.ref (uI u y l):=by
 unfold uI
 by_cases z:y∈u.map fst
 ·rw[mT z];have x:((Z0 V.ref u).any λkv=>decide<|kv.1=Sum.inr y)=true:=by
   obtain⟨q,s,rfl⟩:=mV.mp z;show List.any_eq_true.mpr #[(Sum.inr q.1,V.ref q.2),mV.mpr #[q,s,rfl],by simp]
  unfold Wy;rw[mT x];unfold Z0;rw[oO,oO];refine AZ λq _=>?_
  by_cases h:q.1=y
  ·simp[h]
  ·have:¬(Sum.inr q.1:mZ)=Sum.inr y:=λz=>h<|wx z
   simp[h,this]
 ·rw[mS z];show Lh z
def Qg(h:e∈uI u x l):e=(x,l)\/(e∈u/\e.1≠x):=by
 unfold uI at h
 by_cases z:x∈u.map fst
 ·rw[mT z]at h;obtain⟨q,s,rfl⟩:=mV.mp h
  by_cases y:q.1=x
  ·show .inl<|mT y
  ·rw[mS y];show .inr #[s,y]
 ·rw[mS z]at h;rcases ou.mp h with y|y
  ·show .inr #[y,λw=>z<|w ▸ mV.mpr #[e,y,rfl]]
  ·show .inl<|pD.mp y
def Tn(h:(u.map fst).Nodup)(p:(u.map snd).Nodup)(s:l∉u.map snd):((uI u o l).map snd).Nodup:=by
 unfold uI
 by_cases z:o∈u.map fst
 ·rw[mT z];clear z
  induction u with
  | nil=>show ul
  | cons q u i =>
   rw[nS,pN]at h p;rw[nS,nQ,not_or]at s;rw[nS,nS,pN];refine#[λg=>?_,i h.2 p.2 s.2];obtain⟨e,he,x⟩:=mV.mp g;obtain⟨r,j,rfl⟩:=mV.mp he
   by_cases y:q.1=o
   ·rw[mT y]at x;have n:r.1≠o:=λw=>h.1 (by rw[y,<-w];show mV.mpr #[r,j,rfl])
    rw[mS n]at x;show s.2<|mV.mpr #[r,j,x]
   ·rw[mS y]at x
    by_cases n:r.1=o
    ·rw[mT n]at x;show s.1 x
    ·rw[mS n]at x;show p.1<|mV.mpr #[r,j,x]
 ·rw[mS z,ng,qp];show#[p,by simp,λa x b r=>by rw[List.map_singleton,pD]at r;rw[r];intro y;rw[y]at x;show s x]
def Yw.put{val:lQ->lP Zt}(h:Yw H d u val)(e:mz H r)(n:Yr r l ((if x∈u.map fst then val x else[])++ss)) :
  Yw (mH r d<|.dK<|Wy (Z0 V.ref u) (Sum.inr x)<|.ref l) d (uI u x l) (X7 (u.map fst) val x ss):=by
 have s:=e.at h.1;have off:∀{c:lR}{p:lP Zt},Yr r c p->Yr (mH r d<|.dK<|Wy (Z0 V.ref u) (Sum.inr x)<|.ref l) c p:=λ{c p} z=>z.off (λy=>by obtain⟨_,o,_⟩:=z;rw[y,s]at o;cases o) λa y=>by rw[s]at y;cases y
 refine#[by rw[Zd,QX],λq j=>?_];rcases Qg j with rfl|⟨i,g⟩
 ·have:X7 (u.map fst) val x ss x=(if x∈u.map fst then val x else[])++ss:=by unfold X7;rw[mT rfl]
  change Yr _ l (X7 (u.map fst) val x ss x);rw[this];show off n
 ·have:X7 (u.map fst) val x ss q.1=val q.1:=by unfold X7;rw[mS g]
  rw[this];show off<|(h.2 q i).mono e
structure Qr(H Hf:Hp)(D:Addr)(names:List Str)(val:Str->List Zt)(i:Nat)(ys:List V)(H':Hp):Prop where
 same:mz Hf H'
 at':H' D=some (.lst ys)
 all:∃(tps:List Addr)(j7:List (Str×Addr)),ys=tps.map V.ref/\j7.map fst=names.take i/\(j7.map snd).Nodup/\(∀e∈j7,H e.2=none/\e.2≠D/\Yr H' e.2 (val e.1))/\Paired (λt (q:mZ×V)=>H' t=some (.tup [kV q.1,q.2])) tps (Z0 V.ref j7)
inductive LY(C:lR):Sp
 | mk (d p tr) (es:lP (lQ×lR)) (val:lQ->lP Zt) (ss:lP Zt):vs=[.ref d,.str tr,.ref p]->Yw H d es val->(es.map fst).Nodup->es.length<=100->(∀t,(val t).length<=100)->(∀t∈es.map fst,t≠ "")->xG H p ss->ss.length<=100->(∀d' H' j7,Bf (uG (es.map fst) val) (ss.map fst) ss.length->mz H H'->H d'=none->Yw H' d' j7 (X7 (es.map fst) val tr ss)->j7.map fst=HG (es.map fst) tr->(j7.map snd).Nodup->(∀e∈j7,H e.2=none)->Q (.ref d') H')->(∀dx H' x,mz H H'->H dx=none->MT (uG (es.map fst) val) (ss.map fst) x->H' dx=some (.xd [("part",.str x)])->E (.ref C) (some dx) H')->LY C vs H Q E
def Oc:Xf P w K mg mB (nZ P w) 4 T.cq.f T.cq.fd ["paths","train","steps"] (LY T.aX):=by
 refine T.cq.F.okX Pu ?_;rfl'
 ·obtain⟨d,p,Y,C,val,ss,rfl,V0,hfd,U2,N6,u9,hp,N1,q,qE⟩:=h;intro X D;refine mJ (Z3<|Xs (SG T) hr.m rfl T.bJ.m T.bJ.F.kp T.bJ.b .nil vG<|Zb (pv 0)<|Zb (pv 2) Za) #[d,p,C,val,ss,rfl,V0,hfd,U2,N6,u9,hp,N1,λH1 s1 hg=>?_,qE];have U:=V0.mono s1;refine mJ (mY 3 Pu<|Yu (r:=CS) (Ho rfl) (by rfl) T.ek xJ<|Zb (IB<|pR ["name","path"] (oZ 2 [] rfl) (Bc<|pv 0) (ze (K:=K) (n:=2) rfl rfl<|Zy (oF 0)<|Zy (oF 1) Xq) Wh (Zj<|Zb (pv 0)<|Zb (Yu (r:=xx K) yL (by rfl) T.ej xr<|Zb (pv 1) Za) Za)) Za) #[U.1,λo nf D hD=>Hd (Qr H1 (mH H1 d<|.frz o<|.dK<|Z0 V.ref C) D (C.map fst) val) ?_ ?_ ?_ ?_]
  ·refine#[pr hD,Zd,[],[],rfl,rfl,ul,by simp,.nil]
  ·rintro i ys H' _ b;show b.same.at Zd
  ·rintro i kv ys H2 hi b tp H3 N n3 B;obtain⟨e,I,he,hfi,rfl⟩:=TW hi;obtain⟨hpe,_⟩:=U.read hfd (b.same.trans N) I;obtain⟨ts,i9,A3⟩:=id hpe;obtain⟨tps,j,rfl,B7,hsd,w4,hpr⟩:=b.all;have U5:H1 D=none:=by
    by_cases z:D=d
    ·rw[z,Zd]at hD;cases hD
    ·rw[Ze z]at hD;show hD
   have B3:i<C.length:=(oN.mp he).1;have hel':j.length=i:=by
    have:=oJ List.length B7;rw[mI,oq,mI]at this;lia
   have N5:tps.length=i:=by
    have:=nG hpr;rw[show(Z0 V.ref j).length=j.length from mI ..]at this;lia
   have a:∀{c:lR}{H':Hp},mz (mH H1 d<|.frz o<|.dK<|Z0 V.ref C) H'->H' c=none->H1 c=none:=λ{c H'} sm z=>by
    have:=sm.free z
    by_cases y:c=d
    ·rw[y,Zd]at this;cases this
    ·rw[Ze y]at this;show this
   refine#[mQ B,rfl,rfl,(pA rfl).trans (pA rfl),.inl<|mO i9,λl H4 x n4 e4=>#[mM,λt H5 g n5 e5=>#[g.at<|x.at<|N.at b.at',?_,?_,Zd,tps++[t],j++[(e.1,l)],?_,?_,?_,?_,?_]]]
   ·rw[mI];show Zq (by lia)
   ·intro c u z;rw[Ze (Zg z hD)];show g.at<|x.at<|N.at<|b.same.at z
   ·rw[ng];rfl
   ·rw[ng,B7,ol,hfi];rfl
   ·rw[ng,qp];refine#[hsd,by simp,?_];rintro c hc c' J rfl;simp at J;obtain⟨M,G,hb⟩:=mV.mp hc;obtain⟨_,h1,_⟩:=(w4 M G).2.2;rw[hb,J,N.free n4]at h1;cases h1
   ·have L:=N.trans<|x.trans g;have offD:∀{c:lR}{xs:lP Zt}{o':HO},c≠D->Yr H5 c xs->Yr (mH H5 D o') c xs:=λ{c xs o'} nc z=>z.off nc λws y=>by rw[L.at b.at']at y;cases y
    intro M G;rcases ou.mp G with z|z
    ·obtain⟨h0,J,h1⟩:=w4 M z;show#[h0,J,offD J<|h1.mono L]
    ·simp at z;subst z;have J:l≠D:=λy=>by
      have:=N.at b.at';rw[<-y,n4]at this;cases this
     show#[a b.same<|N.free n4,J,offD J #[ts,g.at e4,A3.mono<|x.trans g]]
   ·have L:=N.trans<|x.trans g;have J:∀{c:lR}{xs:lP V},H5 c=some (.tup xs)->c≠D:=λ{c xs} z y=>by
     rw[y,L.at b.at']at z;cases z
    rw[show Z0 V.ref (j++[(e.1,l)])=Z0 V.ref j++[(Sum.inr e.1,V.ref l)]from ng ..];refine pJ (ny hpr λt q z=>?_)<|.cons ?_ .nil
    ·have z5:=L.at z;rw[Ze (J z5)];show z5
    ·rw[Ze (J e5)];show e5
  ·rintro ys H2 b;have hDd:D≠d:=λz=>by rw[z,Zd]at hD;cases hD
   obtain⟨tps,j,rfl,B7,hsd,w4,hpr⟩:=b.all;rw[Ya7,oR]at B7;have st:mz H1 (mH H2 d<|.dK<|Z0 V.ref C):=Cv U.1 b.same;have hfz:=b.same.at (show(mH H1 d<|.frz o<|.dK<|Z0 V.ref C) d=some (.frz o<|.dK<|Z0 V.ref C)from Zd);have L:(j.map fst).Nodup:=B7 ▸ hfd;have hel':j.length=C.length:=by
    have:=oJ List.length B7;rw[mI,mI]at this;show this
   refine#[d,o,_,hfz,nf,D,tps,Z0 V.ref j,rfl,by rw[Ze hDd];show b.at',ny hpr λt q z=>?_,?_,λd' H3 N n3 B=>?_]
   ·rw[Ze λy=>by rw[y,hfz]at z;cases z];show z
   ·have:(Z0 V.ref j).map fst=(j.map fst).map Sum.inr:=by
     unfold Z0;rw[oO,oO]
     rfl
    rw[this];show FV _ (λa b h z=>h<|wx z) L
   have m6:=st.trans N;have J:Yw H3 d' j val:=by
    refine#[B,λq hq=>?_];obtain⟨_,_,h1⟩:=w4 q hq;refine(h1.off (λy=>?_) λxs y=>?_).mono N
    ·obtain⟨_,h2,_⟩:=h1;rw[y,hfz]at h2;cases h2
    ·rw[hfz]at y;cases y
   obtain⟨us,m9,huv⟩:=hp.mono<|s1.trans m6;have C7:us.length=ss.length:=nG huv;have hdn:H d'=none:=s1.free<|st.free n3;have fin:∀(l:lR)(H6:Hp),mz H3 H6->H3 l=none->Yr H6 l ((if Y∈j.map fst then val Y else[])++ss)->WSs (oW (nZ P w) P w K mg mB ["paths","train","steps","told"] "longer" (Zk Cn) T.cq.f d6 A my s H E) [((Y3 Cn).getD 3 (.Pass #[0,0,0,0]))] {nx:=λ_ H'=>Q .non H',rt:=Q} [some (.ref d),some<|.str Y,some<|.ref p,some<|.ref d'] (mH H6 d'<|.dK<|Wy (Z0 V.ref j) (Sum.inr Y)<|.ref l):=by
    intro l H6 I n6 hl;have E7:=J.put I hl;rw[B7]at E7;refine mK (Zl<|pv 3)<|q d' _ (uI j Y l) hg ?_ hdn E7 ?_ ?_ ?_
    ·intro c u z;rw[Ze (Zg z hdn)];show I.at<|m6.at<|s1.at z
    ·rw[Tq,B7]
    ·refine Tn L hsd λz=>?_
     obtain⟨M,G,rfl⟩:=mV.mp z;obtain⟨_,h2,_⟩:=J.2 M G;rw[n6]at h2;cases h2
    ·intro M G;rcases Qg G with rfl|⟨a,_⟩
     ·show s1.free<|m6.free n6
     ·show s1.free (w4 M a).1
   have sml:(Z0 V.ref j).length<=1000:=by rw[show(Z0 V.ref j).length=j.length from mI ..];lia
   by_cases U3:Y∈j.map fst
   ·obtain⟨M,G,hqe⟩:=mV.mp U3;obtain⟨vs,K3,a⟩:=J.2 M G;rw[hqe]at a;have hvn:vs.length=(val Y).length:=nG a;have hgt:Xz H3 d' (.str Y) (some<|.ref M.2):=by
     rw[<-hqe,<-uX L G];show qy (k:=Sum.inr M.1) B
    refine mJ (tT (Xo hr) (pv 3) (pv 1) (Zp Wo (yq (Xo hr) (pv 3) (pv 1) (Zo Za) #[rfl,rfl,rfl,rfl])<|Yu (r:=xx K) yL (by rfl) T.ej xr<|Zb (pv 2) Za) rfl) #[d',rfl,.inl #[_,.inl B],mM,λl0 H4 x n4 e4=>#[_,LW x hgt,m9.imp (λe=>mO<|x.at e) λe=>mQ<|x.at e,λl1 H5 g n5 e5=>.inr<|.inr #[g.at<|x.at K3,e5,?_,λl2 H6 I n6 e6=>#[qN.k (k:=Sum.inr Y) (I.at<|g.at<|x.at B)<|Zq sml,fin l2 H6 (x.trans<|g.trans I) (x.free<|g.free n6) ?_]]]]
    ·rw[mI,mI];show sz (by have:=N6 Y;lia)
    ·rw[mT U3];refine#[vs++us,by rw[e6,ng],?_];show pJ (a.mono<|x.trans<|g.trans I)<|huv.mono<|x.trans<|g.trans I
   ·have hgt:Xz H3 d' (.str Y) none:=by
     rw[<-X3 (f:=V.ref) U3];show qy (k:=Sum.inr Y) B
    refine mJ (tT (Xo hr) (pv 3) (pv 1) (Zp Wo (yq (Xo hr) (pv 3) (pv 1) (Zo Za) #[rfl,rfl,rfl,rfl])<|Yu (r:=xx K) yL (by rfl) T.ej xr<|Zb (pv 2) Za) rfl) #[d',rfl,.inl #[_,.inl B],mM,λl0 H4 x n4 e4=>#[_,LW x hgt,m9.imp (λe=>mO<|x.at e) λe=>mQ<|x.at e,λl1 H5 g n5 e5=>.inr<|.inr #[g.at e4,e5,?_,λl2 H6 I n6 e6=>#[qN.k (k:=Sum.inr Y) (I.at<|g.at<|x.at B)<|Zq sml,fin l2 H6 (x.trans<|g.trans I) (x.free<|g.free n6) ?_]]]]
    ·rw[mI];show sz (by simp;lia)
    ·rw[mS U3];show#[us,by rw[e6];simp,huv.mono<|x.trans<|g.trans I]
structure Gd where
 lies:List (Str×Str)
 stiff:List (Str×Bool)
 val:Str->List Zt
 told:List (Str×Bool)
structure xy(H:Hp)(dl ds dp dt:Addr)(es:List (Str×Addr))(g:Gd):Prop where
 lies:H dl=some (.dK<|Z0 V.str g.lies)
 stiff:H ds=some (.dK<|Z0 V.bl g.stiff)
 paths:Yw H dp es g.val
 told:H dt=some (.dK<|Z0 V.bl g.told)
def xy.mono(e:mz H z)(h:xy H dl ds y x u g):xy z dl ds y x u g:=#[e.at h.lies,e.at h.stiff,h.paths.mono e,e.at h.told]
def AO{z:Type}{f:z->V}(s:lP (lQ×z))(x:lQ):Xm (Z0 f s) (Sum.inr x)=(s.lookup x).map f:=by
 induction s with
 | nil=>rfl
 | cons r s q =>
  rw[show Z0 f (r ::s)=(Sum.inr r.1,f r.2) ::Z0 f s from rfl]
  by_cases y:r.1=x
  ·subst y;rw[yV rfl,rE,yl]
   rfl
  ·rw[wF λu=>y<|wx u,q,rE];have:(x ==r.1)=false:=by rw[sF];show λu=>y u.symm
   rw[this]
def Qk(H:Hp)(x dl ds z y:lR):Prop:=∃u,H x=some (.ins T.cP u [("lie_of",.ref dl),("stiff_ones",.ref ds),("path_of",.ref z),("told",.ref y)])
inductive FL(K:lV):Sp
 | mk (x C dx u1 u2 u3 u4):vs=[.ref x,u1,u2,u3,u4]->H x=some (.ins C dx [])->pO K C->mU K C "lie_of"->mU K C "stiff_ones"->mU K C "path_of"->mU K C "told"->Q .non (mH H x<|.ins C dx [("lie_of",u1),("stiff_ones",u2),("path_of",u3),("told",u4)])->FL K vs H Q E
def Zgk:T.bN.O P w mg mB 1 (FL K):=by
 refine T.bN.F.okA ?_;rfl'
 ·obtain⟨x,C,p,o,n,l,j,rfl,z,c,y,u,r,q,k⟩:=h;intro X D;refine mJ (Wz (pv 0) (pv 1) rfl) #[z,c,y,by simp,?_];refine mJ (Wz (pv 0) (pv 2) rfl) #[Zd,c,u,by change 1<1000;decide,?_];refine mJ (Wz (pv 0) (pv 3) rfl) #[Zd,c,r,by change 2<1000;decide,?_];refine mK (Wz (pv 0) (pv 4) rfl) #[Zd,c,q,by change 3<1000;decide,?_];rw[EH,EH,EH];show k
def Qt:lP V->Hp->VK->Prop:=λr H Q=>∃dl y u s,r=[.ref dl,.ref y,.ref u,.ref s]/\∀x z,mz H z->H x=none->Qk T z x dl y u s->Q (.ref x) z
def Zw4:∀vs H Q,Qt T vs H Q->
  ∀x z,H x=none->H z=none->z≠x->FL K (.ref x ::(vs++[])) (mH (mH H z<|.own x) x<|.ins T.cP z []) (λv s=>v=.non/\Q (.ref x) s) E0:=by
 rintro vs H Q ⟨dl,p,o,n,rfl,h⟩ x z y r l;refine#[x,T.cP,z,_,_,_,_,rfl,Zd,T.dH,T.dI,T.cV,T.dz,T.eM,rfl,h x _ (λb o e=>?_) y #[z,Zd]];have u:b≠x:=Zg e y;have q:b≠z:=Zg e r;rw[Ze u,Ze u,Ze q];show e
def zE(H:Hp)(v:V)(a:lU (lQ×lQ)):Prop:=match a with|none=>v=.non|some z=>∃p,v=.ref p/\H p=some (.tup [.str z.1,.str z.2])
def uA(P:ma)(w:lY)(K:lV)(mg:lQ->lU lS)(mB:lX)(k:Nat)(H:Hp)(f x:lR)(a:lU (lQ×lQ)):Prop :=
 ∀z,mz H z->wy z f/\∀Q:VK,(∀v y,mz z y->zE y v a->Q v y)->EV P w K mg mB k f z [.ref x] Q
def uA.up(h:uA P w K mg mB k H f x a)(l:k<=j):uA P w K mg mB j H f x a:=λz y=>#[(h z y).1,λQ q A u s r p=>(h z y).2 Q q A u s r (p.mono l)]
def Yw.soft{val:lQ->lP Zt}(z:∀b o,H b=some o->Cr o->y b=some o)(h:Yw H d x val):Yw y d x val :=
 #[z _ _ h.1 trivial,λe he=>let⟨u,s,q⟩:=h.2 e he;#[u,z _ _ s trivial,ny q λ_ _ r=>z _ _ r trivial]]
def xy.soft(z:∀b o,H b=some o->Cr o->y b=some o)(h:xy H dl ds x u s g):xy y dl ds x u s g :=
 #[z _ _ h.lies trivial,z _ _ h.stiff trivial,h.paths.soft z,z _ _ h.told trivial]
structure sV(T:Tx K mg)(H:Hp)(gr:Addr)(es:List (Str×Addr))(g:Gd)(dl ds dp dt:Addr):Prop where
 at_:Qk T H gr dl ds dp dt
 four:xy H dl ds dp dt es g
 vl:∀t,(g.val t).length<=100
 st:∀q∈g.stiff,q.2=true
 fd:(es.map fst).Nodup
 el:es.length<=100
 ne:∀e∈es,e.1≠ ""
def sV.mono(e:mz H z)(h:sV U H y x g dl ds u s):sV U z y x g dl ds u s:=#[h.at_.imp λ_ q=>e.at q,h.four.mono e,h.vl,h.st,h.fd,h.el,h.ne]
def sV.soft(z:∀b o,H b=some o->Cr o->y b=some o)(h:sV U H x u g dl ds s r):sV U y x u g dl ds s r:=#[h.at_.imp λ_ q=>z _ _ q trivial,h.four.soft z,h.vl,h.st,h.fd,h.el,h.ne]
open Classical in
def tV(trs:lP lQ)(g:Gd)(x:lQ):lU (lQ×lQ):=if ∃t∈trs,x∈(g.val t).map fst then some (("held":lQ),x)else none
def uE(g:Gd)(x:lQ):lU (lQ×lQ):=if(g.told.lookup x).getD false=true then some (("taken":lQ),x)else none
def zg(H:Hp)(f:lR)(x:lQ):Prop:=∃c,Clo H T.bX f (~~~"rule_held") (Ae<|oY X1) (At<|oY X1) (vo<|oY X1) [("part",c)]/\CellAt H c (.str x)
def zv(H:Hp)(f:lR)(x:lQ):Prop:=∃c,Clo H T.bw f (~~~"rule_taken") (Ae<|oY Xr) (At<|oY Xr) (vo<|oY Xr) [("part",c)]/\CellAt H c (.str x)
def zg.mono(e:mz H z)(h:zg U H f x):zg U z f x:=let⟨c,y,u⟩:=h;#[c,y.mono e,u.mono e]
def zv.mono(e:mz H z)(h:zv U H f x):zv U z f x:=let⟨c,y,u⟩:=h;#[c,y.mono e,u.mono e]
inductive CP(R:Hp->lR->lQ->Prop):Sp
 | mk (x):vs=[.str x]->qQ T H->(∀f H',mz H H'->H f=none->R H' f x->Q (.ref f) H')->CP R vs H Q E
def FH:T.dA.O P w mg mB 1 (CP T<|zg T):=by
 refine T.dA.F.okM T.eP Um (λz H Q E h=>?_) λy A u s H z Q E r h=>?_
 ·obtain⟨x,rfl,_⟩:=h
  rfl
 ·obtain⟨x,rfl,y,q⟩:=h;show uZ.last #[rfl,y.rule_held,_,rfl,λu s r p o n=>q u s r p #[_,o,(n 0 "part" (.str x) _ rfl rfl rfl rfl).2]]
def Fa:T.de.O P w mg mB 1 (CP T<|zv T):=by
 refine T.de.F.okM T.dX ZD (λz H Q E h=>?_) λy A u s H z Q E r h=>?_
 ·obtain⟨x,rfl,_⟩:=h
  rfl
 ·obtain⟨x,rfl,y,q⟩:=h;show uZ.last #[rfl,y.rule_taken,_,rfl,λu s r p o n=>q u s r p #[_,o,(n 0 "part" (.str x) _ rfl rfl rfl rfl).2]]
def OX{trs:lP lQ}{g:Gd}{x r:lQ}(s:∀t∈trs,t≠ "")(q:Fk trs g.val x r):(r≠ "")↔∃t∈trs,x∈(g.val t).map fst:=by
 rcases q with⟨t,y,u,rfl⟩|⟨p,rfl⟩
 ·show#[λ_=>#[_,y,u],λ_=>s _ y]
 ·show#[λz=>absurd rfl z,λ⟨t,y,u⟩=>absurd u<|p t y]
def FR{H:Hp}{f Y dl ds U D:lR}{x:lQ}{j:lP (lQ×lR)}{g:Gd}(R:zg T H f x)(G:sV T H Y j g dl ds U D):uA P w K mg mB 4 H f Y (tV (j.map fst) g x):=by
 intro C N;obtain⟨c,M,B⟩:=R.mono N;have L:ui C (vo<|oY X1) [("part",c)] ["part"] [.str x]:=#[.cons #[rfl,c,rfl,B] .nil,by simp,by simp,by simp]
 refine#[M.fn,λQ q=>?_];refine CZ (g :="ground") M L (λ_ _ _ _=>rfl) rfl (by lk) (by left) (by left) rfl rfl rfl λd6 A my s J=>?_
 have u:=(G.mono N).soft λb o e n=>L.soft e n
 obtain⟨z,hg⟩:=u.at_;refine su (uQ (sy J (Zv (IQ T) J<|Zb (Yd (pv 0) rfl)<|Zb (pv 1) Za) Zf) (Zj<|Zb Zf<|Zb (pv 1) Za) rN) #[hg,T.dH,T.dz,rfl,U,x,j,g.val,rfl,u.four.paths,u.fd,u.el,u.vl,λr z I l=>.inl #[rfl,Yf (λy=>?_) λy=>?_]]
 ·have y:r≠ "":=by simpa using y
  have i:=(OX (λt h=>by obtain⟨e,he,rfl⟩:=mV.mp h;show G.ne e he) l).mp y;refine#[mM,λp H3 z n3 Q=>#[I.trans z,λd E a=>q _ d a ?_]];unfold tV;rw[mT i];show#[p,rfl,E.at Q]
 ·have y:¬r≠ "":=by simpa using y
  have i:=λz=>y<|(OX (λt h=>by obtain⟨e,he,rfl⟩:=mV.mp h;show G.ne e he) l).mpr z
  refine#[I,λd E a=>q _ d a ?_];unfold tV;rw[mS i];show rfl
def Ip(R:zv T H f x)(G:sV T H h J g dl ds I d):uA P w K mg mB 4 H f h (uE g x):=by
 intro a l;obtain⟨c,j,Y⟩:=R.mono l;have L:ui a (vo<|oY Xr) [("part",c)] ["part"] [.str x]:=#[.cons #[rfl,c,rfl,Y] .nil,by simp,by simp,by simp]
 refine#[j.fn,λQ q=>?_];refine CZ (g :="ground") j L (λ_ _ _ _=>rfl) rfl (by lk) (by left) (by left) rfl rfl rfl λE A D s U=>?_
 have z:=(G.mono l).soft λb o e n=>L.soft e n
 obtain⟨p,N⟩:=z.at_;refine su (uQ (Yk<|yq (Xo U) (Yd (pv 0) rfl) (pv 1) qr #[rfl,rfl,rfl,rfl]) (Zj<|Zb Zf<|Zb (pv 1) Za) rN) #[N,T.dH,T.eM,rfl,d,rfl,.inl #[_,.inl z.four.told],_,qy (k:=Sum.inr x) z.four.told,?_];rw[AO];have e:(Option.map V.bl<|g.told.lookup x).getD (V.bl false)=V.bl ((g.told.lookup x).getD false):=by cases g.told.lookup x<;>rfl
 rw[e];refine(Yf (λy=>?_) λy=>?_)
 ·refine#[mM,λp C Q B M=>#[Q,λu i r=>q _ u r ?_]];unfold uE;rw[mT y];show#[p,rfl,i.at M]
 ·refine#[pL _,λu i r=>q _ u r ?_];unfold uE;rw[mS y];show rfl
def Wa:lP (lU<|lQ×lQ)->lU (lQ×lQ)
 | []=>none
 | some z ::_=>some z
 | none ::r=>Wa r
theorem GP:∀{l:lP (lU<|lQ×lQ)},(∀a∈l,a=none)->Wa l=none
 | [],_=>rfl
 | a ::r,h=>by
  have:a=none:=h a<|oM ..;subst this;show GP (l:=r) λb z=>h b<|pc _ z
theorem NK:∀{l:lP (lU<|lQ×lQ)}{i:Nat}{z:lQ×lQ},l[i]? =some (some z)->(∀a∈l.take i,a=none)->Wa l=some z
 | [],_,_,h,_=>by simp at h
 | a ::r,0,z,h,_=>by
  have:a=some z:=by simpa using h
  subst this
  rfl
 | a ::r,i+1,z,h,n=>by
  have:a=none:=n a (by simp);subst this;show NK (l:=r) (i:=i) (by simpa using h) λb y=>n b (by rw[IZ];show pc _ y)
inductive MO(P:ma)(w:lY)(K:lV)(mg:lQ->lU lS)(mB:lX):Sp
 | mk (l gr) (fs:lP lR) (ans):vs=[.ref l,.ref gr]->SqL K H l (fs.map V.ref)->Paired (λf a=>uA P w K mg mB 5 H f gr a) fs ans->(∀v H',mz H H'->zE H' v (Wa ans)->Q v H')->MO P w K mg mB vs H Q E
def HW:T.gm.O P w mg mB 6 (MO P w K mg mB):=by
 refine T.gm.F.okW Fj ?_;rfl'
 ·obtain⟨l,G,fs,ans,rfl,d,c,q⟩:=h;intro X D;have C:fs.length=ans.length:=nG c;let r:IF:=λi z Y=>(∃o n,z=[some (.ref l),some<|.ref G,o,n])/\mz H Y/\∀a∈ans.take i,a=none
  refine mJ (Y9 pC rfl (Yn<|pv 0) (oh 2 Fj) Zn) #[d,W2 (xs:=fs.map V.ref) r #[#[none,none,rfl],pL _,by simp] ?_ ?_ ?_]
  ·rintro i z Y _ ⟨_,y,_⟩;show y.seq d
  ·rintro i v z U N ⟨⟨o,n,rfl⟩,x,u⟩;rw[nK]at N;obtain⟨f,B,rfl⟩:=nU.mp N;obtain⟨a,M,an⟩:=oQ c B;obtain⟨L,run⟩:=an U x;refine mJ (mY 3 Fj<|OP (k:=5) hr (pv 2)<|Zb (pv 1) Za) #[f,rfl,L,L,run _ λv H2 J j=>?_];refine mK (Zr (Z2 RQ (pv 3) rN<|Ym _) Zn Zi) #[rfl,Yf (λg=>?_) λg=>?_]
   ·refine mK (Zl<|pv 3)<|q v H2 (x.trans J) ?_;cases a with
    | none=>cases(show v=.non from j);simp at g
    | some y=>rw[NK M u];show j
   ·refine#[#[_,_,rfl],x.trans J,λb I=>?_];rw[ol,M,ou]at I;rcases I with y|y
    ·show u b y
    ·simp at y;rw[y];cases a with
     | none=>rfl
     | some y=>obtain⟨p,e,_⟩:=j;subst e;simp at g
  ·rintro z U ⟨⟨o,n,rfl⟩,x,u⟩;rw[mI,C,oR]at u;show mK (Zl rN) (q _ _ x<|by rw[GP u];rfl)
def sS:lP lQ:=["","a","b","c","d","stem","left","right"]
def uN(ns:lP lQ)(q:S4):Prop:=q.1∈ns/\q.2.1∈sS/\q.2.2.1∈sS/\q.2.2.2∈sS
def VS:∀k∈qm,∀z∈Yt k,∀y∈tL k,z∈sS/\ve k z y∈sS/\y∈sS:=by left
def GI(k:lQ):(tL k).length<=2:=by unfold tL;split<;>decide
inductive oS(ns:List Str)(H:Hp):List Addr->List S4->Prop
 | mk (h:Paired (qK H) us qs) (o:∀q∈qs,uN ns q):oS ns H us qs
def oS.mono(e:mz H z)(h:oS ns H us qs):oS ns z us qs:=let⟨h,o⟩:=h;#[ny h λ_ _ r=>r.mono e,o]
def oS.nil:oS ns H [] []:=#[.nil,(λ_ z=>nomatch z)]
def oS.len(h:oS ns H us qs):us.length=qs.length:=let⟨h,_⟩:=h;nG h
def oS.snoc(h:oS ns H us qs)(r:qK H u q)(o:uN ns q):oS ns H (us++[u]) (qs++[q]):=by
 obtain⟨h,k⟩:=h;refine#[pJ h<|.cons r .nil,λp y=>?_];rcases ou.mp y with z|z
 ·show k p z
 ·rw[pD.mp z];show o
def oS.get(h:oS ns H us qs){i:Nat}{u:lR}(e:us[i]? =some u):∃q,qs[i]? =some q/\qK H u q/\uN ns q:=by
 obtain⟨h,k⟩:=h;obtain⟨q,z,r⟩:=oQ h e;show#[q,z,r,k q<|pe z]
def oS.off(h:oS ns H us qs)(y:H c=some (.lst xs)):oS ns (mH H c o) us qs:=by
 obtain⟨h,k⟩:=h;show#[ny h λt q (r:H t=_)=>show mH H c o t=_ from(Ze λz=>by rw[z,y]at r;cases r).trans r,k]
def kindOf(ps:lP Zh)(nm:lQ):lU lQ:=(ps.find? λp=>decide<|p.2=nm).map fst
theorem AT:∀{ps:lP Zh},(ps.map snd).Nodup->((k,nm):Zh)∈ps->kindOf ps nm=some k
 | p ::ps,y,h=>by
  rw[nS,pN]at y;unfold kindOf;rw[we];rcases nQ.mp h with z|z
  ·rw[<-z,nM rfl];rfl
  ·rw[og λe=>y.1 (by rw[e];show mV.mpr #[_,z,rfl])];show AT y.2 z
def rW(z:lP (Zh×Zh))(e:Zh):Zh:=(((qJ z).find? λq=>decide<|q.1=e).map snd).getD (("":lQ),("":lQ))
theorem Ob{z y:Type}[DecidableEq z]{a:z}{b:y}:∀{l:lP (z×y)},(l.map fst).Nodup->(a,b)∈l->l.find? (λq=>decide<|q.1=a)=some (a,b)
 | x ::l,s,h=>by
  rw[nS,pN]at s;rw[we];rcases nQ.mp h with u|u
  ·rw[<-u,nM rfl]
  ·rw[og λe=>s.1 (by rw[e];show mV.mpr #[_,u,rfl])];show Ob s.2 u
def Zw7{z y:Type}[DecidableEq z]{a:z}{l:lP (z×y)}(h:a∉l.map fst):l.find? (λq=>decide<|q.1=a)=none :=
 List.find?_eq_none.mpr λq u x=>h<|mV.mpr #[q,u,ow x]
section
variable {ps:lP Zh} {js:lP (Zh×Zh)} {sg:lP (lQ×lQ×lQ)} {H:Hp} {Q:lR->Hp->Prop}
def Yia(z:Y2 ps js sg):((qJ js).map fst).Nodup:=by rw[tJ];show z.net.flat.nodup_iff.mpr<|xQ z.net.nd
def Vg(z:Y2 ps js sg):e∈(qJ js).map fst↔e∈Ys ps:=by rw[tJ];show z.net.flat.mem_iff
def Il(z:Y2 ps js sg)(h:(e,y)∈qJ js):rW js e=y:=by unfold rW;rw[Ob (Yia z) h];rfl
def Yf7(y:Y2 ps js sg)(h:e∉Ys ps):rW js e=((("":lQ),("":lQ)):Zh):=by unfold rW;rw[Zw7 λz=>h<|(Vg y).mp z];rfl
def Yfl(r:Y2 ps js sg){q:lR->Prop}(p:∀t',Q t' H->q t')(h:∀t' y,mz H y->Zu y t' (rW js e)->Q t' y) :
  (e∈Ys ps/\∀t' x,((e,x):Zh×Zh)∈qJ js->Zu H t' x->q t')\/(e∉Ys ps/\∀t' y,mz H y->H t'=none->Zu y t' ("","")->Q t' y):=by
 by_cases z:e∈Ys ps
 ·show .inl #[z,λt' x he u=>p t' (h t' H (pL _) (by rw[Il r he];show u))]
 ·show .inr #[z,λt' y s _ u=>h t' y s (by rw[Yf7 r z];show u)]
end
def yS(k nm z:lQ):lP S4:=open Classical in((tL k).map λy=>(nm,z,ve k z y,y)).filter λq:S4=>decide<|q.2.2.1≠ ""\/(k ="gate"\/k ="stop")
def sP(ps:lP Zh)(z:lP (Zh×Zh))(e:Zh):lP S4:=open Classical in if e∈Ys ps/\rW z e≠(("",""):Zh)then yS ((kindOf ps e.1).getD "") e.1 e.2 else[]
def Zyk(k nm z:lQ):(yS k nm z).length<=2:=by
 unfold yS;show oi (wI ..) (by rw[mI];show GI k)
def LD(ps z)(e:Zh):(sP ps z e).length<=2:=by
 unfold sP;split
 ·show Zyk ..
 ·show pH _
def StL(ns:lP lQ)(H:Hp)(l:lR)(n:Nat):Prop:=∃z y,H l=some (.lst<|z.map V.ref)/\oS ns H z y/\y.length<=n
def wq(ns:lP lQ)(H:Hp)(l:lR)(L:lP S4):Prop:=∃z y,H l=some (.lst<|z.map V.ref)/\oS ns H z y/\y.Perm L
def wq.none(h:H l=some (.lst [])):wq ns H l []:=#[[],[],h,.nil,.refl _]
inductive MJ:Sp
 | mk (x t) (e:Zh) (ps js sg):vs=[.ref x,.ref t]->Z5 T H x ps js sg->Y2 ps js sg->Zu H t e->(∀l H',mz H H'->H l=none->wq (ps.map snd) H' l (sP ps js e)->Q (.ref l) H')->MJ vs H Q E
def Jq(h:e∈Ys ps):∃k,((k,e.1):Zh)∈ps/\e.2∈Yt k:=by
 obtain⟨p,z,y⟩:=vJ.mp h;obtain⟨x,u,rfl⟩:=mV.mp y;show#[p.1,z,u]
def yU(h:Zu z u e):Im K z 1 (ph e) (.ref u):=uw (n:=0) (mQ h)<|.cons (.str _)<|.cons (.str _) .nil
def flt(k:lQ)(l:lP S4):lP S4:=open Classical in l.filter λq:S4=>decide<|q.2.2.1≠ ""\/(k ="gate"\/k ="stop")
def SI{k:lQ}{l:lP S4}{q:S4}(h:q.2.2.1≠ ""\/(k ="gate"\/k ="stop")):flt k (l++[q])=flt k l++[q]:=by
 unfold flt;rw[tD,rC,mT<|nM h];rfl
def Yeq{k:lQ}{l:lP S4}{q:S4}(h:¬(q.2.2.1≠ ""\/(k ="gate"\/k ="stop"))):flt k (l++[q])=flt k l:=by
 unfold flt;rw[tD,rC,mS λz=>h<|ow z];simp
def Rs:T.em.O P w mg mB 4 (MJ T):=by
 refine T.em.F.okW zA ?_;rfl'
 ·obtain⟨x,t,⟨nm,u⟩,d,js,sg,rfl,tr,yv,ht,q⟩:=h;intro X D;obtain⟨p,_,_,_,_,_,_,_,_,h1,_⟩:=tr.ex;have imN:∀c:Hp,Im K c 1 (ph ("","")) (.ref T.dM):=λc=>uw (n:=0) (T.iJ c)<|.cons (.str _)<|.cons (.str _) .nil
  by_cases hm:((nm,u):Zh)∈Ys d
  ·obtain⟨k,hk,S9⟩:=Jq hm;have P6:=yv.net.kind _ hk;have hke:(kindOf d nm).getD ""=k:=by rw[AT yv.net.nd hk];rfl
   refine mJ (Zr (We hr (Ya (pv 0) T.am T.cQ (GK T) hr.m T.bf.b .nil Zz<|Zb (pv 1) Za)<|X4 (v:=.ref T.dM) (by rfl) T.hU rfl) Zn Zi) #[h1,rfl,x,t,(nm,u),d,js,sg,rfl,tr,yv,ht,.inl #[hm,λt' e' J7 p=>.inr<|.inl #[1,ph e',ph ("",""),by lk,.inl #[_,_,rfl,rfl],yU p,imN _,Yf (λz=>?_) λzn=>?_]]]
   ·refine mK (Zl<|Zo Za) #[mM,λl H2 J n2 e2=>q l H2 J n2 ?_];have z:e'=(("",""):Zh):=Cf<|ow z;have e:sP d js (nm,u)=[]:=by unfold sP;rw[mS λy=>y.2<|by rw[Il yv J7,z]]
    rw[e];show .none e2
   have eE:sP d js (nm,u)=yS k nm u:=by
    unfold sP;rw[mT #[hm,λy=>zn<|nM<|by rw[<-Il yv J7,y]]];change yS ((kindOf d nm).getD "") nm u=_;rw[hke]
   refine mJ (mY 2 zA<|mW (pv 1) Zc)<|.inr<|.inl #[mQ ht,Zm (j:=0) rfl,?_];refine mJ (mY 3 zA<|mW (pv 1) Zc)<|.inr<|.inl #[mQ ht,Zm (j:=1) rfl,?_];refine mJ (mY 4 zA<|Ya (pv 0) T.am T.cU (GL T) hr.m T.br.b .nil Zz<|Zb (pv 2) Za) #[h1,rfl,x,nm,k,d,js,sg,rfl,tr,yv,hk,λy C H1 s1 hC hO=>?_];obtain⟨dy,hy⟩:=id hO;obtain⟨p,g,m1,b1,g1⟩:=hC.lies;refine mJ (yO 5 ["lie","name","entry","part"] zA (oZ 1 [2,3,4] rfl) (Yn AF) (oF 0) Wh (Zj<|Zb (pv 1)<|Zb (pv 2)<|Zb (Ya (pv 3) hC.cls.1 hC.cls.2.2 (SE T) hr.m T.aS.b .nil Zz<|Zb (pv 2)<|Zb (pv 0) Za)<|Zb (pv 0) Za))<|su (Yh (pv 4) hC.cls.1 m1 (g1 _ _ _ 3<|by lk) hr b1 .nil Zz) #[hy,rfl,_,rfl,λp H2 J n2 e2=>#[mO e2,λD hD=>Xc (K:=K) (xs:=(tL k).map V.str) (λi N c=>(∃us U,N=us.map V.ref/\oS (d.map snd) c us U/\U=((tL k).take i).map λM=>(nm,u,ve k u M,M))/\c D=some (.lst N)/\mz H2 c) #[#[[],[],rfl,.nil,rfl],Zd,pr hD] ?_ ?_ ?_]]
   ·rintro i N c _ ⟨_,_,sm⟩;show mO<|sm.at e2
   ·rintro i v N c hi ⟨⟨us,U,rfl,m9,hl⟩,e,sm⟩;rw[nK]at hi;obtain⟨M,p,rfl⟩:=nU.mp hi;have B3:=(oN.mp p).1;have h2:=GI k;have C7:=m9.len;have S6:U.length<=2:=by rw[hl,mI,oq];lia
    have g:=sm.at<|J.at hy;have lo:=VS k P6 u S9 M<|pe p;refine#[pA rfl,g,rfl,k,y,C,nm,u,M,rfl,hC,#[dy,g],λI G=>#[mM,λa H4 Y B L=>#[Y.at<|G.at e,by rw[mI];show Zq (by lia),#[us++[a],U++[(nm,u,ve k u M,M)],by rw[ng];rfl,?_,by rw[ol,p,ng,<-hl];rfl],Zd,?_]]]
    ·show(((m9.mono G).mono Y).snoc (q:=(nm,u,ve k u M,M)) L #[mV.mpr #[_,hk,rfl],lo.1,lo.2.1,lo.2.2]).off (Y.at<|G.at e)
    ·intro b o z;rw[Ze (Zg z hD)];show Y.at<|G.at<|sm.at z
   ·rintro N I ⟨⟨us,U,rfl,m9,hl⟩,hD3,G⟩;have hO3:qo I C y nm:=(hO.mono J).mono G;have h2:=GI k;have C7:=m9.len;rw[mI,oR]at hl;have S6:U.length<=2:=by rw[hl,mI];lia
    refine mK (Zl<|Z7 (r:=Hy K) (KG hr.units) (by rfl) T.cY yJ<|Zb (pR ["step","part"] (oZ 1 [4] rfl) (Yn<|pv 5) (oF 0) (uY<|pF<|W0 (Z2 (r:=uq K) (vD hr) (qC (K:=K) rfl (pv 0) Zc) Zf<|Ym _)<|Wv<|Yk<|Z7 (r:=yy K) CC (by rfl) T.af sr<|Zb (pv 1)<|Zb (X4 (v:=.ref T.bz) (by rfl) T.iX rfl) Za) (pv 0)) Za) #[mO hD3,λD2 A4=>Xc (K:=K) (xs:=us.map V.ref) (λi N c=>(∃vs B,N=vs.map V.ref/\oS (d.map snd) I vs B/\B=flt k (U.take i))/\c D2=some (.lst N)/\mz I c) #[#[[],[],rfl,.nil,rfl],Zd,pr A4] ?_ ?_ ?_]
    ·rintro i N c _ ⟨_,_,sm⟩;show mO<|sm.at hD3
    ·rintro i v N H4 hi ⟨⟨vs,B,rfl,K3,e⟩,Q5,Y⟩;rw[nK]at hi;obtain⟨t4,hti,rfl⟩:=nU.mp hi;obtain⟨L,hq4,ht4,ok4⟩:=m9.get hti;have B3:=(oN.mp hti).1;obtain⟨ty,hty,hkit⟩:=hC.stop<|hO3.mono Y;have N6:=K3.len;have Q6:B.length<=2:=by rw[e];show oi (wI ..) (by rw[oq];lia)
     have ty1:U.take (i+1)=U.take i++[L]:=by rw[ol,hq4];rfl
     have yes:(L.2.2.1≠ ""\/(k ="gate"\/k ="stop"))->H4 D2=some (.lst<|vs.map V.ref)/\(vs.map V.ref).length<sizeLine/\(∃a p,vs.map V.ref++[.ref t4]=a.map V.ref/\oS (d.map snd) I a p/\p=flt k (U.take<|i+1))/\mH H4 D2 (.lst<|vs.map V.ref++[.ref t4]) D2=some (.lst<|vs.map V.ref++[.ref t4])/\mz I (mH H4 D2<|.lst<|vs.map V.ref++[.ref t4]) :=
      λhc=>#[Q5,by rw[mI];show Zq (by lia),#[vs++[t4],B++[L],by rw[ng];rfl,K3.snoc ht4 ok4,by rw[ty1,SI hc,e]],Zd,λb o z=>by rw[Ze (Zg z A4)];show Y.at z]
     have no:¬(L.2.2.1≠ ""\/(k ="gate"\/k ="stop"))->(∃a p,vs.map V.ref=a.map V.ref/\oS (d.map snd) I a p/\p=flt k (U.take<|i+1))/\H4 D2=some (.lst<|vs.map V.ref)/\mz I H4:=λhc=>#[#[vs,B,rfl,K3,by rw[ty1,Yeq hc,e]],Q5,Y]
     refine#[pA rfl,.inr<|.inl #[mQ<|Y.at ht4,Zm (j:=2) rfl,.inl #[rfl,Yf (λz=>yes (.inl λy=>by rw[y]at z;show absurd z<|by left)) λz=>#[hty,.inr #[_,rfl,hkit],?_]]]]
     by_cases g:k ="gate"\/k ="stop"
     ·rw[nM g];show yes<|.inr g
     ·rw[og g];refine no λy=>y.elim (λy=>z ?_) g
      rw[og λw=>y<|V.str.inj w];rfl
    ·rintro N H4 ⟨⟨vs,B,rfl,K3,e⟩,Q5,Y⟩;rw[mI,C7,oR]at e;have g:=K3.mono Y;refine#[D2,vs,rfl,mO Q5,λa ha=>?_,λas' hp l H5 s5 n5 e5=>q l H5 (s1.trans<|J.trans<|G.trans<|Y.trans s5) (s1.free<|J.free<|G.free<|Y.free n5) ?_]
     ·obtain⟨i,hi⟩:=AI ha;obtain⟨L,_,a,_⟩:=g.get hi;show#[L.1,[L.2.1,L.2.2.1,L.2.2.2],a]
     ·obtain⟨hv,ok⟩:=g.mono s5;obtain⟨p,a,p2⟩:=GY hp hv;rw[eE];show#[as',p,e5,#[p2,λq hq=>ok q<|a.mem_iff.mp hq],by rw[show yS k nm u=B from by rw[e,hl];rfl];show a]
  ·refine mJ (Zr (We hr (Ya (pv 0) T.am T.cQ (GK T) hr.m T.bf.b .nil Zz<|Zb (pv 1) Za)<|X4 (v:=.ref T.dM) (by rfl) T.hU rfl) Zn Zi) #[h1,rfl,x,t,(nm,u),d,js,sg,rfl,tr,yv,ht,.inr #[hm,λt' H1 s1 o p=>.inr<|.inl #[1,ph ("",""),ph ("",""),by lk,.inl #[_,_,rfl,rfl],yU p,imN _,Yf (λ_=>?_) λz=>absurd (nM rfl) z]]];show mK (Zl<|Zo Za) #[mM,λl H2 J n2 e2=>q l H2 (s1.trans J) (s1.free n2) (by rw[show sP d js (nm,u)=[]from by unfold sP;show mS λy=>hm y.1];show .none e2)]
inductive LZ:Sp
 | mk (x ps js sg):vs=[.ref x]->Z5 T H x ps js sg->Y2 ps js sg->(∀l ts sg' H',mz H H'->H l=none->H' l=some (.lst<|ts.map V.ref)->Paired (An H') ts sg'->sg'.Perm sg->Q (.ref l) H')->LZ vs H Q E
def Fm:T.aZ.O P w mg mB 1 (LZ T):=by
 refine T.aZ.F.okA ?_;rfl'
 ·obtain⟨x,u,l,C,rfl,tr,yv,q⟩:=h;intro X D;obtain⟨x,u,l,p,g,e,N,a,ko,h1,_,_,_,_,h6,h7,_⟩:=tr.ex;have hks:N.length=C.length:=by rw[h7.len];show mI ..
  have N1:=yv.sigs.len;refine mK (Zl<|Z7 (r:=Hy K) (KG hr.units) (by rfl) T.cY yJ<|Zb (IB<|pR ["name","end"] (oZ 2 [] rfl) (Bc<|Yd (pv 0) rfl) (ze (K:=K) (n:=2) rfl rfl<|Zy (oF 0)<|Zy (oF 1) Xq) Wh (Zj<|Zb (pv 0)<|Zb (qC (K:=K) rfl (pv 1) Zc)<|Zb (qC (K:=K) rfl (pv 1) Zc) Za)) Za) #[h1,T.am,T.bH,rfl,h6,λo nf D B=>Hd (λi L H'=>mz (mH H p<|.frz o<|.dK N) H'/\H' D=some (.lst L)/\∃d:lP lR,L=d.map V.ref/\Paired (An H') d (C.take i)) #[pr B,Zd,[],rfl,.nil] ?_ ?_ ?_]
  ·rintro i L H' _ ⟨z,_⟩;show z.at Zd
  ·rintro i kv L J hi ⟨M,A4,d,rfl,I⟩ tp H3 Y n3 e3;obtain⟨⟨nm,e⟩,g,a,t,hv,ht⟩:=oQ h7 hi;have a:kv.1=Sum.inr nm:=a;rw[a,hv]at e3;have G:C[i]? =some (nm,e.1,e.2):=by
    unfold qS at g;rw[nK]at g;obtain⟨⟨g1,g2,g3⟩,G,e'⟩:=nU.mp g;rw[G];simp only[yQ]at e';rw[<-e'.1,<-e'.2]
   have hto:t≠p:=λz=>by rw[z]at ht;show nomatch h6.symm.trans ht
   have htF:mH H p (.frz o<|.dK N) t=some (.tup [.str e.1,.str e.2]):=by
    rw[Ze hto];show ht
   have N5:d.length<=40:=by
    rw[nG I,oq];lia
   have x:=mQ (K:=K)<|Y.at<|M.at htF;refine#[mQ e3,rfl,rfl,(pA rfl).trans (pA rfl),.inr<|.inl #[x,Zm (j:=0) rfl,.inr<|.inl #[x,Zm (j:=1) rfl,mM,λt' H4 l n4 e4=>#[l.at<|Y.at A4,by rw[mI];show Zq (by lia),?_,Zd,d++[t'],by rw[ng];rfl,?_]]]]
   ·intro c u z;rw[Ze (Zg z B)];show l.at<|Y.at<|M.at z
   ·have Q5:=l.at<|Y.at A4;have off:∀{c:lR}{U:lP V}{u:HO},H4 c=some (.tup U)->mH H4 D u c=some (.tup U):=λ{c U u} z=>(Ze λy=>by rw[y,Q5]at z;cases z).trans z
    rw[ol,G];show pJ (ny I λ_ _ z=>off<|l.at<|Y.at z)<|.cons (off e4) .nil
  ·rintro L J ⟨M,A4,d,rfl,I⟩;rw[hks,oR]at I;have e:mz H (mH J p<|.dK N):=Cv h6 M;have u:D≠p:=λz=>by rw[z,Zd]at B;cases B
   have off:∀{c:lR}{U:lP V},J c=some (.tup U)->mH J p (.dK N) c=some (.tup U):=λ{c U} z=>(Ze λy=>by rw[y,M.at Zd]at z;cases z).trans z
   have x:Paired (An<|mH J p<|.dK N) d C:=ny I λ_ _ z=>off z
   refine#[p,o,_,M.at Zd,nf,D,d,rfl,mO (by rw[Ze u];show A4),λa ha=>?_,λD4 hp l H3 Y n3 e3=>?_]
   ·obtain⟨i,hi⟩:=AI ha;obtain⟨g,_,G⟩:=oQ x hi;show#[g.1,[g.2.1,g.2.2],G]
   ·obtain⟨g,a,p2⟩:=GY hp x;show q l D4 g H3 (e.trans Y) (e.free n3) e3 (ny p2 λ_ _ z=>Y.at z) a
inductive LQ:Sp
 | mk (x) (g:lQ×Zh) (ps js) (sg:lP (lQ×lQ×lQ)):vs=[.ref x,.str g.1]->Z5 T H x ps js sg->Y2 ps js sg->(g:lQ×lQ×lQ)∈sg->(∀(t:lR)(H':Hp),mz H H'->Zu H' t g.2->Q (.ref t) H')->LQ vs H Q E
def W7:T.aY.O P w mg mB 2 (LQ T):=by
 refine T.aY.F.okA ?_;rfl'
 ·obtain⟨x,⟨nm,e⟩,U,N,n,rfl,l,u,r,q⟩:=h;intro X D;obtain⟨x,U,N,j,M,L,i,J,I,p,_,_,_,_,o,g,_⟩:=l.ex;have d:((nm,e):lQ×Zh)∈qS n:=mV.mpr #[(nm,e),r,rfl];obtain⟨v,c,t,rfl,a⟩:=g.get yF (by rw[Lu];show u.sigs.nd) d;have y:Xm i (Xl nm)=some (.ref t):=c;refine mJ (Zr (pF<|W0 (Y5<|Yk<|Zv (zR T) hr<|Zb (pv 1) Za)<|Wv<|rP hr (pv 1)<|Yd (pv 0) rfl) Zn Zi) #[_,true,rfl,(u.sigs.name _ r).asked,λY z=>#[z.at p,T.am,T.bH,rfl,.inr<|.inl #[j,_,rfl,qy (k:=Xl nm)<|z.at o,?_]]];rw[y];show mK (Zl<|W5 (Xo hr) (Yd (pv 0) rfl) (pv 1) λ_ _=>rfl) #[z.at p,T.am,T.bH,rfl,vS.mk (v:=.ref t) (by rw[<-y];show qy (k:=Xl nm)<|z.at o)<|q t Y z<|a.mono z]
def pG(ns:lP lQ)(H:Hp)(t:lR)(sig:lQ)(qs:lP S4):Prop:=∃z,H t=some (.tup<|.str sig ::z.map V.ref)/\oS ns H z qs
def pG.mono(e:mz H z)(h:pG ns H t sig qs):pG ns z t sig qs:=let⟨y,x,u⟩:=h;#[y,e.at x,u.mono e]
def pG.off(h:pG ns H t sig qs)(x:H c=some (.lst xs)):pG ns (mH H c o) t sig qs:=by
 obtain⟨u,y,s⟩:=h;show#[u,(Ze λz=>by rw[z,x]at y;cases y).trans y,s.off x]
def vH(e:Zh)(qs:lP S4):Zh:=match qs.getLast? with
 | none=>e
 | some q=>(q.1,q.2.2.1)
def tM(e:Zh)(qs l:lP S4):lP S4:=open Classical in l.filter λq:S4=>decide<|q.1∉e.1 ::qs.map fst
def YZ(h:q.1∉e.1 ::qs.map fst):tM e qs (l++[q])=tM e qs l++[q]:=by
 unfold tM;rw[tD,rC,mT<|nM h];rfl
def WO(h:¬q.1∉e.1 ::qs.map fst):tM e qs (l++[q])=tM e qs l:=by
 unfold tM;rw[tD,rC,mS λz=>h<|ow z];simp
def Lm(e:Zh)(qs l:lP S4):(tM e qs l).length<=l.length:=wI ..
def qu(ps:lP Zh)(z:lP (Zh×Zh))(e:Zh)(qs:lP S4):lP S4:=if 12<=qs.length then[]else tM e qs (sP ps z<|rW z<|vH e qs)
def Yc6(ps z)(e:Zh)(qs):(qu ps z e qs).length<=2:=by
 unfold qu;split
 ·show pH _
 ·show oi (Lm ..)<|LD ..
def wq.few(h:wq ns H l (qu ps s e qs)):StL ns H l 2/\(12<=qs.length->H l=some (.lst [])):=by
 obtain⟨r,q,x,u,y⟩:=h;refine#[#[r,q,x,u,by rw[y.length_eq];show Yc6 ..],λz=>?_];have:qu ps s e qs=[]:=by unfold qu;show mT z
 rw[this]at y;have:=u.len;rw[y.length_eq]at this;rw[x,sJ.mp this];rfl
inductive Qw:Sp
 | mk (x t) (g:lQ×Zh) (qs ps js) (sg:lP (lQ×lQ×lQ)):vs=[.ref x,.ref t]->Z5 T H x ps js sg->Y2 ps js sg->(g:lQ×lQ×lQ)∈sg->pG (ps.map snd) H t g.1 qs->qs.length<=100->(∀l H',mz H H'->H l=none->wq (ps.map snd) H' l (qu ps js g.2 qs)->Q (.ref l) H')->Qw vs H Q E
def Tk(n:Nat):vZ (n+1) (-1)=some n:=by
 unfold vZ;rw[mS (by lk)];simp
 constructor<;>lia
def zN{z:Type}(xs:lP z)(x:z):oy (xs++[x]) (-1)=some x:=by
 unfold oy;rw[nW,xl,Tk];simp
def ET:T.fF.O P w mg mB 5 (Qw T):=by
 refine T.fF.F.okW DZ ?_;rfl'
 ·obtain⟨x,t,⟨sig,e⟩,n,Y,U,sg,rfl,tr,yv,hg,⟨c,ht,m9⟩,l,q⟩:=h;intro X D;have C7:=m9.len;obtain⟨l,_,_,_,_,_,_,_,_,h1,_⟩:=tr.ex;have O3:((V.str sig ::c.map V.ref).length:Int)=((n.length+1:Nat):Int):=by rw[pi,mI,C7]
  refine mJ (Zr (Z2 yH (pq T.ba<|pv 1) (W6 (by rfl) T.gM)<|Ym _) Zn Zi)<|.inl #[.inr<|mQ ht,Yf (λy=>?_) λy=>?_]
  ·refine mK (Zl<|Zo Za) #[mM,λl H1 s1 n1 e1=>q l H1 s1 n1 ?_];have y:=ow y;rw[O3]at y;have e0:qu Y U e n=[]:=by unfold qu;show mT (by lia)
   change wq _ _ _ (qu Y U e n);rw[e0];show .none e1
  have y:n.length<12:=by
   rcases yR n.length 12 with p|p
   ·show p
   ·show absurd (nM<|by rw[O3];lia) y
  refine mJ (mY 2 DZ<|Ya (pv 0) T.am T.cx (W7 T) hr.m T.aY.b .nil Zz<|Zb (mW (pv 1) Zc) Za) #[h1,rfl,.inr<|.inl #[mQ ht,Zm (j:=0) rfl,x,(sig,e),Y,U,sg,rfl,tr,yv,hg,λtp H1 s1 hp=>?_]];have T3:=s1.at ht;let I19:IC:=λz a=>∃tl,z=[some (.ref x),some<|.ref t,some<|.ref tp,some<|.ref tl,none]/\mz H1 a/\Zu a tl (vH e n)
  refine pU I19 ?_ ?_
  ·refine pQ (mY 3 DZ<|uQ (We hr (pq T.ba<|pv 1) Zc) (pv 2)<|Zv (Gm T) hr<|Zb (mW (pv 1)<|vi vF Zc) Za)<|.inl #[.inr<|mQ T3,.inl #[rfl,Yf (λp=>?_) λp=>?_]]
   ·have p:n=[]:=by
     have p:=V.int.inj<|ow p;rw[O3]at p;show sJ.mp (by lia)
    subst p;show#[tp,rfl,pL _,hp]
   ·have p:0<c.length:=by
     rcases Nat.eq_zero_or_pos c.length with v|v
     ·show absurd (nM<|by rw[O3,<-C7,v];rfl) p
     ·show v
    obtain⟨N,M,rfl⟩:∃N M,c=N++[M]:=#[c.dropLast,c.getLast<|List.ne_nil_of_length_pos p,(Ac _).symm]
    obtain⟨L,G,rq,_⟩:=(m9.mono s1).get (i:=N.length) (u:=M) (by simp);have l:vH e n=(L.1,L.2.2.1):=by
     unfold vH;rw[Az,<-C7,nW,xl,CQ,G]
    have la:oy (V.str sig ::(N++[M]).map V.ref) (-1)=some (.ref M):=by
     rw[ng,<-List.cons_append];show zN _ _
    show .inr<|.inl #[mQ T3,la,M,L,rfl,rq,λt3 H3 s3 n3 e3=>#[t3,rfl,s3,by rw[l];show e3]]
  rintro z H2 ⟨tl,rfl,s2,hl⟩;have ht2:=s2.at T3;have hus2:=(m9.mono s1).mono s2;refine mJ (mY 4 DZ<|Zp Wo (Zo<|Zb (mW (pv 2) Zc) Za)<|pR ["step"] (oZ 1 [] rfl) (xo<|Xp (r:=qV K) rj (pv 1) (X2 Zc) X5) (oF 0) Wh (qC (K:=K) rfl (pv 0) Zc))<|.inr<|.inl #[mQ<|s2.at hp,Zm (j:=0) rfl,mM,λla H3 s3 n3 e3=>.inl #[mQ<|s3.at ht2,?_,λt4 H4 s4 l C=>#[mQ C,λD hD=>?_]]]
  ·rintro⟨p,_⟩;have:HT.sIx (V.str sig ::c.map V.ref).length 0 (some 1)=1:=by
    unfold HT.sIx;simp
   rw[this]at p;cases p
  have C:H4 t4=some (.tup<|c.map V.ref):=by
   have C:H4 t4=some (.tup<|rh (V.str sig ::c.map V.ref) (some ((1:Nat):Int)) none):=C;rw[yj]at C;show C
  refine FI (K:=K) (xs:=c.map V.ref) (λi g a=>g=((n.take i).map fst).map V.str/\a D=some (.lst g)/\mz H4 a) #[rfl,Zd,pr hD] ?_ ?_ ?_
  ·rintro i g a _ ⟨_,_,sm⟩;show mQ<|sm.at C
  ·rintro i v g H5 hi ⟨rfl,U0,s5⟩;rw[nK]at hi;obtain⟨M,J,rfl⟩:=nU.mp hi;obtain⟨L,G,rq,_⟩:=hus2.get J;have l:=rq.mono<|s3.trans<|s4.trans s5;refine#[pA rfl,.inr<|.inl #[mQ l,Zm (j:=0) rfl,U0,by rw[mI,mI,oq];show Zq (by lia),?_,Zd,λb o p=>?_]]
   ·rw[ol,G,ng,ng];rfl
   ·rw[Ze (Zg p hD)];show s5.at p
  rintro g H5 ⟨rfl,U0,s5⟩;rw[mI,C7,oR]at U0;refine .inr<|.inr #[(s4.trans s5).at e3,U0,by rw[mI,mI];show sz (by change 1+_<=_;lia),λlp H6 s6 l e6=>?_];have e6:H6 lp=some (.lst<|(e.1 ::n.map fst).map V.str):=e6;have s26:=s3.trans<|s4.trans<|s5.trans s6;have d:=s1.trans<|s2.trans s26;refine mK (Zl<|pR ["step","passed"] (oZ 1 [4] rfl) (Yn<|Zv (Rs T) hr<|Zb (pv 0)<|Zb (Ya (pv 0) T.am T.cQ (GK T) hr.m T.bf.b .nil Zz<|Zb (pv 3) Za) Za) (oF 0) (uY<|Z2 (r:=ES K) (OO hr) (qC (K:=K) rfl (pv 0) Zc) (pv 1)<|by with_unfolding_all rfl) (pv 0)) #[d.at h1,rfl,x,tl,vH e n,Y,U,sg,rfl,tr.mono d,yv,hl.mono s26,Yfl yv (λ_ y=>y) λt7 H7 s7 p7=>#[x,t7,_,Y,U,sg,rfl,tr.mono<|d.trans s7,yv,p7,λl8 l s8 n8 ⟨vs,N,h8,K3,hpm⟩=>#[mO h8,λD2 A4=>Xc (K:=K) (xs:=vs.map V.ref) (λi g a=>(∃B bs,g=B.map V.ref/\oS (Y.map snd) l B bs/\bs=tM e n (N.take i))/\a D2=some (.lst g)/\mz l a) #[#[[],[],rfl,.nil,rfl],Zd,pr A4] ?_ ?_ ?_]]]
  ·rintro i g a _ ⟨_,_,sm⟩;show mO<|sm.at h8
  ·rintro i v g H9 hi ⟨⟨B,bs,rfl,has,hb⟩,I,s9⟩;rw[nK]at hi;obtain⟨M,J,rfl⟩:=nU.mp hi;obtain⟨L,hqw,rq,ok⟩:=K3.get J;have Q6:N.length<=2:=by rw[hpm.length_eq];show LD ..
   have hb2:bs.length<=2:=by rw[hb];show oi (Lm ..) (by rw[oq];lia)
   have l:N.take (i+1)=N.take i++[L]:=by rw[ol,hqw];rfl
   have hal:=has.len;have N6:=K3.len;have B3:=(oN.mp J).1;refine#[pA rfl,.inr<|.inl #[mQ<|rq.mono s9,Zm (j:=0) rfl,.inl #[.inl<|mO<|(s7.trans<|s8.trans s9).at e6,rfl,Y8 _,?_]]];rw[mT rfl,Xw];refine Yf (λp=>?_) λp=>?_
   ·have p:L.1∉e.1 ::n.map fst:=λv=>by rw[nM v]at p;show absurd p (by lk)
    show#[I,by rw[mI];show Zq (by lia),#[B++[M],bs++[L],by rw[ng];rfl,has.snoc rq ok,by rw[l,YZ p,hb]],Zd,λb o p=>by rw[Ze (Zg p A4)];show s9.at p]
   ·have p:¬L.1∉e.1 ::n.map fst:=λv=>p (by rw[og v];rfl)
    show#[#[B,bs,rfl,has,by rw[l,WO p,hb]],I,s9]
  ·rintro g H9 ⟨⟨B,bs,rfl,has,hb⟩,I,s9⟩;have N6:=K3.len;rw[mI,N6,oR]at hb;have l:qu Y U e n=tM e n (sP Y U<|rW U<|vH e n):=by unfold qu;show mS (by lia)
   refine q D2 H9 (d.trans<|s7.trans<|s8.trans s9) (d.free<|s7.free<|s8.free A4) ?_;change wq _ _ _ (qu Y U e n);rw[l];show#[B,bs,I,has.mono s9,by rw[hb];show hpm.filter _]
def wt(ss:lP S4):Nat:=3 ^ (14-ss.length)
theorem Ja:∀bs:lP (lP S4),bs.length<=(bs.map wt).sum
 | []=>nw _
 | b ::bs=>by
  have:=Ja bs;have:1<=wt b:=Nat.one_le_pow _ _ (by lk);change bs.length+1<=wt b+(bs.map wt).sum;lia
def qz(ns:lP lQ)(H:Hp)(l:lR)(sig:lQ)(y:lP (lP S4)):Prop:=∃z:lP lR,H l=some (.lst<|z.map V.ref)/\Paired (λt x=>pG ns H t sig x) z y
def qz.mono(e:mz H z)(h:qz ns H l sig y):qz ns z l sig y:=let⟨x,u,s⟩:=h;#[x,e.at u,ny s λ_ _ r=>r.mono e]
def qz.off(h:qz ns H l sig z)(y:H c=some (.lst xs))(n:l≠c):qz ns (mH H c o) l sig z:=let⟨x,u,s⟩:=h;#[x,(Ze n).trans u,ny s λ_ _ r=>r.off y]
def qz.add(z:H l=some (.lst<|ts.map V.ref))(h:Paired (λt ss=>pG ns H t sig ss) ts y)(r:pG ns H t sig ss):qz ns (mH H l<|.lst<|ts.map V.ref++[.ref t]) l sig (y++[ss]) :=
 #[ts++[t],by rw[Zd,ng];rfl,pJ (ny h λ_ _ r=>r.off z)<|.cons (r.off z) .nil]
def yK(r:lP S4):Prop:=r≠[]/\r.length<=12
inductive Ks:Sp
 | mk (x) (g:lQ×Zh) (ps js) (sg:lP (lQ×lQ×lQ)):vs=[.ref x,.str g.1]->Z5 T H x ps js sg->Y2 ps js sg->(g:lQ×lQ×lQ)∈sg->(∀l rs H',mz H H'->H l=none->qz (ps.map snd) H' l g.1 rs->rs.length<=4782969->(∀r∈rs,yK r)->Q (.ref l) H')->Ks vs H Q E
inductive Ev(ns:List Str)(H:Hp)(x lf lb:Addr)(sig:Str)(p:Nat->Prop):Nat->St->Hp->Prop
 | mk (rs bs o4 o5):mz H H'->qz ns H' lf sig rs->qz ns H' lb sig bs->rs.length+(bs.map wt).sum<=4782969->(∀b∈bs,b.length<=12)->(∀r∈rs,yK r)->p (bs.map wt).sum->Ev ns H x lf lb sig p (bs.map wt).sum [some (.ref x),some<|.str sig,some<|.ref lf,some<|.ref lb,o4,o5] H'
inductive LU(ns:List Str)(H:Hp)(x lf lb ta l6:Addr)(sig:Str)(vs:List Addr)(ws ah:List S4)(m1 m2:Nat):St->Hp->Prop
 | mk (rs bs o5):(bs.map wt).sum<=m1->rs.length+(bs.map wt).sum<=m2->mz H H'->H' l6=some (.lst<|vs.map V.ref)->oS ns H' vs ws->pG ns H' ta sig ah->qz ns H' lf sig rs->qz ns H' lb sig bs->(∀b∈bs,b.length<=12)->(∀r∈rs,yK r)->LU ns H x lf lb ta l6 sig vs ws ah m1 m2 [some (.ref x),some<|.str sig,some<|.ref lf,some<|.ref lb,some<|.ref ta,o5] H'
def Qv:T.dQ.O P w mg mB 6 (Ks T):=by
 refine T.dQ.F.okW W1 ?_;rfl'
 ·obtain⟨x,⟨sig,e⟩,M,js,sg,rfl,tr,yv,hg,q⟩:=h;intro X D;refine mJ (mY 2 W1<|Zo Za) #[mM,λlf u s1 n1 e1=>?_];refine mJ (mY 3 W1<|Zo<|Zb (Zj<|Zb (pv 1) Za) Za) #[mM,λt2 u s2 p e2=>#[mM,λd n s3 n3 e3=>?_]];have nfb:lf≠d:=λy=>by rw[y]at e1;rw[s2.at e1]at n3;cases n3
  have nlb:H d=none:=s1.free<|s2.free n3;have D5:=s1.trans<|s2.trans s3;let I20:IC:=λz H'=>(∃o3 o4 o5,z=[some (.ref x),some<|.str sig,some<|.ref lf,o3,o4,o5])/\mz H H'/\∃rs,qz (M.map snd) H' lf sig rs/\rs.length<=4782969/\∀r∈rs,yK r
  refine pU I20 ?_ ?_
  ·refine pQ (Zz1 pC (Vv (pv 3) λ_=>rfl) Zn) #[Ev (M.map snd) H x lf d sig λ_=>True,#[_,.mk [] [[]] none none D5 #[[],s3.at<|s2.at e1,.nil] #[[t2],e3,.cons #[[],s3.at e2,.nil] .nil] (by left) (λb hb=>by rw[pD.mp hb];show pH _) (λ_ y=>nomatch y) trivial],?_];rintro n z H4 ⟨rs,bs,o4,o5,s4,K6,⟨ts,c,i9⟩,hsum,d9,L,_⟩;have N5:=nG i9;refine#[!(ts.map V.ref).isEmpty,.inl #[_,mO c,rfl],?_];refine Yf (λy=>?_) λy=>#[#[_,_,_,rfl],s4,rs,K6,by lia,L];have y:0<ts.length:=by
    cases ts with
    | nil=>show absurd y (by lk)
    | cons a as=>show Nat.succ_pos _
   obtain⟨j,hta⟩:∃j,ts[ts.length-1]? =some j:=#[_,oA<|by lia]
   obtain⟨p,hah,ra⟩:=oQ i9 hta;obtain⟨g,rfl⟩:=JO.mp (show ts.getLast? =some j by rw[Az];show hta);obtain⟨b1,rfl⟩:=JO.mp (show bs.getLast? =some p by rw[Az,<-N5];show hah);rw[ng,Fb]at hsum;have hal:p.length<=12:=d9 p<|qc _ oM;have hlen1:∀b∈b1,b.length<=12:=λb hb=>d9 b<|vT _ hb
   obtain⟨B,hB⟩:∃B,B=3 ^ (13-p.length):=#[_,rfl]
   have hB1:1<=B:=by rw[hB];show Nat.one_le_pow _ _ (by lk)
   have hwt:(List.map wt [p]).sum=3 * B:=by
    change wt p+0=_;unfold wt;rw[hB,Dq,show 14-p.length=(13-p.length)+1 by lia,Nat.pow_succ,Nat.mul_comm]
   rw[hwt]at hsum;refine#[λu H'=>∃n,Ev (M.map snd) H x lf d sig (λn=>n<=(b1.map wt).sum+2 * B) n u H',λu H' ⟨n,h⟩=>?_,?_]
   ·obtain⟨U9,J,u,l,g1,g2,N,g4,g5,g6,g7⟩:=h;show#[_,by rw[ng,Fb,hwt];lia,.mk U9 J u l g1 g2 N g4 g5 g6 trivial]
   refine mJ (mY 4 W1<|Uv xT Ao Gr Yen<|pv 3) #[.inl #[rfl,_,mO c],d,_,.ref j,rfl,rfl,c,?_,?_]
   ·rw[ng,nW,mI];change(g.map V.ref++[V.ref j])[g.length+1-1]? =_;rw[CQ,Ci (by rw[mI];show nw _),mI,Nat.sub_self]
    rfl
   have el:mH H4 d (.lst ((g++[j]).map V.ref).dropLast) d=some (.lst<|g.map V.ref):=by rw[Zd,ng];show oJ (λl=>some<|HO.lst l)<|List.dropLast_concat
   have hts':Paired (λt ss=>pG (M.map snd) H4 t sig ss) g b1:=by
    have:=Bl g.length i9;rwa[List.take_left,show g.length=b1.length by have:=N5;rw[nW,nW]at this;simpa using this,List.take_left]at this
   have Y:=K6.off (o:=.lst ((g++[j]).map V.ref).dropLast) c nfb;have ra5:=ra.off (o:=.lst ((g++[j]).map V.ref).dropLast) c;have U:qz (M.map snd) (mH H4 d<|.lst ((g++[j]).map V.ref).dropLast) d sig b1:=#[g,el,ny hts' λ_ _ r=>r.off c]
   have s5:mz H (mH H4 d<|.lst ((g++[j]).map V.ref).dropLast):=s4.upd0 nlb;generalize mH H4 d (.lst ((g++[j]).map V.ref).dropLast)=H5 at Y ra5 U s5;refine mK (Y9 pC rfl (Yn<|Zv (ET T) hr<|Zb (pv 0)<|Zb (pv 4) Za) (oh 5 W1) Zn) #[x,j,(sig,e),p,M,js,sg,rfl,tr.mono s5,yv,hg,ra5,by lia,λl6 u s6 n6 h0=>?_];obtain⟨⟨vs,ws,h6,K3,u⟩,h12⟩:=h0.few;refine#[mO h6,W2 (K:=K) (xs:=vs.map V.ref) (λi=>LU (M.map snd) H x lf d j l6 sig vs ws p ((b1.map wt).sum+i * B)<|rs.length+(b1.map wt).sum+i * B) (.mk rs b1 o5 (by lia) (by lia) (s5.trans s6) h6 K3 (ra5.mono s6) (Y.mono s6) (U.mono s6) hlen1 L) ?_ ?_ ?_]
   ·rintro i z H' _ ⟨_,_,_,_,_,_,h,_⟩;show mO h
   ·rintro i v z H7 hi ⟨U9,J,o5',w1,w2,s7,h7,I,G,C,hb7,hl7,ho7⟩;rw[nK]at hi;obtain⟨tq,htq,rfl⟩:=nU.mp hi;obtain⟨qq,_,rq,okq⟩:=I.get htq;have B3:=(oN.mp htq).1;have N6:=K3.len;have hah12:p.length<12:=by
     rcases yR p.length 12 with u|u
     ·show u
     ·have:=h12 u;rw[h6]at this;cases vs with
      | nil=>show absurd B3 (CT _)
      | cons a as=>cases this
    have hwn:wt (p++[qq])=B:=by
     unfold wt;rw[hB,nW];change 3 ^ (14-(p.length+1))=_;rw[show 14-(p.length+1)=13-p.length by lia]
    have nl6:l6≠lf/\l6≠d:=#[λv=>(let⟨_,k,_⟩:=Y;nomatch (v ▸ n6).symm.trans k),λv=>(let⟨_,k,_⟩:=U;nomatch (v ▸ n6).symm.trans k)]
    have iB:(i+1) * B=i * B+B:=by rw[Nat.add_mul,Nat.one_mul]
    have sB:i * B<=1 * B:=Mr _ (by lia);have al:(p++[qq]).length<=12:=by rw[nW];show hah12
    have tup:∀{H8:Hp},mz H7 H8->∀{t8:lR},H8 t8=some (.tup [.ref tq])->∀{Q':VK},(∀t9 H9,mz H8 H9->pG (M.map snd) H9 t9 sig (p++[qq])->Q' (.ref t9) H9)->PD K (.ref j) (.ref t8) H8 Q':=λ{H8} s8 {t8} e8 {Q'} k=>by
     obtain⟨ws,g1,g2⟩:=G.mono s8;have hwl:=g2.len;refine#[j,t8,_,_,rfl,rfl,mQ g1,mQ e8,by simp,by simp,by rw[pi,mI,hwl];show sz (by change _+1+1<=_;lia),λt9 H9 l n9 e9=>k t9 H9 l #[ws++[tq],?_,(g2.mono l).snoc ((rq.mono s8).mono l) okq]];rw[e9,ng];rfl
    refine mK (Zr (Yk<|Zv (Pa T) hr<|Zb (pv 0)<|Zb (pv 5) Za) Zn Zn) #[x,tq,qq,M,js,sg,rfl,tr.mono s7,yv,rq,λH8 s8=>Yf (λ_=>?_) λ_=>?_]
    ·obtain⟨fs,f1,f2⟩:=C.mono s8;refine mK (Z3<|ro (pv 2)<|Zp No (pv 4)<|Zj<|Zb (pv 5) Za) #[.inl #[rfl,_,mO f1],mM,λt8 H9 l n9 e9=>tup (s8.trans l) e9 λt9 M0 u6 r10=>#[(l.trans u6).at f1,?_,?_]]
     ·have R3:=nG f2;rw[mI,tU,R3];lia
     have N:=s8.trans<|l.trans u6;have fe:=(l.trans u6).at f1;refine .mk (U9++[p++[qq]]) J (some<|.ref tq) (by lia) (by rw[nW];change _+1+_<=_;lia) ((s7.trans N).upd0 n1) ((Ze nl6.1).trans (N.at h7)) ((I.mono N).off fe) ((G.mono N).off fe) (qz.add fe (ny f2 λ_ _ r=>r.mono<|l.trans u6) r10) ((hb7.mono N).off fe nfb.symm) hl7 λr M5=>?_
     rcases ou.mp M5 with v|v
     ·show ho7 r v
     ·rw[pD.mp v];show#[by simp,al]
    ·obtain⟨fs,f1,f2⟩:=hb7.mono s8;refine mK (Z3<|ro (pv 3)<|Zp No (pv 4)<|Zj<|Zb (pv 5) Za) #[.inl #[rfl,_,mO f1],mM,λt8 H9 l n9 e9=>tup (s8.trans l) e9 λt9 M0 u6 r10=>#[(l.trans u6).at f1,?_,?_]]
     ·have R3:=nG f2;have:=Ja J;rw[mI,tU,R3];lia
     have N:=s8.trans<|l.trans u6;have fe:=(l.trans u6).at f1;have hsm:((J++[p++[qq]]).map wt).sum=(J.map wt).sum+B:=by rw[ng,Fb];change _+(wt (p++[qq])+0)=_;rw[hwn,Dq]
     refine .mk U9 (J++[p++[qq]]) (some<|.ref tq) (by lia) (by lia) ((s7.trans N).upd0 nlb) ((Ze nl6.2).trans (N.at h7)) ((I.mono N).off fe) ((G.mono N).off fe) ((C.mono N).off fe nfb) (qz.add fe (ny f2 λ_ _ r=>r.mono<|l.trans u6) r10) (λb hb=>?_) ho7;rcases ou.mp hb with v|v
     ·show hl7 b v
     ·rw[pD.mp v];show al
   ·rintro z H7 ⟨U9,J,o5',w1,w2,s7,h7,I,G,C,hb7,hl7,ho7⟩;have N6:=K3.len;rw[mI]at w1 w2;have sB:vs.length * B<=2 * B:=Mr _ (by lia);show#[_,.mk U9 J _ _ s7 C hb7 (by lia) hl7 ho7<|by lia]
  rintro z H4 ⟨⟨o3,o4,o5,rfl⟩,s4,rs,⟨ts,h1,h2⟩,Q4,L⟩;refine mK (Zl<|Z7 (r:=NV K) (Sd hr.units) (by rfl) T.cY yJ<|Zb (pv 2) Za) #[lf,ts,rfl,mO h1,λt ht=>?_,λD4 C9 l5 H5 s5 n5 e5=>?_]
  ·obtain⟨i,hi⟩:=AI ht;obtain⟨ss,_,g,n,l⟩:=oQ h2 hi;refine#[sig,g,n,λu c=>?_];obtain⟨j,a⟩:=AI c;obtain⟨p,_,Y,_⟩:=l.get a;show#[[p.1,p.2.1,p.2.2.1,p.2.2.2],Y]
  ·obtain⟨U9,u,p⟩:=GY C9 h2;show q l5 U9 H5 (s4.trans s5) (s4.free n5) #[D4,e5,ny p λ_ _ r=>r.mono s5] (by rw[u.length_eq];show Q4) λr M5=>L r<|u.mem_iff.mp M5
def qT(ps:lP Zh)(z:lP (Zh×Zh))(y:lP (lQ×lQ×lQ))(e:Zh):lP S4->lP S4->Bool
 | _,[]=>false
 | d,q ::r=>open Classical in if q∈qu ps z e d then(if vj y q=true then decide (r=[])else qT ps z y e (d++[q]) r)else false
def Sj(h:qM a=qM b):a=b:=by
 obtain⟨s,r,q,p⟩:=a;obtain⟨s,r,q,p⟩:=b;unfold qM at h;simp only[Tr.tup.injEq,yZ,Tr.str.injEq,Bu]at h;obtain⟨z,y,x,u⟩:=h;rw[z,y,x,u]
def Ai(K:lV)(H:Hp)(v:V):Prop:=(∃z,Xi K H v z/\kitOne K z (.type "tuple")=some false)\/(∃a z,v=.ref a/\H a=some (.tup z)/\z.length<2)\/∃a y,v=.ref a/\H a=some (.tup [V.str y,.str "x"])
inductive Fh(T:Tx K mg):Sp
 | mk (x a) (g:lQ×Zh) (qs ps js) (sg:lP (lQ×lQ×lQ)):vs=[.ref x,.ref a]->Z5 T H x ps js sg->Y2 ps js sg->(g:lQ×lQ×lQ)∈sg->pG (ps.map snd) H a g.1 qs->qs.length<=12->(∀H',mz H H'->Q (.bl<|qT ps js sg g.2 [] qs) H')->Fh T vs H Q E
 | odd (x v ps js sg):vs=[.ref x,v]->Z5 T H x ps js sg->Y2 ps js sg->Ai K H v->(∀H',mz H H'->Q (.bl false) H')->Fh T vs H Q E
def qK.im(h:qK H t q):Im K H 1 (qM q) (.ref t):=uw (n:=0) (mQ h)<|.cons (.str _)<|.cons (.str _)<|.cons (.str _)<|.cons (.str _) .nil
def oS.im(h:oS ns H us qs):Paired (Im K H 1) (qs.map qM) (us.map V.ref):=by
 obtain⟨h,o⟩:=h;clear o
 induction h with
 | nil=>show .nil
 | cons r _ z=>show .cons (qK.im r) z
def DN{y:Type}{as:lP y}{f:y->lQ}(c:r pl=some (.lst<|ts.map V.ref))(g:Paired (λt a=>∃xs,r t=some (.tup<|V.str (f a) ::xs)) ts as)(G:as.length<=500)(e:r D=none)(q:∀u,mz r u->u D=some (.lst<|(as.map f).map V.str)->Q (.ref D) u){fr:St->St}(Y:fr z=[none])(l:∀z H Q,Q true H->U z H Q)(N:∀z H Q t xs s,z[0]? =some (some<|V.ref t)->H t=some (.tup<|V.str s ::xs)->Q (.str s) H->M z H Q) :
  sw (tW K pl) fr (qW 0) U M Q z r D:=by
 refine Xc (xs:=ts.map V.ref) (λi p u=>p=((as.take i).map f).map V.str/\u D=some (.lst p)/\mz r u) #[rfl,Zd,pr e] ?_ ?_ ?_
 ·rintro i p u _ ⟨_,_,n⟩;show mO<|n.at c
 ·rintro j v p u d ⟨rfl,L,n⟩;rw[nK]at d;obtain⟨t,h,rfl⟩:=nU.mp d;obtain⟨a,J,xs,I⟩:=oQ g h;unfold qG;rw[Y];refine#[pA rfl,l _ _ _<|N _ _ _ t xs (f a) rfl (n.at I) #[L,by rw[mI,mI,oq];show Zq (by lia),?_,Zd,λb o x=>?_]]
  ·rw[ol,J,ng,ng];rfl
  ·rw[Ze (Zg x e)];show n.at x
 ·rintro p x ⟨rfl,o,j⟩;refine q x j ?_;rw[o,mI,nG g,oR]
def BG:T.fG.O P w mg mB 6 (Fh T):=by
 refine T.fG.F.okW Gg ?_;rfl'
 ·intro X D;rcases h with⟨x,a,⟨sig,e⟩,Y,U,N,sg,rfl,C,B,hg,⟨L,c,m9⟩,g,q⟩|⟨x,v,U,N,sg,rfl,C,B,ho,q⟩
  rotate_left
  ·obtain⟨dx,_,_,_,_,_,_,_,_,hx,_⟩:=C.ex;rcases ho with⟨ty,h1,h2⟩|⟨a,xs,rfl,c,hl⟩|⟨a,sn,rfl,c⟩
   ·show mJ (Zr (pF<|W0 (Y5<|Yk<|qD "tuple" T.af T.eN zO<|pv 1)<|Wv<|Z2 ug (pq T.ba<|pv 1) Zc<|Ym _) Zn Zi) #[h1,.inl<|oG rfl h2,mK (Zl qr)<|q H<|pL _]
   ·show mJ (Zr (pF<|W0 (Y5<|Yk<|qD "tuple" T.af T.eN zO<|pv 1)<|Wv<|Z2 ug (pq T.ba<|pv 1) Zc<|Ym _) Zn Zi) #[Xi.tup c,.inl<|oG rfl T.jP,(.inl #[.inr<|mQ c,Yf (λ_=>mK (Zl qr)<|q H<|pL _) λy=>absurd (nM<|by lia) y])]
   refine mJ (Zr (pF<|W0 (Y5<|Yk<|qD "tuple" T.af T.eN zO<|pv 1)<|Wv<|Z2 ug (pq T.ba<|pv 1) Zc<|Ym _) Zn Zi) #[Xi.tup c,.inl<|oG rfl T.jP,(.inl #[.inr<|mQ c,?_])];refine mJ (Zr (rP hr (mW (pv 1) Zc)<|pR ["signal"] (oZ 1 [] rfl) (Yn<|Yh (pv 0) T.am T.cJ (Fm T) hr.m T.aZ.b .nil Zz) (oF 0) Wh (qC (K:=K) rfl (pv 0) Zc)) Zn Zi)<|.inr<|.inl #[mQ c,Zm (j:=0) rfl,hx,rfl,x,U,N,sg,rfl,C,B,λl ts G H1 s1 n1 e1 r1 p1=>#[mO e1,λD hD=>DN (f:=fst) e1 (ny r1 λ_ _ r=>#[_,r]) (by rw[p1.length_eq];have:=B.sigs.len;lia) hD (λH2 s2 A4=>?sh) rfl (λ_ _ _ h=>h) λ_ _ _ _ _ _ e h q=>oV.of e<|.inr<|.inl #[mQ h,Zm (j:=0) rfl,q]]];have y9:=s1.trans s2;refine .inl #[.inl<|mO A4,rfl,Y8 _,?_];rw[mT rfl,Xw];refine Yf (λ_=>mK (Zl qr)<|q H2 y9) λy=>?_;have y:sn∈G.map fst:=by
    by_cases u:sn∈G.map fst
    ·show u
    ·show absurd (by rw[og u];rfl) y
   obtain⟨g,hg,rfl⟩:=mV.mp y;let I21:IF:=λi z H'=>i=0/\(∃o,z=[some (.ref x),some<|.ref a,o])/\mz H H'
   refine mJ (Y9 pC rfl (zU rfl T.di<|Zb Zc<|Zb (pq T.ba<|pv 1) Za) (oh 2 Gg) Zn)<|.inl #[.inr<|mQ<|y9.at c,1,2,rfl,#[by lk,by lk,by lk,by lk],wS (lo:=1) (n:=1) I21 #[rfl,#[none,rfl],y9] ?_ λz H' u=>by cases u.1];rintro i z H3 hi ⟨rfl,⟨o,rfl⟩,J⟩;refine mJ (Zr (rP hr (mW (pv 1)<|pv 2)<|Zv (ET T) hr<|Zb (pv 0)<|Zb (Xp (r:=qV K) rj (pv 1) X5<|X2<|pv 2) Za) Zn Zi)<|.inr<|.inl #[mQ<|J.at c,Zm (j:=1) rfl,.inl #[mQ<|J.at c,?_,λt4 H4 s4 n4 e4=>#[x,t4,g,[],U,N,sg,rfl,C.mono<|J.trans s4,B,p1.mem_iff.mp hg,#[[],?_,.nil],by lk,λl5 H5 s5 n5 ⟨vs,ws,e5,r5,hp5⟩=>.inr<|.inr #[l5,1,.str "x",ws.map qM,vs,rfl,mO e5,by lk,.str _,r5.im,?_]]]]
   ·rintro⟨_,u⟩;have u:HT.sIx 2 2 (some (1:Int))=2:=u;show absurd u (by lk)
   ·show e4
   rw[mT rfl,og (show ¬Tr.str "x"∈ws.map qM from λu=>by
    obtain⟨p,_,u⟩:=mV.mp u;unfold qM at u;cases u)]
   show mK (Zl qr)<|q H5<|J.trans<|s4.trans s5
  obtain⟨dx,_,_,_,_,_,_,_,_,hx,_⟩:=C.ex;have c:H a=some (.tup<|V.str sig ::L.map V.ref):=c;have C7:=m9.len;have d9:(V.str sig ::L.map V.ref).length=Y.length+1:=by rw[pi,mI,C7]
  refine mJ (Zr (pF<|W0 (Y5<|Yk<|qD "tuple" T.af T.eN zO<|pv 1)<|Wv<|Z2 ug (pq T.ba<|pv 1) Zc<|Ym _) Zn Zi) #[Xi.tup c,.inl<|oG rfl T.jP,(.inl #[.inr<|mQ c,Yf (λy=>mK (Zl qr) ?_) λ_=>?_])]
  ·have y:=ow y;rw[d9]at y;have:Y=[]:=sJ.mp (by lia);subst this;show q _<|pL _
  refine mJ (Zr (rP hr (mW (pv 1) Zc)<|pR ["signal"] (oZ 1 [] rfl) (Yn<|Yh (pv 0) T.am T.cJ (Fm T) hr.m T.aZ.b .nil Zz) (oF 0) Wh (qC (K:=K) rfl (pv 0) Zc)) Zn Zi)<|.inr<|.inl #[mQ c,Zm (j:=0) rfl,hx,rfl,x,U,N,sg,rfl,C,B,λl ts G H1 s1 n1 e1 r1 p1=>#[mO e1,λD hD=>DN (f:=fst) e1 (ny r1 λ_ _ r=>#[_,r]) (by rw[p1.length_eq];have:=B.sigs.len;lia) hD (λH2 s2 A4=>?sg) rfl (λ_ _ _ h=>h) λ_ _ _ _ _ _ e h q=>oV.of e<|.inr<|.inl #[mQ h,Zm (j:=0) rfl,q]]];have y9:=s1.trans s2;refine .inl #[.inl<|mO A4,rfl,Y8 _,?_];rw[mT rfl,Xw,nM (show sig∈G.map fst from mV.mpr #[_,p1.mem_iff.mpr hg,rfl])];refine mJ (Y9 pC rfl (zU rfl T.di<|Zb Zc<|Zb (pq T.ba<|pv 1) Za) (oh 2 Gg) Zn)<|.inl #[.inr<|mQ<|y9.at c,1,_,rfl,#[by lk,by lk,by lia,by lia],?_];rw[show(((V.str sig ::L.map V.ref).length:Int)-1).toNat=L.length by rw[d9,C7];lia];let I22:IF:=λi z H'=>(∃o,z=[some (.ref x),some<|.ref a,o])/\mz H H'/\qT U N sg e [] Y=qT U N sg e (Y.take i) (Y.drop i)
  refine wS (n:=L.length) I22 #[#[none,rfl],y9,rfl] ?_ λz H' ⟨⟨o,eo⟩,sm,hw⟩=>by
   subst eo;refine mK (Zl qr) ?_;have:qT U N sg e [] Y=false:=by rw[hw,C7,Be];rfl
   rw[<-this];show q _ sm
  rintro i z H3 hi ⟨⟨o,rfl⟩,J,hwk⟩;obtain⟨d,hu⟩:∃d,L[i]? =some d:=#[_,oA hi]
  obtain⟨r,K0,hq,g⟩:=m9.get hu;have e1i:(1+(i:Nat):Int)=((i+1:Nat):Int):=by lia
  have av:oy (V.str sig ::L.map V.ref) (1+(i:Nat):Int)=some (.ref d):=by
   rw[e1i];refine Zm ?_;change(L.map V.ref)[i]? =_;rw[nK,hu];rfl
  refine mJ (Zr (rP hr (mW (pv 1)<|pv 2)<|Zv (ET T) hr<|Zb (pv 0)<|Zb (Xp (r:=qV K) rj (pv 1) X5<|X2<|pv 2) Za) Zn Zi)<|.inr<|.inl #[mQ<|J.at c,av,.inl #[mQ<|J.at c,?_,λt4 H4 s4 n4 e4=>#[x,t4,(sig,e),Y.take i,U,N,sg,rfl,C.mono<|J.trans s4,B,hg,#[L.take i,?_,?_],?_,λl5 H5 s5 n5 ⟨vs,ws,e5,r5,hp5⟩=>.inr<|.inr #[l5,1,qM r,ws.map qM,vs,rfl,mO e5,by lk,qK.im<|hq.mono<|J.trans<|s4.trans s5,r5.im,?_]]]]
  ·rintro⟨_,u⟩;rw[e1i,HT.sIx_nat]at u;have u:min (i+1) (V.str sig ::L.map V.ref).length=(V.str sig ::L.map V.ref).length:=u;rw[d9]at u;lia
  ·rw[e1i,Co]at e4;rw[e4,vW];rfl
  ·obtain⟨h,o⟩:=m9.mono<|J.trans s4;show#[Bl i h,λp hp=>o p<|xq hp]
  ·rw[oq];lia
  have M:=J.trans<|s4.trans s5;have hdr:Y.drop i=r ::Y.drop (i+1):=by
   have B3:=(oN.mp K0).1;rw[wo B3,(oN.mp K0).2]
  have U3:(r∈qu U N e (Y.take i))↔qM r∈ws.map qM:=#[λu=>mV.mpr #[r,hp5.mem_iff.mpr u,rfl],λu=>by
   obtain⟨p,hp,he⟩:=mV.mp u;rw[<-Sj he];show hp5.mem_iff.mp hp]
  refine Yf (λy=>mK (Zl qr) ?_) λy=>?_
  ·have:qT U N sg e [] Y=false:=by
    rw[hwk,hdr];show mS λu=>by
     rw[nM (U3.mp u)]at y;show absurd y (by lk)
   rw[<-this];show q _ M
  have S0:r∈qu U N e (Y.take i):=U3.mpr (by
   by_cases u:qM r∈ws.map qM
   ·show u
   ·show absurd (by rw[og u];rfl) y)
  have I:qT U N sg e [] Y=if vj sg r=true then decide (Y.drop (i+1)=[])else qT U N sg e (Y.take<|i+1) (Y.drop<|i+1):=by
   rw[hwk,hdr,ol,K0];show mT S0
  refine mK (Zr (Yk<|Zv (Pa T) hr<|Zb (pv 0)<|Zb (mW (pv 1)<|pv 2) Za) Zn Zi)<|.inr<|.inl #[mQ<|M.at c,av,x,d,r,U,N,sg,rfl,C.mono M,B,hq.mono M,λH6 s6=>Yf (λy=>?_) λy=>#[#[_,rfl],M.trans s6,by rw[I,mS y]]];refine mK (Zl<|sW hr (pv 2)<|Zp Ej (pq T.ba<|pv 1) Zc)<|.inl #[.inr<|mQ<|(M.trans s6).at c,.inl #[rfl,?_]];have:decide (V.int (1+(i:Nat))=V.int (((V.str sig ::L.map V.ref).length:Int)-1))=qT U N sg e [] Y:=by
   rw[I,mT y,d9];refine FN.mpr #[λu=>?_,λu=>?_]
   ·have u:=V.int.inj u;show JZ.mpr (by lia)
   ·have u:=JZ.mp u;have:i<Y.length:=by lia
    rw[show(1+(i:Nat):Int)=((Y.length+1:Nat):Int)-1 by lia]
  rw[this];show q H6<|M.trans s6
def xD(x:V)(xs:lP V):rh (x ::xs) (some 1) none=xs:=by
 rw[show(1:Int)=((1:Nat):Int)from rfl,yj]
 rfl
def Wc(x:V)(xs:lP V):¬(HT.sIx (x ::xs).length 0 (some 1)=0/\HT.sIx (x ::xs).length (x ::xs).length none=(x ::xs).length):=by
 rintro⟨h,_⟩;rw[show(1:Int)=((1:Nat):Int)from rfl,HT.sIx_nat]at h;rw[pi]at h;lia
def pj{z:Type}(y:lP (lQ×z))(x:lQ)(v:z):lP (lQ×z):=open Classical in if x∈y.map fst then y.map (λq=>if q.1=x then(x,v)else q)else y++[(x,v)]
def De{z:Type}{f:z->V}(s:lP (lQ×z))(x:lQ)(v:z):Wy (Z0 f s) (Sum.inr x) (f v)=Z0 f (pj s x v):=by
 unfold pj
 by_cases y:x∈s.map fst
 ·rw[mT y];have u:((Z0 f s).any λkv=>decide<|kv.1=Sum.inr x)=true:=by
   obtain⟨q,r,rfl⟩:=mV.mp y;show List.any_eq_true.mpr #[(Sum.inr q.1,f q.2),mV.mpr #[q,r,rfl],by simp]
  unfold Wy;rw[mT u];unfold Z0;rw[oO,oO];refine AZ λq _=>?_
  by_cases h:q.1=x
  ·simp[h]
  ·have:¬(Sum.inr q.1:mZ)=Sum.inr x:=λy=>h<|wx y
   simp[h,this]
 ·rw[mS y];show Lh y
def DE{z:Type}(s:lP (lQ×z))(x:lQ)(v:z):(pj s x v).map fst=if x∈s.map fst then s.map fst else s.map fst++[x]:=by
 unfold pj
 by_cases y:x∈s.map fst
 ·rw[mT y,mT y,oO];refine AZ λq _=>?_
  by_cases u:q.1=x
  ·simp[u]
  ·simp[u]
 ·rw[mS y,mS y,ng]
  rfl
def Gf{z:Type}{s:lP (lQ×z)}{v:z}(h:(s.map fst).Nodup):((pj s x v).map fst).Nodup:=by
 rw[DE]
 by_cases y:x∈s.map fst
 ·rw[mT y];show h
 ·rw[mS y,qp];show#[h,by simp,λa r b q=>by rw[pD]at q;rw[q];intro u;rw[u]at r;show y r]
def pz(z:lP (lQ×lQ)):lP Zt->lP (lQ×lQ)
 | []=>z
 | s ::y=>pz (if s.2.2.2 ="" then z else pj z s.1 s.2.2.2) y
def Mz:∀{y:lP (lQ×lQ)},(y.map fst).Nodup->((pz y ss).map fst).Nodup:=by
 induction ss with
 | nil=>show λh=>h
 | cons r ss x =>
  intro y h;refine x ?_
  by_cases z:r.2.2.2 =""
  ·rw[mT z];show h
  ·rw[mS z];show Gf h
def HQ{z:Type}{P:lQ×z->Prop}{s:lP (lQ×z)}{v:z}(h:∀p∈s,P p)(k:P (x,v)):∀p∈pj s x v,P p:=λp u=>by
 unfold pj at u;split at u
 ·obtain⟨q,y,rfl⟩:=mV.mp u;split
  ·show k
  ·show h q y
 ·rcases ou.mp u with y|y
  ·show h p y
  ·rw[pD.mp y];show k
theorem Qc{P:lQ×lQ->Prop}:∀{ss:lP Zt}{z:lP (lQ×lQ)},(∀p∈z,P p)->(∀s∈ss,P (s.1,s.2.2.2))->∀p∈pz z ss,P p
 | [],_,h,_=>h
 | s ::ss,z,h,k=>by
  change ∀p∈pz (if s.2.2.2 ="" then z else pj z s.1 s.2.2.2) ss,P p;refine Qc ?_ λq y=>k q<|pc _ y
  split
  ·show h
  ·show HQ h<|k s oM
theorem ym:∀{l m:lP lQ},l.Nodup->(∀x∈l,x∈m)->l.length<=m.length
 | [],_,_,_=>pH _
 | a ::l,m,y,h=>by
  rw[pN]at y;have u:=h a oM;have:=ym (m:=m.erase a) y.2 λx s=>(List.mem_erase_of_ne (λz:x=a=>y.1<|z ▸ s)).mpr (h x<|pc _ s)
  rw[List.length_erase_of_mem u]at this;have:=List.length_pos_of_mem u;rw[pi];lia
def zE.mono(e:mz H y)(h:zE H v a):zE y v a:=by
 cases a with
 | none=>show h
 | some z=>obtain⟨p,x,u⟩:=h;show#[p,x,e.at u]
def xH(g:Gd)(x:lQ):lU (lQ×lQ):=if(g.stiff.lookup x).getD false=true then some (("stiff":lQ),x)else none
def wR(H:Hp)(f:lR)(x:lQ):Prop:=∃c,Clo H T.bi f (~~~"rule_stiff") (Ae<|oY Yz) (At<|oY Yz) (vo<|oY Yz) [("part",c)]/\CellAt H c (.str x)
def wR.mono(e:mz H z)(h:wR U H f x):wR U z f x:=let⟨c,y,u⟩:=h;#[c,y.mono e,u.mono e]
def VB:T.df.O P w mg mB 1 (CP T<|wR T):=by
 refine T.df.F.okM T.dY Rj (λz H Q E h=>?_) λy A u s H z Q E r h=>?_
 ·obtain⟨x,rfl,_⟩:=h
  rfl
 ·obtain⟨x,rfl,y,q⟩:=h;show uZ.last #[rfl,y.rule_stiff,_,rfl,λu s r p o n=>q u s r p #[_,o,(n 0 "part" (.str x) _ rfl rfl rfl rfl).2]]
def WF(R:wR T H f x)(G:sV T H h M g dl ds J I):uA P w K mg mB 4 H f h (xH g x):=by
 intro d l;obtain⟨c,j,a⟩:=R.mono l;have L:ui d (vo<|oY Yz) [("part",c)] ["part"] [.str x]:=#[.cons #[rfl,c,rfl,a] .nil,by simp,by simp,by simp]
 refine#[j.fn,λQ q=>?_];refine CZ (g :="ground") j L (λ_ _ _ _=>rfl) rfl (by lk) (by left) (by left) rfl rfl rfl λE A D s Y=>?_
 have z:=(G.mono l).soft λb o e n=>L.soft e n
 obtain⟨p,U⟩:=z.at_;refine su (uQ (Yk<|yq (Xo Y) (Yd (pv 0) rfl) (pv 1) qr #[rfl,rfl,rfl,rfl]) (Zj<|Zb Zf<|Zb (pv 1) Za) rN) #[U,T.dH,T.cV,rfl,ds,rfl,.inl #[_,.inl z.four.stiff],_,qy (k:=Sum.inr x) z.four.stiff,?_];rw[AO];have e:(Option.map V.bl<|g.stiff.lookup x).getD (V.bl false)=V.bl ((g.stiff.lookup x).getD false):=by cases g.stiff.lookup x<;>rfl
 rw[e];refine(Yf (λy=>?_) λy=>?_)
 ·refine#[mM,λp C Q B N=>#[Q,λu i r=>q _ u r ?_]];unfold xH;rw[mT y];show#[p,rfl,i.at N]
 ·refine#[pL _,λu i r=>q _ u r ?_];unfold xH;rw[mS y];show rfl
def xZ(H z:Hp):Prop:=∀b o,H b=some o->(∀y,o≠.lst y)->z b=some o
def _root_.L2.mz.fix(e:mz H z):xZ H z:=λb _ h _=>e b _ h
def _root_.L2.Clo.fix(e:xZ H x)(h:Clo H Pt u q s r p y):Clo x Pt u q s r p y:=by
 obtain⟨o,n,c,l,j,i,g,d,a,Y,U,Q,N⟩:=h;show#[o,n,c,l,j,i,g,e _ _ d (λ_ z=>nomatch z),e _ _ a (λ_ z=>nomatch z),Y,U,e _ _ Q (λ_ z=>nomatch z),N]
def _root_.L2.CellAt.fix(e:xZ H y)(h:CellAt H c v):CellAt y c v:=by
 obtain⟨o,u,x,s⟩:=h;show#[o,u,e _ _ x (λ_ z=>nomatch z),s]
def Vq(H:Hp)(f:lR)(x:lQ)(c:lR):Prop:=Clo H T.bi f (~~~"rule_stiff") (Ae<|oY Yz) (At<|oY Yz) (vo<|oY Yz) [("part",c)]/\CellAt H c (.str x)
def Gp(H:Hp)(f:lR)(x l:lQ):Prop:=∃(z y u fs s:lR),Clo H T.bY f (~~~"rule_lies") (Ae<|oY X0) (At<|oY X0) (vo<|oY X0) [("stiff",u),("part",z),("lie",y)]/\
 CellAt H z (.str x)/\CellAt H y (.str l)/\CellAt H u (.ref fs)/\[u,z,y].Nodup/\Vq T H fs x s/\s∉[u,z,y]
inductive Rl where|held (x:Str)|taken (x:Str)|lies (x l:Str)
def vM(H:Hp)(f:lR):Rl->Prop
 | .held x=>zg T H f x
 | .taken x=>zv T H f x
 | .lies x l=>Gp T H f x l
def vM.fix(e:xZ H u)(h:vM U H f r):vM U u f r:=by
 cases r with
 | held x=>obtain⟨c,z,y⟩:=h;show#[c,z.fix e,y.fix e]
 | taken x=>obtain⟨c,z,y⟩:=h;show#[c,z.fix e,y.fix e]
 | lies x l=>obtain⟨s,q,p,fs,o,z,y,n,j,i,⟨g,d⟩,a⟩:=h;show#[s,q,p,fs,o,z.fix e,y.fix e,n.fix e,j.fix e,i,#[g.fix e,d.fix e],a]
def nd3(n:Nat):[n+1+1+1,n+1,n+1+1].Nodup:=by
 rw[pN,pN];refine#[?_,?_,by simp]<;>simp only[nQ,ut,sU,wf]<;>lia
def UC:Sp:=λy H Q _=>∃x l:lQ,y=[.str x,.str l]/\qQ T H/\∀f z,mz H z->H f=none->Gp T z f x l->Q (.ref f) z
def Sw:T.dB.O P w mg mB 2 (UC T):=by
 refine T.dB.F.okM T.eQ Jn (λe H Q E h=>?_) λz A y s H e Q E d h=>?_
 ·obtain⟨x,l,rfl,_⟩:=h
  rfl
 ·obtain⟨x,l,rfl,j,q⟩:=h;refine uZ.step (λz s=>∃f,z=[some (.str x),some<|.str l,some<|.ref f]/\mz H s/\wR T s f x) (pQ (mY 2 Jn<|Zv (VB T) d<|Zb (pv 0) Za) #[x,rfl,j,λf c y i u=>#[f,rfl,y,u]]) ?_;rintro z c ⟨f,rfl,y,a,Y,g⟩;refine uZ.last #[rfl,(j.mono y).rule_lies,_,rfl,λu s r o U p=>q u s (y.trans r) (y.free o) ?_];obtain⟨i,N⟩:=p 0 "part" (.str x) _ rfl rfl rfl rfl;obtain⟨M,L⟩:=p 1 "lie" (.str l) _ rfl rfl rfl rfl;obtain⟨J,I⟩:=p 2 "stiff" (.ref f) _ rfl rfl rfl rfl;obtain⟨o,u,n,_⟩:=id g;have G:=Zg n i;have D:=Zg n M;have C:=Zg n J;refine#[_,_,_,f,a,U,N,L,I,?_,#[Y.mono r,CellAt.mono r g],?_]
  ·show nd3 _
  ·simp only[nQ,ut,sU,not_or,wf];show#[C,G,D]
def Wx(g:Gd)(x l:lQ):lU (lQ×lQ):=if(g.lies.lookup x).getD ""=l then none else xH g x
def Ue(R:Gp T H f x l)(G:sV T H gr es g dl ds dp dt):uA P w K mg mB 5 H f gr (Wx g x l):=by
 intro I j;obtain⟨h,d,a,fs,c',Y,U,N,M,nd,⟨E,D⟩,C⟩:=R
 replace Y:=Y.mono j
 replace U:=U.mono j
 replace N:=N.mono j
 replace M:=M.mono j
 replace E:=E.mono j
 replace D:=D.mono j
 have L:ui I (vo<|oY X0) [("stiff",a),("part",h),("lie",d)] ["lie","stiff","part"] [.str l,.ref fs,.str x]:=#[.cons #[rfl,d,rfl,N]<|.cons #[rfl,a,rfl,M]<|.cons #[rfl,h,rfl,U] .nil,by simp,by change(["stiff","part","lie"]:lP lQ).Nodup;decide,nd]
 have P3:∀b∈[a,h,d],∃o u,I b=some (Fz o)/\o.data=.cell (some u):=by
  intro b hb;simp only[nQ,ut,sU,wf]at hb;rcases hb with rfl|rfl|rfl
  ·obtain⟨o,u,z,r,_⟩:=M;show#[o,u,z,r]
  ·obtain⟨o,u,z,r,_⟩:=U;show#[o,u,z,r]
  ·obtain⟨o,u,z,r,_⟩:=N;show#[o,u,z,r]
 refine#[Y.fn,λQ q=>?_];refine CZ (g :="ground") Y L (λ_ _ _ _=>rfl) rfl (by lk) (by left) (by left) rfl rfl rfl λd6 A my s B=>?_
 have J:=(G.mono j).soft λb o e n=>L.soft e n
 have RS:wR T (offL I [("stiff",a),("part",h),("lie",d)]) fs x:=by
  refine#[c',?_,?_]
  ·obtain⟨pm,A8,c,oc,vs,tt,Pn,z,r,z3,z4,z5,z6⟩:=E;refine#[pm,A8,c,oc,vs,tt,Pn,?_,?_,z3,z4,?_,z6]
   ·rw[Wk]
    ·show z
    ·intro y;obtain⟨o,u,p,Q⟩:=P3 _ y;rw[z]at p;cases p;cases Q
   ·rw[Wk]
    ·show r
    ·intro y;obtain⟨o,u,p,Q⟩:=P3 _ y;rw[r]at p;cases p
   ·rw[Wk]
    ·show z5
    ·intro y;obtain⟨o,u,p,Q⟩:=P3 _ y;rw[z5]at p;cases p
  ·obtain⟨o,u,z,r⟩:=D;show#[o,u,by rw[Wk C];show z,r]
 have AS:=WF (P:=P) (w:=w) (mB:=mB) T RS J;obtain⟨y,hg⟩:=J.at_;refine su (uQ (We B (yq (Xo B) (Yd (pv 0) rfl) (pv 3) Zf #[rfl,rfl,rfl,rfl])<|pv 1) rN<|OP (k:=4) B (pv 2)<|Zb (pv 0) Za) #[hg,T.dH,T.dI,rfl,dl,rfl,.inl #[_,.inl J.four.lies],_,qy (k:=Sum.inr x) J.four.lies,?_];rw[AO];have e:(Option.map V.str<|g.lies.lookup x).getD (V.str "")=V.str ((g.lies.lookup x).getD ""):=by cases g.lies.lookup x<;>rfl
 rw[e];refine(.inl #[rfl,Yf (λi=>?_) λi=>?_])
 ·have i:(g.lies.lookup x).getD ""=l:=by simpa using i
  refine#[pL _,λH4 s4 s5=>q _ H4 s5 ?_];unfold Wx;rw[mT i];show rfl
 ·have i:¬(g.lies.lookup x).getD ""=l:=by simpa using i
  obtain⟨y,run⟩:=AS _<|pL _;refine#[fs,rfl,y,y,run _ λv Q p c=>#[p,λH4 s4 s5=>q _ H4 s5 ?_]];unfold Wx;rw[mS i];show c.mono s4
def qF:lP Zt->lP Rl
 | []=>[]
 | s ::z=>(if s.2.2.2 ="" then[.held s.1,.taken s.1]else[.held s.1,.taken s.1,.lies s.1 s.2.2.2])++qF z
theorem Pm:∀(ss:lP Zt)(s:Zt),qF (ss++[s])=qF ss++(if s.2.2.2 ="" then[.held s.1,.taken s.1]else[.held s.1,.taken s.1,.lies s.1 s.2.2.2])
 | [],s=>by change _++[]=[]++_;rw[qf,Dl]
 | r ::ss,s=>by
  change _++qF (ss++[s])=(_++qF ss)++_;rw[Pm ss s,pp]
theorem IY:∀ss:lP Zt,(qF ss).length<=3 * ss.length
 | []=>nw _
 | s ::ss=>by
  have:=IY ss;change(_++qF ss).length<=_;rw[nW,pi];split<;>simp<;>lia
def pE(trs:lP lQ)(g:Gd):Rl->lU (lQ×lQ)
 | .held x=>tV trs g x
 | .taken x=>uE g x
 | .lies x l=>Wx g x l
def Yei(R:vM T H f r)(G:sV T H z y g dl ds u s):uA P w K mg mB 5 H f z (pE (y.map fst) g r):=by
 cases r with
 | held x=>show(FR T R G).up (by lk)
 | taken x=>show(Ip T R G).up (by lk)
 | lies x l=>show Ue T R G
def tQ(H:Hp)(fs:lP lR)(z:lP Rl):Prop:=Paired (λf r=>vM T H f r) fs z
def tQ.fix(e:xZ H z)(h:tQ U H fs y):tQ U z fs y:=ny h λ_ _ r=>r.fix e
def tQ.ans{T:Tx K mg}{H:Hp}{fs:lP lR}{z:lP Rl}{y dl ds u s:lR}{x:lP (lQ×lR)}{g:Gd}(h:tQ T H fs z)(G:sV T H y x g dl ds u s):Paired (λf a=>uA P w K mg mB 5 H f y a) fs (z.map<|pE (x.map fst) g):=by
 unfold tQ at h
 induction h with
 | nil=>show .nil
 | cons r _ q=>show .cons (Yei T r G) q
inductive Nw:Sp
 | mk (r) (ns:lP lQ) (sig:lQ) (ss:lP S4):vs=[.ref r]->qQ T H->pG ns H r sig ss->ss.length<=100->(∀(l:lR)(fs:lP lR)(H':Hp),mz H H'->H l=none->H' l=some (.lst<|fs.map V.ref)->tQ T H' fs (qF ss)->Q (.ref l) H')->Nw vs H Q E
def ZN:T.fH.O P w mg mB 3 (Nw T):=by
 refine T.fH.F.okW Ht ?_;rfl'
 ·obtain⟨r,ns,x,j,rfl,ht,⟨d,M5,A3⟩,u,q⟩:=h;intro X D;refine mJ (mY 1 Ht<|Zo Za) #[mM,λl x s1 n1 e1=>?_];refine mJ (Y9 pC rfl (xo<|Xp (r:=qV K) rj (pv 0) (X2 Zc) X5) (oh 2 Ht) Zn)<|.inl #[mQ<|s1.at M5,Wc _ _,λp x s2 n2 e2=>?_];rw[xD]at e2;have J:=A3.mono<|s1.trans s2;have N5:d.length=j.length:=A3.len;have npl:p≠l:=λy=>by rw[y,e1]at n2;cases n2
  let I23:IF:=λi z L=>(∃o2,z=[some (.ref r),some<|.ref l,o2])/\mz H L/\L p=some (.tup<|d.map V.ref)/\oS ns L d j/\∃fs,L l=some (.lst<|fs.map V.ref)/\tQ T L fs (qF<|j.take i)
  refine#[mQ e2,BN (xs:=d.map V.ref) I23 #[#[none,rfl],s1.trans s2,e2,J,[],s2.at e1,.nil] ?_ ?_ ?_]
  ·rintro i z L _ ⟨_,_,e,_⟩;show mQ e
  ·rintro i v z H3 hi ⟨⟨o2,rfl⟩,s3,e3,c,fs,I,G⟩;rw[nK]at hi;obtain⟨t,U,rfl⟩:=nU.mp hi;obtain⟨st,hs,rt,_⟩:=c.get U;have B3:i<j.length:=(oN.mp hs).1;have R3:fs.length<=300:=by
    have h1:=IY<|j.take i;have h2:=nG G;rw[oq]at h1;lia
   have tk:qF (j.take<|i+1)=qF (j.take i)++(if st.2.2.2 ="" then[.held st.1,.taken st.1]else[.held st.1,.taken st.1,.lies st.1 st.2.2.2]):=by rw[ol,hs];show Pm _ _
   have put:∀{N g:Hp}{f:lR}{e:lP lR}{rs:lP Rl}{r':Rl},mz H N->N p=some (.tup<|d.map V.ref)->oS ns N d j->N l=some (.lst<|e.map V.ref)->tQ T N e rs->mz N g->vM T g f r'->
     mz H (mH g l<|.lst<|e.map V.ref++[.ref f])/\mH g l (.lst<|e.map V.ref++[.ref f]) p=some (.tup<|d.map V.ref)/\oS ns (mH g l<|.lst<|e.map V.ref++[.ref f]) d j/\mH g l (.lst<|e.map V.ref++[.ref f]) l=some (.lst<|(e++[f]).map V.ref)/\tQ T (mH g l<|.lst<|e.map V.ref++[.ref f]) (e++[f]) (rs++[r']):=by
    intro N g f e rs r' C a2 B a a5 u b2;have nt:∀xs,g l≠some (.tup xs):=λxs y=>by rw[u.at a]at y;cases y
    have fx:xZ g (mH g l<|.lst<|e.map V.ref++[.ref f]):=λb o y n=>(Ze λx=>by rw[x,u.at a]at y;cases y;show n _ rfl).trans y
    refine#[λb o y=>?_,?_,(B.mono u).off (u.at a),by rw[Zd,ng];rfl,pJ (tQ.fix fx<|a5.fix u.fix)<|.cons (b2.fix fx) .nil]
    ·rw[Ze (Zg y n1)];show u.at<|C.at y
    ·rw[Ze npl];show u.at a2
   refine mJ (Z3<|ro (pv 1)<|Zv (FH T) hr<|Zb (mW (pv 2) Zc) Za) #[.inl #[rfl,_,mO I],.inr<|.inl #[mQ rt,rfl,st.1,rfl,ht.mono s3,λf1 H4 s4 x r4=>#[s4.at I,by rw[mI];show Zq (by lia),?_]]];obtain⟨C,a2,B,a,a5⟩:=put s3 e3 c I G s4 (show vM T H4 f1 (.held st.1)from r4);have t5:qQ T (mH H4 l<|.lst<|fs.map V.ref++[.ref f1]):=ht.mono C;generalize mH H4 l (.lst<|fs.map V.ref++[.ref f1])=H5 at C a2 B a a5 t5;obtain⟨J5,O0,rt5,_⟩:=B.get U;rw[hs]at O0;cases O0;refine mJ (Z3<|ro (pv 1)<|Zv (Fa T) hr<|Zb (mW (pv 2) Zc) Za) #[.inl #[rfl,_,mO a],.inr<|.inl #[mQ rt5,rfl,st.1,rfl,t5,λf2 H6 s6 x r6=>#[s6.at a,by rw[mI];show Zq (by rw[nW];simp;lia),?_]]];obtain⟨u,b2,b3,b4,b5⟩:=put C a2 B a a5 s6 (show vM T H6 f2 (.taken st.1)from r6);have t7:qQ T (mH H6 l<|.lst<|(fs++[f1]).map V.ref++[.ref f2]):=ht.mono u;generalize mH H6 l (.lst<|(fs++[f1]).map V.ref++[.ref f2])=H7 at u b2 b3 b4 b5 t7;obtain⟨J5,O0,M,_⟩:=b3.get U;rw[hs]at O0;cases O0;rw[pp (qF<|j.take i)]at b5;refine mK (Zr (sy hr (mW (pv 2) Zc) Zf) Zn Zi)<|.inr<|.inl #[mQ M,rfl,.inl #[rfl,Yf (λY=>?_) λY=>?_]]
   ·have Y:st.2.2.2≠ "":=λy=>by rw[y]at Y;simp at Y
    refine mK (Z3<|ro (pv 1)<|Zv (Sw T) hr<|Zb (mW (pv 2) Zc)<|Zb (mW (pv 2) Zc) Za) #[.inl #[rfl,_,mO b4],.inr<|.inl #[mQ M,rfl,.inr<|.inl #[mQ M,rfl,st.1,st.2.2.2,rfl,t7,λf3 H8 x n8 r8=>#[x.at b4,by rw[mI];show Zq (by rw[nW,nW];simp;lia),?_]]]];obtain⟨c1,c2,c3,c4,c5⟩:=put u b2 b3 b4 b5 x (show vM T H8 f3 (.lies st.1 st.2.2.2)from r8);refine#[#[_,rfl],c1,c2,c3,_,c4,?_];rw[tk,mS Y];rw[pp (qF<|j.take i)]at c5;show c5
   ·have Y:st.2.2.2 ="":=Ql λy=>Y (by simp[y])
    refine#[#[_,rfl],u,b2,b3,_,b4,?_];rw[tk,mT Y];show b5
  ·rintro z H3 ⟨⟨o2,rfl⟩,s3,_,_,fs,I,G⟩;rw[mI,N5,oR]at G;show mK (Zl<|pv 1)<|q l fs H3 s3 n1 I G
def rZ(ss:lP Zt):lP (lQ×lQ):=(ss.filter λs:Zt=>decide<|s.2.2.2≠("":lQ)).map λs=>(s.1,s.2.2.2)
def Qu(ss:lP Zt):(rZ ss).length<=ss.length:=by unfold rZ;rw[mI];show wI ..
def yC(H:Hp)(tps:lP lR)(z:lP (lQ×lQ)):Prop:=Paired (λt (q:lQ×lQ)=>H t=some (.tup [.str q.1,.str q.2])) tps z
def yC.mono(e:mz H z)(h:yC H tps y):yC z tps y:=ny h λ_ _ r=>e.at r
inductive IP:Sp
 | mk (r) (ns:lP lQ) (sig:lQ) (ss:lP S4):vs=[.ref r]->pG ns H r sig ss->ss.length<=100->(∀(l:lR)(tps:lP lR)(H':Hp),mz H H'->H l=none->H' l=some (.lst<|tps.map V.ref)->yC H' tps (rZ ss)->Q (.ref l) H')->IP vs H Q E
def VQ:T.gk.O P w mg mB 1 IP:=by
 refine T.gk.F.okA ?_;rfl'
 ·obtain⟨r,z,y,d,rfl,⟨J,B,I⟩,x,q⟩:=h;intro X D;refine mK (Zl<|pR ["step"] (oZ 1 [] rfl) (xo<|Xp (r:=qV K) rj (pv 0) (X2 Zc) X5) (oF 0) (uY<|Z2 (r:=uq K) (vD hr) (qC (K:=K) rfl (pv 0) Zc) Zf<|Ym _) (Zj<|Zb (qC (K:=K) rfl (pv 0) Zc)<|Zb (qC (K:=K) rfl (pv 0) Zc) Za))<|.inl #[mQ B,Wc _ _,λp H1 a z Y=>#[mQ Y,λD U=>?_]];rw[xD]at Y;have T7:=I.mono a;have N5:J.length=d.length:=I.len;refine FI (xs:=J.map V.ref) (λi n g=>(∃u,n=u.map V.ref/\yC g u (rZ<|d.take i))/\g D=some (.lst n)/\mz H1 g) #[#[[],rfl,.nil],Zd,pr U] ?_ ?_ ?_
  ·rintro i n g _ ⟨_,_,l⟩;show mQ<|l.at Y
  ·rintro k v n g G ⟨⟨u,rfl,j⟩,N,l⟩;rw[nK]at G;obtain⟨t,ht,rfl⟩:=nU.mp G;obtain⟨st,C,M,_⟩:=T7.get ht;have d9:u.length<=100:=by
    rw[nG j];have:=Qu<|d.take k;rw[oq]at this;lia
   refine#[pA rfl,.inr<|.inl #[mQ<|l.at M,rfl,.inl #[rfl,Yf (λr=>?_) λr=>?_]]]
   ·have r:st.2.2.2≠ "":=λz=>by rw[z]at r;simp at r
    refine(.inr<|.inl #[mQ<|l.at M,rfl,.inr<|.inl #[mQ<|l.at M,rfl,mM,λx L p y e2=>#[p.at N,by rw[mI];show Zq (by lia),#[u++[x],by rw[ng];rfl,?_],Zd,λb o e=>?_]]])
    ·have x:∀n,L D≠some (.tup n):=λn z=>by rw[p.at N]at z;cases z
     have off:∀{c:lR}{n:lP V}{o:HO},L c=some (.tup n)->mH L D o c=some (.tup n):=λ{c n o} z=>by rw[Ze (show c≠D from λy=>x n (by rw[<-y];show z))];show z
     rw[ol,C];unfold rZ;rw[tD,ng,show(some st).toList=[st]from rfl,rC,mT<|nM r];show pJ (ny (j.mono p) λ_ _ z=>off z)<|.cons (off e2) .nil
    ·rw[Ze (Zg e U)];show p.at<|l.at e
   ·have r:st.2.2.2 ="":=Ql λz=>r (by simp[z])
    refine#[#[u,rfl,?_],N,l];rw[ol,C];unfold rZ;rw[tD,ng,show(some st).toList=[st]from rfl,rC,mS (by simp[r]),AA,uH,qf];show j
  ·rintro n z ⟨⟨u,rfl,j⟩,y,x⟩;rw[mI,N5,oR]at j;show q D u z (a.trans x) (a.free U) y j
theorem EX:∀(ss:lP Zt)(y:lP (lQ×lQ)),zu (Z0 V.str y) ((rZ ss).map λq=>(Sum.inr q.1,V.str q.2))=Z0 V.str (pz y ss)
 | [],_=>rfl
 | s ::ss,y=>by
  by_cases z:s.2.2.2 =""
  ·rw[show rZ (s ::ss)=rZ ss by unfold rZ;rw[rC,mS<|by simp[z]],show pz y (s ::ss)=pz y ss by change pz (if s.2.2.2 ="" then y else _) ss=_;rw[mT z]];show EX ss y
  ·rw[show rZ (s ::ss)=(s.1,s.2.2.2) ::rZ ss by unfold rZ;rw[rC,mT<|by simp[z]];rfl,show pz y (s ::ss)=pz (pj y s.1 s.2.2.2) ss by change pz (if s.2.2.2 ="" then y else _) ss=_;rw[mS z]];change zu (Wy (Z0 V.str y) (Sum.inr s.1)<|V.str s.2.2.2) _=_;rw[De];show EX ss _
def Tw:∀{tps:lP lR}{z:lP (lQ×lQ)},yC H tps z->Paired (λt (q:mZ×V)=>H t=some (.tup [kV q.1,q.2])) tps (z.map λq=>(Sum.inr q.1,V.str q.2)):=by
 intro tps z h
 induction h with
 | nil=>show .nil
 | cons r _ y=>show .cons r y
inductive Nv:Sp
 | mk (d r) (ls:lP (lQ×lQ)) (ns:lP lQ) (sig:lQ) (ss:lP S4):vs=[.ref d,.ref r]->H d=some (.dK<|Z0 V.str ls)->(ls.map fst).Nodup->ls.length<=100->pG ns H r sig ss->ss.length<=100->(∀(d':lR)(H':Hp),mz H H'->H d'=none->H' d'=some (.dK<|Z0 V.str<|pz ls ss)->Q (.ref d') H')->Nv vs H Q E
def Ybj:T.iw.O P w mg mB 2 Nv:=by
 refine T.iw.F.okW Jf ?_;rfl'
 ·obtain⟨d,r,p,c,a,y,rfl,hd,o,u,x,Y,q⟩:=h;intro X D;refine mJ (mY 2 Jf<|Yu (r:=BM) GR (by rfl) T.ek xJ<|Zb (pv 0) Za) #[.inl hd,λn u j i g=>?_];refine mJ (Z3<|Vc rfl (pv 2) (Zv (VQ T) hr<|Zb (pv 1) Za) #[rfl,rfl,rfl,rfl]) #[n,rfl,.inl #[_,.inl g],r,c,a,y,rfl,x.mono j,Y,λl u d e N o U=>#[l,u,_,(rZ y).map λq=>(Sum.inr q.1,V.str q.2),rfl,e.at g,o,?_,?_,?_]]
  ·show Tw U
  ·have:=Qu y;rw[mI,show(Z0 V.str p).length=p.length from mI ..];show uW (Zq<|by lia)
  refine mK (Zl<|pv 2) (q n _ (λb o z=>?_) i<|by rw[Zd,EX]);rw[Ze (Zg z i)];show e.at<|j.at z
def CB:("":lQ)∈sS/\("a":lQ)∈sS/\("left":lQ)∈sS:=by left
set_option genInjectivity false in
set_option genSizeOf false in
structure pI where
 dx:Addr
 ld:Addr
 sd:Addr
 nd:Addr
 pd:Addr
 es:List (Str×Addr)
 st:List (Str×Bool)
 ns:List Str
def xz(z:lP (lQ×Nat)):lP (mZ×V):=Z0 (λn:Nat=>V.int (n:Int)) z
def xV(ad:pI)(z:lR):HO:=.ins T.aO ad.dx [("tracks",.ref z),("lie_of",.ref ad.ld),("stiff_ones",.ref ad.sd),("length_of",.ref ad.nd),("path_of",.ref ad.pd)]
structure KX(H0:Hp)(ad:pI)(lw:List (Str×Str))(val:Str->List Zt):Prop where
 s0:H0 ad.sd=none
 sl:ad.sd≠ad.ld
 nok:ad.ns.length<=40/\∀n∈ad.ns,Xb n
 sok:(ad.st.map fst).Nodup/\∀p∈ad.st,p.1∈ad.ns/\p.2=true
 lok:(lw.map fst).Nodup/\∀p∈lw,p.1∈ad.ns/\p.2∈sS
 pok:∀t,(∀q∈val t,uN ad.ns q)/\((val t).map fst).Nodup
structure nJ(T:Tx K mg)(H0 H:Hp)(F:Addr->Prop)(x tr:Addr)(ad:pI)(lw:List (Str×Str))(val:Str->List Zt)(ln:List (Str×Nat)):Prop where
 obj:H x=some (xV T ad tr)
 lies:H ad.ld=some (.dK<|Z0 V.str lw)
 sti:H ad.sd=some (.dK<|Z0 V.bl ad.st)
 lens:H ad.nd=some (.dK<|xz ln)
 pth:Yw H ad.pd ad.es val
 nm:ad.es.map fst=ln.map fst
 lnd:(ln.map fst).Nodup
 len:ln.length<=10
 vl:∀t,(val t).length<=100
 ok:∀p∈ln,Xb p.1
 fx:F x
 fn:F ad.nd
 fp:F ad.pd
 ne:ad.nd≠ad.pd
 nl:¬F ad.ld
 ns:¬F ad.sd
 ni:∀e∈ad.es,¬F e.2
 free:∀b,F b->H0 b=none
 same:mz H0 H
 live:∀b,F b->∃o,H b=some o/\∀xs,o≠.tup xs
 kx:KX H0 ad lw val
def nJ.mono{F:lR->Prop}{val:lQ->lP Zt}(e:mz H y)(h:nJ U u H F x s ad lw val r):nJ U u y F x s ad lw val r :=
 #[e.at h.obj,e.at h.lies,e.at h.sti,e.at h.lens,h.pth.mono e,h.nm,h.lnd,h.len,h.vl,h.ok,h.fx,h.fn,h.fp,h.ne,h.nl,h.ns,h.ni,h.free,h.same.trans e,(λb f=>let⟨o,z,n⟩:=h.live b f;#[o,e.at z,n]),h.kx]
structure rJ(ps:List Zh)(ad:pI)(lw:List (Str×Str)):Prop where
 ns:ad.ns=ps.map snd
 st:∀p∈ad.st,(("points",p.1):Zh)∈ps
 lw:∀n,n∈lw.map fst↔(("points",n):Zh)∈ps
inductive Ee:Sp
 | mk (H0 x dx tr ps js sg):vs=[.ref x,.ref tr]->H0 x=none->mz H0 H->H x=some (.ins T.aO dx [])->Z5 T H0 tr ps js sg->Y2 ps js sg->(∀(H':Hp)(F:lR->Prop)(ad:pI)(lw:lP (lQ×lQ)),rJ ps ad lw->lw.length<=100->nJ T H0 H' F x tr ad lw (λ_=>[]) []->Q .non H')->Ee vs H Q E
def WX:T.bO.O P w mg mB 5 (Ee T):=by
 refine T.bO.F.okA ?_;rfl'
 ·obtain⟨j,x,dx,d,ps,js,sg,rfl,h0,sm,hx,ht,B,q⟩:=h;intro X D;have up:∀{Y:Hp}{o:HO},mz j Y->mz j (mH Y x o):=λs b o e=>by rw[Ze (Zg e h0)];show s.at e
  refine mJ (Wz (pv 0) (pv 1) rfl) #[hx,T.ae,T.aG,by simp,?_];refine mJ (Wz (pv 0) (Zv (Zjh T) hr<|Zb (pv 1) Za) rfl) #[d,ps,js,sg,rfl,ht.mono<|up sm,B,λgs gnd hg hl ld Y s1 n1 U=>SF.mk (fs:=[("tracks",.ref d)]) (s1.at Zd) T.ae T.bU (by simp) ?_];have m1:mz j Y:=(up sm).trans s1;refine mJ (Wz (pv 0) Ws rfl) λN H2 c M e2=>SF.mk (fs:=[("tracks",.ref d),("lie_of",.ref ld)]) (c.at Zd) T.ae T.bu (by simp) ?_
  have m2:mz j H2:=(up m1).trans c;refine mJ (Wz (pv 0) Ws rfl) λL H3 i J e3=>SF.mk (fs:=[("tracks",.ref d),("lie_of",.ref ld),("stiff_ones",.ref N)]) (i.at Zd) T.ae T.cH (by simp) ?_
  have m3:mz j H3:=(up m2).trans i;refine mK (Wz (pv 0) Ws rfl) λpd H4 a g e4=>SF.mk (fs:=[("tracks",.ref d),("lie_of",.ref ld),("stiff_ones",.ref N),("length_of",.ref L)]) (a.at Zd) T.ae T.ay (by simp) ?_
  have m4:mz j H4:=(up m3).trans a;have I:∀{G:Hp}{b:lR}{o:HO},mH G x o b=none->b≠x:=λh z=>by rw[z,Zd]at h;cases h
  have y:∀{G G':Hp}{b:lR}{o u:HO},G b=some u->b≠x->mz (mH G x o) G'->G' b=some u:=λh n s=>s.at (by rw[Ze n];show h)
  have r:=I n1;have l:=I M;have C:=I J;have px:=I g;have l4:=y (y (y U r c) r i) r a;have d4:=y (y e2 l i) l a;have k4:=y e3 C a;refine q _ (λb=>b=x\/b=L\/b=pd) #[dx,ld,N,L,pd,[],[],ps.map snd] (gs.map λn=>(n,("left":lQ))) #[rfl,(λ_ z=>nomatch z),λn=>by rw[oO,show((fst:lQ×lQ->lQ) ∘ λn:lQ=>(n,("left":lQ)))=id from rfl,Fu];show hg n] (by rw[mI];lia) #[Zd,by rw[Ze r];show l4,by rw[Ze l];show d4,by rw[Ze C];show k4,#[by rw[Ze px];show e4,λ_ z=>nomatch z],rfl,.nil,pH _,λ_=>pH _,(λ_ z=>nomatch z),.inl rfl,.inr<|.inl rfl,.inr<|.inr rfl,λz=>?_,?_,?_,(λ_ z=>nomatch z),?_,up m4,?_,#[(up m1).free M,?_,#[by rw[mI];show B.len,λn hn=>?_],#[.nil,(λ_ z=>nomatch z)],#[?_,λp hp=>?_],(λ_=>#[(λ_ z=>nomatch z),.nil])]]
  ·have z:L=pd:=z;rw[<-z,Ze C,e3]at g;cases g
  ·rintro(z|z|z)
   ·show r z
   ·have:=J;rw[<-z,Ze r,y U r c]at this;cases this
   ·have:=g;rw[<-z,Ze r,y (y U r c) r i]at this;cases this
  ·rintro(z|z|z)
   ·show l z
   ·have:=J;rw[<-z,Ze l,e2]at this;cases this
   ·have:=g;rw[<-z,Ze l,y e2 l i]at this;cases this
  ·rintro b (rfl|rfl|rfl)
   ·show h0
   ·show(up m2).free J
   ·show(up m3).free g
  ·rintro b (rfl|rfl|rfl)
   ·show#[_,Zd,λ_ z=>nomatch z]
   ·show#[.dK _,by rw[Ze C];show k4,λ_ z=>nomatch z]
   ·show#[.dK _,by rw[Ze px];show e4,λ_ z=>nomatch z]
  ·intro z;have z:N=ld:=z;rw[z,Ze r,U]at M;cases M
  ·obtain⟨p,hp,rfl⟩:=mV.mp hn;show B.name p hp
  ·rw[oO,show((λx:lQ×lQ=>x.1) ∘ λn:lQ=>(n,("left":lQ)))=id from rfl,Fu];show gnd.1
  ·obtain⟨n,hn,rfl⟩:=mV.mp hp;show#[mV.mpr #[_,(hg n).mp hn,rfl],CB.2.2]
def QN:lP V->Hp->VK->Prop:=λp H Q=>∃(z:lR)(y:lP Zh)(s:lP (Zh×Zh)) (r:lP (lQ×lQ×lQ)),p=[.ref z]/\Z5 T H z y s r/\Y2 y s r/\
 ∀(x:lR)(q:Hp)(F:lR->Prop)(ad:pI)(u:lP (lQ×lQ)),H x=none->rJ y ad u->u.length<=100->nJ T H q F x z ad u (λ_=>[]) []->Q (.ref x) q
def Zxb:∀vs H Q,QN T vs H Q->
  ∀x z,H x=none->H z=none->z≠x->Ee T (.ref x ::(vs++[])) (mH (mH H z<|.own x) x<|.ins T.aO z []) (λv s=>v=.non/\Q (.ref x) s) E0:=by
 rintro vs H Q ⟨r,p,n,l,rfl,j,i,q⟩ x z y u Y;refine#[H,x,z,r,p,n,l,rfl,y,λb o e=>?_,Zd,j,i,λg F ad d c a h=>#[rfl,q x g F ad d y c a h]];rw[Ze (Zg e y),Ze<|Zg e u];show e
inductive NI:Sp
 | mk (H0) (F:lR->Prop) (x tr ad lw) (val:lQ->lP Zt) (ln:lP (lQ×Nat)):vs=[.ref x]->nJ T H0 H F x tr ad lw val ln->(∀ss:lP lQ,ss.Perm (ln.map fst)->PyProof.Rows.sortedS ss=true->pK H (.lst<|ss.map V.str) Q)->NI vs H Q E
def Ls{z:Type}{f:z->V}(l:lP (lQ×z)):((Z0 f l).map λp=>kV p.1)=(l.map fst).map V.str:=by
 rw[show Z0 f l=l.map λq=>(Sum.inr q.1,f q.2)from rfl,oO,oO]
 rfl
def Y1:T.aw.O P w mg mB 1 (NI T):=by
 refine T.aw.F.okA ?_;rfl'
 ·obtain⟨u,F,x,p,ad,o,val,y,rfl,z,q⟩:=h;intro X D;have n:=z.len;refine mK (Zl<|Z7 (r:=BZ) (EE rfl) (by rfl) T.cY yJ<|Zb (Yd (pv 0) rfl) Za) #[z.obj,T.ae,T.ay,rfl,ad.pd,_,y.map fst,rfl,.inl z.pth.1,?_,by rw[mI];lia,q];have:=Ls (f:=V.ref) ad.es;rw[z.nm]at this;show this
inductive Pg:Sp
 | mk (H0) (F:lR->Prop) (x tr ad lw) (val:lQ->lP Zt) (ln:lP (lQ×Nat)) (nm):vs=[.ref x,.str nm]->nJ T H0 H F x tr ad lw val ln->nm∈ln.map fst->(∀H',mz H H'->Q .non H')->Pg vs H Q E
def W9:T.aj.O P w mg mB 2 (Pg T):=by
 refine T.aj.F.okW MG ?_;rfl'
 ·obtain⟨y,F,x,u,ad,r,val,p,nm,rfl,z,o,q⟩:=h;intro X D;refine mK (Zr (rP hr (pv 1)<|Yh (pv 0) T.ae T.aN (Y1 T) hr.m T.aw.b .nil Zz) Zn Zi) #[z.obj,rfl,y,F,x,u,ad,r,val,p,rfl,z,λe n d l j i c g=>.inl #[.inl<|mO g,rfl,Y8 _,?_]];rw[mT rfl,Xw,nM<|n.mem_iff.mpr o];show(q j i)
inductive AK:Sp
 | mk (H0) (F:lR->Prop) (x tr ad lw) (val:lQ->lP Zt) (ln:lP (lQ×Nat)) (v):vs=[.ref x,v]->nJ T H0 H F x tr ad lw val ln->xw v (λn=>n∈ln.map fst)->(∀H',mz H H'->E (.ref T.aB) none H')->AK vs H Q E
def RY:Xf P w K mg mB (nZ P w) 2 T.aj.f T.aj.fd ["self","train"] (AK T):=by
 refine T.aj.F.okX MG ?_;rfl'
 ·obtain⟨r,F,x,p,ad,o,val,j,v,rfl,y,u,q⟩:=h;intro X D;refine mK (Zr (rP hr (pv 1)<|Yh (pv 0) T.ae T.aN (Y1 T) hr.m T.aw.b .nil Zz) Zn Zi) #[y.obj,rfl,r,F,x,p,ad,o,val,j,rfl,y,λi g n l e d c z=>.inl #[.inl<|mO z,u.1,Y8 _,?_]];rw[mT rfl,u.2 i λn z=>g.mem_iff.mp z];show(mK (Wf T.ip rS rfl<|Zb Zf Za) #[mM,q e d])
def Zcs(h:2<=k:=by lk):Xf P w K mg mB (nZ P w) k T.aj.f T.aj.fd ["self","train"] (AK T):=(RY T).mono h
def nJ.get{T:Tx K mg}{u H:Hp}{F:lR->Prop}{x s:lR}{ad:pI}{lw:lP (lQ×lQ)}{val:lQ->lP Zt}{z:lP (lQ×Nat)}{nm:lQ}(h:nJ T u H F x s ad lw val z)(y:nm∈z.map fst):∃l,(nm,l)∈ad.es/\Xm (Z0 V.ref ad.es) (Xl nm)=some (.ref l)/\Yr H l (val nm):=by
 rw[<-h.nm]at y;obtain⟨⟨n,l⟩,he,rfl⟩:=mV.mp y;have r:(ad.es.map fst).Nodup:=by rw[h.nm];show h.lnd
 show#[l,he,uX r he,h.pth.2 _ he]
inductive Pq:Sp
 | mk (H0) (F:lR->Prop) (x tr ad lw) (val:lQ->lP Zt) (ln:lP (lQ×Nat)) (nm):vs=[.ref x,.str nm]->nJ T H0 H F x tr ad lw val ln->nm∈ln.map fst->(∀l H',mz H H'->H l=none->Yr H' l (val nm)->Q (.ref l) H')->Pq vs H Q E
def X9:T.ap.O P w mg mB 3 (Pq T):=by
 refine T.ap.F.okW Kd ?_;rfl'
 ·obtain⟨n,F,x,j,ad,i,val,g,nm,rfl,z,p,q⟩:=h;intro X D;refine mJ (Z3<|Ya (pv 0) T.ae T.bn (W9 T) hr.m T.aj.b .nil Zz<|Zb (pv 1) Za) #[z.obj,rfl,n,F,x,j,ad,i,val,g,nm,rfl,z,p,λo y=>?_];have u:=z.mono y;obtain⟨l,he,e,d,c,a⟩:=u.get p;show mK (Zl<|Yu (r:=xx K) yL (by rfl) T.ej xr<|Zb (W5 (Xo hr) (Yd (pv 0) rfl) (pv 1) λ_ _=>rfl) Za) #[u.obj,T.ae,T.ay,rfl,by rw[<-e];show qy (k:=Xl nm) u.pth.1,.inl<|mO c,λl Y o U N=>q l Y (y.trans o) (y.free U) #[d,N,a.mono o]]
def Tt:Xf P w K mg mB (nZ P w) 3 T.ap.f T.ap.fd ["self","train"] (AK T):=by
 refine T.ap.F.okX Kd ?_;rfl'
 ·obtain⟨y,F,x,u,ad,r,val,p,v,rfl,z,o,q⟩:=h;intro X D;show mJ (Z3<|Ya (pv 0) T.ae T.bn (Zcs T) hr T.aj.b .nil vG<|Zb (pv 1) Za) #[z.obj,rfl,y,F,x,u,ad,r,val,p,v,rfl,z,o,q]
def Zm1(h:3<=k:=by lk):Xf P w K mg mB (nZ P w) k T.ap.f T.ap.fd ["self","train"] (AK T):=(Tt T).mono h
inductive Qy:Sp
 | mk (H0) (F:lR->Prop) (x tr ad lw) (val:lQ->lP Zt) (ln) (p:lQ×Nat):vs=[.ref x,.str p.1]->nJ T H0 H F x tr ad lw val ln->p∈ln->(∀H',mz H H'->Q (.int (p.2:Int)) H')->Qy vs H Q E
def YU:T.cw.O P w mg mB 3 (Qy T):=by
 refine T.cw.F.okA ?_;rfl'
 ·obtain⟨n,F,x,l,ad,j,val,y,p,rfl,z,u,q⟩:=h;intro X D;refine mJ (Z3<|Ya (pv 0) T.ae T.bn (W9 T) hr.m T.aj.b .nil Zz<|Zb (pv 1) Za) #[z.obj,rfl,n,F,x,l,ad,j,val,y,p.1,rfl,z,mV.mpr #[p,u,rfl],λi r=>?_];have o:=z.mono r;have g:Xm (xz y) (Xl p.1)=some (.int (p.2:Int)):=uX z.lnd u;show mK (Zl<|W5 (Xo hr) (Yd (pv 0) rfl) (pv 1) λ_ _=>rfl) #[o.obj,T.ae,T.cH,rfl,vS.mk (v:=.int (p.2:Int)) (by rw[<-g];show qy (k:=Xl p.1) o.lens)<|q i r]
inductive Le:Sp
 | mk (H0) (F:lR->Prop) (x tr dt) (ad:pI) (lw) (val:lQ->lP Zt) (ln td):vs=[.ref x,.ref dt]->nJ T H0 H F x tr ad lw val ln->H dt=some (.dK<|Z0 V.bl td)->(∀g H',mz H H'->H g=none->sV T H' g ad.es #[lw,ad.st,val,td] ad.ld ad.sd ad.pd dt->Q (.ref g) H')->Le vs H Q E
def He:T.bg.O P w mg mB 3 (Le T):=by
 refine T.bg.F.okA ?_;rfl'
 ·obtain⟨z,F,x,o,u,ad,n,val,r,l,rfl,y,hd,q⟩:=h;intro X D;refine mK (Zl<|wM (Qt T) T.iz (Zgk T) hr.m rfl T.iO T.bN.b .nil Zz (Zw4 T)<|Zb (Yd (pv 0) rfl)<|Zb (Yd (pv 0) rfl)<|Zb (Yd (pv 0) rfl)<|Zb (pv 1) Za) #[y.obj,T.ae,T.bU,rfl,y.obj,T.ae,T.bu,rfl,y.obj,T.ae,T.ay,rfl,ad.ld,ad.sd,ad.pd,u,rfl,λg o x n l=>q g o x n #[l,#[x.at y.lies,x.at y.sti,y.pth.mono x,x.at hd],y.vl,(λp z=>(y.kx.sok.2 p z).2),by rw[y.nm];show y.lnd,?_,λe he=>?_]]
  ·have:=oJ List.length y.nm;rw[mI,mI]at this;have:=y.len;lia
  ·obtain⟨p,z,x⟩:=mV.mp (show e.1∈r.map fst by rw[<-y.nm];show mV.mpr #[e,he,rfl]);rw[<-x];show zF<|y.ok p z
inductive MF:Sp
 | mk (H0) (F:lR->Prop) (x tr ad lw) (val:lQ->lP Zt) (ln:lP (lQ×Nat)):vs=[.ref x]->nJ T H0 H F x tr ad lw val ln->(∀ss D j7 H',ss.Perm (ln.map fst)->PyProof.Rows.sortedS ss=true->mz H H'->H D=none->Yw H' D j7 val->j7.map fst=ss->(∀e∈j7,H e.2=none)->Q (.ref D) H')->MF vs H Q E
def Wm:T.aW.O P w mg mB 4 (MF T):=by
 refine T.aW.F.okA ?_;rfl'
 ·obtain⟨H0,F,x,tr,ad,lw,val,ln,rfl,a,q⟩:=h;intro X D;have hl:=a.len;refine mK (Zl<|Yu (r:=CS) (Ho rfl) (by rfl) T.ek xJ<|Zb (pR ["train","self"] (oZ 1 [0] rfl) (Yn<|Yh (pv 0) T.ae T.aN (Y1 T) hr.m T.aw.b .nil Zz) (oF 0) Wh (Zj<|Zb (pv 0)<|Zb (Ya (pv 1) T.ae T.bo (X9 T) hr.m T.ap.b .nil Zz<|Zb (pv 0) Za) Za)) Za) #[a.obj,rfl,H0,F,x,tr,ad,lw,val,ln,rfl,a,λY M hs l z L y e1=>#[mO e1,λD hD=>Xc (xs:=Y.map V.str) (Qr z z D Y val) #[pr hD,Zd,[],[],rfl,rfl,ul,by simp,.nil] ?_ ?_ ?_]]
  ·rintro i ys z _ b;show mO<|b.same.at e1
  ·rintro i v ys H2 hi b;rw[nK]at hi;obtain⟨n,B,rfl⟩:=nU.mp hi;obtain⟨o,p,rfl,g,U,N,j⟩:=b.all;have B3:i<Y.length:=(oN.mp B).1;have N1:Y.length<=10:=by rw[M.length_eq,mI];show hl
   have hel':p.length=i:=by
    have:=oJ List.length g;rw[mI,oq]at this;lia
   have N5:o.length=i:=by
    have:=nG j;rw[show(Z0 V.ref p).length=p.length from mI ..]at this;lia
   have Q6:=a.mono<|L.trans b.same;unfold qG;refine#[pA rfl,Q6.obj,rfl,H0,F,x,tr,ad,lw,val,ln,n,rfl,Q6,M.mem_iff.mp<|pe B,λJ u I G p4=>#[mM,λt H5 e n5 e5=>#[e.at<|I.at b.at',?_,?_,Zd,o++[t],p++[(n,J)],?_,?_,?_,?_,?_]]]
   ·rw[mI];show Zq (by lia)
   ·intro c u z;rw[Ze (Zg z hD)];show e.at<|I.at<|b.same.at z
   ·rw[ng];rfl
   ·rw[ng,g,ol,B];rfl
   ·rw[ng,qp];refine#[U,by simp,?_];rintro c hc c' u rfl;simp at u;obtain⟨q5,T2,hb⟩:=mV.mp hc;obtain⟨_,C,_⟩:=(N q5 T2).2.2;rw[hb,u,G]at C;cases C
   ·have d:=I.trans e;have offD:∀{c:lR}{l:lP Zt}{o':HO},c≠D->Yr H5 c l->Yr (mH H5 D o') c l:=λ{c l o'} nc z=>z.off nc λws y=>by rw[d.at b.at']at y;cases y
    intro q5 T2;rcases ou.mp T2 with z|z
    ·obtain⟨h0,u,C⟩:=N q5 z;show#[h0,u,offD u<|C.mono d]
    ·simp at z;subst z;have u:J≠D:=λy=>by rw[y,b.at']at G;cases G
     show#[b.same.free G,u,offD u<|p4.mono e]
   ·have d:=I.trans e;have u:∀{c:lR}{l:lP V},H5 c=some (.tup l)->c≠D:=λ{c l} z y=>by
     rw[y,d.at b.at']at z;cases z
    rw[show Z0 V.ref (p++[(n,J)])=Z0 V.ref p++[(Sum.inr n,V.ref J)]from ng ..];refine pJ (ny j λt q z=>?_)<|.cons ?_ .nil
    ·have z5:=d.at z;rw[Ze (u z5)];show z5
    ·rw[Ze (u e5)];show e5
  ·rintro ys H2 b;obtain⟨o,p,rfl,g,U,N,j⟩:=b.all;rw[mI,oR]at g;refine#[D,o,Z0 V.ref p,rfl,b.at',j,?_,λd y z u n=>q Y d p y M hs (L.trans<|b.same.trans z) (L.free<|b.same.free u) #[n,λe he=>(N e he).2.2.mono z] g λe he=>L.free (N e he).1];rw[show(Z0 V.ref p).map fst=(p.map fst).map Sum.inr from by rw[show Z0 V.ref p=p.map λq=>(Sum.inr q.1,V.ref q.2)from rfl,oO,oO];rfl,g];show Qe yF<|M.nodup_iff.mpr a.lnd
def Ry:T.bd.O P w mg mB 1 (wG T.bh "part"):=by
 refine T.bd.F.okA ?_;rfl'
 ·obtain⟨e,t,v,rfl,he,q⟩:=h;intro X D;show mK (GS (pv 0) (pv 1) rfl) #[e,T.bh,T.au,t,rfl,he,T.eS.cls,T.eS.sa,T.eS.na,q]
def Kq(h:1<=k:=by lk):T.bd.O P w mg mB k (wG T.bh "part"):=(Ry T).mono h
inductive PZ:Sp
 | mk  :vs=[.non]->Q .non H->PZ  vs H Q E
def ZA:T.ag.O P w mg mB 1 PZ:=by
 refine T.ag.F.okW Ii ?_;rfl'
 ·obtain⟨rfl,q⟩:=h;intro X D;show mJ (Zr (Z2 xK (pv 0) rN<|Ym _) Zn Zi) #[rfl,mK OD q]
inductive Gz:Sp
 | mk (t) (b:Bool) (p):vs=[.ref t]->H t=some (.tup [.str (if b then "held" else "taken"),.str p])->(∀dx H',mz H H'->H dx=none->H' dx=some (.xd [("part",.str p)])->E (.ref<|if b then T.aX else T.bh) (some dx) H')->Gz vs H Q E
def Zgt:Xf P w K mg mB (nZ P w) 3 T.ag.f T.ag.fd ["told"] (Gz T):=by
 refine T.ag.F.okX Ii ?_;rfl'
 ·obtain⟨t,b,p,rfl,z,q⟩:=h;intro X D;refine mJ (Zr (Z2 xK (pv 0) rN<|Ym _) Zn Zi) #[rfl,?_];cases b with
  | true=>show mJ (Zr (We hr (mW (pv 0) Zc) Zf) Zn Zi) (.inr<|.inl #[mQ z,Zm (j:=0) rfl,.inl #[rfl,oB.t (by left)<|mK (xk T.dL T.bW (Ce T) T.aL.b hr rfl T.gY<|Zb (mW (pv 0) Zc) Za)<|.inr<|.inl #[mQ z,Zm (j:=1) rfl,_,rfl,λx y=>q x _ (pr y) y Zd]]])
  | false =>
   refine mJ (Zr (We hr (mW (pv 0) Zc) Zf) Zn Zi)<|.inr<|.inl #[mQ z,Zm (j:=0) rfl,.inl #[rfl,oB.f (by left) ?_]];show mJ (Zr (We hr (mW (pv 0) Zc) Zf) Zn Zi)<|.inr<|.inl #[mQ z,Zm (j:=0) rfl,.inl #[rfl,oB.t (by left)<|mK (xk T.eS T.bW (Kq T) T.bd.b hr rfl T.iF<|Zb (mW (pv 0) Zc) Za)<|.inr<|.inl #[mQ z,Zm (j:=1) rfl,_,rfl,λx y=>q x _ (pr y) y Zd]]]
def Zh2(h:3<=k:=by lk):Xf P w K mg mB (nZ P w) k T.ag.f T.ag.fd ["told"] (Gz T):=(Zgt T).mono h
def wP(F:lR->Prop)(H z:Hp):Prop:=∀b o,¬F b->H b=some o->z b=some o
def DW{F:lR->Prop}(s:mz H z):wP F H z:=λ_ _ _ e=>s.at e
def Yw.offC{val:lQ->lP Zt}(h:Yw H d x val)(hd:d≠c)(he:∀e∈x,e.2≠c)(s:H c=some u)(r:∀xs,u≠.tup xs):Yw (mH H c o) d x val :=
 #[by rw[Ze hd];show h.1,λe z=>(h.2 e z).off (he e z) λxs y=>r xs<|oo<|s.symm.trans y]
def JG{z:Type}{f:z->V}{l:lP (lQ×z)}{a:z}(h:n∉l.map fst):Wy (Z0 f l) (Xl n) (f a)=Z0 f (l++[(n,a)]):=by
 unfold Wy;rw[CO,show Xm (Z0 f l) (Xl n)=none from X3 h,show Z0 f (l++[(n,a)])=Z0 f l++[(Xl n,f a)]from ng ..]
 rfl
section
variable {U:Tx K mg} {F:lR->Prop} {val:lQ->lP Zt}
def nJ.xn(h:nJ U y H F x u ad lw val s):x≠ad.nd:=λz=>by have:=h.obj;rw[z,h.lens]at this;cases this
def nJ.xp(h:nJ U y H F x u ad lw val s):x≠ad.pd:=λz=>by have:=h.obj;rw[z,h.pth.1]at this;cases this
def nJ.neF(h:nJ U y H F x u ad lw val s)(z:H b=none):¬F b:=λf=>by
 obtain⟨o,e,_⟩:=h.live b f;rw[z]at e;cases e
def nJ.move{l:lQ->lP Zt}(s:nJ U I H F x c ad lw val G)(a:mz H j)(hd:H d=none)(h:Yw j d i l)(E:i.map fst=ln'.map fst)(Y:∀e∈i,H e.2=none)(D:(ln'.map fst).Nodup)(C:ln'.length<=10)(Q:∀p∈ln',Xb p.1)(B:∀t,(l t).length<=100)(N:∀t,(∀q∈l t,uN ad.ns q)/\((l t).map fst).Nodup) :
  nJ U I (mH (mH j x<|xV U #[ad.dx,ad.ld,ad.sd,ad.nd,d,i,ad.st,ad.ns] c) ad.nd<|.dK<|xz ln') (λb=>F b\/b=d) x c #[ad.dx,ad.ld,ad.sd,ad.nd,d,i,ad.st,ad.ns] lw l ln':=by
 have g:=s.mono a;have fr:∀{b:lR},H b=none->b≠x/\b≠ad.nd:=λ{b} z=>#[λy=>s.neF z<|y ▸ s.fx,λy=>s.neF z<|y ▸ s.fn]
 have L:∀{b:lR},¬F b->b≠x/\b≠ad.nd:=λ{b} z=>#[λy=>z<|y ▸ s.fx,λy=>z<|y ▸ s.fn]
 have r:∀{b:lR}{o u v:HO},(b≠x/\b≠ad.nd)->j b=some o->mH (mH j x u) ad.nd v b=some o:=λz e=>by rw[Ze z.2,Ze z.1];show e
 have M:mH j x (xV U #[ad.dx,ad.ld,ad.sd,ad.nd,d,i,ad.st,ad.ns] c) ad.nd=some (.dK<|xz G):=by rw[Ze s.xn.symm];show g.lens
 refine#[by rw[Ze s.xn,Zd],r (L s.nl) g.lies,r (L s.ns) g.sti,Zd,(h.offC (fr hd).1 (λe he=>(fr<|Y e he).1) g.obj (λ_ z=>nomatch z)).offC (fr hd).2 (λe he=>(fr<|Y e he).2) M (λ_ z=>nomatch z),E,D,C,B,Q,.inl s.fx,.inl s.fn,.inr rfl,(fr hd).2.symm,?_,?_,λe he=>?_,?_,λb o e=>?_,λb f=>?_,#[s.kx.s0,s.kx.sl,s.kx.nok,s.kx.sok,s.kx.lok,N]]
 ·rintro(z|z)
  ·show s.nl z
  ·have:=s.lies;rw[show ad.ld=d from z,hd]at this;cases this
 ·rintro(z|z)
  ·show s.ns z
  ·have:=s.sti;rw[show ad.sd=d from z,hd]at this;cases this
 ·rintro(z|z)
  ·show s.neF (Y e he) z
  ·obtain⟨A,J,_⟩:=h.2 e he;rw[z,h.1]at J;cases J
 ·rintro b (z|z)
  ·show s.free b z
  ·rw[z];show s.same.free hd
 ·have n:=s.free x s.fx;have J:=s.free ad.nd s.fn;show r #[Zg e n,Zg e J]<|a.at<|s.same.at e
 ·by_cases y:b=ad.nd
  ·show#[.dK _,by rw[y];show Zd,λ_ z=>nomatch z]
  rw[Ze y]
  by_cases J:b=x
  ·show#[.ins _ _ _,by rw[J];show Zd,λ_ z=>nomatch z]
  rw[Ze J];rcases f with f|f
  ·obtain⟨o,e,n⟩:=s.live b f;show#[o,a.at e,n]
  ·show#[.dK _,by rw[f];show h.1,λ_ z=>nomatch z]
def ZL(h:H c=some o):mH H c o=H:=by
 funext b
 by_cases z:b=c
 ·rw[z,Zd,h]
 ·rw[Ze z]
end
def pI.on(H:Hp)(ad z:pI):Prop:=z.ld=ad.ld/\z.sd=ad.sd/\z.st=ad.st/\z.ns=ad.ns/\∀e∈z.es,e∈ad.es\/H e.2=none
def XX:sK (nZ X.prog X.w) X E0:=λ_ _ _ _ _ _ _ h=>by
 obtain⟨_,_,_,_,_,_,_,_,_,_,h⟩:=h;show h.elim
def XE(H:Hp)(c:lR)(x:lU lQ)(E:XK):Prop:=(x=none->∀z,mz H z->E (.ref c) none z)/\∀p,x=some p->∀y z,mz H z->H y=none->z y=some (.xd [("part",.str p)])->E (.ref c) (some y) z
def XE.mono(s:mz H u)(h:XE H c r E):XE u c r E:=#[λz y x=>h.1 z y<|s.trans x,λp z q y x n e=>h.2 p z q y (s.trans x) (s.free n) e]
def Cw(z:lP (lQ×Nat))(val:lQ->lP Zt)(g:lQ):Prop:=∃t∈z.map fst,g∈(val t).map fst
def Yi0(H:Hp)(val:lQ->lP Zt)(y:lP (lQ×Nat))(r:lP (lQ×Bool))(ps:lP Zh)(x:lP (lQ×lQ×lQ))(v u s:V)(c:lR)(z:lU lQ):Prop :=
 (c=T.az/\z=none/\(Ck K H v false\/∃nm:lQ,v=.str nm/\Xb nm/\nm∈y.map fst))\/
 ∃nm:lQ,v=.str nm/\Xb nm/\nm∉y.map fst/\((c=T.bv/\z=none/\xw s (λn=>(("gate",n):Zh)∈ps))\/
  ∃g:lQ,s=.str g/\(("gate",g):Zh)∈ps/\((c=T.bv/\z=none/\((g,"a"):Zh)∉x.map snd)\/((g,"a"):Zh)∈x.map snd/\((c=T.bt/\z=none/\Md u)\/
   ∃n:Nat,u=.int (n:Int)/\1<=n/\n<=4/\z=some g/\((c=T.aX/\Cw y val g)\/(c=T.bh/\¬Cw y val g/\(r.lookup g).getD false=true)))))
structure SO(val:Str->List Zt)(ln:List (Str×Nat))(td:List (Str×Bool))(ps:List Zh)(sg:List (Str×Str×Str))(nm g:Str)(n:Nat):Prop where
 nv:Xb nm
 new:nm∉ln.map fst
 gt:(("gate",g):Zh)∈ps
 sg:((g,"a"):Zh)∈sg.map snd
 n1:1<=n
 n4:n<=4
 nh:¬Cw ln val g
 nt:(td.lookup g).getD false=false
 ll:ln.length<10
def Pj(s:Y2 ps r y)(h:((nm,e)∈qS y/\Xb nm/\e∈y.map snd)\/(nm =""/\e∉y.map snd)):decide (V.str nm=V.str "")=!decide (e∈y.map snd):=by
 rcases h with⟨_,x,u⟩|⟨x,u⟩
 ·rw[nM u,og λz=>zF x<|V.str.inj z];rfl
 ·rw[x,nM rfl,og u];rfl
inductive Hv:Sp
 | mk (H0) (F:lR->Prop) (x tr dt) (ad:pI) (lw) (val:lQ->lP Zt) (ln:lP (lQ×Nat)) (td ps js sg nm g) (n:Nat):vs=[.ref x,.str nm,.int (n:Int),.str g,.ref dt]->nJ T H0 H F x tr ad lw val ln->ad.ns=ps.map snd->Z5 T H0 tr ps js sg->Y2 ps js sg->qQ T H0->H dt=some (.dK<|Z0 V.bl td)->¬F dt->SO val ln td ps sg nm g n->(∀(H':Hp)(F':lR->Prop)(B6:pI),(∀b,F b->F' b)->(∀b,F' b->F b\/H b=none)->wP F H H'->nJ T H0 H' F' x tr B6 lw (X7 (ln.map fst) val nm [(g,"","a","")]) (ln++[(nm,n)])->ad.on H B6->Q .non H')->Hv vs H Q E
def uz(z:lP (lQ×Nat))(g:Gd)(x:lQ):lP (lU<|lQ×lQ):=[tV (z.map fst) g x,uE g x]
def Ud:T.aF.O P w mg mB 7 (Hv T):=by
 refine T.aF.F.okW PB ?_;rfl'
 ·obtain⟨H0,F,x,tr,dt,ad,lw,val,j,td,ps,js,sg,nm,g,n,rfl,u,A9,U,yv,tb,hd,o,r,q⟩:=h;intro X D;have E3:nm∉ad.es.map fst:=by rw[u.nm];show r.new
  obtain⟨o,l,i,e,B,kp,ks,kj,ko,h1,_⟩:=(U.mono u.same).ex;refine mJ (Z3<|Zv (BO T) hr<|Zb (pv 1)<|Zb (Yd (pv 0) rfl) Za) #[u.obj,T.ae,T.ay,rfl,nm,ad.pd,_,rfl,r.nv,u.pth.1,X3 E3,λo s1=>?_];have x0:=u.mono s1;refine mJ (Z3<|Zv (IV T) hr<|Zb (Yd (pv 0) rfl)<|Zb (pv 3) Za) #[x0.obj,T.ae,T.aG,rfl,tr,g,ps,js,sg,rfl,U.mono x0.same,yv,r.gt,λo s2=>?_];have Q6:=x0.mono s2;refine mJ (Zr (We hr (Ya (Yd (pv 0) rfl) T.am T.aQ (Y7 T) hr.m T.ar.b .nil Zz<|Zb (Zj<|Zb (pv 3)<|Zb Zf Za) Za) Zf) Zn Zi) #[Q6.obj,T.ae,T.aG,rfl,(s1.trans s2).at h1,rfl,mM,λt l s3 i o=>#[tr,t,(g,"a"),ps,js,sg,rfl,U.mono<|Q6.same.trans s3,yv,o,λe hs=>.inl #[rfl,?_]]];rw[Pj yv hs,nM r.sg];refine ?_;have O5:=Q6.mono s3;have m6:=s1.trans<|s2.trans s3;refine mJ (Z3<|Zv (OC T) hr<|Zb (pv 2) Za) #[n,rfl,r.n1,r.n4,?_];have L:=tb.mono O5.same;refine mJ (Z3<|Zv (ZA T) hr<|Zb (Zv (HW T) hr<|Zb (Zo<|Zb (Zv (FH T) hr<|Zb (pv 3) Za)<|Zb (Zv (Fa T) hr<|Zb (pv 3) Za) Za)<|Zb (Ya (pv 0) T.ae T.cR (He T) hr.m T.bg.b .nil Zz<|Zb (pv 4) Za) Za) Za) #[g,rfl,L,λo H4 J n4 R4=>#[g,rfl,L.mono J,λl H5 I n5 R5=>#[mM,λi H6 N n6 e=>#[(J.trans<|I.trans N).at O5.obj,rfl,H0,F,x,tr,dt,ad,lw,val,j,td,rfl,O5.mono<|J.trans<|I.trans N,(m6.trans<|J.trans<|I.trans N).at hd,λB H7 s7 n7 G7=>#[i,B,[o,l],uz j #[lw,[],val,td] g,rfl,mO<|s7.at e,?_,λv8 H8 s8 wd=>?_]]]]]
  ·unfold uz;rw[<-u.nm];show .cons ((FR T (R4.mono<|I.trans<|N.trans s7) G7).up (by lk))<|.cons ((Ip T (R5.mono<|N.trans s7) G7).up (by lk)) .nil
  have hn:Wa (uz j #[lw,[],val,td] g)=none:=GP λa c=>by
   unfold uz at c;rcases nQ.mp c with rfl|c
   ·show mS r.nh
   ·rw[pD.mp c];unfold uE;rw[mS (by rw[show((#[lw,[],val,td]:Gd).told.lookup g).getD false=false from r.nt];decide)]
  rw[hn]at wd;obtain rfl:v8=.non:=wd;refine#[rfl,?_];have d:=J.trans<|I.trans<|N.trans<|s7.trans s8;have Y:=O5.mono d;have G:ad.es.length<=100:=by
   have:=oJ List.length u.nm;rw[mI,mI]at this;have:=u.len;lia
  refine mJ (Wz (pv 0) (Xs (Oc T) hr.m rfl T.cq.m T.cq.F.kp T.cq.b .nil XX<|Zb (Yd (pv 0) rfl)<|Zb (pv 1)<|Zb (Zo<|Zb (Zj<|Zb (pv 3)<|Zb Zf<|Zb Zf<|Zb Zf Za) Za) Za) rfl) #[Y.obj,T.ae,T.ay,rfl,mM,λo H9 C n9 l=>#[mM,λi HA M nA e=>#[ad.pd,i,nm,ad.es,val,[(g,"","a","")],rfl,Y.pth.mono<|C.trans M,by rw[u.nm];show u.lnd,G,u.vl,?_,#[[o],.inl e,.cons (M.at l) .nil],by simp,λd' B j7 gt sB nB pB eB zK fB=>#[(C.trans<|M.trans sB).at Y.obj,T.ae,T.ay,(by change 5<1000;decide),?_],λdx B y sB nB fb eB=>?_]]]
  ·intro t U;rw[u.nm]at U;obtain⟨p,hp,rfl⟩:=mV.mp U;show zF<|u.ok p hp
  ·have l:=m6.trans<|d.trans<|C.trans<|M.trans sB;have i:∀e∈j7,H e.2=none:=λe he=>(m6.trans<|d.trans<|C.trans M).free (fB e he)
   have A7:H d'=none:=(m6.trans<|d.trans<|C.trans M).free nB;have B7:j7.map fst=j.map fst++[nm]:=by
    rw[eB,u.nm];show mS r.new
   have hL:X7 (ad.es.map fst) val nm [(g,"","a","")]=X7 (j.map fst) val nm [(g,"","a","")]:=by rw[u.nm]
   rw[hL]at pB;have xn:=u.xn;refine mK (tT (Xo hr) (Yd (pv 0) rfl) (pv 1) (pv 2) rfl) #[Zd,T.ae,T.cH,rfl,qN.k (k:=Xl nm) (by rw[Ze xn.symm];show l.at u.lens) ?_,?_]
   ·rw[show(xz j).length=j.length from mI ..];show Zq (by have:=u.len;lia)
   rw[show xz j=Z0 (λn:Nat=>V.int (n:Int)) j from rfl,JG (f:=λn:Nat=>V.int (n:Int)) r.new];refine q _ (λb=>F b\/b=d') #[ad.dx,ad.ld,ad.sd,ad.nd,d',j7,ad.st,ad.ns] (λ_ z=>.inl z) (λb z=>z.imp id λy=>by rw[y];show A7) (λb o nb e=>?_) (u.move (ln':=j++[(nm,n)]) l A7 pB (by rw[B7,ng];rfl) i ?_ (by rw[nW];show r.ll) (λp hp=>?_) (λt=>?_) λt=>#[λq' B=>?_,?_]) #[rfl,rfl,rfl,rfl,λe he=>.inr<|i e he]
   ·rw[Ze (λz=>nb (by rw[z];show u.fn)),Ze (λz=>nb (by rw[z];show u.fx))];show l.at e
   ·rw[ng,qp];show#[u.lnd,EJ _ _,λa c b hb e=>by rw[e,pD.mp hb]at c;show r.new c]
   ·rcases ou.mp hp with z|z
    ·show u.ok p z
    ·rw[pD.mp z];show r.nv
   ·unfold X7;split
    ·rw[mS r.new];simp
    ·show u.vl t
   ·unfold X7 at B;split at B
    ·rw[mS r.new]at B;rw[pD.mp B];show#[by rw[A9];show mV.mpr #[_,r.gt,rfl],CB.1,CB.2.1,CB.1]
    ·show(u.kx.pok t).1 q' B
   ·unfold X7;split
    ·rw[mS r.new];simp
    ·show(u.kx.pok t).2
  ·obtain⟨i,o,hb,_⟩:=fb;have l:i=0:=by
    have:=(oN.mp o).1;simp at this;show this
   subst l;have:y=g:=by simpa using o.symm
   rw[this]at hb;rcases hb with z|⟨t,e,B⟩
   ·simp at z
   ·show r.nh #[t,by rw[<-u.nm];show e,B]
def XB(h:7<=k:=by lk):T.aF.O P w mg mB k (Hv T):=(Ud T).mono h
inductive GO:Sp
 | mk (H0) (F:lR->Prop) (x tr dt ad lw) (val:lQ->lP Zt) (ln td ps js sg v vl vg c po):vs=[.ref x,v,vl,vg,.ref dt]->nJ T H0 H F x tr ad lw val ln->Z5 T H0 tr ps js sg->Y2 ps js sg->qQ T H0->H dt=some (.dK<|Z0 V.bl td)->Yi0 T H val ln td ps sg v vl vg c po->XE H c po E->GO vs H Q E
def RK:Xf P w K mg mB (nZ P w) 7 T.aF.f T.aF.fd ["self","train","length","gate","seen"] (GO T):=by
 refine T.aF.F.okX PB ?_;rfl'
 ·obtain⟨H0,F,x,M,dt,ad,u,val,p,r,ps,js,sg,v,vl,vg,c,l,rfl,z,L,J,tb,hd,y,q⟩:=h;intro X D;obtain⟨l,e,c,so,si,kp,ks,kj,ko,h1,_⟩:=(L.mono z.same).ex;rcases y with⟨rfl,rfl,j⟩|⟨nm,rfl,E3,w9,y⟩
  ·refine mJ (Z3<|Xs (WZ T) hr rfl T.aJ.m T.aJ.F.kp T.aJ.b .nil vG<|Zb (pv 1)<|Zb (Yd (pv 0) rfl) Za) #[z.obj,T.ae,T.ay,rfl,v,ad.pd,_,rfl,z.pth.1,j.imp_right λ⟨nm,e,y1,c⟩=>#[nm,e,y1,?_],q.1 rfl];obtain⟨l,_,hv,_⟩:=z.get c;rw[hv];rfl
  have i:nm∉ad.es.map fst:=by rw[z.nm];show w9
  refine mJ (Z3<|Zv (BO T) hr<|Zb (pv 1)<|Zb (Yd (pv 0) rfl) Za) #[z.obj,T.ae,T.ay,rfl,nm,ad.pd,_,rfl,E3,z.pth.1,X3 i,λl I=>?_];have d:=z.mono I;rcases y with⟨rfl,rfl,a⟩|⟨g,rfl,hg,y⟩
  ·show mJ (Z3<|Xs (YC T) hr rfl T.aK.m T.aK.F.kp T.aK.b .nil vG<|Zb (Yd (pv 0) rfl)<|Zb (pv 3) Za) #[d.obj,T.ae,T.aG,rfl,M,vg,ps,js,sg,rfl,L.mono d.same,J,a,(q.mono I).1 rfl]
  refine mJ (Z3<|Zv (IV T) hr<|Zb (Yd (pv 0) rfl)<|Zb (pv 3) Za) #[d.obj,T.ae,T.aG,rfl,M,g,ps,js,sg,rfl,L.mono d.same,J,hg,λl s2=>?_];have Q6:=d.mono s2;refine mJ (Zr (We hr (Ya (Yd (pv 0) rfl) T.am T.aQ (Y7 T) hr.m T.ar.b .nil Zz<|Zb (Zj<|Zb (pv 3)<|Zb Zf Za) Za) Zf) Zn Zi) #[Q6.obj,T.ae,T.aG,rfl,(I.trans s2).at h1,rfl,mM,λt H3 s3 e l=>#[M,t,(g,"a"),ps,js,sg,rfl,L.mono<|Q6.same.trans s3,J,l,λc hs=>.inl #[rfl,?_]]];rw[Pj J hs];have G:=I.trans<|s2.trans s3;rcases y with⟨rfl,rfl,a⟩|⟨hsg,y⟩
  ·rw[og a];show(mK (Wf T.gZ rS rfl<|Zb Zf Za) #[mM,(q.mono G).1 rfl H3 (pL _)])
  rw[nM hsg];refine ?_;have O5:=Q6.mono s3;rcases y with⟨rfl,rfl,a⟩|⟨n,rfl,y1,y4,rfl,y⟩
  ·show mJ (Z3<|Xs (Zi5 T) hr rfl T.aD.m T.aD.F.kp T.aD.b .nil vG<|Zb (pv 2) Za) #[vl,rfl,a,(q.mono G).1 rfl H3 (pL _)]
  refine mJ (Z3<|Zv (OC T) hr<|Zb (pv 2) Za) #[n,rfl,y1,y4,?_];have Y:=tb.mono O5.same;refine mJ (Z3<|Xs (Zh2 T) hr rfl T.ag.m T.ag.F.kp T.ag.b .nil vG<|Zb (Zv (HW T) hr<|Zb (Zo<|Zb (Zv (FH T) hr<|Zb (pv 3) Za)<|Zb (Zv (Fa T) hr<|Zb (pv 3) Za) Za)<|Zb (Ya (pv 0) T.ae T.cR (He T) hr.m T.bg.b .nil Zz<|Zb (pv 4) Za) Za) Za) #[g,rfl,Y,λl H4 U n4 R4=>#[g,rfl,Y.mono U,λe H5 N n5 R5=>#[mM,λc H6 o n6 e6=>#[(U.trans<|N.trans o).at O5.obj,rfl,H0,F,x,M,dt,ad,u,val,p,r,rfl,O5.mono<|U.trans<|N.trans o,(G.trans<|U.trans<|N.trans o).at hd,λgr H7 C n7 G7=>#[c,gr,[l,e],uz p #[u,[],val,r] g,rfl,mO<|C.at e6,?_,λv8 H8 s8 B=>?_]]]]]
  ·unfold uz;rw[<-z.nm];show .cons ((FR T (R4.mono<|N.trans<|o.trans C) G7).up (by lk))<|.cons ((Ip T (R5.mono<|o.trans C) G7).up (by lk)) .nil
  have M4:=G.trans<|U.trans<|N.trans<|o.trans<|C.trans s8;rcases y with⟨rfl,hh⟩|⟨rfl,hh,htk⟩
  ·have j:Wa (uz p #[u,[],val,r] g)=some (("held":lQ),g):=by
    unfold uz;rw[show tV (p.map fst) #[u,[],val,r] g=some (("held":lQ),g)from mT hh]
    rfl
   rw[j]at B;obtain⟨t8,rfl,e8⟩:=B;show#[t8,true,g,rfl,e8,λdx H9 s9 n9 e9=>(q.mono M4).2 g rfl dx H9 s9 n9 e9]
  ·have j:Wa (uz p #[u,[],val,r] g)=some (("taken":lQ),g):=by
    unfold uz;rw[show tV (p.map fst) #[u,[],val,r] g=none from mS hh,show uE #[u,[],val,r] g=some (("taken":lQ),g)from mT htk]
    rfl
   rw[j]at B;obtain⟨t8,rfl,e8⟩:=B;show#[t8,false,g,rfl,e8,λdx H9 s9 n9 e9=>(q.mono M4).2 g rfl dx H9 s9 n9 e9]
def Zlv(h:7<=k:=by lk):Xf P w K mg mB (nZ P w) k T.aF.f T.aF.fd ["self","train","length","gate","seen"] (GO T):=(RK T).mono h
def FJ(H:Hp)(z:lU lR):Prop:=∀d,z=some d->∃fs,H d=some (.xd fs)
def um(K:lV):lP V->Hp->VK->Prop:=λy H Q=>∃e C z c b,y=[.ref e,c]/\H e=some (qI e C z)/\FJ H z/\XG K C/\((∃n,c=.ty n/\kitOne K (.ref C) (.type n)=some b)\/(∃a,c=.ref a/\kitOne K (.ref C) (.ref a)=some b))/\Q (.bl b) H
def Wq:Xd X (.builtin "isinstance") (um X.K):=by
 rintro y s z H x u Q I r ⟨e,C,o,c,b,p,he,n,g,k,q⟩;cases o with
 | none=>show WY y s z H x u Q I r #[e,C,c,b,p,he,g,k,q]
 | some d =>
  obtain⟨fs,hd⟩:=n d rfl;show Sz y s z H x u Q I r #[e,C,d,fs,c,b,p,he,hd,g,k.imp id .inl,q]
def tS(r:Nat):lR:=if r=0 then T.az else if r=1 then T.aB else if r=2 then T.aI else if r=3 then T.bh else if r=4 then T.aX else T.aR
def om(r:Nat):Nat:=if r=0 then 0 else if r<3 then r+2 else if r=3 then 7 else if r=4 then 6 else 8
def uo(r:Nat):lQ:=if r=0 then "name" else if r=1 then "train" else if r=2 then "way" else if r=3 then "taken" else if r=4 then "held" else "stiff"
structure K9(T:Tx K mg)(C:Addr)(b:Nat->Bool):Prop where
 g:XG K C
 i0:kB K C T.az (b 0)
 i1:kB K C T.bv (b 1)
 i2:kB K C T.bt (b 2)
 i3:kB K C T.aB (b 3)
 i4:kB K C T.aI (b 4)
 i5:kB K C T.cI (b 5)
 i6:kB K C T.aX (b 6)
 i7:kB K C T.bh (b 7)
 i8:kB K C T.aR (b 8)
 v:kitOne K (.ref C) (.type "ValueError")=some true
theorem k9:∀r,r<6->K9 T (tS T r) (λi=>decide<|i=om r)/\PySem.W.kitCls K (.ref<|tS T r) (.ref T.au)=some true
 | 0,_=>#[#[T.ir,T.kn,T.kq,T.kr,T.kt,T.ku,T.ky,T.kz,T.kE,T.kG,T.v0],T.c0]
 | 1,_=>#[#[T.iu,T.jK,T.iK,T.jk,T.iH,T.io,T.jU,T.jt,T.jV,T.jL,T.v1],T.c1]
 | 2,_=>#[#[T.iI,T.jQ,T.jW,T.jX,T.kH,T.kI,T.kJ,T.kK,T.kL,T.kM,T.v2],T.c2]
 | 3,_=>#[#[T.jq,T.kN,T.kO,T.kP,T.kQ,T.kR,T.kS,T.kT,T.kU,T.kW,T.v3],T.c3]
 | 4,_=>#[#[T.jp,T.kX,T.kY,T.kZ,T.lh,T.li,T.lq,T.lu,T.lv,T.ly,T.v4],T.c4]
 | 5,_=>#[#[T.iW,T.lz,T.lB,T.lC,T.lD,T.lE,T.lF,T.jR,T.lG,T.lH,T.v5],T.c5]
 | _+6,h=>absurd h (by lia)
def vL(H:Hp)(z:lU lR):lU lQ->Prop
 | none=>z=none
 | some p=>∃d,z=some d/\H d=some (.xd [("part",.str p)])
def vL.mono(e:mz H y)(h:vL H x z):vL y x z:=by
 cases z with
 | none=>show h
 | some p=>obtain⟨d,u,s⟩:=h;show#[d,u,e.at s]
def vL.xd(h:vL H z y):FJ H z:=λd e=>by
 cases y with
 | none=>rw[show z=none from h]at e;cases e
 | some p=>obtain⟨s,x,u⟩:=h;rw[x]at e;cases e;show#[_,u]
def DB(H:Hp)(r:Nat)(y:lU lQ)(Q:VK):Prop:=∀z,mz H z->(y=none->Q (.str<|uo r) z)/\∀p,y=some p->∀t,z t=some (.tup [.str (uo r),.str p])->Q (.ref t) z
inductive EL(P:ma)(w:lY)(mB:lX)(T:Tx K mg):Sp
 | mk (f):vs=[.ref f]->wy H f->Fi P w K mg mB 9 f H (λ_ H'=>Q (.str "done") H') (λcls dx H'=>∃r po,r<6/\cls=.ref (tS T r)/\vL H' dx po/\(po.isSome=decide (3<=r))/\DB H' r po Q)->EL P w mB T vs H Q E
def Ca:T.aq.O P w mg mB 10 (EL P w mB T):=by
 refine T.aq.F.okW Xt ?_;rfl'
 ·obtain⟨f,rfl,hf,hd⟩:=h;intro X D;let I:IC:=λ_ j=>Q (.str "done") j
  refine pU I (WS.tryAs (x :="YardError") (n :="e") (B:=T.au) (i:=1) (Ex:=λcls l j=>∃r u,r<6/\cls=.ref (tS T r)/\vL j l u/\(u.isSome=decide (3<=r))/\DB j r u Q) (R:=λC l j=>∃r u,r<6/\C=tS T r/\vL j l u/\(u.isSome=decide (3<=r))/\DB j r u Q) T.hZ (Ztz T.lI rfl) rfl Xt.nd rfl rfl rfl rfl rfl rfl rfl ?_ ?_ ?_) ?_
  ·rintro cls l j ⟨r,u,o,rfl,z⟩;show#[_,rfl,(k9 T r o).2,r,u,o,rfl,z]
  ·intro x q z;show mK (Z3<|XD (k:=9) hr (pv 0) z) #[f,rfl,hf,hd]
  ·rintro z C l σ' J hl ⟨r,u,o,rfl,N,M,q⟩ hn;obtain⟨k,x⟩:=k9 T r o;obtain⟨x,p,i,o3,o4,rfl⟩:=Yih hl;have he:(mH J z<|qI z (tS T r) l) z=some (qI z (tS T r) l):=Zd;have G:mz J (mH J z<|qI z (tS T r) l):=pr hn;generalize mH J z (qI z (tS T r) l)=H2 at he G;have L:=(N.mono G).xd;have xm:∀{H3:Hp},mz H2 H3->FJ H3 l:=λs d e=>let⟨fs,y⟩:=L d e;#[fs,s.at y]
   refine mJ (mY 2 Xt<|Zo<|Zb (Z7 (r:=um K) Wq (by rfl) T.af sr<|Zb (pv 1)<|Zb (X4 (v:=.ref T.az) (by rfl) T.iC rfl) Za)<|Zb (Z7 (r:=um K) Wq (by rfl) T.af sr<|Zb (pv 1)<|Zb (X4 (v:=.ref T.bv) (by rfl) T.iQ rfl) Za)<|Zb (Z7 (r:=um K) Wq (by rfl) T.af sr<|Zb (pv 1)<|Zb (X4 (v:=.ref T.bt) (by rfl) T.iD rfl) Za)<|Zb (Z7 (r:=um K) Wq (by rfl) T.af sr<|Zb (pv 1)<|Zb (X4 (v:=.ref T.aB) (by rfl) T.iE rfl) Za) Za) #[z,_,_,_,_,rfl,he,L,k.g,.inr<|oG rfl k.i0,z,_,_,_,_,rfl,he,L,k.g,.inr<|oG rfl k.i1,z,_,_,_,_,rfl,he,L,k.g,.inr<|oG rfl k.i2,z,_,_,_,_,rfl,he,L,k.g,.inr<|oG rfl k.i3,mM,λx H3 s3 p e3=>?_];have g:=s3.at he;have c:=xm s3;refine mJ (mY 2 Xt<|Zp Wo (pv 2)<|Zo<|Zb (Z7 (r:=um K) Wq (by rfl) T.af sr<|Zb (pv 1)<|Zb (X4 (v:=.ref T.aI) (by rfl) T.iR rfl) Za)<|Zb (Z7 (r:=um K) Wq (by rfl) T.af sr<|Zb (pv 1)<|Zb (X4 (v:=.ref T.cI) (by rfl) T.iS rfl) Za)<|Zb (Z7 (r:=um K) Wq (by rfl) T.af sr<|Zb (pv 1)<|Zb (X4 (v:=.ref T.aX) (by rfl) T.gY rfl) Za)<|Zb (Z7 (r:=um K) Wq (by rfl) T.af sr<|Zb (pv 1)<|Zb (X4 (v:=.ref T.bh) (by rfl) T.iF rfl) Za) Za) #[z,_,_,_,_,rfl,g,c,k.g,.inr<|oG rfl k.i4,z,_,_,_,_,rfl,g,c,k.g,.inr<|oG rfl k.i5,z,_,_,_,_,rfl,g,c,k.g,.inr<|oG rfl k.i6,z,_,_,_,_,rfl,g,c,k.g,.inr<|oG rfl k.i7,mM,λp i s4 n4 x=>.inr<|.inr #[s4.at e3,x,mM,λl5 H5 s5 n5 e5=>?_]];have B5:=s3.trans<|s4.trans s5;refine mJ (mY 2 Xt<|Zp Wo (pv 2)<|Zo<|Zb (Z7 (r:=um K) Wq (by rfl) T.af sr<|Zb (pv 1)<|Zb (X4 (v:=.ref T.aR) (by rfl) T.iG rfl) Za) Za) #[z,_,_,_,_,rfl,B5.at he,xm B5,k.g,.inr<|oG rfl k.i8,mM,λp i s6 n6 x=>.inr<|.inr #[s6.at e5,x,mM,λl7 H7 s7 n7 e7=>?_]];refine mJ (mY 3 Xt<|Zo<|Zb Zf<|Zb Zf<|Zb Zf<|Zb Zf<|Zb Zf<|Zb Zf<|Zb Zf<|Zb Zf<|Zb Zf Za) #[mM,λx p s8 i e8=>?_];have a:=B5.trans<|s6.trans<|s7.trans s8;have Y:=s8.at e7;let bs:lP Bool:=[decide (0=om r),decide<|1=om r,decide<|2=om r,decide<|3=om r,decide<|4=om r,decide<|5=om r,decide<|6=om r,decide<|7=om r,decide<|8=om r]
   have at9:∀r,r<6->[decide (0=om r),decide<|1=om r,decide<|2=om r,decide<|3=om r,decide<|4=om r,decide<|5=om r,decide<|6=om r,decide<|7=om r,decide<|8=om r][om r]? =some true/\(∀i,i<om r->[decide (0=om r),decide<|1=om r,decide<|2=om r,decide<|3=om r,decide<|4=om r,decide<|5=om r,decide<|6=om r,decide<|7=om r,decide<|8=om r][i]? ≠some true)/\[decide (0=om r),decide<|1=om r,decide<|2=om r,decide<|3=om r,decide<|4=om r,decide<|5=om r,decide<|6=om r,decide<|7=om r,decide<|8=om r].countP (λx=>x ==true)=1/\[V.str "name",V.str "end",V.str "many",V.str "train",V.str "way",V.str "turn",V.str "held",V.str "taken",V.str "stiff"][om r]? =some (.str<|uo r)/\rV (uo r) 1=uo r/\(uo r).length<=10/\om r<10/\ud (.str<|uo r) [.str "held",.str "taken",.str "stiff"]=decide (3<=r):=by left
   obtain⟨a1,a2,a3,a4,a5,x,p,a8⟩:=at9 r o;refine mJ (mY 4 Xt<|Zp NE (mW (pv 3)<|Ah xT PySem.F.slot_list_index PySem.F.type_list_index Sy (pv 2)<|Zb qr Za)<|Yu Ic (by rfl) T.fi wK<|Zb (wn (zo MS (Ah xT PySem.F.slot_list_count PySem.F.type_list_count XT (pv 2)<|Zb qr Za) Zc<|Ym _)<|yz<|Z7 (r:=um K) Wq (by rfl) T.af sr<|Zb (pv 1)<|Zb (Ov (v:=.ty "ValueError") (by rfl) T.gK UV rfl) Za) Za) #[.inl #[rfl,_,mO Y],l7,bs,true,om r,rfl,rfl,Y,by lia,a1,a2,.inl #[mO e8,Zm a4,.inl #[rfl,_,mO Y],l7,bs,true,rfl,rfl,Y,?_]];rw[a3];refine#[rfl,#[z,_,_,_,_,rfl,a.at he,xm a,k.g,.inl #[_,rfl,k.v],.inr #[_,rfl,uo r,1,rfl,rfl,by lia,by lia,?_]]];rw[a5];refine mJ (Zr (Z2 (r:=zB K false) OT (pv 4) (Zj<|Zb Zf<|Zb Zf<|Zb Zf Za)<|by with_unfolding_all rfl) Zn Zi) #[mM,λp H9 s9 i x=>#[.inr<|mQ x,rfl,rfl,?_]];rw[show(if false=true then !ud (V.str<|uo r) [V.str "held",V.str "taken",V.str "stiff"]else ud (V.str<|uo r) [V.str "held",V.str "taken",V.str "stiff"])=decide (3<=r)from a8,<-M];have U:=G.trans<|a.trans s9;cases u with
   | none=>show(mK (Zl<|pv 4)<|(q H9 U).1 rfl)
   | some p =>
    obtain⟨d,rfl,x⟩:=N.mono U;obtain⟨fI,i⟩:∃fI,XI K (tS T r) T.au fI "part":=by
     have:=show 3<=r from by simpa using M
     obtain rfl|rfl|rfl:r=3\/r=4\/r=5:=by lia
     ·show#[_,T.eS]
     ·show#[_,T.dL]
     ·show#[_,T.eO]
    show(mK (Zl<|Zj<|Zb (pv 4)<|Zb (ZC (pv 1) rfl) Za) #[z,_,_,d,_,_,rfl,(a.trans s9).at he,x,i.cls,i.xa,i.na,rfl,mM,λt HA sA nA eA=>(q HA<|U.trans sA).2 p rfl t eA])
  ·intro z j y;show mK (Zl Zf) y
structure Bk(H H' H3:Hp):Prop where
 old:∀b u o,H b=some u->H' b=some o->H3 b=some o
 soft:∀b o,H' b=some o->(∀ob,o≠Fz ob)->H3 b=some o
def Yr.soft(y:∀b o,H b=some o->(∀x,o≠Fz x)->u b=some o)(h:Yr H l ss):Yr u l ss :=
 let⟨s,q,p⟩:=h;#[s,y _ _ q (λ_ z=>nomatch z),ny p λ_ _ r=>y _ _ r λ_ z=>nomatch z]
def nJ.back{F:lR->Prop}{val:lQ->lP Zt}(h:nJ U u H F x l ad lw val j)(b:Bk G H r)(s:mz u G):nJ U u r (λa=>F a/\∃o,H a=some o/\r a=some o) x l ad lw val j :=
 have k:=b.soft _ _ h.obj λ_ z=>nomatch z
 have q:=b.soft _ _ h.lens λ_ z=>nomatch z
 have p:=b.soft _ _ h.pth.1 λ_ z=>nomatch z
 #[k,b.soft _ _ h.lies (λ_ z=>nomatch z),b.soft _ _ h.sti (λ_ z=>nomatch z),q,#[p,λe he=>(h.pth.2 e he).soft b.soft],h.nm,h.lnd,h.len,h.vl,h.ok,#[h.fx,_,h.obj,k],#[h.fn,_,h.lens,q],#[h.fp,_,h.pth.1,p],h.ne,λz=>h.nl z.1,λz=>h.ns z.1,λe he z=>h.ni e he z.1,λa z=>h.free a z.1,λa o e=>b.old a o o (s.at e)<|h.same.at e,(λa z=>let⟨o,i,g⟩:=z.2;#[o,g,λd e=>let⟨c,y,n⟩:=h.live a z.1;n d (oo (y.symm.trans i) ▸ e)]),h.kx]
def WE.imp(h:WE X e z H Q)(i:∀v y,Q v y->x v y):WE X e z H x:=#[λp s I=>mX (h.run p s I) λu o ⟨v,y,J,r,q⟩=>#[v,y,J,r,i _ _ q]]
def BA(cl:Clo H Pt D ql la lb Y h)
  (hp:Paired (λx v=>∃(i:Nat)(a:lR),X.N[i]? =some x/\z[i]? =some (some v)/\X.env.scope.names.lookup x=some .cell/\X.env.cells.lookup x=some a/\Y.names.lookup x=some .free/\h.lookup x=some a) fs fvs) (w4:∀p∈h,p.1∈fs) (one:(h.map fst).Nodup) (apart:(h.map snd).Nodup)
  (hb:∀(pm d6 A8:lS),bindArgs (PySem.W.kla_fn "<lambda>" ql la lb Y h pm d6 A8) #[[],[]]=pure []) (z9:∀y∈Y.names,y.2=.free->y.1∈fs) (hnc:∀y∈Y.names,y.2≠.cell)
  (hk:Y.kind=.function) (hco:Y.isCoroutine=false) (M:Y.isGenerator=false)
  (body:∀(G:Hp)(c:lR)(A:md)(my:lP Env)(s:lT)(E:XK),mz H G->(∀r J dx U,r<6->J.isSome=decide (3<=r)->mz G U->vL U dx J->DB H r J Q->E (.ref<|tS T r) dx U)->Y6 8 (A.deeper<|PySem.W.envX ql Y #v[s] D (.ref c) h)->WE (Ak P w K mg mB fs ql Y D (.ref c) h A my s G E) lb (fvs.map some) G (λ_ U=>∀d,Bk H U d->Q (.str "done") d)) :
  GF X z H (λC Q2=>EL P w mB T [.ref D] C Q2 E0) Q:=by
 intro C s2 cs;have nn:∀p∈h,H p.2=none:=λp B=>by
  obtain⟨j,hj,e⟩:=wz<|w4 p B;obtain⟨v,_,i,a,h1,h2,h3,h4,h5,N⟩:=oQ hp (i:=j) (a:=p.1) (by rw[oA hj,e]);rw[Wp one B]at N;cases N;show(cs i _ _ _ h1 h2 h3 h4).1
 have L:ui C Y h fs fvs:=#[ny hp λx v ⟨i,a,h1,h2,h3,h4,h5,N⟩=>#[h5,a,N,(cs i _ _ _ h1 h2 h3 h4).2],w4,one,apart]
 have sG:mz H (offL C h):=λb o e=>by
  rw[Wk]
  ·show s2.at e
  ·intro u;obtain⟨p,B,rfl⟩:=mV.mp u;rw[nn p B]at e;cases e
 refine#[D,rfl,(cl.mono s2).fn,RL (cl.mono s2) L hb z9 hnc hk hco M λc A my s hr=>WE.imp (body _ c A my s _ sG (λr J dx U N l s' hd ht A6 I _=>#[r,J,N,rfl,hd.mono I,l,λH5 s5=>?_]) hr) λv U q A6 I _ d _ g soft=>q d #[λb n o u y=>g b n o u<|I.at y,λb o y l=>soft b o (I.at y) l]];have K5:=sG.trans<|s'.trans<|I.trans s5;have s3:∀{d:Hp},(∀b n o,H b=some n->H5 b=some o->d b=some o)->mz H d:=λg b n u=>g b n n u<|K5.at u
 show#[λu d _ g _=>(ht d<|s3 g).1 u,λp u t e d _ g soft=>(ht d<|s3 g).2 p u t (soft _ _ e λ_ u=>nomatch u)]
def Ur:T.dw.O P w mg mB 4 (GX T "points"):=by
 refine T.dw.F.okA ?_;rfl'
 ·obtain⟨x,g,z,y,u,rfl,r,p,o,q⟩:=h;intro X D;refine mK (Zr (rP hr (pv 1)<|Zv (QB T) hr<|Zb (pv 0) Za) Zn Zi) #[x,z,y,u,rfl,r,p,λd c n a l j i Y e=>.inl #[.inl<|mO e,rfl,Y8 _,?_]];rw[mT rfl,Xw,nM<|(n g).mpr o];show(q j i)
section
variable {U:Tx K mg} {F:lR->Prop} {val:lQ->lP Zt}
def nJ.stl(z:nJ U s H F x r ad lw val q):ad.st.length<=40:=by
 have:=ym z.kx.sok.1 λn y=>by
  obtain⟨p,u,rfl⟩:=mV.mp y;show(z.kx.sok.2 p u).1
 rw[mI]at this;show oi this z.kx.nok.1
def nJ.lwl(z:nJ U s H F x r ad lw val q):lw.length<=40:=by
 have:=ym z.kx.lok.1 λn y=>by
  obtain⟨p,u,rfl⟩:=mV.mp y;show(z.kx.lok.2 p u).1
 rw[mI]at this;show oi this z.kx.nok.1
def nJ.stiffen(s:nJ U p H F x l ad lw val j)(i:n0∈ad.ns):nJ U p (mH H ad.sd<|.dK<|Z0 V.bl<|pj ad.st n0 true) F x l #[ad.dx,ad.ld,ad.sd,ad.nd,ad.pd,ad.es,pj ad.st n0 true,ad.ns] lw val j:=by
 have q:∀{b:lR},F b->b≠ad.sd:=λf z=>s.ns<|z ▸ f
 have r:∀{b:lR}{o u:HO},b≠ad.sd->H b=some o->mH H ad.sd u b=some o:=λn e=>by rw[Ze n];show e
 refine#[r (q s.fx) s.obj,r s.kx.sl.symm s.lies,Zd,r (q s.fn) s.lens,s.pth.offC (q s.fp) (λe he z=>?_) s.sti (λ_ z=>nomatch z),s.nm,s.lnd,s.len,s.vl,s.ok,s.fx,s.fn,s.fp,s.ne,s.nl,s.ns,s.ni,s.free,λb o e=>r (Zg e s.kx.s0)<|s.same.at e,λb f=>?_,#[s.kx.s0,s.kx.sl,s.kx.nok,#[Gf s.kx.sok.1,HQ s.kx.sok.2 #[i,rfl]],s.kx.lok,s.kx.pok]]
 ·obtain⟨h,y,_⟩:=s.pth.2 e he;rw[z,s.sti]at y;cases y
 ·obtain⟨o,e,n⟩:=s.live b f;show#[o,r (q f) e,n]
end
inductive MD:Sp
 | mk (H0) (F:lR->Prop) (x tr) (ad:pI) (lw) (val:lQ->lP Zt) (ln ps js sg nm):vs=[.ref x,.str nm]->nJ T H0 H F x tr ad lw val ln->Z5 T H0 tr ps js sg->Y2 ps js sg->(("points",nm):Zh)∈ps->rJ ps ad lw->(∀(H':Hp)(B6:pI),(∀b o,b≠ad.sd->H b=some o->H' b=some o)->B6.sd=ad.sd->rJ ps B6 lw->nJ T H0 H' F x tr B6 lw val ln->Q .non H')->MD vs H Q E
def Zig:T.cp.O P w mg mB 5 (MD T):=by
 refine T.cp.F.okA ?_;rfl'
 ·obtain⟨z,F,x,g,ad,p,val,o,j,d,c,nm,rfl,y,a,Y,r,u,q⟩:=h;intro X D;refine mJ (Z3<|Zv (Ur T) hr<|Zb (Yd (pv 0) rfl)<|Zb (pv 1) Za) #[y.obj,T.ae,T.aG,rfl,g,nm,j,d,c,rfl,a.mono y.same,Y,r,λz i=>?_];have l:=y.mono i;have U:=y.stl;refine mK (tT (Xo hr) (Yd (pv 0) rfl) (pv 1) qr rfl) #[l.obj,T.ae,T.bu,rfl,qN.k (k:=Xl nm) l.sti ?_,?_]
  ·rw[show(Z0 V.bl ad.st).length=ad.st.length from mI ..];show Zq (by lia)
  have e:Wy (Z0 V.bl ad.st) (Xl nm) (V.bl true)=Z0 V.bl (pj ad.st nm true):=De _ _ _;rw[e];refine q _ _ (λb o n z=>by rw[Ze n];show i.at z) ?_ ?_ (l.stiffen (n0:=nm) (by rw[u.ns];show mV.mpr #[_,r,rfl]))
  ·rfl
  ·show#[u.ns,HQ (P:=λp=>(("points",p.1):Zh)∈j) u.st r,u.lw]
inductive MW:Sp
 | mk (H0) (F:lR->Prop) (x tr ad lw) (val:lQ->lP Zt) (ln):vs=[.ref x]->nJ T H0 H F x tr ad lw val ln->pK H (.dK<|Z0 V.str lw) Q->MW vs H Q E
def Wd:T.aU.O P w mg mB 1 (MW T):=by
 refine T.aU.F.okA ?_;rfl'
 ·obtain⟨y,F,x,u,ad,p,val,o,rfl,z,q⟩:=h;intro X D;show mK (Zl<|Yu (r:=BM) GR (by rfl) T.ek xJ<|Zb (Yd (pv 0) rfl) Za) #[z.obj,T.ae,T.bU,rfl,.inl z.lies,q]
inductive Ny:Sp
 | mk (H0) (F:lR->Prop) (x tr ad lw) (val:lQ->lP Zt) (ln):vs=[.ref x]->nJ T H0 H F x tr ad lw val ln->(∀ss:lP lQ,ss.Perm (ad.st.map fst)->PyProof.Rows.sortedS ss=true->pK H (.lst<|ss.map V.str) Q)->Ny vs H Q E
def NJ:T.bR.O P w mg mB 1 (Ny T):=by
 refine T.bR.F.okA ?_;rfl'
 ·obtain⟨y,F,x,u,ad,p,val,o,rfl,z,q⟩:=h;intro X D;have n:=z.stl;show mK (Zl<|Z7 (r:=BZ) (EE rfl) (by rfl) T.cY yJ<|Zb (Yd (pv 0) rfl) Za) #[z.obj,T.ae,T.bu,rfl,ad.sd,_,ad.st.map fst,rfl,.inl z.sti,Ls _,by rw[mI];lia,q]
def YG:T.bq.O P w mg mB 1 (wG T.aR "part"):=by
 refine T.bq.F.okA ?_;rfl'
 ·obtain⟨e,t,v,rfl,he,q⟩:=h;intro X D;show mK (GS (pv 0) (pv 1) rfl) #[e,T.aR,T.au,t,rfl,he,T.eO.cls,T.eO.sa,T.eO.na,q]
def Rz(h:1<=k:=by lk):T.bq.O P w mg mB k (wG T.aR "part"):=(YG T).mono h
inductive zd(T:Tx K mg):Sp
 | no:vs=[.non]->Q .non H->zd T vs H Q E
 | held (t p):vs=[.ref t]->H t=some (.tup [.str "held",.str p])->(∀dx H',mz H H'->H' dx=some (.xd [("part",.str p)])->E (.ref T.aX) (some dx) H')->zd T vs H Q E
 | taken (t p):vs=[.ref t]->H t=some (.tup [.str "taken",.str p])->(∀dx H',mz H H'->H' dx=some (.xd [("part",.str p)])->E (.ref T.bh) (some dx) H')->zd T vs H Q E
 | stiff (t p):vs=[.ref t]->H t=some (.tup [.str "stiff",.str p])->(∀dx H',mz H H'->H' dx=some (.xd [("part",.str p)])->E (.ref T.aR) (some dx) H')->zd T vs H Q E
def UA:Xf P w K mg mB (nZ P w) 3 T.ag.f T.ag.fd ["told"] (zd T):=by
 refine T.ag.F.okX Ii ?_;rfl'
 ·intro X D;rcases h with⟨rfl,q⟩|⟨t,p,rfl,z,q⟩|⟨t,p,rfl,z,q⟩|⟨t,p,rfl,z,q⟩
  ·show mJ (Zr (Z2 xK (pv 0) rN<|Ym _) Zn Zi) #[rfl,mK OD q]
  ·refine mJ (Zr (Z2 xK (pv 0) rN<|Ym _) Zn Zi) #[rfl,?_];show mJ (Zr (We hr (mW (pv 0) Zc) Zf) Zn Zi)<|.inr<|.inl #[mQ z,Zm (j:=0) rfl,.inl #[rfl,oB.t (by left)<|mK (xk T.dL T.bW (Ce T) T.aL.b hr rfl T.gY<|Zb (mW (pv 0) Zc) Za)<|.inr<|.inl #[mQ z,Zm (j:=1) rfl,_,rfl,λy x=>q y _ (pr x) Zd]]]
  ·refine mJ (Zr (Z2 xK (pv 0) rN<|Ym _) Zn Zi) #[rfl,?_];refine mJ (Zr (We hr (mW (pv 0) Zc) Zf) Zn Zi)<|.inr<|.inl #[mQ z,Zm (j:=0) rfl,.inl #[rfl,oB.f (by left) ?_]];show mJ (Zr (We hr (mW (pv 0) Zc) Zf) Zn Zi)<|.inr<|.inl #[mQ z,Zm (j:=0) rfl,.inl #[rfl,oB.t (by left)<|mK (xk T.eS T.bW (Kq T) T.bd.b hr rfl T.iF<|Zb (mW (pv 0) Zc) Za)<|.inr<|.inl #[mQ z,Zm (j:=1) rfl,_,rfl,λy x=>q y _ (pr x) Zd]]]
  ·refine mJ (Zr (Z2 xK (pv 0) rN<|Ym _) Zn Zi) #[rfl,?_];refine mJ (Zr (We hr (mW (pv 0) Zc) Zf) Zn Zi)<|.inr<|.inl #[mQ z,Zm (j:=0) rfl,.inl #[rfl,oB.f (by left) ?_]];refine mJ (Zr (We hr (mW (pv 0) Zc) Zf) Zn Zi)<|.inr<|.inl #[mQ z,Zm (j:=0) rfl,.inl #[rfl,oB.f (by left) ?_]];show mK (xk T.eO T.bW (Rz T) T.bq.b hr rfl T.iG<|Zb (mW (pv 0) Zc) Za)<|.inr<|.inl #[mQ z,Zm (j:=1) rfl,_,rfl,λy x=>q y _ (pr x) Zd]
def VA(h:3<=k:=by lk):Xf P w K mg mB (nZ P w) k T.ag.f T.ag.fd ["told"] (zd T):=(UA T).mono h
section
variable {U:Tx K mg} {F:lR->Prop} {val:lQ->lP Zt}
def nJ.path{y:lQ->lP Zt}(z:nJ U l H F x s ad lw val r)(n:mz H p)(hd:H d=none)(j:Yw p d u y)(i:u.map fst=r.map fst)(h:∀e∈u,H e.2=none)(g:∀t,(y t).length<=100)(o:∀t,(∀q∈y t,uN ad.ns q)/\((y t).map fst).Nodup):nJ U l (mH p x<|xV U #[ad.dx,ad.ld,ad.sd,ad.nd,d,u,ad.st,ad.ns] s) (λb=>F b\/b=d) x s #[ad.dx,ad.ld,ad.sd,ad.nd,d,u,ad.st,ad.ns] lw y r:=by
 have:=z.move n hd j i h z.lnd z.len z.ok g o;rw[ZL (show mH p x (xV U #[ad.dx,ad.ld,ad.sd,ad.nd,d,u,ad.st,ad.ns] s) ad.nd=some (.dK<|xz r) by rw[Ze z.xn.symm];show n.at z.lens)]at this;show this
def nJ.lay(s:nJ U h H F x i ad lw val g)(c:mz H q)(hd:H d=none)(e:q d=some (.dK<|Z0 V.str l))(a:(l.map fst).Nodup/\∀p∈l,p.1∈ad.ns/\p.2∈sS):nJ U h (mH q x<|xV U #[ad.dx,d,ad.sd,ad.nd,ad.pd,ad.es,ad.st,ad.ns] i) F x i #[ad.dx,d,ad.sd,ad.nd,ad.pd,ad.es,ad.st,ad.ns] l val g:=by
 have r:=s.mono c;have j:∀{b:lR},¬F b->b≠x:=λz y=>z<|y ▸ s.fx
 have u:∀{b:lR}{o v:HO},b≠x->q b=some o->mH q x v b=some o:=λn z=>by rw[Ze n];show z
 refine#[Zd,u (j<|s.neF hd) e,u (j s.ns) r.sti,u s.xn.symm r.lens,r.pth.offC s.xp.symm (λe he=>j<|s.ni e he) r.obj (λ_ z=>nomatch z),s.nm,s.lnd,s.len,s.vl,s.ok,s.fx,s.fn,s.fp,s.ne,s.neF hd,s.ns,s.ni,s.free,λb o z=>u (Zg z<|s.free x s.fx)<|r.same.at z,λb z=>?_,#[s.kx.s0,λz=>?_,s.kx.nok,s.kx.sok,a,s.kx.pok]]
 ·by_cases y:b=x
  ·show#[.ins _ _ _,by rw[y];show Zd,λ_ z=>nomatch z]
  ·obtain⟨o,Y,Q⟩:=r.live b z;show#[o,u y Y,Q]
 ·have:=s.sti;rw[show ad.sd=d from z,hd]at this;cases this
end
def Yc5{val:lQ->lP Zt}(u:nm∈trs)(h:∀t,(∀q∈val t,uN ns q)/\((val t).map fst).Nodup)(s:∀q∈qs,uN ns q)(z:Bf (uG trs val) (qs.map fst) qs.length)(t:lQ):(∀q∈X7 trs val nm qs t,uN ns q)/\((X7 trs val nm qs t).map fst).Nodup:=by
 unfold X7;split
 ·refine#[λq x=>(ou.mp x).elim ((h nm).1 q) (s q),?_];rw[ng,qp];refine#[(h nm).2,?_,λa r b p e=>?_]
  ·rw[List.nodup_iff_pairwise_ne]at *;rw[List.pairwise_iff_getElem];intro i j y x o e;have:=(z j _ (by simpa using x)<|oA x).1;show this<|Qn.mpr #[i,by lia,e]
  ·obtain⟨i,y⟩:=AI p;have x:=(oN.mp y).1;rw[mI]at x;show(z i b x y).2 #[nm,u,e ▸ r]
 ·show h t
def yI:Nat->lQ
 | 3 =>"taken"
 | 4 =>"held"
 | _ =>"stiff"
def TV(r:Rl):pE trs g r=none\/∃n p,(n=3\/n=4\/n=5)/\pE trs g r=some (yI n,p):=by
 cases r with
 | held x =>
  change tV trs g x=_\/∃n p,_/\tV trs g x=_;unfold tV;split
  ·show .inr #[4,x,.inr<|.inl rfl,rfl]
  ·show .inl rfl
 | taken x =>
  change uE g x=_\/∃n p,_/\uE g x=_;unfold uE;split
  ·show .inr #[3,x,.inl rfl,rfl]
  ·show .inl rfl
 | lies x l =>
  change Wx g x l=_\/∃n p,_/\Wx g x l=_;unfold Wx xH;split
  ·show .inl rfl
  ·split
   ·show .inr #[5,x,.inr<|.inr rfl,rfl]
   ·show .inl rfl
def sN(trs:lP lQ)(g:Gd)(qs:lP S4):lU (lQ×lQ):=Wa<|(qF qs).map (pE trs g)
theorem KR :∀l:lP Rl,Wa (l.map<|pE trs g)=none\/∃n p,(n=3\/n=4\/n=5)/\Wa (l.map<|pE trs g)=some (yI n,p)
 | []=>.inl rfl
 | r ::l=>by
  change Wa (pE trs g r ::_)=_\/∃n p,_/\Wa (pE trs g r ::_)=_;rcases TV (trs:=trs) (g:=g) r with z|⟨n,p,y,z⟩
  ·rw[z];show KR l
  ·rw[z];show .inr #[n,p,y,rfl]
theorem MQ:∀{l:lP (lU<|lQ×lQ)},Wa l=none->∀a∈l,a=none
 | none ::l,h,a,y=>by
  rcases nQ.mp y with rfl|z
  ·rfl
  ·show MQ (l:=l) h a z
theorem KW:∀{qs:lP S4},q∈qs->Rl.held q.1∈qF qs
 | s ::y,h=>by
  unfold qF;rcases nQ.mp h with rfl|z
  ·show vT _ (by split<;>show oM)
  ·show qc _<|KW z
def SS(h:sN trs g qs=none):∀q∈qs,¬uG trs g.val q.1:=λq y z=>by
 have:=MQ h _<|mV.mpr #[_,KW y,rfl];have:tV trs g q.1=none:=this;unfold tV at this;rw[mT (show ∃t,t∈trs/\q.1∈(g.val t).map fst from z)]at this;cases this
theorem NU :∀(qs d:lP S4),qT ps u s e d qs=true->(d.map fst).Nodup->((d++qs).map fst).Nodup
 | [],d,h,_=>by cases h
 | q ::r,d,h,p=>by
  unfold qT at h
  by_cases y:q∈qu ps u e d
  ·rw[mT y]at h;have o:q.1∉d.map fst:=λz=>by
    unfold qu at y;split at y
    ·cases y
    ·unfold tM at y;show ow (vA.mp y).2 (pc _ z)
   have x:((d++[q]).map fst).Nodup:=by
    rw[ng,qp];show#[p,EJ _ _,λa n b l e=>o (by rw[<-show b=q.1 from pD.mp l,<-e];show n)]
   by_cases he:vj s q=true
   ·rw[mT he]at h;rw[ow h];show x
   ·rw[mS he]at h;have:=NU r (d++[q]) h x;rwa[pp]at this
  ·rw[mS y]at h;cases h
def oS.steps(h:oS ns H us qs):rY H us qs:=let⟨h,_⟩:=h;h
def zV(ss:lP S4):Zh:=vH (("",""):Zh) ss
def xX(ps:lP Zh)(z:lP (Zh×Zh))(y:lP (lQ×lQ×lQ))(e:Zh)(qs ss:lP S4):Prop:=qT ps z y e [] qs=true/\e=zV ss
def Rf(x:Y2 ps o l)(h:q∈sP ps o e):(q.2.2.2≠ "" ↔ (("points",q.1):Zh)∈ps):=by
 unfold sP at h;split at h
 ·rename_i n;obtain⟨k,u,_⟩:=Jq n.1;rw[AT x.net.nd u]at h;obtain⟨r,y,rfl⟩:=mV.mp (vA.mp h).1;have y:r∈tL k:=y;change r≠ "" ↔ (("points",e.1):Zh)∈ps;unfold tL at y;split at y
  ·rename_i s;refine#[λ_=>s ▸ u,λ_ z=>?_];rw[z]at y;show absurd y (by left)
  ·rename_i s;refine#[λz=>absurd (pD.mp y) z,λz=>absurd ?_ s];have p:=AT x.net.nd u;rw[AT x.net.nd z]at p;show(oo p).symm
 ·cases h
theorem BY(x:Y2 ps u s):∀(qs d:lP S4),qT ps u s e d qs=true->∀q∈qs,(q.2.2.2≠ "" ↔ (("points",q.1):Zh)∈ps)
 | q ::r,d,h,p,y=>by
  unfold qT at h
  by_cases z:q∈qu ps u e d
  ·rw[mT z]at h;rcases nQ.mp y with rfl|y
   ·unfold qu at z;split at z
    ·cases z
    ·unfold tM at z;show Rf x (vA.mp z).1
   ·by_cases he:vj s q=true
    ·rw[mT he]at h;rw[ow h]at y;cases y
    ·rw[mS he]at h;show BY x r (d++[q]) h p y
  ·rw[mS z]at h;cases h
theorem Iz{S:lQ->Prop}:∀{qs:lP S4}{lw:lP (lQ×lQ)},(∀n,n∈lw.map fst↔S n)->(∀q∈qs,q.2.2.2≠ ""->S q.1)->∀n,n∈(pz lw qs).map fst↔S n
 | [],_,h,_,n=>h n
 | q ::qs,lw,h,z,n=>by
  refine Iz (qs:=qs) (λm=>?_) (λp y=>z p<|pc _ y) n;split
  ·show h m
  ·rename_i x;rw[DE,mT<|(h q.1).mpr (z q oM x)];show h m
inductive Af(T:Tx K mg):Sp
 | mk (H0) (F:lR->Prop) (x tr a dt ad) (lw:lP (lQ×lQ)) (val:lQ->lP Zt) (ln:lP (lQ×Nat)) (ps js) (sg:lP (lQ×lQ×lQ)) (nm) (g:lQ×Zh) (qs) (td:lP (lQ×Bool)):vs=[.ref x,.str nm,.ref a,.ref dt]->nJ T H0 H F x tr ad lw val ln->rJ ps ad lw->Z5 T H0 tr ps js sg->Y2 ps js sg->qQ T H0->nm∈ln.map fst->val nm≠[]->(g:lQ×lQ×lQ)∈sg->pG (ps.map snd) H a g.1 qs->qs.length<=12->H dt=some (.dK<|Z0 V.bl td)->
  (xX ps js sg g.2 qs (val nm)->sN (ln.map fst) #[lw,ad.st,val,td] qs=none->∀(H':Hp)(F':lR->Prop)(B6:pI),(∀b,F' b->F b\/H b=none)->wP F H H'->rJ ps B6 (pz lw qs)->B6.sd=ad.sd->B6.st=ad.st->H B6.ld=none->nJ T H0 H' F' x tr B6 (pz lw qs) (X7 (ln.map fst) val nm qs) ln->Q .non H')->
  (¬xX ps js sg g.2 qs (val nm)->∀H',mz H H'->E (.ref T.aI) none H')->
  (∀n p dx H',n=3\/n=4\/n=5->xX ps js sg g.2 qs (val nm)->sN (ln.map fst) #[lw,ad.st,val,td] qs=some (yI n,p)->mz H H'->H' dx=some (.xd [("part",.str p)])->E (.ref<|tS T n) (some dx) H')->Af T vs H Q E
 | odd (H0) (F:lR->Prop) (x tr) (u v:V) (ad) (lw:lP (lQ×lQ)) (val:lQ->lP Zt) (ln:lP (lQ×Nat)) (ps js) (sg:lP (lQ×lQ×lQ)) (nm):vs=[.ref x,.str nm,v,u]->nJ T H0 H F x tr ad lw val ln->Z5 T H0 tr ps js sg->Y2 ps js sg->nm∈ln.map fst->(∀H',mz H H'->Ai K H' v)->(∀H',mz H H'->E (.ref T.aI) none H')->Af T vs H Q E
 | no (H0) (F:lR->Prop) (x tr) (u v r:V) (ad) (lw:lP (lQ×lQ)) (val:lQ->lP Zt) (ln:lP (lQ×Nat)):vs=[.ref x,v,r,u]->nJ T H0 H F x tr ad lw val ln->xw v (λn=>n∈ln.map fst)->(∀H',mz H H'->E (.ref T.aB) none H')->Af T vs H Q E
def Pr:Xf P w K mg mB (nZ P w) 7 T.aE.f T.aE.fd ["self","train","route","seen"] (Af T):=by
 refine T.aE.F.okX Ww ?_;rfl'
 ·intro X D;rcases h with⟨H0,F,x,M,a,dt,ad,N,val,L,J,js,sg,nm,⟨sig,e⟩,Y,td,rfl,d,A9,ht,yv,tb,hm,u9,hg,⟨us,ha,m9⟩,okr,U4,q,qb,qe⟩|⟨H0,F,x,M,u,v,ad,N,val,L,J,js,sg,nm,rfl,d,ht,yv,hm,ho,qb⟩|⟨H0,F,x,M,u,v,r,ad,N,val,L,rfl,d,hv,qn⟩
  rotate_left
  ·refine mJ (mY 4 Ww<|Ya (pv 0) T.ae T.bo (X9 T) hr.m T.ap.b .nil Zz<|Zb (pv 1) Za) #[d.obj,rfl,H0,F,x,M,ad,N,val,L,nm,rfl,d,hm,λl H1 I n1 P1=>?_];have x0:=d.mono I;show mJ (Zr (Y5<|Yk<|Zv (BG T) hr<|Zb (Yd (pv 0) rfl)<|Zb (pv 2) Za) Zn Zi) #[x0.obj,T.ae,T.aG,rfl,.odd M v J js sg rfl (ht.mono x0.same) yv (ho H1 I) λH2 s2=>mK (Wf T.fS rS rfl<|Zb Zf Za) #[mM,qb H2<|I.trans s2]]
  ·show mJ (mY 4 Ww<|Ya (pv 0) T.ae T.bo (Zm1 T) hr T.ap.b .nil vG<|Zb (pv 1) Za) #[d.obj,rfl,H0,F,x,M,ad,N,val,L,v,rfl,d,hv,qn]
  have ha:H a=some (.tup<|V.str sig ::us.map V.ref):=ha;obtain⟨o,_,_,_,_,_,_,_,_,T3,_⟩:=(ht.mono d.same).ex;have U6:Y.length<=12:=okr;refine mJ (mY 4 Ww<|Ya (pv 0) T.ae T.bo (X9 T) hr.m T.ap.b .nil Zz<|Zb (pv 1) Za) #[d.obj,rfl,H0,F,x,M,ad,N,val,L,nm,rfl,d,hm,λl H1 I n1 P1=>?_];have x0:=d.mono I;refine mJ (Zr (Y5<|Yk<|Zv (BG T) hr<|Zb (Yd (pv 0) rfl)<|Zb (pv 2) Za) Zn Zi) #[x0.obj,T.ae,T.aG,rfl,.mk M a (sig,e) Y J js sg rfl (ht.mono x0.same) yv hg #[us,I.at ha,m9.mono I] okr λH2 s2=>Yf (λz=>mK (Wf T.fS rS rfl<|Zb Zf Za) #[mM,qb (λy=>by rw[y.1]at z;show absurd z<|by lk) H2<|I.trans s2]) λU=>?_];have U:qT J js sg e [] Y=true:=by
   cases y:qT J js sg e [] Y with
   | true=>rfl
   | false=>show absurd (by change(!qT J js sg e [] Y)=true;rw[y];rfl) U
  have G:=I.trans s2;have Q6:=x0.mono s2;obtain⟨ts,hl,i9⟩:=P1.mono s2;obtain⟨ws,tq,rfl⟩:∃ws tq,ts=ws++[tq]:=by
   have:ts≠[]:=λz=>by
    rw[z]at i9;have:=nG i9;show u9<|sJ.mp this.symm
   show#[ts.dropLast,ts.getLast this,(Ac _).symm]
  obtain⟨C,hqq,rq⟩:=oQ i9 (i:=ws.length) (a:=tq) (by simp);have hlq:zV (val nm)=(C.1,C.2.2.1):=by
   unfold zV vH;have:=nG i9;rw[nW,xl]at this;rw[Az,<-this,CQ,hqq]
  have la:oy ((ws++[tq]).map V.ref) (-1)=some (.ref tq):=by
   rw[ng];show zN _ _
  refine mJ (Zr (sy hr (Ya (Yd (pv 0) rfl) T.am T.cx (W7 T) hr.m T.aY.b .nil Zz<|Zb (mW (pv 2) Zc) Za)<|Zv (Gm T) hr<|Zb (mW (pv 4)<|vi vF Zc) Za) Zn Zi) #[Q6.obj,T.ae,T.aG,rfl,G.at T3,rfl,.inr<|.inl #[mQ<|G.at ha,Zm (j:=0) rfl,M,(sig,e),J,js,sg,rfl,ht.mono Q6.same,yv,hg,λc H3 s3 o=>.inl #[mO<|s3.at hl,la,tq,C,rfl,s3.at rq,λt4 j s4 n4 i=>.inr<|.inl #[1,ph e,ph (C.1,C.2.2.1),by lk,.inl #[_,_,rfl,rfl],yU<|s4.at o,yU i,Yf (λz=>mK (Wf T.fS rS rfl<|Zb Zf Za) #[mM,qb (λy=>by rw[nM (show ph e=ph (C.1,C.2.2.1) by rw[<-hlq,<-y.2])]at z;show absurd z<|by lk) j<|G.trans<|s3.trans s4]) λG9=>?_]]]];have B:xX J js sg e Y (val nm):=#[U,by
   by_cases y:ph e=ph (C.1,C.2.2.1)
   ·rw[hlq];show Cf y
   ·show absurd (by rw[og y];rfl) G9]
  have J9:=G.trans<|s3.trans s4;have hw4:=d.mono J9;refine mJ (Z3<|Xs (VA T) hr rfl T.ag.m T.ag.F.kp T.ag.b .nil vG<|Zb (Zv (HW T) hr<|Zb (Zv (ZN T) hr<|Zb (pv 2) Za)<|Zb (Ya (pv 0) T.ae T.cR (He T) hr.m T.bg.b .nil Zz<|Zb (pv 3) Za) Za) Za) #[a,_,sig,Y,rfl,tb.mono hw4.same,#[us,J9.at ha,m9.mono J9],by lia,λo fs H5 s5 n5 j i=>#[s5.at hw4.obj,rfl,H0,F,x,M,dt,ad,N,val,L,td,rfl,hw4.mono s5,(J9.trans s5).at U4,λc H6 s6 n6 G6=>#[o,c,fs,_,rfl,mO<|s6.at j,tQ.ans (i.fix s6.fix) G6,λv7 H7 s7 wd=>?_]]];have C0:=J9.trans<|s5.trans<|s6.trans s7;have ag0:Wa ((qF Y).map (pE (ad.es.map fst) #[N,ad.st,val,td]))=sN (L.map fst) #[N,ad.st,val,td] Y:=by rw[d.nm];rfl
  rcases KR (trs:=ad.es.map fst) (g:=#[N,ad.st,val,td]) (qF Y)with z|⟨n,p,hn,z⟩
  ·rw[z]at wd;refine .no (oJ (λv=>[v]) wd) ?_;rw[ag0]at z;have hgd:=SS z;have hw7:=d.mono C0;have E3:=d.nm;refine mJ (Wz (pv 0) (Xs (Oc T) hr.m rfl T.cq.m T.cq.F.kp T.cq.b .nil vG<|Zb (Yd (pv 0) rfl)<|Zb (pv 1)<|Zb (Xp (r:=qV K) rj (pv 2) (X2 Zc) X5) Za) rfl) #[hw7.obj,T.ae,T.ay,rfl,.inl #[mQ<|C0.at ha,Wc _ _,λp8 H8 s8 j e8=>?_]];rw[xD]at e8;have Q3:=C0.trans s8;have hw8:=d.mono Q3;refine#[ad.pd,p8,nm,ad.es,val,Y,rfl,hw8.pth,by rw[E3];show d.lnd,?_,d.vl,λt E8=>?_,#[us,.inr e8,(m9.mono Q3).steps],by lia,λd' H9 j7 good s9 n9 pB eB _ fB=>?_,λdx H9 y s9 n9 j e9=>absurd j λ⟨i,hi,hb,_⟩=>?_]
   ·have:=oJ List.length E3;rw[mI,mI]at this;have:=d.len;lia
   ·rw[E3]at E8;obtain⟨j,C9,rfl⟩:=mV.mp E8;show zF (d.ok j C9)
   rotate_left
   ·rcases hb with i|i
    ·have nd:=NU Y [] U .nil;rw[Dl]at nd;obtain⟨j,hj,hj2⟩:=Qn.mp i;obtain⟨B3,hi2⟩:=oN.mp hi;have:=(List.getElem_inj nd (h₀:=by lia) (h₁:=B3)).mp (hj2.trans hi2.symm);lia
    ·obtain⟨q',C4,e'⟩:=mV.mp<|pe hi;rw[E3]at i;show hgd q' C4<|e' ▸ i
   rw[E3]at eB good;have B7:j7.map fst=L.map fst:=by rw[eB];show mT hm
   have hpk:=Yc5 (ns:=ad.ns) hm d.kx.pok (by rw[A9.ns];intro q' C4;obtain⟨_,o⟩:=m9;show o q' C4) good;rw[E3]at pB;have D6:=Q3.trans s9;have n09:H d'=none:=Q3.free n9;have N6:∀t,(X7 (L.map fst) val nm Y t).length<=100:=λt=>by
    have:=ym (hpk t).2 λn hn=>by
     obtain⟨q',C4,rfl⟩:=mV.mp hn;show((hpk t).1 q' C4).1
    rw[mI]at this;have:=d.kx.nok.1;lia
   have k1:=d.path D6 n09 pB B7 (λe' j=>Q3.free<|fB e' j) N6 hpk;have rtx:∀{o:HO},pG (J.map snd) (mH H9 x o) a sig Y:=λ{o}=>by
    have n:∀{c:lR}{xs:lP V},H9 c=some (.tup xs)->mH H9 x o c=some (.tup xs):=λ{c xs} z=>(Ze λy=>by rw[y,D6.at d.obj]at z;cases z).trans z
    obtain⟨C9,ok'⟩:=m9.mono D6;show#[us,n<|D6.at ha,ny C9 λ_ _ r=>n r,ok']
   refine SF.mk (D6.at d.obj) T.ae T.ay (by change 5<1000;decide) ?_;have hlw:=d.lwl;refine mK (Wz (pv 0) (Zv (Ybj T) hr<|Zb (Yd (pv 0) rfl)<|Zb (pv 2) Za) rfl) #[Zd,T.ae,T.bU,rfl,ad.ld,a,N,_,sig,Y,rfl,k1.lies,d.kx.lok.1,by lia,rtx,by lia,λd5 j sC nC eC=>SF.mk (sC.at Zd) T.ae T.bU (by change 5<1000;decide) ?_];have k2:=k1.lay sC nC eC #[Mz d.kx.lok.1,Qc d.kx.lok.2 λq' C4=>by
    obtain⟨_,o⟩:=m9;have:=o q' C4;show#[by rw[A9.ns];show this.1,this.2.2.2]]
   refine q B z _ _ _ ?_ (λb o nb z=>?_) ?_ ?_ ?_ ?_ k2
   ·show λb z=>z.imp id λy=>by rw[y];show n09
   ·have j:b≠x:=λy=>nb<|y ▸ d.fx
    rw[Ze j];show sC.at (by rw[Ze j];show D6.at z)
   ·show#[A9.ns,A9.st,Iz A9.lw λq' C4=>(BY yv Y [] U q' C4).mp]
   ·rfl
   ·rfl
   ·change H d5=none;refine D6.free ?_
    by_cases y:d5=x
    ·rw[y,Zd]at nC;cases nC
    ·rwa[Ze y]at nC
  ·rw[z]at wd;rw[ag0]at z;obtain⟨t,rfl,wt⟩:=wd;rcases hn with rfl|rfl|rfl
   ·show .taken t p rfl wt λdx H8 s8 e8=>qe 3 p dx H8 (.inl rfl) B z (C0.trans s8) e8
   ·show .held t p rfl wt λdx H8 s8 e8=>qe 4 p dx H8 (.inr<|.inl rfl) B z (C0.trans s8) e8
   ·show .stiff t p rfl wt λdx H8 s8 e8=>qe 5 p dx H8 (.inr<|.inr rfl) B z (C0.trans s8) e8
def Ow(h:7<=k:=by lk):Xf P w K mg mB (nZ P w) k T.aE.f T.aE.fd ["self","train","route","seen"] (Af T):=(Pr T).mono h
mutual
theorem BR(e:mz H u):∀{d:PyData}{v:V},Rp H d v->Rp u d v
 | _,_,.str x=>.str x
 | _,_,.bl b=>.bl b
 | _,_,.int i=>.int i
 | _,_,.lst z y=>.lst (e.at z) (Df e y)
 | _,_,.tup z y=>.tup (e.at z) (Df e y)
 | _,_,.dk z y=>.dk (e.at z)<|Df e y
theorem Df(e:mz H z):∀{ds:lP PyData}{vs:lP V},qB H ds vs->qB z ds vs
 | _,_,.nil=>.nil
 | _,_,.cons y x=>.cons (BR e y)<|Df e x
end
def Yg(n k:Nat)(d:PyData):Prop:=d.showable=true/\d.leavesShort 8=true/\d.depth<=k/\d.weight<=n
def Yg.shown(h:Yg n k d)(z:n<=100000):d.shown.length<=sizeLine:=by
 have:=PyData.shown_le 8 (by lk) d h.2.1;have:=h.2.2.2;have e:sizeLine=16777216:=rfl;lia
def Yg.str(z:x.cps.toList.all pS=true)(y:x.length<=6):Yg 6 0 (.str x):=by
 refine#[by simp[PyData.showable],?_,by simp[PyData.depth],by simp only[PyData.weight];show y];simp only[PyData.leavesShort,wE,yf];show λc u=>ri (KF<|wE.mp z c u) (by lk)
theorem Yg.all:∀{ds:lP PyData},(∀d∈ds,Yg n k d)->PyData.showableAll ds=true/\PyData.leavesShortAll 8 ds=true/\PyData.depthAll ds<=k/\PyData.weightAll ds<=(n+1) * ds.length
 | [],_=>#[by simp[PyData.showableAll],by simp[PyData.leavesShortAll],by simp[PyData.depthAll],by simp[PyData.weightAll]]
 | d ::ds,h=>by
  obtain⟨z,y,r,q⟩:=h d oM;obtain⟨x,u,r,q⟩:=Yg.all λc s=>h c<|pc _ s
  refine#[by simp[PyData.showableAll,z,x],by simp[PyData.leavesShortAll,y,u],by simp only[PyData.depthAll];lia,?_];simp only[PyData.weightAll,pi,Nat.mul_add];lia
theorem Yg.kv:∀{ds:lP (PyData×PyData)},(∀d∈ds,Yg n k d.1/\Yg n k d.2)->PyData.showableKv ds=true/\PyData.leavesShortKv 8 ds=true/\PyData.depthKv ds<=k/\PyData.weightKv ds<=(2 * n+2) * ds.length
 | [],_=>#[by simp[PyData.showableKv],by simp[PyData.leavesShortKv],by simp[PyData.depthKv],by simp[PyData.weightKv]]
 | (x,y) ::ds,h=>by
  obtain⟨⟨s,r,q,z⟩,p,o,l,u⟩:=h (x,y) oM;obtain⟨j,i,g,a⟩:=Yg.kv λc e=>h c<|pc _ e
  refine#[by simp[PyData.showableKv,show x.showable=true from s,show y.showable=true from p,j],by simp[PyData.leavesShortKv,show x.leavesShort 8=true from r,show y.leavesShort 8=true from o,i],by simp only[PyData.depthKv];show Nat.max_le.mpr #[Nat.max_le.mpr #[q,l],g],?_];simp only[PyData.weightKv,pi,Nat.mul_add];have z:x.weight<=n:=z;have u:y.weight<=n:=u;lia
def Yg.list(h:∀d∈ds,Yg n k d)(z:ds.length<=m):Yg ((n+1) * m) (k+1) (.list ds):=by
 obtain⟨y,x,s,u⟩:=Yg.all h;show#[by simp only[PyData.showable];show y,by simp only[PyData.leavesShort];show x,by simp only[PyData.depth];lia,by simp only[PyData.weight];show oi u<|Eg _ z]
def Yg.tuple(h:∀d∈ds,Yg n k d)(z:ds.length<=m):Yg ((n+1) * m) (k+1) (.tuple ds):=by
 obtain⟨y,x,s,u⟩:=Yg.all h;show#[by simp only[PyData.showable];show y,by simp only[PyData.leavesShort];show x,by simp only[PyData.depth];lia,by simp only[PyData.weight];show oi u<|Eg _ z]
def Yg.dict(h:∀d∈ds,Yg n k d.1/\Yg n k d.2)(z:ds.length<=m):Yg ((2 * n+2) * m) (k+1) (.dict ds):=by
 obtain⟨y,x,s,u⟩:=Yg.kv h;show#[by simp only[PyData.showable];show y,by simp only[PyData.leavesShort];show x,by simp only[PyData.depth];lia,by simp only[PyData.weight];show oi u<|Eg _ z]
def Yg.up(h:Yg n k d)(z:n<=m)(y:k<=j):Yg m j d:=#[h.1,h.2.1,oi h.2.2.1 y,oi h.2.2.2 z]
def d4(q:Zt):PyData:=.tuple [.str q.1,.str q.2.1,.str q.2.2.1,.str q.2.2.2]
def BS(ss:lP lQ)(val:lQ->lP Zt):PyData:=.dict<|(ss.map PyData.str).zip (ss.map λt=>.list<|(val t).map d4)
def rY.rps(h:Paired (λt (q:Zt)=>Hm H t q.1 q.2) ts ss):qB H (ss.map d4) (ts.map V.ref):=by
 induction h with
 | nil=>show .nil
 | cons z _ y=>show .cons (.tup z<|.cons (.str _)<|.cons (.str _)<|.cons (.str _)<|.cons (.str _) .nil) y
def Yw.rp{val:lQ->lP Zt}(h:Yw H d z val):Rp H (BS (z.map fst) val) (.ref d):=by
 have r:qB H (z.map λe=>.list<|(val e.1).map d4) ((Z0 V.ref z).map snd):=by
  have y:=h.2;clear h
  induction z with
  | nil=>show .nil
  | cons e z u =>
   obtain⟨x,s,q⟩:=y e oM;show .cons (.lst s<|rY.rps q)<|u λx p=>y x<|pc _ p
 have:=Rp.dk h.1 r;rw[show(Z0 V.ref z).map (λp=>kD p.1)=(z.map fst).map PyData.str from by rw[show Z0 V.ref z=z.map λq=>(Sum.inr q.1,V.ref q.2)from rfl,oO,oO];rfl]at this;unfold BS;rw[show(z.map fst).map (λt=>PyData.list<|(val t).map d4)=z.map λe=>.list ((val e.1).map d4)from by rw[oO];rfl];show this
def Yg.half(h:Yg n k d)(z:n<=100000):d.shown.length<=1000008:=by
 have:=PyData.shown_le 8 (by lk) d h.2.1;have:=h.2.2.2;lia
def Wr:∀x∈sS,x.cps.toList.all pS=true/\x.length<=6:=by left
def AR(z:Xb x):Yg 6 0 (.str x):=.str z.2.2.2 z.2.1
def TM:∀n<5,(PyData.int ((n:Nat):Int)).showable=true/\(PyData.int ((n:Nat):Int)).leavesShort 8=true/\(PyData.int ((n:Nat):Int)).depth<=0/\(PyData.int ((n:Nat):Int)).weight<=6:=by left
def Kg{ss:lP lQ}{m:Nat}(h:∀x∈ss,Xb x)(z:ss.length<=m):Yg (7 * m) 1 (.list<|ss.map PyData.str):=Yg.list (n:=6) (k:=0) (λd hd=>by
 obtain⟨x,y,rfl⟩:=mV.mp hd;show AR<|h x y) (by rw[mI];show z)
def MZ{val:lQ->lP Zt}(o:∀t∈ss,Xb t)(e:ss.length<=10)(l:ns.length<=40/\∀n∈ns,Xb n)(y:∀t,(∀q∈val t,uN ns q)/\((val t).map fst).Nodup):Yg 24000 3 (BS ss val):=by
 refine(Yg.dict (n:=1160) (k:=2) (m:=10) (λd hd=>?_)<|by rw[FW,mI];lia).up (by lk) (by lk);obtain⟨a,b⟩:=d;obtain⟨j,i⟩:=tz hd;obtain⟨t,h,rfl⟩:=mV.mp j;obtain⟨u,s,rfl⟩:=mV.mp i;refine#[(AR<|o t h).up (by lk) (by lk),Yg.list (n:=28) (k:=1) (m:=40) (λc z=>?_) ?_]
 ·obtain⟨q,x,rfl⟩:=mV.mp z;obtain⟨g,s,r,p⟩:=(y u).1 q x;refine Yg.tuple (n:=6) (k:=0) (m:=4) (λc z=>?_)<|nw 4;simp only[nQ,wf,sU]at z;rcases z with rfl|rfl|rfl|rfl
  ·show AR<|l.2 _ g
  ·show .str (Wr _ s).1 (Wr _ s).2
  ·show .str (Wr _ r).1 (Wr _ r).2
  ·show .str (Wr _ p).1 (Wr _ p).2
 ·have:=ym (y u).2 λn s=>by
   obtain⟨q,x,rfl⟩:=mV.mp s;show((y u).1 q x).1
  rw[mI]at this ⊢;lia
def DY(ss:lP lQ)(lw:lP (lQ×lQ))(sts:lP lQ)(val:lQ->lP Zt):PyData:=.list [.list (ss.map PyData.str),.dict<|(lw.map λp=>PyData.str p.1).zip (lw.map λp=>PyData.str p.2),.list<|sts.map PyData.str,BS ss val]
def GW(z:lP (lQ×Nat))(ss:lP lQ):PyData:=.list<|ss.map λt=>.int (((z.lookup t).getD 0:Nat):Int)
def Bh(ad:pI)(lw:lP (lQ×lQ))(val:lQ->lP Zt)(x:lP (lQ×Nat))(z:lQ):Prop:=∃y sts,y.Perm (x.map fst)/\PyProof.Rows.sortedS y=true/\sts.Perm (ad.st.map fst)/\PyProof.Rows.sortedS sts=true/\z=(DY y lw sts val).shown++(GW x y).shown
def Bh.one{val:lQ->lP Zt}(h:Bh ad lw val u z)(h':Bh s lw val u r)(e:s.st=ad.st):z=r:=by
 obtain⟨y,sts,q,p,o,n,rfl⟩:=h;obtain⟨l,y,j,i,x,g,rfl⟩:=h';rw[e]at x;rw[yi p i (q.trans j.symm),yi n g<|o.trans x.symm]
def Of{ss:lP lQ}(h:H l=some (.lst<|ss.map V.str)):Rp H (.list<|ss.map PyData.str) (.ref l):=by
 refine .lst h ?_;clear h
 induction ss with
 | nil=>show .nil
 | cons x ss z=>show .cons (.str x) z
def QU{f:lQ->Int}{ss:lP lQ}(h:H l=some (.lst<|ss.map λt=>V.int<|f t)):Rp H (.list<|ss.map λt=>PyData.int<|f t) (.ref l):=by
 refine .lst h ?_;clear h
 induction ss with
 | nil=>show .nil
 | cons x ss z=>show .cons (.int _) z
def EN(h:H l=some (.dK<|Z0 V.str lw)):Rp H (.dict<|(lw.map λp=>PyData.str p.1).zip (lw.map λp=>PyData.str p.2)) (.ref l):=by
 have r:qB H (lw.map λp=>PyData.str p.2) ((Z0 V.str lw).map snd):=by
  clear h
  induction lw with
  | nil=>show .nil
  | cons e y z=>show .cons (.str _) z
 have:=Rp.dk h r;rw[show(Z0 V.str lw).map (λp=>kD p.1)=lw.map λp=>PyData.str p.1 from by rw[show Z0 V.str lw=lw.map λq=>(Sum.inr q.1,V.str q.2)from rfl,oO];rfl]at this;show this
open Classical in
def uR(Z:lR->Prop)(H:Hp):Hp:=λb=>if Z b then none else H b
def Hh{Z:lR->Prop}(e:H b=some o)(n:¬Z b):uR Z H b=some o:=(mS n).trans e
def HV{Z:lR->Prop}(e:uR Z H b=some o):H b=some o/\¬Z b:=by
 unfold uR at e
 by_cases z:Z b
 ·rw[mT z]at e;cases e
 ·rw[mS z]at e;show#[e,z]
def JV{Z x:lR->Prop}(k:∀b o,H b=some o->¬Z b->r b=some o)(z:∀b,x b->Z b\/H b=none):mz (uR Z H) (uR x r):=λb o e=>by
 obtain⟨u,s⟩:=HV e;refine Hh (k b o u s) λy=>?_
 rcases z b y with w|w
 ·show s w
 ·rw[u]at w;cases w
def zw(H:Hp)(Z:lR->Prop)(y:lR)(n:Nat):Prop:=∃z:lP lR,H y=some (.lst<|z.map V.ref)/\z.length<=n/\∀u∈z,∃(l:lR)(d:PyData),uR Z H u=some (.tup [.ref l,.str d.shown])/\Rp (uR Z H) d (.ref l)/\Yg 24000 3 d
def zw.on{Z x:lR->Prop}(h:zw H Z y n)(k:∀b o,H b=some o->¬Z b->r b=some o)(z:∀b,x b->Z b\/H b=none)(e:r y=H y):zw r x y n:=by
 obtain⟨q,p,j,i⟩:=h;have s:=JV k z;refine#[q,e.trans p,j,λu g=>?_];obtain⟨l,d,c,a,Y⟩:=i u g;show#[l,d,s.at c,BR s a,Y]
inductive Gi:Sp
 | mk (H0) (F:lR->Prop) (x tr ad lw) (val:lQ->lP Zt) (ln:lP (lQ×Nat)):vs=[.ref x]->nJ T H0 H F x tr ad lw val ln->(∀p∈ln,p.2<=4)->(∀z H',mz H H'->Bh ad lw val ln z->Q (.str z) H')->Gi vs H Q E
def CW(hb:∃mm,mB.Ns sysModules mm):T.eI.O P w mg mB 5 (Gi T):=by
 refine T.eI.F.okW JU ?_;rfl'
 ·obtain⟨I,F,x,G,ad,L,val,g,rfl,z,h4,q⟩:=h;intro X D;have d9:=z.len;have y:∀{l:lP lQ},l.Perm (g.map fst)->(∀t∈l,Xb t)/\l.length<=10:=λ{l} p=>#[λt Y=>by
   obtain⟨U,N,rfl⟩:=mV.mp<|p.mem_iff.mp Y;show z.ok U N,by rw[p.length_eq,mI];show d9]
  refine mJ (mY 1 JU<|Zo<|Zb (Yh (pv 0) T.ae T.aN (Y1 T) hr.m T.aw.b .nil Zz)<|Zb (Yh (pv 0) T.ae T.bK (Wd T) hr.m T.aU.b .nil Zz)<|Zb (Yh (pv 0) T.ae T.dJ (NJ T) hr.m T.bR.b .nil Zz)<|Zb (Yh (pv 0) T.ae T.bV (Wm T) hr.m T.aW.b .nil Zz) Za) #[z.obj,rfl,I,F,x,G,ad,L,val,g,rfl,z,λl c p2 u o J j e1=>#[(z.mono J).obj,rfl,I,F,x,G,ad,L,val,g,rfl,z.mono J,λe a B n2 e2=>#[(z.mono<|J.trans B).obj,rfl,I,F,x,G,ad,L,val,g,rfl,z.mono<|J.trans B,λsts p3 p4 l3 H3 s3 n3 e3=>#[(z.mono<|J.trans<|B.trans s3).obj,rfl,I,F,x,G,ad,L,val,g,rfl,z.mono<|J.trans<|B.trans s3,λss' l4 j7 H4 p5 p6 s4 n4 e4 f4 _=>#[mM,λl5 H5 s5 n5 e5=>?_]]]]];obtain rfl:=yi p2 p6<|c.trans p5.symm;have K5:=J.trans<|B.trans<|s3.trans<|s4.trans s5;have V1:=z.mono K5;have d1:Yg 96004 4 (DY l L sts val):=by
   unfold DY;refine Yg.up (Yg.list (n:=24000) (k:=3) (m:=4) (λd hd=>?_) (by show nw 4)) (by lk) (by lk);simp only[nQ,wf,sU]at hd;rcases hd with rfl|rfl|rfl|rfl
   ·show(Kg (y c).1 (y c).2).up (by lk) (by lk)
   ·refine(Yg.dict (n:=6) (k:=0) (m:=40) (λd hd=>?_) (by rw[FW,mI,mI];have:=z.lwl;lia)).up (by lk) (by lk);obtain⟨a,b⟩:=d;obtain⟨j,hb⟩:=tz hd;obtain⟨t,Y,rfl⟩:=mV.mp j;obtain⟨u,e,rfl⟩:=mV.mp hb;have o:=(z.kx.lok.2 u e).2;show#[AR<|z.kx.nok.2 _ (z.kx.lok.2 t Y).1,.str (Wr _ o).1 (Wr _ o).2]
   ·refine(Kg (m:=40) (λt Y=>?_) (by rw[p3.length_eq,mI];show z.stl)).up (by lk) (by lk);obtain⟨U,N,rfl⟩:=mV.mp<|p3.mem_iff.mp Y;show z.kx.nok.2 _ (z.kx.sok.2 U N).1
   ·show MZ (y c).1 (y c).2 z.kx.nok z.kx.pok
  have d2:Yg 70 1 (GW g l):=by
   refine Yg.list (n:=6) (k:=0) (m:=10) (λd hd=>?_) (by rw[mI];show(y c).2);obtain⟨t,Y,rfl⟩:=mV.mp hd;obtain⟨U,N,rfl⟩:=mV.mp<|c.mem_iff.mp Y;rw[Wp z.lnd N];have:=h4 U N;show TM U.2 (by lia)
  have z1:=d1.half (by lk);have z2:=d2.half (by lk);have e0:sizeLine=16777216:=rfl;have r1:Rp H5 (DY l L sts val) (.ref l5):=.lst e5<|.cons (Of<|(B.trans<|s3.trans<|s4.trans s5).at e1)<|.cons (EN<|(s3.trans<|s4.trans s5).at e2)<|.cons (Of<|(s4.trans s5).at e3)<|.cons (f4 ▸ (e4.mono s5).rp) .nil;refine mK (Zl<|Zp Wo (Z7 (r:=yE) (AM hb hr.gd hr.units) (by rfl) T.fR zT<|Zb (pv 1) Za)<|Z7 (r:=yE) (AM hb hr.gd hr.units) (by rfl) T.fR zT<|Zb (pR ["_law_name","_law_keeper"] (oZ 1 [0] rfl) (Yn<|Yh (pv 0) T.ae T.aN (Y1 T) hr.m T.aw.b .nil Zz) (oF 0) Wh (Ya (pv 1) T.ae T.ft (YU T) hr.m T.cw.b .nil Zz<|Zb (pv 0) Za)) Za) #[l5,_,rfl,r1,d1.1,oi d1.2.2.1 (by lk),by lia,V1.obj,rfl,I,F,x,G,ad,L,val,g,rfl,V1,λss' p7 p8 u H6 s6 o e6=>?_];obtain rfl:=yi p2 p8<|c.trans p7.symm;refine#[mO e6,λC hC=>Xc (xs:=l.map V.str) (λi ys H'=>ys=((l.take i).map λt=>V.int (((g.lookup t).getD 0:Nat):Int))/\H' C=some (.lst ys)/\mz H6 H') #[rfl,Zd,pr hC] ?_ ?_ ?_]
  ·rintro i ys H' _ ⟨_,_,u⟩;show mO<|u.at e6
  ·rintro j v ys H7 a ⟨rfl,M,s7⟩;rw[nK]at a;obtain⟨t,Y,rfl⟩:=nU.mp a;obtain⟨U,N,rfl⟩:=mV.mp<|c.mem_iff.mp<|pe Y;have u:=V1.mono<|s6.trans s7;have N1:=(y c).2;unfold qG;refine#[pA rfl,u.obj,rfl,I,F,x,G,ad,L,val,g,U,rfl,u,N,λH8 s8=>#[s8.at M,?_,?_,Zd,λb o e=>?_]]
   ·rw[mI,oq];show Zq (by lia)
   ·rw[ol,Y,ng];change _=_++[V.int (((g.lookup U.1).getD 0:Nat):Int)];rw[Wp z.lnd N]
    rfl
   ·rw[Ze (Zg e hC)];show s8.at<|s7.at e
  ·rintro ys H7 ⟨rfl,M,s7⟩;rw[mI,oR]at M;have u:Rp H7 (GW g l) (.ref C):=QU M;show#[C,_,rfl,u,d2.1,oi d2.2.2.1 (by lk),by lia,.inr<|.inl #[_,_,rfl,rfl,by lia,q _ H7 (K5.trans<|s6.trans s7) #[l,sts,c,p2,p3,p4,rfl]]]
def DQ(sn:lQ)(qs:lP S4):Tr:=.tup<|.str sn ::qs.map qM
def pG.im(h:pG ns H t sn qs):Im K H 2 (DQ sn qs) (.ref t):=by
 obtain⟨x,z,y⟩:=h;show uw (n:=1) (mQ z)<|.cons (.str _) y.im
def Qb(h:Paired (λt ss=>pG ns H t sn ss) ts z):Paired (Im K H 2) (z.map<|DQ sn) (ts.map V.ref):=by
 induction h with
 | nil=>show .nil
 | cons r _ y=>show .cons r.im y
inductive Jw(T:Tx K mg):Sp
 | mk (H0) (F:lR->Prop) (x tr dt ad) (lw:lP (lQ×lQ)) (val:lQ->lP Zt) (ln:lP (lQ×Nat)) (ps js) (sg:lP (lQ×lQ×lQ)) (nm) (cell:Int):vs=[.ref x,.ref tr,.str nm,.int cell,.ref dt]->nJ T H0 H F x tr ad lw val ln->rJ ps ad lw->Z5 T H0 tr ps js sg->Y2 ps js sg->qQ T H0->nm∈ln.map fst->val nm≠[]->H dt=some (.dK<|Z0 V.bl [])->
  (∀v (H':Hp) (F':lR->Prop) (B6:pI) (V9:lP (lQ×lQ)) (N9:lQ->lP Zt),(∀b,F' b->F b\/H b=none)->wP F H H'->rJ ps B6 V9->B6.sd=ad.sd->(∀t,val t≠[]->N9 t≠[])->nJ T H0 H' F' x tr B6 V9 N9 ln->Q v H')->Jw T vs H Q E
def WR:T.ef.O P w mg mB 11 (Jw T):=by
 refine T.ef.F.okL T.fk yb λcdc A my s H vs Q E hL I h=>?_
 ·obtain⟨H0,F,x,tr,dt,ad,lw,val,ln,ps,js,sg,nm,cell,rfl,Y,A9,ht,yv,tb,hm,u9,U4,q⟩:=h;intro X D;obtain⟨n,_,_,_,_,_,_,_,_,T3,_⟩:=(ht.mono Y.same).ex;refine mJ (mY 5 yb<|mW (Ya (pv 0) T.ae T.bo (X9 T) I.m T.ap.b .nil Zz<|Zb (pv 2) Za)<|vi vF Zc) #[Y.obj,rfl,H0,F,x,tr,ad,lw,val,ln,nm,rfl,Y,hm,λl H1 s1 n ⟨ts,hl,i9⟩=>?_];obtain⟨ws,tq,rfl⟩:∃ws tq,ts=ws++[tq]:=by
   have:ts≠[]:=λy=>by
    rw[y]at i9;show u9<|sJ.mp (nG i9).symm
   show#[ts.dropLast,ts.getLast this,(Ac _).symm]
  obtain⟨N,_,rq⟩:=oQ i9 (i:=ws.length) (a:=tq) (by simp);have rq:qK H1 tq N:=rq;have la:oy ((ws++[tq]).map V.ref) (-1)=some (.ref tq):=by
   rw[ng];show zN _ _
  refine .inl #[mO hl,la,?_];refine mJ (mY 6 yb<|Ya (pv 1) T.am T.aQ (Y7 T) I.m T.ar.b .nil Zz<|Zb (Zj<|Zb (mW (pv 5) Zc)<|Zb (mW (pv 5) Zc) Za) Za) #[s1.at T3,rfl,.inr<|.inl #[mQ rq,Zm (j:=0) rfl,.inr<|.inl #[mQ rq,Zm (j:=2) rfl,mM,λn g s2 c l=>#[tr,n,(N.1,N.2.2.1),ps,js,sg,rfl,ht.mono (Y.mono<|s1.trans s2).same,yv,l,λM hn=>?_]]]];refine mJ (mY 7 yb<|Zo Za) #[mM,λl3 n s3 l e3=>?_];have D5:=s1.trans<|s2.trans s3;have O5:=Y.mono D5;let I25:IC:=λz H'=>∃(l4:lR)(C:lP (lP S4)),z=[some (.ref x),some<|.ref tr,some<|.str nm,some<|.int cell,some<|.ref dt,some<|.ref tq,some<|.str M,some<|.ref l4,none]/\mz H H'/\qz (ps.map snd) H' l4 M C/\(∀r∈C,yK r)/\(C≠[]->∃e:Zh,((M,e):lQ×lQ×lQ)∈sg)
  refine pU I25 (pQ (Zr (sy I (pv 6) Zf) Zn Zi)<|.inl #[rfl,Yf (λy=>?_) λ_=>#[l3,[],rfl,D5,#[[],e3,.nil],(λ_ y=>nomatch y),λy=>absurd rfl y]]) ?_
  ·have y:M≠ "":=λu=>by
    rw[u]at y;show absurd y (by left)
   rcases hn with⟨n,_,_⟩|⟨n,_⟩
   ·obtain⟨g,hg,l⟩:=mV.mp n;have hg:((M,(N.1,N.2.2.1)):lQ×lQ×lQ)∈sg:=(show g=(M,N.1,N.2.2.1)from l) ▸ hg;show mK (mY 7 yb<|Zv (Qv T) I<|Zb (pv 1)<|Zb (pv 6) Za) #[tr,(M,(N.1,N.2.2.1)),ps,js,sg,rfl,ht.mono O5.same,yv,hg,λl4 C H4 s4 c r4 G ok=>#[l4,C,rfl,D5.trans s4,r4,ok,λ_=>#[_,hg]]]
   ·show absurd n y
  rintro z H4 ⟨l4,C,rfl,s4,⟨us,e4,r4⟩,okr,hsg⟩;have C7:=nG r4;refine mJ (Zr (We I (pv 7)<|Zo Za) Zn Zi) #[mM,λc G B n5 l=>.inr<|.inl #[3,.lst<|C.map<|DQ M,.lst [],by lk,.inr #[_,_,rfl,rfl],tP (mO<|B.at e4)<|Qb<|ny r4 λ_ _ r=>r.mono B,tP (mO l) .nil,Yf (λy=>mK (Zl<|Zj<|Zb Zf<|Zb Zf Za) #[mM,λt6 g n _ _=>q _ g F ad lw val (λb y=>.inl y) (DW<|s4.trans<|B.trans n) A9 rfl (λ_ y=>y)<|Y.mono<|s4.trans<|B.trans n]) λy=>?_]];have K6:C≠[]:=λu=>y (by rw[u];show nM rfl)
  obtain⟨e,hg⟩:=hsg K6;have K5:=s4.trans B;have V1:=Y.mono K5;have C3:0<us.length:=by rw[C7];show AX λu=>K6<|sJ.mp u
  obtain⟨j,hj,w6⟩:=tO (a:=cell) (n:=us.length) C3;obtain⟨p,hu⟩:∃p,us[j]? =some p:=#[_,oA w6]
  obtain⟨qs,hqs,ru⟩:=oQ r4 hu;refine mJ (mY 8 yb<|mW (pv 7)<|Zp Ye (pv 3)<|pq T.ba<|pv 7)<|.inl #[.inl<|mO<|B.at e4,(by rw[mI];change(0:Int)<_;lia),.inl #[mO<|B.at e4,(show oy _ (cell%(((us.map V.ref).length:Nat):Int))=some (.ref p)from by rw[mI,hj];show Zm<|by rw[nK,hu];rfl),?_]];have tb5:=tb.mono V1.same;refine mK (Zl<|Zj<|Zb (pv 8)<|Zb (Bw (Ca T) I.m (λ_=>rfl) rfl T.aq.m T.aq.F.kp T.aq.b<|Zb (CN (Pt:=T.cy) rfl hL) Za) Za) #[_,tb5._law_led,oM,λl g s7 n7 n=>BA T n (fs:=["_law_keeper","_law_name","_law_way","_law_seen"]) (fvs:=[.ref x,.str nm,.ref p,.ref dt]) (.cons #[0,_,rfl,rfl,rfl,rfl,rfl,rfl]<|.cons #[2,_,rfl,rfl,rfl,rfl,rfl,rfl]<|.cons #[8,_,rfl,rfl,rfl,rfl,rfl,rfl]<|.cons #[4,_,rfl,rfl,rfl,rfl,rfl,rfl] .nil) ?_ ?_ ?_ (λ_ _ _=>rfl) (by left) (by left) rfl rfl rfl λG c A my s E sG qe I=>su (Ya (pv 0) T.ae T.cK (Pr T) I.m T.aE.b .nil Dz<|Zb (pv 1)<|Zb (pv 2)<|Zb (pv 3) Za) ?_]
  ·simp
  ·simp;decide +kernel
  ·simp;lia
  have C0:=K5.trans s7;have L:=C0.trans sG;have hwG:=Y.mono L;refine#[hwG.obj,rfl,.mk H0 F x tr p dt ad lw val ln ps js sg nm (M,e) qs [] rfl hwG A9 ht yv tb hm u9 hg (ru.mono<|B.trans<|s7.trans sG) (okr _<|pe hqs).2 (L.at U4) (λ_ _ l n ad8 f8 off8 ns8 sd8 _ _ k8 H9 bk=>#[mM,λd U J _ _=>?_]) (λ_ l g=>qe 2 none none l (by lk) rfl g rfl λH9 s9=>?_) (λn o c l hn _ _ g G=>qe n (some o) (some c) l (by lia) (by rcases hn with rfl|rfl|rfl<;>rfl) g #[c,rfl,G] λH9 s9=>?_)]
  ·have k9:=(k8.back bk<|Y.same.trans C0).mono J;refine q _ U _ ad8 _ _ (λb y=>?_) (λb n l y=>?_) ns8 sd8 (λt g=>?_) k9
   ·rcases f8 b y.1 with u|u
    ·show .inl u
    ·show .inr<|L.free u
   ·show J.at<|bk.old _ _ _ (C0.at y)<|off8 _ _ l<|L.at y
   ·unfold X7;split
    ·show λy=>u9 (Hn.mp y).1
    ·show g
  all_goals
   have fin:∀d U,mz H9 U->Q (.ref d) U:=λd U J=>q _ U F ad lw val (λb y=>.inl y) (DW<|C0.trans<|s9.trans J) A9 rfl (λ_ y=>y)<|Y.mono<|C0.trans<|s9.trans J
   show#[λ_=>#[mM,λd U J _ _=>fin d U J],λo _ t _=>#[mM,λd U J _ _=>fin d U J]]
def qo.offL(h:qo H C x nm)(y:H c=some (.lst xs)):qo (mH H c o) C x nm:=by
 obtain⟨u,h⟩:=h;show#[u,(Ze λz=>by rw[z,y]at h;cases h).trans h]
def JX(H:Hp)(t:lR)(ps:lP Zh)(u:lP (Zh×Zh))(s:lP (lQ×lQ×lQ)):Prop:=∃z y x,H t=some (.tup [.ref z,.ref y,.ref x])/\Zw H z ps/\Yq H y u/\uO H x s
inductive Pk:Sp
 | mk (t ps js sg):vs=[.ref t]->JX H t ps js sg->Y2 ps js sg->(∀x H',mz H H'->H x=none->Z5 T H' x ps js sg->Q (.ref x) H')->Pk vs H Q E
def Zmp:T.dS.O P w mg mB 7 (Pk T):=by
 refine T.dS.F.okA ?_;rfl'
 ·obtain⟨t,U,js,sg,rfl,⟨z,jl,sl,N,⟨ts,M,L⟩,w6,N1⟩,a,q⟩:=h;intro X D;have N5:=nG L;have J:=a.len;refine mK (Zl<|wM (Kn T) T.iy (Sa T) hr.m rfl T.iN T.bM.b .nil Zz (UE T)<|Zb (pR ["_law_kind","_law_name"] (oZ 2 [] rfl) (Yn<|mW (pv 0) Zc) (ze (K:=K) (n:=2) rfl rfl<|Zy (oF 0)<|Zy (oF 1) Xq) Wh (Zv (Zp2 T) hr<|Zb (pv 0)<|Zb (pv 1) Za))<|Zb (mW (pv 0) Zc)<|Zb (mW (pv 0) Zc) Za)<|.inr<|.inl #[mQ N,Zm (j:=0) rfl,mO M,λD I=>Xc (K:=K) (xs:=ts.map V.ref) (λi d Y=>(∃l:lP lR,d=l.map V.ref/\Paired (PO T Y) l (U.take i))/\Y D=some (.lst d)/\mz H Y) #[#[[],rfl,.nil],Zd,pr I] ?_ ?_ ?_]
  ·rintro i d Y _ ⟨_,_,z⟩;show mO<|z.at M
  ·rintro i v d H1 G ⟨⟨l,rfl,y⟩,c,r⟩;rw[nK]at G;obtain⟨u,hu,rfl⟩:=nU.mp G;obtain⟨p,B,g⟩:=oQ L hu;have g:H u=some (.tup [.str p.1,.str p.2]):=g;have hm:p∈U:=pe B;have hxl:l.length<=100:=by
    have:=nG y;rw[oq]at this;lia
   refine#[mQ<|r.at g,rfl,rfl,(pA rfl).trans (pA rfl),p.1,p.2,rfl,a.net.kind p hm,(a.name p hm).2.1,λx C H2 e n2 hC hO=>#[e.at c,by rw[mI];show Zq (by lia),#[l++[x],by rw[ng];rfl,?_],Zd,λb o z=>?_]]
   ·rw[ol,B];show pJ (ny y λ_ _ ⟨C,o,z2⟩=>#[C,o,(z2.mono e).offL (e.at c)])<|.cons #[C,hC,hO.offL<|e.at c] .nil
   ·rw[Ze (Zg z I)];show e.at<|r.at z
  ·rintro d H1 ⟨⟨l,rfl,y⟩,c,r⟩;rw[mI,N5,oR]at y;show(.inr<|.inl #[mQ<|r.at N,Zm (j:=1) rfl,.inr<|.inl #[mQ<|r.at N,Zm (j:=2) rfl,D,jl,sl,l,U,js,sg,rfl,c,y,w6.mono r,N1.mono r,a,λx H2 e n2 z=>q x H2 (r.trans e) (r.free n2) z]])
def rH(f:lQ->Bool)(ps:lP Zh):lP lQ:=(ps.filter λp=>f p.1).map snd
def Oq(f:lQ->Bool)(ps:lP Zh):(rH f ps).length<=ps.length:=by
 unfold rH;rw[mI];show wI _ _
def Vz{f:lQ->Bool} :n∈rH f ps↔∃k,((k,n):Zh)∈ps/\f k=true:=by
 unfold rH
 constructor
 ·intro h;obtain⟨p,x,rfl⟩:=mV.mp h;obtain⟨z,y⟩:=vA.mp x;show#[p.1,z,y]
 ·rintro⟨k,z,y⟩;show mV.mpr #[_,vA.mpr #[z,y],rfl]
def OG{f:lQ->Bool}(U:r pl=some (.lst<|ts.map V.ref))(e:Paired (Zu r) ts ps)(C:ps.length<=100)(d:r D=none)(q:∀u,mz r u->u D=some (.lst<|(rH f ps).map V.str)->Q (.ref D) u){fr:St->St}(N:fr z=[none,none])(l:∀z H Q s,z[0]? =some (some<|V.str s)->Q (f s) H->M z H Q)(L:J=rO 1) :
  sw (tW K pl) fr (FG K 2<|Iq (qW 0)<|Iq (qW 1) LR) M J Q z r D:=by
 refine Xc (xs:=ts.map V.ref) (λi p u=>p=(rH f<|ps.take i).map V.str/\u D=some (.lst p)/\mz r u) #[rfl,Zd,pr d] ?_ ?_ ?_
 ·rintro i p u _ ⟨_,_,n⟩;show mO<|n.at U
 ·rintro j v p u c ⟨rfl,a,n⟩;rw[nK]at c;obtain⟨t,h,rfl⟩:=nU.mp c;obtain⟨⟨s,g⟩,I,G⟩:=oQ e h;have E:=Oq f<|ps.take j;rw[oq]at E;have Y:rH f (ps.take<|j+1)=rH f (ps.take j)++if f s=true then[g]else[]:=by
   unfold rH;rw[ol,I,tD,ng,show(some ((s,g):Zh)).toList=[(s,g)]from rfl,rC];split<;>rfl
  unfold qG;rw[N,L];refine#[mQ<|n.at G,rfl,rfl,(pA rfl).trans (pA rfl),l _ _ _ s rfl<|Yf (λy=>?_) λy=>?_]
  ·rw[Y,mT y];refine#[a,by rw[mI];show Zq (by lia),by rw[ng];rfl,Zd,λb o x=>?_];rw[Ze (Zg x d)];show n.at x
  ·rw[Y,mS y,qf];show#[rfl,a,n]
 ·rintro p y ⟨rfl,x,o⟩;refine q y o ?_;rw[x,mI,nG e,oR]
def xI{H:Hp}{l:lR}{ss:lP lQ}(h:H l=some (.lst<|ss.map V.str)):Im K H 1 (.lst<|ss.map Tr.str) (.ref l):=tP (n:=0) (mO h)<|Paired.strs _
def yY(k:lQ):Bool:=decide<|V.str k=V.str "points"
def SB:n∈rH yY ps↔(("points",n):Zh)∈ps:=by
 rw[Vz]
 constructor
 ·rintro⟨k,z,y⟩;rw[V.str.inj (ow y)]at z;show z
 ·show λh=>#[_,h,by left]
structure Kp(Hs:Hp)(Fs:Addr->Prop)(sd:Addr)(H:Hp)(F:Addr->Prop):Prop where
 at':∀b o,Hs b=some o->¬Fs b->b≠sd->H b=some o
 fr:∀b,F b->Fs b\/Hs b=none
def Kp.on{x F r:lR->Prop}(h:Kp q x s H F)(p:H s=some u)(off:wP F H l)(j:∀b,r b->F b\/H b=none):Kp q x s l r where
 at':=λb o e n i=>off b o (λf=>(h.fr b f).elim n (λz=>by rw[e]at z;cases z)) (h.at' b o e n i)
 fr:=λb f=>(j b f).elim (h.fr b) λz=>by
  cases y:q b with
  | none=>show .inr rfl
  | some o =>
   by_cases k:x b
   ·show .inl k
   ·by_cases m:b=s
    ·rw[m,p]at z;cases z
    ·rw[h.at' b o y k m]at z;cases z
def Kp.mono{z F:lR->Prop}(h:Kp y z x H F)(s:mz H u):Kp y z x u F:=#[λb o e n r=>s.at<|h.at' b o e n r,h.fr]
structure wB(T:Tx K mg)(H0 Hs:Hp)(Fs:Addr->Prop)(sd x tr:Addr)(ps:List Zh)(i:Nat)(H:Hp)(F:Addr->Prop)(ad:pI)(lw:List (Str×Str))(val:Str->List Zt)(ln:List (Str×Nat)):Prop where
 k:nJ T H0 H F x tr ad lw val ln
 kp:Kp Hs Fs sd H F
 sd':ad.sd=sd
 ns:rJ ps ad lw
 ne:∀t∈ln.map fst,val t≠[]
 l4:∀p∈ln,p.2<=4
 nm:∀t∈ln.map fst,t∈([("ta":Str),"b","t2"]:List Str).take i
 ll:ln.length<=i
def wB.mono{z F:lR->Prop}{val:lQ->lP Zt}(h:wB U y u z r x q ps i H F ad lw val p)(s:mz H o):wB U y u z r x q ps i o F ad lw val p:=#[h.k.mono s,h.kp.mono s,h.sd',h.ns,h.ne,h.l4,h.nm,h.ll]
def wB.next{z F:lR->Prop}{val:lQ->lP Zt}(h:wB U y u z s x r ps i H F ad lw val q):wB U y u z s x r ps (i+1) H F ad lw val q:=#[h.k,h.kp,h.sd',h.ns,h.ne,h.l4,λt p=>by
 have:=h.nm t p;show(List.take_subset_take_left _<|tw i) this,Nat.le_succ_of_le h.ll]
inductive Ma:Sp
 | mk (t cl) (ps:lP Zh) (js) (sg:lP (lQ×lQ×lQ)) (cs:lP Int):vs=[.ref t,.ref cl]->JX H t ps js sg->Y2 ps js sg->qQ T H->H cl=some (.lst<|cs.map V.int)->cs.length<=3->(∀(tp x tr:lR)(H0 H':Hp)(F:lR->Prop)(ad:pI)(lw:lP (lQ×lQ)) (val:lQ->lP Zt) (ln:lP (lQ×Nat)),mz H H0->H' tp=some (.tup [.ref x,.ref tr])->Z5 T H0 tr ps js sg->nJ T H0 H' F x tr ad lw val ln->rJ ps ad lw->(∀t∈ln.map fst,val t≠[])->(∀p∈ln,p.2<=4)->ln.length<=3->Q (.ref tp) H')->Ma vs H Q E
inductive AB(T:Tx K mg)(H0 Hs:Hp)(Fs:Addr->Prop)(sd x tr:Addr)(ps:List Zh)(i:Nat)(ln:List (Str×Nat))(H:Hp):Prop
 | mk (F ad lw val):wB T H0 Hs Fs sd x tr ps i H F ad lw val ln->AB T H0 Hs Fs sd x tr ps i ln H
inductive DT(T:Tx K mg)(H0 Hs:Hp)(Fs:Addr->Prop)(sd x tr:Addr)(ps:List Zh)(t cl lg lp:Addr)(i:Nat):St->Hp->Prop
 | mk (a4 a5 a7 a8 a9 a10 a11 a13 ln):AB T H0 Hs Fs sd x tr ps i ln H->DT T H0 Hs Fs sd x tr ps t cl lg lp i [some (.ref t),some<|.ref cl,some<|.ref tr,some<|.ref lg,a4,a5,some<|.ref lp,a7,a8,a9,a10,a11,some<|.ref x,a13] H
def UY:T.dh.O P w mg mB 12 (Ma T):=by
 refine T.dh.F.okL T.dZ Yo λcdc A my s H vs Q E hL I h=>?_
 ·obtain⟨t,cl,Y,js,sg,cs,rfl,ya,yv,tb,w5,O2,q⟩:=h;intro X D;refine mJ (mY 2 Yo<|Zv (Zmp T) I<|Zb (pv 0) Za) #[t,Y,js,sg,rfl,ya,yv,λN L s1 n1 M=>?_];refine mJ (mY 12 Yo<|wM (QN T) T.iA (WX T) I.m rfl T.iP T.bO.b .nil Zz (Zxb T)<|Zb (pv 2) Za) #[N,Y,js,sg,rfl,M,yv,λx H2 F ad lw nx A9 hlw k2=>?_];refine mJ (mY 3 Yo<|Zo Za) #[mM,λC H3 s3 n3 e3=>?_];obtain⟨pl,jl,sl,y1,⟨ts,y2,y3⟩,_⟩:=ya;have N5:=nG y3;have ylen:=yv.len;have m6:=k2.same.trans s3;have D5:=s1.trans m6;have g1:L C=none:=k2.same.free n3;obtain⟨dxt,_,_,_,_,_,_,_,_,T3,_⟩:=M.ex;let I26:IF:=λi z J=>(∃o4 o5,z=[some (.ref t),some<|.ref cl,some<|.ref N,some<|.ref C,o4,o5,none,none,none,none,none,none,some<|.ref x,none])/\(∀b o,b≠C->H3 b=some o->J b=some o)/\∃B:lP lQ,J C=some (.lst<|B.map V.str)/\B.length<=i/\∀g∈B,(("gate",g):Zh)∈Y/\((g,"a"):Zh)∈sg.map snd
  refine mJ (Y9 pC rfl (Yn<|mW (pv 0) Zc) (sI rfl<|Zy (oh 4 Yo)<|Zy (oh 5 Yo) Xq) Zn)<|.inr<|.inl #[mQ<|D5.at y1,Zm (j:=0) rfl,mO<|D5.at y2,W2 (K:=K) (xs:=ts.map V.ref) I26 #[#[none,none,rfl],λ_ _ _ y=>y,[],e3,nw _,λ_ y=>nomatch y] ?_ ?_ ?_]
  ·rintro i z J _ ⟨_,d,_⟩;show mO<|d _ _ (λy=>by rw[y]at y2;rw[s1.at y2]at g1;cases g1)<|D5.at y2
  ·rintro i v z H4 hi ⟨⟨o4,o5,rfl⟩,d,B,eg,hgl,hgs⟩;rw[nK]at hi;obtain⟨u,hu,rfl⟩:=nU.mp hi;obtain⟨p,hp,hpu⟩:=oQ y3 hu;have B3:i<ts.length:=(oN.mp hu).1;have hpm:p∈Y:=pe hp;have sm:mz L H4:=λb o e=>d b o (λy=>by rw[y,g1]at e;cases e)<|m6.at e
   have hpu:H4 u=some (.tup [.str p.1,.str p.2]):=sm.at<|s1.at hpu;refine#[mQ hpu,rfl,rfl,?_];refine mK (Zr (pF<|vU (We I (pv 4) Zf)<|wj<|sy I (Ya (pv 2) T.am T.aQ (Y7 T) I.m T.ar.b .nil Zz<|Zb (Zj<|Zb (pv 5)<|Zb Zf Za) Za) Zf) Zn Zi)<|.inl #[rfl,Yf (λy=>#[sm.at T3,rfl,mM,λt5 H5 s5 n5 e5=>#[N,t5,(p.2,"a"),Y,js,sg,rfl,M.mono<|sm.trans s5,yv,e5,λsn hn=>.inl #[rfl,Yf (λr=>?_) λ_=>#[#[_,_,rfl],λb o nb e=>s5.at<|d b o nb e,B,s5.at eg,by lia,hgs]]]]) λ_=>#[#[_,_,rfl],d,B,eg,by lia,hgs]];have hk:p.1 ="gate":=V.str.inj<|ow y;have hse:((p.2,"a"):Zh)∈sg.map snd:=by
    rcases hn with⟨_,_,m⟩|⟨m,_⟩
    ·show m
    ·rw[m]at r;show absurd r (by left)
   refine mK (Z3<|ro (pv 3)<|pv 5) #[.inl #[rfl,_,mO<|s5.at eg],s5.at eg,?_,#[_,_,rfl],λb o nb e=>?_,B++[p.2],?_,?_,?_]
   ·rw[mI];show Zq (by lia)
   ·rw[Ze nb];show s5.at<|d b o nb e
   ·rw[Zd,ng];rfl
   ·rw[nW,xl];lia
   ·intro g hg;rcases ou.mp hg with m|m
    ·show hgs g m
    ·rw[pD.mp m];show#[by rw[<-hk];show hpm,hse]
  rintro z H4 ⟨⟨o4,o5,rfl⟩,d,B,eg,hgl,hgs⟩;rw[mI]at hgl;have sm:mz L H4:=λb o e=>d b o (λy=>by rw[y,g1]at e;cases e)<|m6.at e
  have J9:=s1.trans sm;have y1':=J9.at y1;have y2':=J9.at y2;let I27:IC:=λz J=>∃lp,z=[some (.ref t),some<|.ref cl,some<|.ref N,some<|.ref C,o4,o5,some<|.ref lp,none,none,none,none,none,some<|.ref x,none]/\mz H4 J/\H4 lp=none/\J lp=some (.lst<|(rH yY Y).map V.str)
  refine pU I27 (pQ (yO 6 ["_law_kind","_law_one"] Yo (oZ 2 [] rfl) (Yn<|mW (pv 0) Zc) (ze (K:=K) (n:=2) rfl rfl<|Zy (oF 0)<|Zy (oF 1) Xq) (uY<|Z2 (r:=za K) (BF I) (pv 0) Zf<|Ym _) (pv 1))<|.inr<|.inl #[mQ y1',Zm (j:=0) rfl,mO y2',λD hD=>OG (f:=yY) y2' (ny y3 λ_ _ n=>n.mono J9) (by lia) hD (λHD sD eD=>#[D,rfl,sD,hD,eD]) ?aa (λ_ _ _ _ e h=>oV.of e<|.inl #[rfl,h]) ?cc]) ?_
  case aa=>rfl
  case cc=>rfl
  rintro z H5 ⟨lp,rfl,s5,nlp,elp⟩;have hpn:∀l∈rH yY Y,(("points",l):Zh)∈Y:=λl hn=>SB.mp hn
  have p0:=Oq yY Y;generalize rH yY Y=pn at elp hpn p0;have s24:mz H2 H4:=λb o e=>d b o (λy=>by rw[y,n3]at e;cases e)<|s3.at e
  have B5:=s24.trans s5;have k5:=k2.mono B5;have b5:wB T L H5 F ad.sd x N Y 0 H5 F ad lw (λ_=>[]) []:=#[k5,#[λ_ _ e _ _=>e,λ_ y=>.inl y],rfl,A9,(λ_ y=>nomatch y),(λ_ y=>nomatch y),(λ_ y=>nomatch y),nw _]
  have glg:¬F C/\C≠ad.sd:=#[k2.neF n3,λy=>by rw[y,k2.sti]at n3;cases n3]
  have glp:¬F lp/\lp≠ad.sd:=#[(k2.mono s24).neF nlp,λy=>by rw[y,(k2.mono s24).sti]at nlp;cases nlp]
  have gcl:¬F cl/\cl≠ad.sd:=#[(λy=>by have:=k2.free cl y;rw[s1.at w5]at this;cases this),(λy=>by have:=k2.kx.s0;rw[<-y,s1.at w5]at this;cases this)]
  have elg:=s5.at eg;have ecl:=(J9.trans s5).at w5;refine mJ (Y9 pC rfl (xS rfl T.cD<|Zb (pv 1) Za) (sI rfl<|Zy (oh 7 Yo)<|Zy (oh 10 Yo) Xq) Zn) #[mO ecl,yP (K:=K) (xs:=cs.map V.int) (DT T L H5 F ad.sd x N Y t cl C lp) (.mk _ _ _ _ _ _ _ _ _<|.mk _ _ _ _ b5) ?_ ?_ ?_]
  ·rintro i z J _ ⟨_,_,_,_,_,_,_,_,_,⟨_,_,_,_,b⟩⟩;show mO<|b.kp.at' _ _ ecl gcl.1 gcl.2
  ·rintro i v z H6 hi ⟨a4,a5,a7,a8,a9,a10,a11,a13,ln6,⟨F6,ad6,lw6,val6,b6⟩⟩ tp H7 s7 n7 e7;rw[nK]at hi;obtain⟨c,hc,rfl⟩:=nU.mp hi;have B3:i<3:=pM (oN.mp hc).1 O2;refine#[mQ e7,rfl,rfl,?_];obtain⟨nm,E3,hnv,w9,hnin⟩:∃nm:lQ,([V.str "ta",.str "b",.str "t2"])[i]? =some (.str nm)/\Xb nm/\nm∉([("ta":lQ),"b","t2"]:lP lQ).take i/\nm∈([("ta":lQ),"b","t2"]:lP lQ).take (i+1):=by
    match i,B3 with
    | 0,_=>show#[_,rfl,by unfold Xb;decide +kernel,by left,by left]
    | 1,_=>show#[_,rfl,by unfold Xb;decide +kernel,by left,by left]
    | 2,_=>show#[_,rfl,by unfold Xb;decide +kernel,by left,by left]
   refine mJ (mY 13 Yo<|mW (Zo<|Zb Zf<|Zb Zf<|Zb Zf Za)<|pv 7) #[mM,λl8 H8 s8 n8 e8=>.inl #[mO e8,Zm E3,?_]];have b8:=b6.mono<|s7.trans s8;let I28:IC:=λz J=>z=[some (.ref t),some<|.ref cl,some<|.ref N,some<|.ref C,a4,a5,some<|.ref lp,some<|.int (i:Int),a8,a9,some<|.int c,a11,some<|.ref x,some<|.str nm]/\∃ln',AB T L H5 F ad.sd x N Y i ln' J
   refine pU I28 (pQ (Zr (pF<|vU (sy I (pv 6)<|Zo Za)<|wj<|We I (Zp Ye (Zp Yi (pv 10) Zc) Zc) Zc) Zn Zi) #[mM,λl9 H9 s9 n9 e9=>.inr<|.inl #[1,_,.lst [],by lk,.inr #[_,_,rfl,rfl],xI<|(b8.mono s9).kp.at' _ _ elp glp.1 glp.2,tP (mO e9) .nil,Yf (λu9=>#[#[by lk,by lk],(by change(0:Int)<3;decide),.inl #[rfl,Yf (λy=>?_) λ_=>#[rfl,_,.mk _ _ _ _<|b8.mono s9]]]) λ_=>#[rfl,_,.mk _ _ _ _<|b8.mono s9]]]) ?_
   ·have U:=b8.mono s9;have ep9:=U.kp.at' _ _ elp glp.1 glp.2;have C3:0<pn.length:=AX λr=>by
     rw[sJ.mp r]at u9;simp at u9
    obtain⟨j,hj,w6⟩:=tO (a:=c / 27) (n:=pn.length) C3;obtain⟨pt,E7⟩:∃u,pn[j]? =some u:=#[_,oA w6]
    refine mK (Z3<|Ya (pv 12) T.ae T.eR (Zig T) I.m T.cp.b .nil Zz<|Zb (mW (pv 6)<|Zp Ye (Zp Yi (pv 10) Zc)<|pq T.ba<|pv 6) Za) #[U.k.obj,rfl,#[by lk,by lk],.inl #[.inl<|mO ep9,(by rw[mI];change(0:Int)<_;lia),.inl #[mO ep9,(show oy _ ((c / 27)%(((pn.map V.str).length:Nat):Int))=some (.str pt)from by rw[mI,hj];show Zm<|by rw[nK,E7];rfl),L,F6,x,N,ad6,lw6,val6,ln6,Y,js,sg,pt,rfl,U.k,M,yv,hpn pt<|pe E7,U.ns,λHA adA kA sA nA aA=>#[rfl,ln6,.mk F6 adA lw6 val6 #[aA,#[λb o e l ns=>kA b o (by rw[U.sd'];show ns)<|U.kp.at' b o e l ns,U.kp.fr],sA.trans U.sd',nA,U.ne,U.l4,U.nm,U.ll]]]]]
   rintro z HB ⟨rfl,lnB,⟨FB,adB,lwB,valB,bB⟩⟩;refine mJ (mY 8 Yo Zf) ?_;have tb1:=tb.mono s1;let I29:IC:=λz J=>∃cv b11 ln',z=[some (.ref t),some<|.ref cl,some<|.ref N,some<|.ref C,a4,a5,some<|.ref lp,some<|.int (i:Int),some cv,a9,some<|.int c,b11,some<|.ref x,some<|.str nm]/\AB T L H5 F ad.sd x N Y (i+1) ln' J/\(cv=.str "none"\/(cv=.str "done"/\nm∈ln'.map fst)\/∃u y p,cv=.ref u/\J u=some (.tup [y,p]))
   refine pU I29 (pQ (Zr (sy I (pv 3)<|Zo Za) Zn Zi) #[mM,λl9 H9 s9 n9 e9=>.inr<|.inl #[1,_,.lst [],by lk,.inr #[_,_,rfl,rfl],xI<|(bB.mono s9).kp.at' _ _ elg glg.1 glg.2,tP (mO e9) .nil,Yf (λu9=>?_) λ_=>#[_,_,_,rfl,.mk _ _ _ _ (bB.mono s9).next,.inl rfl]]]) ?_
   ·have U:=bB.mono s9;have eg9:=U.kp.at' _ _ elg glg.1 glg.2;have C3:0<B.length:=AX λr=>by
     rw[sJ.mp r]at u9;simp at u9
    obtain⟨j,hj,w6⟩:=tO (a:=c / 81) (n:=B.length) C3;obtain⟨g,hg⟩:∃u,B[j]? =some u:=#[_,oA w6]
    obtain⟨gp,gsg⟩:=hgs g<|pe hg;obtain⟨m,hm,hm4⟩:=tO (a:=c) (n:=4) (by lk);have hm:(1:Int)+c%4=((m+1:Nat):Int):=by
     have:c%4=(m:Int):=hm;lia
    have hnl:nm∉lnB.map fst:=λy=>w9<|U.nm nm y
    refine mJ (mY 11 Yo<|mW (pv 3)<|Zp Ye (Zp Yi (pv 10) Zc)<|pq T.ba<|pv 3) #[#[by lk,by lk],.inl #[.inl<|mO eg9,(by rw[mI];change(0:Int)<_;lia),.inl #[mO eg9,(show oy _ ((c / 81)%(((B.map V.str).length:Nat):Int))=some (.str g)from by rw[mI,hj];show Zm<|by rw[nK,hg];rfl),?_]]];have tb9:=tb1.mono U.k.same;refine mK (mY 8 Yo<|Bw (Ca T) I.m (λ_=>rfl) rfl T.aq.m T.aq.F.kp T.aq.b<|Zb (CN (Pt:=T.bx) rfl hL) Za) #[_,tb9._law_begun,oM,λfl HL sL nL cl'=>BA T cl' (fs:=["_law_keeper","_law_name","_law_cell","_law_gate"]) (fvs:=[.ref x,.str nm,.int c,.str g]) (.cons #[12,_,rfl,rfl,rfl,rfl,rfl,rfl]<|.cons #[13,_,rfl,rfl,rfl,rfl,rfl,rfl]<|.cons #[10,_,rfl,rfl,rfl,rfl,rfl,rfl]<|.cons #[11,_,rfl,rfl,rfl,rfl,rfl,rfl] .nil) ?_ ?_ ?_ (λ_ _ _=>rfl) (by left) (by left) rfl rfl rfl λG c' A' outer' s' E' sG qe M5=>?_]
    ·simp
    ·simp;decide +kernel
    ·simp;lia
    have bL:=U.mono sL;have bG:=bL.mono sG
    by_cases hh:Cw lnB valB g
    ·refine su (Ya (pv 0) T.ae T.dW (Zlv T) M5 T.aF.b .nil Dz<|Zb (pv 1)<|Zb (Zp Wo Zc<|Zp Ye (pv 2) Zc)<|Zb (pv 3)<|Zb Ws Za) #[bG.k.obj,rfl,(by change(0:Int)<4;decide),.inl λdt HD sD nD eD=>#[L,FB,x,N,dt,adB,lwB,valB,lnB,[],Y,js,sg,.str nm,.int ((m+1:Nat):Int),.str g,T.aX,some g,by rw[<-hm];rfl,bG.k.mono sD,M,yv,tb1,eD,.inr #[nm,rfl,hnv,hnl,.inr #[g,rfl,gp,.inr #[gsg,.inr #[m+1,rfl,by lia,by lia,rfl,.inl #[rfl,hh]]]]],#[(λy=>nomatch y),λp hp dx HE sE nE eE=>qe 4 (some p) (some dx) HE (by lk) rfl (sD.trans sE) #[dx,rfl,eE] λJ s'=>#[(λy=>nomatch y),λp' _ u hu=>#[_,_,_,rfl,.mk _ _ _ _ (bL.mono s').next,.inr<|.inr #[u,_,_,rfl,hu]]]]]]
    ·refine su (Ya (pv 0) T.ae T.dW (XB T) M5 T.aF.b .nil Zz<|Zb (pv 1)<|Zb (Zp Wo Zc<|Zp Ye (pv 2) Zc)<|Zb (pv 3)<|Zb Ws Za) #[bG.k.obj,rfl,(by change(0:Int)<4;decide),.inl λdt HD sD nD eD=>#[L,FB,x,N,dt,adB,lwB,valB,lnB,[],Y,js,sg,nm,g,m+1,by rw[<-hm];rfl,bG.k.mono sD,bG.ns.ns,M,yv,tb1,eD,bG.k.neF nD,#[hnv,hnl,gp,gsg,by lia,by lia,hh,rfl,by have:=U.ll;lia],λHC FC adC sub fr off kC on H3 bk=>#[_,_,_,rfl,.mk _ adC lwB _ #[kC.back bk bL.k.same,bL.kp.on (by rw[<-bL.sd'];show bL.k.sti) (λb o l y=>bk.old _ _ _ y<|off _ _ l<|(sG.trans sD).at y) λb y=>(fr b y.1).imp id λr=>(sG.trans sD).free r,on.2.1.trans bG.sd',#[on.2.2.2.1.trans bG.ns.ns,by rw[on.2.2.1];show bG.ns.st,bG.ns.lw],λt' E8=>?_,λp hp=>?_,λt' E8=>?_,?_],.inr<|.inl #[rfl,by simp]]]]
     ·unfold X7;split
      ·show λy=>absurd (Hn.mp y).2 (by simp)
      ·rename_i ne;rw[ng,ou]at E8;rcases E8 with y|y
       ·show bG.ne t' y
       ·show absurd (pD.mp y) ne
     ·rcases ou.mp hp with y|y
      ·show bG.l4 p y
      ·rw[pD.mp y];change m+1<=4;lia
     ·rw[ng,ou]at E8;rcases E8 with y|y
      ·show U.next.nm t' y
      ·rw[pD.mp y];show hnin
     ·rw[nW,xl];have:=U.ll;lia
   rintro z HC ⟨cv,b11,lnC,rfl,⟨FC,adC,lwC,valC,bC⟩,hcv⟩;obtain⟨m3,hm3,hm33⟩:=tO (a:=c / 1000) (n:=3) (by lk);have hm3:c / 1000%3=(m3:Int):=hm3;refine mK (Y9 pC rfl (Ld rfl T.di<|Zb (Zp xc (Zp Ye (Zp Yi (pv 10) Zc) Zc)<|Yu Ic (by rfl) T.fi wK<|Zb (zo (r:=Jx K) (YB I) (pv 8) Zf<|Ym _) Za) Za) (oh 9 Yo) Zn) #[#[by lk,by lk],(by change(0:Int)<3;decide),?_];rcases hcv with rfl|⟨rfl,S0⟩|⟨u,y,p,rfl,hu⟩
   ·refine .inl<|.inl #[rfl,.inr #[_,rfl,?_]];refine#[?cm,_,rfl,?lo,?hi,?fr]
    case fr =>
     rw[show c / 1000%3 * (if decide (V.str "none"=V.str "done")=true then 1 else 0)=((0:Nat):Int)from by rw[mS (by left)];lia];show wS (lo:=0) (n:=0) (λ_=>DT T L H5 F ad.sd x N Y t cl C lp<|i+1) (.mk _ _ _ _ _ _ _ _ _<|.mk _ _ _ _ bC) (λ_ _ _ y=>absurd y<|CT _) λ_ _ y=>y
    case cm=>show .inl #[by change -(2 ^ 64)<c / 1000%3;lia,by change c / 1000%3<2 ^ 64;lia]
    case lo=>rw[mS (by left)];lia
    case hi=>rw[mS (by left)];lia
   ·refine .inl<|.inl #[rfl,.inr #[_,rfl,?_]];refine#[?cm,_,rfl,?lo,?hi,?fr]
    case fr =>
     rw[show c / 1000%3 * (if decide (V.str "done"=V.str "done")=true then 1 else 0)=((m3:Nat):Int)from by rw[mT (by left)];lia];let I30:IF:=λ_ z J=>(∃c9,z=[some (.ref t),some<|.ref cl,some<|.ref N,some<|.ref C,a4,a5,some<|.ref lp,some<|.int (i:Int),some<|.str "done",c9,some<|.int c,b11,some<|.ref x,some<|.str nm])/\AB T L H5 F ad.sd x N Y (i+1) lnC J
     refine wS (lo:=0) (n:=m3) I30 #[#[_,rfl],.mk _ _ _ _ bC] ?_ ?_
     ·rintro k z HD hk ⟨⟨c9,rfl⟩,⟨FD,adD,lwD,valD,bD⟩⟩;refine mK (Z3<|Zv (WR T) I<|Zb (pv 12)<|Zb (pv 2)<|Zb (pv 13)<|Zb (Xs (Wj T) I rfl T.ak.m T.ak.F.kp T.ak.b .nil Zz<|Zb (pv 10)<|Zb (pv 9) Za)<|Zb Ws Za) #[_,_,rfl,λdt HE sE nE eE=>?_];have bE:=bD.mono sE;refine#[L,FD,x,N,dt,adD,lwD,valD,lnC,Y,js,sg,nm,_,rfl,bE.k,bE.ns,M,yv,tb1,S0,bE.ne nm S0,eE,λv HF FF adF lwF valF frF offF nsF sdF neF kF=>#[#[_,rfl],.mk FF adF lwF valF #[kF,bE.kp.on (by rw[<-bE.sd'];show bE.k.sti) offF frF,sdF.trans bE.sd',nsF,λt' E8=>neF t'<|bE.ne t' E8,bE.l4,bE.nm,bE.ll]]]
     ·rintro z HD ⟨⟨c9,rfl⟩,bD⟩;show .mk _ _ _ _ _ _ _ _ _ bD
    case cm=>show .inl #[by change -(2 ^ 64)<c / 1000%3;lia,by change c / 1000%3<2 ^ 64;lia]
    case lo=>rw[mT (by left)];lia
    case hi=>rw[mT (by left)];lia
   ·refine .inr #[u,_,_,rfl,rfl,mQ hu,.inr #[_,rfl,?_]];refine#[?cm,_,rfl,?lo,?hi,?fr]
    case fr =>
     rw[show c / 1000%3 * (if false=true then 1 else 0)=((0:Nat):Int)from by rw[mS (by left)];lia];show wS (lo:=0) (n:=0) (λ_=>DT T L H5 F ad.sd x N Y t cl C lp<|i+1) (.mk _ _ _ _ _ _ _ _ _<|.mk _ _ _ _ bC) (λ_ _ _ y=>absurd y<|CT _) λ_ _ y=>y
    case cm=>show .inl #[by change -(2 ^ 64)<c / 1000%3;lia,by change c / 1000%3<2 ^ 64;lia]
    case lo=>rw[mS (by left)];lia
    case hi=>rw[mS (by left)];lia
  ·rintro z HZ ⟨a4,a5,a7,a8,a9,a10,a11,a13,lnZ,⟨FZ,adZ,lwZ,valZ,bZ⟩⟩;rw[mI]at bZ;show mK (Zl<|Zj<|Zb (pv 12)<|Zb (pv 2) Za) #[mM,λtp HY sY nY eY=>q tp x N L HY FZ adZ lwZ valZ lnZ s1 eY M (bZ.k.mono sY) bZ.ns bZ.ne bZ.l4<|oi bZ.ll O2]
def zy(K:lV):R2:=λx y H Q=>uq K x y H Q\/∃a u z,x=.ref a/\y=.str z/\SqT K H a u/\Q (.bl true) H
def Ra(i:X.A.units+64<cLine):nV X (compareOp .NotEq) (λx y H Q=>∃a xs u,x=.ref a/\y=.str u/\SqT X.K H a xs/\Q (.bl true) H):=by
 intro g s z H x y v r Q I p o h;obtain⟨a,xs,u,rfl,rfl,n,q⟩:=h;cases p;obtain⟨t,rfl⟩:=(show ∃t,r=Value.str u t from o)
 obtain⟨l,e,j,_⟩:=I.tuple n;show PySem.SeqAt.RcNeAt.tuple_str u t (show s.heap.IsTuple a l.toArray from j) (by lia) _ _ _ _ #[.bl true,H,I,rfl,q]
def CI(z:Y6 k X.A):nV X (compareOp .NotEq) (zy X.K):=(vD z).or (Ra z.units)
def NH(H:Hp)(v:V):lU (lQ×lQ)->Prop
 | none=>v=.str "done"
 | some z=>∃t,v=.ref t/\H t=some (.tup [.str z.1,.str z.2])
def wY(val:lQ->lP Zt)(ts:lP lQ):lP lQ:=ts.flatMap λt=>(val t).map fst
theorem NN{val:lQ->lP Zt}(h:∀t,(val t).length<=100):∀ts:lP lQ,(wY val ts).length<=100 * ts.length
 | []=>nw _
 | t ::ts=>by
  have:=NN h ts;have:=h t;unfold wY at *;rw[DX,nW,mI,pi];lia
def NX{val:lQ->lP Zt}(u:ts.Perm trs):x∈wY val ts↔∃t∈trs,x∈(val t).map fst:=by
 unfold wY;rw[vJ];show#[λ⟨t,z,y⟩=>#[t,u.mem_iff.mp z,y],λ⟨t,z,y⟩=>#[t,u.mem_iff.mpr z,y]]
def RW{st:lP (lQ×Bool)}(h:∀p∈st,p.2=true):((st.lookup x).getD false=true)↔x∈st.map fst:=by
 induction st with
 | nil=>show#[λz=>(by cases z),λz=>(by cases z)]
 | cons p st u =>
  have u:=u λq s=>h q<|pc _ s
  rw[nS,nQ,<-u,rE]
  by_cases e:x=p.1
  ·subst e;rw[show(p.1 ==p.1)=true from yl _];show#[λ_=>.inl rfl,λ_=>h p oM]
  ·rw[show(x ==p.1)=false from sF.mpr e];show#[.inr,λz=>z.elim (λy=>absurd y e) id]
inductive IS:Sp
 | mk (H0) (F:lR->Prop) (x tr a dt) (ad:pI) (lw:lP (lQ×lQ)) (val:lQ->lP Zt) (ln:lP (lQ×Nat)) (ps) (sn:lQ) (qs:lP S4) (td:lP (lQ×Bool)):vs=[.ref x,.ref a,.ref dt]->nJ T H0 H F x tr ad lw val ln->rJ ps ad lw->pG (ps.map snd) H a sn qs->qs.length<=12->(∀q∈qs,(q.2.2.2≠ "" ↔ (("points",q.1):Zh)∈ps))->H dt=some (.dK<|Z0 V.bl td)->(∀v H',mz H H'->NH H' v (sN (ln.map fst) #[lw,ad.st,val,td] qs)->Q v H')->IS vs H Q E
def TK:T.dE.O P w mg mB 5 (IS T):=by
 refine T.dE.F.okW Wn ?_;rfl'
 ·obtain⟨H0,F,x,tr,a,dt,ad,n,val,l,ps,sn,U,g,rfl,C,E7,⟨us,ha,m9⟩,U6,P6,U4,q⟩:=h;intro X D;have ha:H a=some (.tup<|V.str sn ::us.map V.ref):=ha;have C7:=m9.len;have d9:=C.len;refine mJ (mY 3 Wn<|Zo Za) #[mM,λM H1 s1 n1 e1=>?_];have x0:=C.mono s1;let I31:IC:=λz d=>∃L Y N,z=[some (.ref x),some<|.ref a,some<|.ref dt,some<|.ref Y,L,none]/\mz H d/\N.Perm (l.map fst)/\d Y=some (.lst<|(wY val N).map V.str)
  refine pU I31 ?_ ?_
  ·refine pQ (Y9 pC rfl (Yn<|Yh (pv 0) T.ae T.aN (Y1 T) hr.m T.aw.b .nil Zz) (oh 4 Wn) Zn) #[x0.obj,rfl,H0,F,x,tr,ad,n,val,l,rfl,x0,λN p1 p2 l2 H2 s2 n2 e2=>#[mO e2,W2 (K:=K) (xs:=N.map V.str) (λi z d=>∃(L:lU V)(Y:lR),z=[some (.ref x),some<|.ref a,some<|.ref dt,some<|.ref Y,L,none]/\mz H2 d/\d Y=some (.lst<|(wY val<|N.take i).map V.str)) #[none,M,rfl,pL _,s2.at e1] ?_ ?_ ?_]]
   ·rintro i z d _ ⟨_,_,_,sm,_⟩;show mO<|sm.at e2
   ·rintro i v z H3 hi ⟨L,Y,rfl,s3,h3⟩;rw[nK]at hi;obtain⟨t,E8,rfl⟩:=nU.mp hi;have O5:=x0.mono<|s2.trans s3;have N6:=C.vl t;have U2:=NN C.vl<|N.take i;have N1:N.length<=10:=by rw[p1.length_eq,mI];show d9
    rw[oq]at U2;refine mK (mY 3 Wn<|Zp Wo (pv 3)<|pR ["_law_step"] (oZ 1 [] rfl) (Yn<|Ya (pv 0) T.ae T.bo (X9 T) hr.m T.ap.b .nil Zz<|Zb (pv 4) Za) (oF 0) Wh (qC (K:=K) rfl (pv 0) Zc)) #[O5.obj,rfl,H0,F,x,tr,ad,n,val,l,t,rfl,O5,p1.mem_iff.mp<|pe E8,λl4 H4 s4 n4 ⟨ts,hl,i9⟩=>#[mO hl,λD hD=>DN (f:=fst) hl (ny i9 λ_ _ r=>#[_,r]) (by lia) hD (λH5 s5 U0=>?_) rfl (λ_ _ _ h=>h) λ_ _ _ _ _ _ e h q=>oV.of e<|.inr<|.inl #[mQ h,Zm (j:=0) rfl,q]]];have s35:=s4.trans s5;refine .inr<|.inr #[s35.at h3,U0,?_,λl7 H7 s7 n7 e7=>#[_,l7,rfl,s3.trans<|s35.trans s7,?_]]
    ·rw[mI,mI,mI];have e0:sizeLine=16777216:=rfl;lia
    ·rw[e7,ol,E8,<-ng];unfold wY;rw[yB];simp
   ·rintro z d ⟨L,Y,rfl,s3,h3⟩;rw[mI,oR]at h3;show#[L,Y,N,rfl,s1.trans<|s2.trans s3,p1,h3]
  rintro z H2 ⟨L,Y,N,rfl,s2,hp,h3⟩;refine mJ (Y9 pC rfl (xo<|Xp (r:=qV K) rj (pv 1) (X2 Zc) X5) (oh 5 Wn) Zn)<|.inl #[mQ<|s2.at ha,Wc _ _,λp8 H8 s8 n8 e8=>?_];rw[xD]at e8;have s28:=s2.trans s8;let I32:IF:=λi z d=>∃o5,z=[some (.ref x),some<|.ref a,some<|.ref dt,some<|.ref Y,L,o5]/\mz H8 d/\sN (l.map fst) #[n,ad.st,val,g] U=sN (l.map fst) #[n,ad.st,val,g] (U.drop i)
  refine#[mQ e8,BN (K:=K) (xs:=us.map V.ref) I32 #[none,rfl,pL _,rfl] ?_ ?_ ?_]
  ·rintro i z d _ ⟨_,_,sm,_⟩;show mQ<|sm.at e8
  ·rintro i v z H9 hi ⟨o5,rfl,s9,J⟩;rw[nK]at hi;obtain⟨u,hu,rfl⟩:=nU.mp hi;obtain⟨r,K0,hq,okq⟩:=m9.get hu;have hdr:U.drop i=r ::U.drop (i+1):=by
    have B3:=(oN.mp K0).1;rw[wo B3,(oN.mp K0).2]
   have hkr:=P6 r<|pe K0;have D6:=s28.trans s9;have I:=hq.mono D6;have B:=C.mono D6;have J:sN (l.map fst) #[n,ad.st,val,g] U=Wa ((if r.2.2.2 ="" then[Rl.held r.1,.taken r.1]else[.held r.1,.taken r.1,.lies r.1 r.2.2.2]).map (pE (l.map fst) #[n,ad.st,val,g])++(qF<|U.drop<|i+1).map (pE (l.map fst) #[n,ad.st,val,g])):=by
    rw[J,hdr,<-ng];rfl
   have fin:∀{w:lQ}{R:VK},sN (l.map fst) #[n,ad.st,val,g] U=some (w,r.1)->∀d,mz H9 d->∀t,d t=some (.tup [.str w,.str r.1])->Q (.ref t) d:=λe d s' t et=>q _ d (D6.trans s') (by rw[e];show#[t,rfl,et])
   refine mJ (Zr (uj hr (mW (pv 5) Zc)<|pv 3) Zn Zi)<|.inr<|.inl #[mQ I,Zm (j:=0) rfl,.inl #[.inl<|mO<|(s8.trans s9).at h3,rfl,Y8 _,?_]];rw[mS oH,Xw];refine Yf (λy=>mK (Zl<|Zj<|Zb Zf<|Zb (mW (pv 5) Zc) Za)<|.inr<|.inl #[mQ I,Zm (j:=0) rfl,mM,λt HA sA nA eA=>fin (R:=Q) ?_ HA sA t eA]) λy=>?_
   ·rw[J];have e:pE (l.map fst) #[n,ad.st,val,g] (.held r.1)=some (("held":lQ),r.1):=mT<|(NX hp).mp (ow y);split<;>(show Wa (pE _ _ (.held r.1) ::_)=_;rw[e];rfl)
   have B2:pE (l.map fst) #[n,ad.st,val,g] (.held r.1)=none:=mS λp=>y<|nM<|(NX hp).mpr p
   refine mJ (Zr (Yk<|yq (Xo hr) (pv 2) (mW (pv 5) Zc) qr #[rfl,rfl,rfl,rfl]) Zn Zi) #[dt,rfl,.inl #[_,.inl<|D6.at U4],.inr<|.inl #[mQ I,Zm (j:=0) rfl,_,qy (k:=Sum.inr r.1)<|D6.at U4,?_]];rw[AO,show(Option.map V.bl<|g.lookup r.1).getD (V.bl false)=V.bl ((g.lookup r.1).getD false)from by cases g.lookup r.1<;>rfl];refine Yf (λz1=>mK (Zl<|Zj<|Zb Zf<|Zb (mW (pv 5) Zc) Za)<|.inr<|.inl #[mQ I,Zm (j:=0) rfl,mM,λt HA sA nA eA=>fin (R:=Q) ?_ HA sA t eA]) λz1=>?_
   ·rw[J];have e:pE (l.map fst) #[n,ad.st,val,g] (.taken r.1)=some (("taken":lQ),r.1):=mT z1;split<;>(show Wa (pE _ _ (.held r.1) ::pE _ _ (.taken r.1) ::_)=_;rw[B2,e];rfl)
   have hta:pE (l.map fst) #[n,ad.st,val,g] (.taken r.1)=none:=mS z1;have go:(r.2.2.2≠ ""->pE (l.map fst) #[n,ad.st,val,g] (.lies r.1 r.2.2.2)=none)->sN (l.map fst) #[n,ad.st,val,g] U=sN (l.map fst) #[n,ad.st,val,g] (U.drop<|i+1):=λhli=>by
    rw[J];split
    ·change Wa (pE _ _ (.held r.1) ::pE _ _ (.taken r.1) ::_)=_;rw[B2,hta];rfl
    ·rename_i hc;change Wa (pE _ _ (.held r.1) ::pE _ _ (.taken r.1) ::pE _ _ (.lies r.1 r.2.2.2) ::_)=_;rw[B2,hta,hli hc];rfl
   have hsk:=RW (x:=r.1) λo hp=>(C.kx.sok.2 o hp).2
   refine mK (Zr (pF<|vU (uj hr (mW (pv 5) Zc)<|Yh (pv 0) T.ae T.dJ (NJ T) hr.m T.bR.b .nil Zz)<|wj<|sy hr (W5 (Xo hr) (Yh (pv 0) T.ae T.bK (Wd T) hr.m T.aU.b .nil Zz) (mW (pv 5) Zc) λ_ _=>rfl)<|mW (pv 5) Zc) Zn Zi)<|.inr<|.inl #[mQ I,Zm (j:=0) rfl,B.obj,rfl,H0,F,x,tr,ad,n,val,l,rfl,B,λJ5 pst _ ls HB sB nB eB=>.inl #[.inl<|mO eB,rfl,Y8 _,?_]];rw[mS oH,Xw];refine Yf (λz2=>?_) λz2=>#[_,rfl,s9.trans sB,go λ_=>?_];rotate_left
   ·change Wx _ _ _=_;unfold Wx xH;rw[mS (c:=(ad.st.lookup r.1).getD false=true) λp=>z2<|nM<|pst.mem_iff.mpr<|hsk.mp p];split<;>rfl
   have z2:=pst.mem_iff.mp<|ow z2;obtain⟨o,hp1,T8⟩:=mV.mp z2;have G:(("points",r.1):Zh)∈ps:=T8 ▸ E7.st o hp1;obtain⟨⟨n0,M⟩,hl0,hn0⟩:=mV.mp<|(E7.lw r.1).mpr G;have hn0:n0=r.1:=hn0;rw[hn0]at hl0;have hv:Xm (Z0 V.str n) (Xl r.1)=some (.str M):=uX C.kx.lok.1 hl0;have hlk:n.lookup r.1=some M:=by
    have:=hv;rw[show Xl r.1=Sum.inr r.1 from rfl,AO]at this;cases p:n.lookup r.1 with
    | none=>rw[p]at this;cases this
    | some l1=>rw[p]at this;show oJ some<|V.str.inj<|oo this
   have hwB:=B.mono sB;refine#[hwB.obj,rfl,H0,F,x,tr,ad,n,val,l,rfl,hwB,λld HC sC nC eC=>.inr<|.inl #[mQ<|(sB.trans sC).at I,Zm (j:=0) rfl,vS.mk (v:=.str M) (by rw[<-hv];show qy (k:=Xl r.1) eC)<|.inr<|.inl #[mQ<|(sB.trans sC).at I,Zm (j:=3) rfl,.inl #[rfl,Yf (λz3=>?_) λz3=>#[_,rfl,s9.trans<|sB.trans sC,go λ_=>?_]]]]]
   ·refine mK (Zl<|Zj<|Zb Zf<|Zb (mW (pv 5) Zc) Za)<|.inr<|.inl #[mQ<|(sB.trans sC).at I,Zm (j:=0) rfl,mM,λt HA sA nA eA=>fin (R:=Q) ?_ HA (sB.trans<|sC.trans sA) t eA];rw[J,mS<|hkr.mpr G];change Wa (pE _ _ (.held r.1) ::pE _ _ (.taken r.1) ::Wx _ r.1 r.2.2.2 ::_)=_;rw[B2,hta];have e:Wx (#[n,ad.st,val,g]:Gd) r.1 r.2.2.2=some (("stiff":lQ),r.1):=by
     unfold Wx xH;rw[mS λp=>?_,mT<|hsk.mpr z2];rw[hlk]at p;have p:M=r.2.2.2:=p;rw[p]at z3;rw[nM rfl]at z3;show absurd z3 (by lk)
    rw[e];rfl
   ·change Wx _ _ _=_;unfold Wx;refine mT ?_;rw[hlk];change M=_
    by_cases p:M=r.2.2.2
    ·show p
    ·show absurd (by rw[og λy'=>p<|V.str.inj y'];rfl) z3
  ·rintro z H9 ⟨o5,rfl,s9,J⟩;refine mK (Zl Zf)<|q _ H9 (s28.trans s9) ?_;rw[J,mI,C7,Be];show rfl
def XS(xs:lP V):rh xs none (some (-1))=xs.dropLast:=by
 unfold rh;rw[HT.sIx_none,EO,Nat.sub_zero,GE];change xs.take (if(-1:Int)<0 then(-1+(xs.length:Int)).toNat else min (-1:Int).toNat xs.length)=_;rw[mT (by lk)];congr 1;lia
def YK(x:V)(xs:lP V):¬(HT.sIx (x ::xs).length 0 none=0/\HT.sIx (x ::xs).length (x ::xs).length (some (-1))=(x ::xs).length):=λ⟨_,z⟩=>by
 have z:(if(-1:Int)<0 then(-1+((x ::xs).length:Int)).toNat else min (-1:Int).toNat (x ::xs).length)=(x ::xs).length:=z;rw[mT (by lk),pi]at z;lia
def BC(T:Tx K mg)(ps:lP Zh)(x:lP (lQ×lQ×lQ))(H:Hp)(v:V):Prop:=(∃a,∃g:lQ×Zh,∃z,v=.ref a/\(g:lQ×lQ×lQ)∈x/\pG (ps.map snd) H a g.1 z/\z.length<=12)\/∀y,mz H y->Ai K y v
def BC.mono(e:mz H z)(h:BC U ps y H v):BC U ps y z v:=h.imp (λ⟨a,g,x,u,r,q,p⟩=>#[a,g,x,u,r,q.mono e,p]) λh o s=>h o<|e.trans s
inductive NC:Sp
 | mk (H0) (F:lR->Prop) (x tr) (ad:pI) (lw:lP (lQ×lQ)) (val:lQ->lP Zt) (ln:lP (lQ×Nat)) (ps js) (sg:lP (lQ×lQ×lQ)) (nm) (cell:Int):vs=[.ref x,.ref tr,.str nm,.int cell]->nJ T H0 H F x tr ad lw val ln->Z5 T H0 tr ps js sg->Y2 ps js sg->nm∈ln.map fst->val nm≠[]->(∀v H',mz H H'->BC T ps sg H' v->Q v H')->NC vs H Q E
def WT:T.dU.O P w mg mB 7 (NC T):=by
 refine T.dU.F.okW Xk ?_;rfl'
 ·obtain⟨H0,F,x,B,ad,lw,val,ln,ps,js,M,nm,cell,rfl,L,ht,yv,hm,u9,q⟩:=h;intro X D;obtain⟨o,_,_,_,_,_,_,_,_,T3,_⟩:=(ht.mono L.same).ex;refine mJ (mY 4 Xk<|Ya (pv 0) T.ae T.bo (X9 T) hr.m T.ap.b .nil Zz<|Zb (pv 2) Za) #[L.obj,rfl,H0,F,x,B,ad,lw,val,ln,nm,rfl,L,hm,λl H1 s1 o ⟨ts,hl,i9⟩=>?_];obtain⟨ws,tq,rfl⟩:∃ws tq,ts=ws++[tq]:=by
   have:ts≠[]:=λy=>by
    rw[y]at i9;show u9<|sJ.mp (nG i9).symm
   show#[ts.dropLast,ts.getLast this,(Ac _).symm]
  obtain⟨J,_,rq⟩:=oQ i9 (i:=ws.length) (a:=tq) (by simp);have rq:qK H1 tq J:=rq;have la:oy ((ws++[tq]).map V.ref) (-1)=some (.ref tq):=by
   rw[ng];show zN _ _
  refine mJ (yO 5 ["_law_row"] Xk (oZ 1 [] rfl) (Yn<|Yh (pv 1) T.am T.cJ (Fm T) hr.m T.aZ.b .nil Zz) (oF 0) Wh (qC (K:=K) rfl (pv 0) Zc)) #[s1.at T3,rfl,B,ps,js,M,rfl,ht.mono (L.mono s1).same,yv,λl2 C Y H2 s2 n2 o r2 p2=>#[mO o,λD hD=>DN (f:=fst) o (ny r2 λ_ _ r=>#[_,r]) (by rw[p2.length_eq];have:=yv.sigs.len;lia) hD (λH3 s3 hD3=>?_) rfl (λ_ _ _ h=>h) λ_ _ _ _ _ _ e h q=>oV.of e<|.inr<|.inl #[mQ h,Zm (j:=0) rfl,q]]];have m6:=s2.trans s3;have D5:=s1.trans m6;have hl3:=m6.at hl;have rq3:=rq.mono m6;refine mJ (mY 6 Xk<|Ya (pv 1) T.am T.aQ (Y7 T) hr.m T.ar.b .nil Zz<|Zb (Zj<|Zb (mW (mW (pv 4)<|vi vF Zc) Zc)<|Zb (mW (mW (pv 4)<|vi vF Zc) Zc) Za) Za) #[D5.at T3,rfl,.inl #[mO hl3,la,.inr<|.inl #[mQ rq3,Zm (j:=0) rfl,.inl #[mO hl3,la,.inr<|.inl #[mQ rq3,Zm (j:=2) rfl,mM,λt2 C s4 n4 o=>#[B,t2,(J.1,J.2.2.1),ps,js,M,rfl,ht.mono (L.mono<|D5.trans s4).same,yv,o,λd hn=>?_]]]]]];have J9:=D5.trans s4;have Q5:=s4.at hD3;have T4:d =""\/∃e:Zh,((d,e):lQ×lQ×lQ)∈M:=by
   rcases hn with⟨h1,_,_⟩|⟨h1,_⟩
   ·obtain⟨g,hg,o⟩:=mV.mp h1;show .inr #[(J.1,J.2.2.1),(show g=(d,J.1,J.2.2.1)from o) ▸ hg]
   ·show .inl h1
  clear hn;let I33:IC:=λz c=>∃d:lQ,(d =""\/∃e:Zh,((d,e):lQ×lQ×lQ)∈M)/\z=[some (.ref x),some<|.ref B,some<|.str nm,some<|.int cell,some<|.ref l,some<|.ref D,some<|.str d,none,none]/\mz H c
  refine pU I33 ?_ ?_
  ·refine pQ (Zr (pF<|vU (sy hr (pv 5)<|Zo Za)<|wj<|pF<|W0 (We hr (pv 6) Zf)<|Wv<|We hr (Zp Ye (pv 3) Zc) Zc) Zn Zi) #[mM,λl5 H5 o n5 C=>.inr<|.inl #[1,.lst<|(Y.map fst).map Tr.str,.lst [],by lk,.inr #[_,_,rfl,rfl],xI<|o.at Q5,tP (mO C) .nil,Yf (λy=>?_) λ_=>#[d,T4,rfl,J9.trans o]]];have C3:0<(Y.map fst).length:=AX λu=>by
    rw[sJ.mp u]at y;rw[show decide (Tr.lst (List.map Tr.str [])=Tr.lst [])=true from nM rfl]at y;show absurd y (by lk)
   obtain⟨j,hj,w6⟩:=tO (a:=cell / 4) (n:=(Y.map fst).length) C3;obtain⟨p,hu⟩:∃p,(Y.map fst)[j]? =some p:=#[_,oA w6]
   have m9:∃e:Zh,((p,e):lQ×lQ×lQ)∈M:=by
    obtain⟨g,hg,rfl⟩:=mV.mp<|pe hu;show#[g.2,p2.mem_iff.mp hg]
   refine .inl #[rfl,Yf (λ_=>?_) λ_=>#[(by change(0:Int)<4;decide),.inl #[rfl,Yf (λ_=>?_) λ_=>#[d,T4,rfl,J9.trans o]]]]
   all_goals show mK (mY 6 Xk<|mW (pv 5)<|Zp Ye (Zp Yi (pv 3) Zc)<|pq T.ba<|pv 5) #[#[by lk,by lk],.inl #[.inl<|mO<|o.at Q5,(by rw[mI];change(0:Int)<_;lia),.inl #[mO<|o.at Q5,(show oy _ (cell / 4%((((Y.map fst).map V.str).length:Nat):Int))=some (V.str p)from by rw[mI,hj];show Zm<|by rw[nK,hu];rfl),p,.inr m9,rfl,J9.trans o]]]
  clear T4;rintro z H5 ⟨d,T4,rfl,K5⟩;have V1:=L.mono K5;refine mJ (mY 7 Xk<|Zo Za) #[mM,λl6 o s6 C e6=>?_];have I:=K5.trans s6;have hw6:=L.mono I;let I34:IC:=λz c=>∃(l4:lR)(N:lP (lP S4)),z=[some (.ref x),some<|.ref B,some<|.str nm,some<|.int cell,some<|.ref l,some<|.ref D,some<|.str d,some<|.ref l4,none]/\mz H c/\qz (ps.map snd) c l4 d N/\(∀r∈N,yK r)/\(N≠[]->∃e:Zh,((d,e):lQ×lQ×lQ)∈M)
  refine pU I34 (pQ (Zr (sy hr (pv 6) Zf) Zn Zi)<|.inl #[rfl,Yf (λy=>?_) λ_=>#[l6,[],rfl,I,#[[],e6,.nil],(λ_ y=>nomatch y),λy=>absurd rfl y]]) ?_
  ·have y:d≠ "":=λu=>by
    rw[u]at y;show absurd y (by left)
   obtain⟨e,he⟩:=T4.resolve_left y;show mK (mY 7 Xk<|Zv (Qv T) hr<|Zb (pv 1)<|Zb (pv 6) Za) #[B,(d,e),ps,js,M,rfl,ht.mono hw6.same,yv,he,λl4 N H7 o C r7 hz ok=>#[l4,N,rfl,I.trans o,r7,ok,λ_=>#[_,he]]]
  rintro z H7 ⟨l4,N,rfl,C0,⟨us,e7,r7⟩,okr,hsg⟩;have C7:=nG r7;refine mJ (Zr (pF<|W0 (We hr (pv 7)<|Zo Za)<|Wv<|We hr (Zp Ye (Zp Yi (pv 3) Zc) Zc) Zc) Zn Zi) #[mM,λl5 H8 G C o=>.inr<|.inl #[3,.lst<|N.map<|DQ d,.lst [],by lk,.inr #[_,_,rfl,rfl],tP (mO<|G.at e7)<|Qb<|ny r7 λ_ _ r=>r.mono G,tP (mO o) .nil,Yf (λy=>?od) λy=>#[#[by lk,by lk],(by change(0:Int)<9;decide),.inl #[rfl,Yf (λ_=>?oe) λ_=>?_]]]]
  case' od=>skip
  case' oe=>skip
  rotate_left 2
  ·have Q3:=C0.trans G;have K6:N≠[]:=λu=>y (by rw[u];show nM rfl)
   obtain⟨e,hg⟩:=hsg K6;have C3:0<us.length:=by rw[C7];show AX λu=>K6<|sJ.mp u
   obtain⟨j,hj,w6⟩:=tO (a:=cell / 1800) (n:=us.length) C3;obtain⟨p,hu⟩:∃p,us[j]? =some p:=#[_,oA w6]
   obtain⟨qs,hqs,ru⟩:=oQ r7 hu;have C:=okr _<|pe hqs;have ru:=ru.mono G;obtain⟨vs,hv1,hv2⟩:=id ru;refine mJ (mY 8 Xk<|mW (pv 7)<|Zp Ye (Zp Yi (pv 3) Zc)<|pq T.ba<|pv 7) #[#[by lk,by lk],.inl #[.inl<|mO<|G.at e7,(by rw[mI];change(0:Int)<_;lia),.inl #[mO<|G.at e7,(show oy _ (cell / 1800%(((us.map V.ref).length:Nat):Int))=some (.ref p)from by rw[mI,hj];show Zm<|by rw[nK,hu];rfl),?_]]];refine mJ (Zr (We hr (Zp Ye (Zp Yi (pv 3) Zc) Zc) Zc) Zn Zi) #[#[by lk,by lk],(by change(0:Int)<9;decide),.inl #[rfl,Yf (λ_=>mK (Zl<|Xp (r:=qV K) rj (pv 8) X5<|X2<|vi vF Zc)<|.inl #[mQ hv1,YK _ _,λo H9 s9 n9 e9=>q _ H9 (Q3.trans s9)<|.inl #[o,(d,e),qs.dropLast,rfl,hg,#[vs.dropLast,?_,?_],?_]]) λ_=>?_]]
   ·rw[XS,List.dropLast_cons_of_ne_nil λu=>C.1 (sJ.mp<|by rw[<-hv2.len,<-mI (f:=V.ref),u];rfl),<-List.map_dropLast]at e9;show e9
   ·obtain⟨h,o⟩:=hv2.mono s9;have N6:=nG h;rw[GE,GE,N6];show#[Bl _ h,λp' C9=>o p'<|xq C9]
   ·have:=C.2;rw[KI];lia
   refine mJ (Zr (We hr (Zp Ye (Zp Yi (pv 3) Zc) Zc) Zc) Zn Zi) #[#[by lk,by lk],(by change(0:Int)<9;decide),.inl #[rfl,Yf (λ_=>mK (Zl<|Yu (r:=xx K) yL (by rfl) T.ej xr<|Zb (pv 8) Za) #[.inr<|mQ hv1,λo H9 s9 n9 e9=>q _ H9 (Q3.trans s9)<|.inr λc U=>.inl #[_,.lst<|U.at e9,T.kf]]) λ_=>?_]];show mK (Zl<|pv 8)<|q _ H8 Q3<|.inl #[p,(d,e),qs,rfl,hg,ru,C.2]
  all_goals
   refine mK (Zl<|mW (Zo<|Zb Zf<|Zb rN<|Zb (Zj Za)<|Zb (Zj<|Zb Zf Za)<|Zb (Zj<|Zb (pv 6)<|Zb Zf Za)<|Zb (Zo<|Zb (pv 6) Za)<|Zb Zc Za)<|Zp Ye (Zp Yi (pv 3) Zc) Zc) #[mM,λa1 o t1 C f1=>#[mM,λa2 G2 t2 m2 f2=>#[mM,λa3 G3 t3 m3 f3=>#[mM,λa4 G4 t4 m4 f4=>#[mM,λa5 G5 t5 m5 f5=>?_]]]]];obtain⟨j,hj,w6⟩:=tO (a:=cell / 1800) (n:=7) (by lk);have g4:=t5.at f4;have g3:=(t4.trans t5).at f3;have g2:=(t3.trans<|t4.trans t5).at f2;have g1:=(t2.trans<|t3.trans<|t4.trans t5).at f1;obtain⟨v,hv,ho⟩:∃v,[V.str "",.non,.ref a1,.ref a2,.ref a3,.ref a4,.int 5][j]? =some v/\∀c,mz G5 c->Ai K c v:=by
    match j,w6 with
    | 0,_=>show#[_,rfl,λc _=>.inl #[_,.str _,T.lJ]]
    | 1,_=>show#[_,rfl,λc _=>.inl #[_,.non,T.lK]]
    | 2,_=>show#[_,rfl,λc U=>.inr<|.inl #[a1,_,rfl,U.at g1,by lk]]
    | 3,_=>show#[_,rfl,λc U=>.inr<|.inl #[a2,_,rfl,U.at g2,by simp]]
    | 4,_=>show#[_,rfl,λc U=>.inr<|.inr #[a3,d,rfl,U.at g3]]
    | 5,_=>show#[_,rfl,λc U=>.inl #[_,.lst<|U.at g4,T.kf]]
    | 6,_=>show#[_,rfl,λc _=>.inl #[_,.int _,T.lL]]
   show#[#[by lk,by lk],(by change(0:Int)<7;decide),.inl #[mO f5,(show oy _ (cell / 1800%((7:Nat):Int))=some v from by rw[hj];show Zm hv),q v G5 (C0.trans<|G.trans<|t1.trans<|t2.trans<|t3.trans<|t4.trans t5)<|.inr ho]]
section
variable {U:Tx K mg} {H0 H H':Hp} {F:lR->Prop} {x tr kd:lR} {ad:pI} {lw:lP (lQ×lQ)} {val:lQ->lP Zt} {ln:lP (lQ×Nat)}
def nJ.setU(h:nJ U H0 H F x tr ad lw val ln)(s:H kd=some u)(r:∀xs,u≠.tup xs)(he:∀e∈ad.es,e.2≠kd)(q:¬F kd)(p:kd≠ad.ld)(ns:kd≠ad.sd)(n0:H0 kd=none):nJ U H0 (mH H kd o) F x tr ad lw val ln:=by
 have f:∀{b:lR},F b->b≠kd:=λz y=>q<|y ▸ z
 have u:∀{b:lR}{v:HO},b≠kd->H b=some v->mH H kd o b=some v:=λn z=>by rw[Ze n];show z
 show#[u (f h.fx) h.obj,u p.symm h.lies,u ns.symm h.sti,u (f h.fn) h.lens,h.pth.offC (f h.fp) he s r,h.nm,h.lnd,h.len,h.vl,h.ok,h.fx,h.fn,h.fp,h.ne,h.nl,h.ns,h.ni,h.free,λb v e=>u (Zg e n0)<|h.same.at e,(λb z=>let⟨v,y,n⟩:=h.live b z;#[v,u (f z) y,n]),h.kx]
def nJ.setK(h:nJ U H0 H F x tr ad lw val ln)(u:H kd=some (.dK kvs))(s:¬F kd)(r:kd≠ad.ld)(ns:kd≠ad.sd)(n0:H0 kd=none):nJ U H0 (mH H kd o) F x tr ad lw val ln :=
 h.setU u (λ_ z=>nomatch z) (λe he z=>by obtain⟨q,y,_⟩:=h.pth.2 e he;rw[z,u]at y;cases y) s r ns n0
def nJ.keepP(h:nJ U H0 H F x tr ad lw val ln)(k:∀b o,¬F b->H b=some o->H' b=some o)(z:¬F l)(p:Yr H l ss):Yr H' l ss :=
 let⟨y,u,s⟩:=p
 #[y,k _ _ z u,ny s λt _ r=>k _ _ (λf=>by obtain⟨o,e,n⟩:=h.live t f;show n _<|oo<|e.symm.trans r) r]
end
def Vu{z:Type}{s:lP (lQ×z)}{v:z}{e:lQ×z}(h:e∈pj s x v):e=(x,v)\/(e∈s/\e.1≠x):=by
 unfold pj at h;split at h
 ·obtain⟨q,r,rfl⟩:=mV.mp h;split
  ·show .inl rfl
  ·rename_i y;show .inr #[r,y]
 ·rename_i u;rcases ou.mp h with y|y
  ·show .inr #[y,λk=>u<|mV.mpr #[e,y,k]]
  ·show .inl<|pD.mp y
theorem Pc:∀(qs:lP S4)(lw:lP (lQ×lQ)) (q:S4),pz lw (qs++[q])=if q.2.2.2 ="" then pz lw qs else pj (pz lw qs) q.1 q.2.2.2
 | [],_,_=>rfl
 | _ ::qs,_,q=>Pc qs _ q
def nJ.offK{F:lR->Prop}{val:lQ->lP Zt}(h:nJ U s H F x l ad lw val j)(k:∀b o,b≠kd->H b=some o->i b=some o)(q:H kd=some (.dK kvs))(g:¬F kd)(d:kd≠ad.ld)(ns:kd≠ad.sd)(n0:s kd=none):nJ U s i F x l ad lw val j:=by
 have f:∀{b:lR},F b->b≠kd:=λz y=>g<|y ▸ z
 have c:∀{b:lR}{u:lP V},H b=some (.lst u)->b≠kd:=λz y=>by rw[y,q]at z;cases z
 have a:∀{b:lR}{u:lP V},H b=some (.tup u)->b≠kd:=λz y=>by rw[y,q]at z;cases z
 show#[k _ _ (f h.fx) h.obj,k _ _ d.symm h.lies,k _ _ ns.symm h.sti,k _ _ (f h.fn) h.lens,#[k _ _ (f h.fp) h.pth.1,λe he=>let⟨n,p,Y⟩:=h.pth.2 e he;#[n,k _ _ (c p) p,ny Y λt _ r=>k _ _ (a r) r]],h.nm,h.lnd,h.len,h.vl,h.ok,h.fx,h.fn,h.fp,h.ne,h.nl,h.ns,h.ni,h.free,λb v e=>k _ _ (Zg e n0)<|h.same.at e,(λb z=>let⟨v,y,n⟩:=h.live b z;#[v,k _ _ (f z) y,n]),h.kx]
inductive Jm(T:Tx K mg):Sp
 | mk (H0) (F:lR->Prop) (x tr dt) (ad:pI) (lw:lP (lQ×lQ)) (val:lQ->lP Zt) (ln:lP (lQ×Nat)) (ps js) (sg:lP (lQ×lQ×lQ)) (cell:Int) (td:lP (lQ×Bool)):vs=[.ref x,.ref tr,.int cell,.ref dt]->nJ T H0 H F x tr ad lw val ln->rJ ps ad lw->Z5 T H0 tr ps js sg->Y2 ps js sg->qQ T H0->(∀t∈ln.map fst,val t≠[])->(∀p∈ln,p.2<=4)->H dt=some (.dK<|Z0 V.bl td)->(td.map fst).Nodup->
  (∀(H':Hp)(F':lR->Prop)(B6:pI)(V9:lP (lQ×lQ)) (N9:lQ->lP Zt),(∀b,F' b->F b\/H b=none)->wP F H H'->rJ ps B6 V9->B6.sd=ad.sd->(∀t,val t≠[]->N9 t≠[])->nJ T H0 H' F' x tr B6 V9 N9 ln->Q (.bl true) H')->Jm T vs H Q E
inductive CD(T:Tx K mg)(ps:List Zh)(js:List (Zh×Zh))(sg:List (Str×Str×Str))(ss:List S4)(z:List S4->Option (Str×Str))(wv:V)(H:Hp):V->Prop
 | ok (a) (g:Str×Zh) (qs dv):wv=.ref a->(g:Str×Str×Str)∈sg->pG (ps.map snd) H a g.1 qs->qs.length<=12->xX ps js sg g.2 qs ss->NH H dv (z qs)->CD T ps js sg ss z wv H dv
 | no (a) (g:Str×Zh) (qs):wv=.ref a->(g:Str×Str×Str)∈sg->pG (ps.map snd) H a g.1 qs->qs.length<=12->¬xX ps js sg g.2 qs ss->CD T ps js sg ss z wv H (.str "way")
 | odd:(∀H',mz H H'->Ai K H' wv)->CD T ps js sg ss z wv H (.str "way")
def Js(hb:∃mm,mB.Ns sysModules mm):T.ei.O P w mg mB 11 (Jm T):=by
 refine T.ei.F.okL T.fm Xh λcdc A my s H vs Q E hL Y h=>?_
 ·obtain⟨H0,F,x,C,dt,ad,N,val,M,ps,js,sg,cell,td,rfl,hw,E7,ht,yv,tb,u9,h4,U4,r,q⟩:=h;intro X D;obtain⟨r,_,_,_,_,_,_,_,_,T3,_⟩:=(ht.mono hw.same).ex;have d9:=hw.len;have same:∀H',mz H H'->Q (.bl true) H':=λH' s'=>q H' F ad N val (λb y=>.inl y) (DW s') E7 rfl (λ_ y=>y)<|hw.mono s'
  refine mJ (mY 4 Xh<|Yh (pv 0) T.ae T.aN (Y1 T) Y.m T.aw.b .nil Zz) #[hw.obj,rfl,H0,F,x,C,ad,N,val,M,rfl,hw,λss p1 p2 l1 H1 s1 n1 e1=>?_];have N1:ss.length<=10:=by rw[p1.length_eq,mI];show d9
  refine mJ (mY 11 Xh<|mW (Zp Wo (pv 4)<|Zo<|Zb Zf<|Zb rN Za)<|Zp Ye (pv 2)<|Zp Wo (Zp Wo (pq T.ba<|pv 4) Zc)<|Yu Ic (by rfl) T.fi wK<|Zb (sW Y (Zp Ye (Zp Yi (pv 2) Zc) Zc) Zc) Za) #[mM,λo H2 s2 i r=>.inr<|.inr #[s2.at e1,r,?_,λd J s3 I e3=>.inl #[.inl<|mO<|(s2.trans s3).at e1,.inl<|#[#[by lk,by lk],(by change(0:Int)<9;decide),.inl #[rfl,.inr<|oG rfl<|.inl ?_]]]]]
  ·rw[mI];show uW (Zq<|by simp;lia)
  obtain⟨b,r,hbv⟩:∃b:Nat,b<=1/\(if decide (V.int (cell / 50%9)=V.int 1)=true then(1:Int)else 0)=(b:Int):=by
   split
   ·show#[1,nw _,rfl]
   ·show#[0,pH _,rfl]
  have hm0:((ss.map V.str).length:Int)+1+(if decide (V.int (cell / 50%9)=V.int 1)=true then(1:Int)else 0)=((ss.length+1+b:Nat):Int):=by
   rw[hbv,mI];lia
  obtain⟨j,hj,r⟩:=tO (a:=cell) (n:=ss.length+1+b) (by lia);obtain⟨v,hv,hvk⟩:∃v,(ss.map V.str++[V.str "no",.non])[j]? =some v/\((∃nm,v=.str nm/\nm∈M.map fst)\/xw v (λn=>n∈M.map fst)):=by
   have hjl2:j<(ss.map V.str++[V.str "no",.non]).length:=by
    rw[nW,mI];change j<ss.length+2;lia
   refine#[_,oA hjl2,?_];have hm:=DO hjl2;generalize(ss.map V.str++[V.str "no",.non])[j]=v at hm;rcases ou.mp hm with y|y
   ·obtain⟨n,hn,rfl⟩:=mV.mp y;show .inl #[n,rfl,p1.mem_iff.mp hn]
   ·simp only[nQ,ut,sU,wf]at y;rcases y with rfl|rfl
    ·by_cases u:("no":lQ)∈M.map fst
     ·show .inl #[_,rfl,u]
     ·show .inr<|Ybh u
    ·show .inr<|SW rfl λ_=>rfl
  refine#[(show(0:Int)<_ by rw[show((ss.map V.str).length:Int)+1+_=_ from hm0];lia),.inl #[mO e3,(show oy _ (cell%(((ss.map V.str).length:Int)+1+_))=some v from by rw[hm0,hj];show Zm hv),?_]];have D5:=s1.trans<|s2.trans s3;have O5:=hw.mono D5;have iH:=(s2.trans s3).at e1;rcases hvk with⟨nm,rfl,hm⟩|hodd
  rotate_left
  ·refine mJ (Zr (rP Y (pv 11)<|pv 4) Zn Zi)<|.inl #[.inl<|mO iH,hodd.1,Y8 _,?_];rw[mT rfl,hodd.2 ss λn hn=>p1.mem_iff.mp hn];refine mK (Zl<|sW Y (Bw (Ca T) Y.m (λ_=>rfl) rfl T.aq.m T.aq.F.kp T.aq.b<|Zb (CN (Pt:=T.ci) rfl hL) Za) Zf) #[_,(tb.mono O5.same)._law_set,oM,λfl H4 s4 o cl=>BA T cl (fs:=["_law_keeper","_law_name","_law_seen"]) (fvs:=[.ref x,v,.ref dt]) (.cons #[0,_,rfl,rfl,rfl,rfl,rfl,rfl]<|.cons #[11,_,rfl,rfl,rfl,rfl,rfl,rfl]<|.cons #[3,_,rfl,rfl,rfl,rfl,rfl,rfl] .nil) ?_ ?_ ?_ (λ_ _ _=>rfl) (by left) (by left) rfl rfl rfl λG c A' outer' s' E' sG qe M5=>su (Ya (pv 0) T.ae T.cK (Ow T) M5 T.aE.b .nil Dz<|Zb (pv 1)<|Zb (Zj Za)<|Zb (pv 2) Za) #[(O5.mono<|s4.trans sG).obj,rfl,mM,λr H5 s5 n5 e5=>.no H0 F x C (.ref dt) v (.ref r) ad N val M rfl (O5.mono<|s4.trans<|sG.trans s5) hodd λH6 s6=>qe 1 none none H6 (by lk) rfl (s5.trans s6) rfl λH7 s7=>#[λ_=>.inl #[rfl,?_],λp y=>nomatch y]]]
   ·simp
   ·simp;decide +kernel
   ·simp;lia
   show same H7<|D5.trans<|s4.trans s7
  have hne1:=u9 nm hm;refine mJ (Zr (rP Y (pv 11)<|pv 4) Zn Zi)<|.inl #[.inl<|mO iH,rfl,Y8 _,?_];rw[mT rfl,Xw,nM<|p1.mem_iff.mpr hm];refine mJ (mY 12 Xh<|Zv (WT T) Y<|Zb (pv 0)<|Zb (pv 1)<|Zb (pv 11)<|Zb (Zp Yi (pv 2) Zc) Za) #[#[by lk,by lk],H0,F,x,C,ad,N,val,M,ps,js,sg,nm,_,rfl,O5,ht,yv,hm,hne1,λwv H4 s4 hwv=>?_];have J9:=D5.trans s4;have hw4:=hw.mono J9;refine mJ (mY 5 Xh<|Yh (pv 0) T.ae T.bV (Wm T) Y.m T.aW.b .nil Zz) #[hw4.obj,rfl,H0,F,x,C,ad,N,val,M,rfl,hw4,λr D L H5 p5 o s5 n5 e5 f5 g5=>?_];have K5:=J9.trans s5;have V1:=hw.mono K5;refine mJ (mY 6 Xh<|Yh (pv 0) T.ae T.bK (Wd T) Y.m T.aU.b .nil Zz) #[V1.obj,rfl,H0,F,x,C,ad,N,val,M,rfl,V1,λld H6 s6 n6 e6=>?_];have s06:=K5.trans s6;have esn:(L.map fst).Nodup:=by rw[f5];show p5.nodup_iff.mpr hw.lnd
  obtain⟨l,hl⟩:∃l,(nm,l)∈L:=by
   obtain⟨e,he,y⟩:=mV.mp (show nm∈L.map fst by rw[f5];show p5.mem_iff.mpr hm);show#[e.2,y ▸ he]
  have hv2:Xm (Z0 V.ref L) (Xl nm)=some (.ref l):=uX esn hl;have jR:=e5.mono s6;obtain⟨ts,hl6,i9⟩:=jR.2 (nm,l) hl;obtain⟨ws,tq,rfl⟩:∃ws tq,ts=ws++[tq]:=by
   have:ts≠[]:=λy=>by
    rw[y]at i9;show hne1<|sJ.mp (nG i9).symm
   show#[ts.dropLast,ts.getLast this,(Ac _).symm]
  obtain⟨qq,hqq,rq⟩:=oQ i9 (i:=ws.length) (a:=tq) (by simp);have rq:qK H6 tq qq:=rq;have hlq:zV (val nm)=(qq.1,qq.2.2.1):=by
   unfold zV vH;have:=nG i9;rw[nW,xl]at this;rw[Az,show(val nm).length-1=ws.length by rw[<-show ws.length+1=(val nm).length from this,CQ],hqq]
  have la:oy ((ws++[tq]).map V.ref) (-1)=some (.ref tq):=by
   rw[ng];show zN _ _
  have dg:Xz H6 D (.str nm) (some<|.ref l):=by rw[<-hv2];show qy (k:=Xl nm) jR.1
  refine mJ (mY 7 Xh<|Zj<|Zb (mW (mW (W5 (Xo Y) (pv 5) (pv 11) λ_ _=>rfl)<|vi vF Zc) Zc)<|Zb (mW (mW (W5 (Xo Y) (pv 5) (pv 11) λ_ _=>rfl)<|vi vF Zc) Zc) Za)<|vS.mk (v:=.ref l) dg<|.inl #[mO hl6,la,.inr<|.inl #[mQ rq,Zm (j:=0) rfl,vS.mk (v:=.ref l) dg<|.inl #[mO hl6,la,.inr<|.inl #[mQ rq,Zm (j:=2) rfl,mM,λte H7 s7 r e7=>?_]]]];have C0:=s06.trans s7;have hw7:=hw.mono C0;have hwv7:=hwv.mono<|s5.trans<|s6.trans s7;refine mJ (mY 8 Xh Zf) ?_;let I35:IC:=λz H'=>∃dv,z=[some (.ref x),some<|.ref C,some<|.int cell,some<|.ref dt,some<|.ref l1,some<|.ref D,some<|.ref ld,some<|.ref te,some dv,none,none,some<|.str nm,some wv]/\mz H7 H'/\CD T ps js sg (val nm) (sN (M.map fst) #[N,ad.st,val,td]) wv H' dv
  refine pU I35 ?_ ?_
  ·rcases hwv7 with⟨a,g,U,rfl,hg,ru,U6⟩|ho
   ·obtain⟨us,ha,m9⟩:=id ru;refine pQ (Zr (pF<|vU (Yk<|Zv (BG T) Y<|Zb (pv 1)<|Zb (pv 12) Za)<|wj<|We Y (Ya (pv 1) T.am T.cx (W7 T) Y.m T.aY.b .nil Zz<|Zb (mW (pv 12) Zc) Za)<|pv 7) Zn Zi)<|.mk C a g U ps js sg rfl (ht.mono hw7.same) yv hg ru U6 λH8 r=>Yf (λi=>#[(C0.trans r).at T3,rfl,.inr<|.inl #[mQ<|r.at ha,Zm (j:=0) rfl,C,g,ps,js,sg,rfl,ht.mono (hw7.mono r).same,yv,hg,λJ H9 s9 d=>.inr<|.inl #[1,ph g.2,ph (qq.1,qq.2.2.1),by lk,.inl #[_,_,rfl,rfl],yU d,yU<|(r.trans s9).at e7,Yf (λy=>?_) λy=>(oG rfl #[r.trans s9,.no a g U rfl hg (ru.mono<|r.trans s9) U6 λu=>y<|nM<|by rw[<-hlq,<-u.2]])]]]) λy=>(oG rfl #[r,.no a g U rfl hg (ru.mono r) U6 λu=>y u.1]);have o:=r.trans s9;show mK (mY 8 Xh<|Zv (TK T) Y<|Zb (pv 0)<|Zb (pv 12)<|Zb (pv 3) Za) #[H0,F,x,C,a,dt,ad,N,val,M,ps,g.1,U,td,rfl,hw7.mono o,E7,ru.mono o,U6,BY yv U [] i,(C0.trans o).at U4,λdv I d J=>#[dv,rfl,o.trans d,.ok a g U dv rfl hg (ru.mono<|o.trans d) U6 #[i,by rw[hlq];show Cf<|ow y] J]]
   ·show pQ (Zr (pF<|vU (Yk<|Zv (BG T) Y<|Zb (pv 1)<|Zb (pv 12) Za)<|wj<|We Y (Ya (pv 1) T.am T.cx (W7 T) Y.m T.aY.b .nil Zz<|Zb (mW (pv 12) Zc) Za)<|pv 7) Zn Zi)<|.odd C wv ps js sg rfl (ht.mono hw7.same) yv (ho H7<|pL _) λH8 r=>(oG rfl #[r,.odd λH' s'=>ho H'<|r.trans s'])
  rintro z H8 ⟨dv,rfl,s78,due⟩;have Q3:=C0.trans s78;have hw8:=hw.mono Q3;refine mJ (mY 9 Xh<|Zv (CW T hb) Y<|Zb (pv 0) Za) #[H0,F,x,C,ad,N,val,M,rfl,hw8,h4,λz0 H9 s9 tk=>?_];have D6:=Q3.trans s9;have hw9:=hw.mono D6;have refd:∀{H1:Hp},mz H9 H1->Gi T [.ref x] H1 (λu H2=>za K u (.str z0) H2 Q) E0:=λ{H1} s1'=>#[H0,F,x,C,ad,N,val,M,rfl,hw9.mono s1',h4,λi H2 r o=>.inl #[rfl,by rw[Bh.one o tk rfl,nM rfl];show same H2<|D6.trans<|s1'.trans r]]
  refine mJ (Zr (sy Y (Bw (Ca T) Y.m (λ_=>rfl) rfl T.aq.m T.aq.F.kp T.aq.b<|Zb (CN (Pt:=T.ci) rfl hL) Za)<|pv 8) Zn Zi) #[_,(tb.mono hw9.same)._law_set,pc _ oM,λfl d u6 r cl=>BA T cl (fs:=["_law_keeper","_law_name","_law_way","_law_seen"]) (fvs:=[.ref x,.str nm,wv,.ref dt]) (.cons #[0,_,rfl,rfl,rfl,rfl,rfl,rfl]<|.cons #[11,_,rfl,rfl,rfl,rfl,rfl,rfl]<|.cons #[12,_,rfl,rfl,rfl,rfl,rfl,rfl]<|.cons #[3,_,rfl,rfl,rfl,rfl,rfl,rfl] .nil) ?_ ?_ ?_ (λ_ _ _=>rfl) (by left) (by left) rfl rfl rfl λG c A' outer' s' E' sG qe M5=>su (Ya (pv 0) T.ae T.cK (Ow T) M5 T.aE.b .nil Dz<|Zb (pv 1)<|Zb (pv 2)<|Zb (Yu (r:=BM) GR (by rfl) T.ek xJ<|Zb (pv 3) Za) Za) #[(hw9.mono<|u6.trans sG).obj,rfl,.inl<|(D6.trans<|u6.trans sG).at U4,λhd o B1 i iK=>?_]]
  ·simp
  ·simp;decide +kernel
  ·simp;lia
  have s9G:=u6.trans sG;have P7:=s9G.trans B1;have hw11:=hw9.mono P7;cases due with
  | odd ho =>
   show .odd H0 F x C (.ref hd) wv ad N val M ps js sg nm rfl hw11 ht yv hm (λH' s'=>ho H'<|s9.trans<|P7.trans s') λR0 y9=>qe 2 none none R0 (by lk) rfl (B1.trans y9) rfl λM3 m6=>#[λ_=>.inl #[rfl,oB.f (by left)<|mJ (Zr (Z2 (r:=zy K) (CI Y) (pv 8) Zf<|Ym _) Zn Zi)<|.inl<|.inl #[rfl,oB.t (by left)<|mK (Zl<|sW Y (Zv (CW T hb) Y<|Zb (pv 0) Za)<|pv 9)<|refd<|u6.trans m6]],λp y=>nomatch y]
  | no a g U hwe hg ru U6 r =>
   subst hwe;show .mk H0 F x C a hd ad N val M ps js sg nm g U td rfl hw11 E7 ht yv tb hm hne1 hg (ru.mono<|s9.trans P7) U6 iK (λu=>absurd u r) (λ_ R0 y9=>qe 2 none none R0 (by lk) rfl (B1.trans y9) rfl λM3 m6=>#[λ_=>.inl #[rfl,oB.f (by left)<|mJ (Zr (Z2 (r:=zy K) (CI Y) (pv 8) Zf<|Ym _) Zn Zi)<|.inl<|.inl #[rfl,oB.t (by left)<|mK (Zl<|sW Y (Zv (CW T hb) Y<|Zb (pv 0) Za)<|pv 9)<|refd<|u6.trans m6]],λp y=>nomatch y]) (λ_ _ _ _ _ u=>absurd u r)
  | ok a g U _ hwe hg ru U6 wok res =>
   subst hwe;refine .mk H0 F x C a hd ad N val M ps js sg nm g U td rfl hw11 E7 ht yv tb hm hne1 hg (ru.mono<|s9.trans P7) U6 iK (λ_ V5 R0 F12 ad12 f12 off12 pts12 sd12 r ld12 k12 M3 bk=>?_) (λu=>absurd wok u) λn p r R0 hn _ V5 y9 o=>qe n (some p) (some r) R0 (by lia) (by rcases hn with rfl|rfl|rfl<;>rfl) (B1.trans y9) #[r,rfl,o] λM3 m6=>#[(λy=>nomatch y),λi C9 t' et'=>?_]
   ·rw[show sN (M.map fst) #[N,ad.st,val,td] U=none from V5]at res;cases res;have k13:=k12.back bk<|hw.same.trans<|D6.trans u6;have J:∀b o,¬F b->H9 b=some o->M3 b=some o:=λb o nb y=>bk.old _ _ _ (u6.at y)<|off12 _ _ nb<|P7.at y
    have tupF:∀{b:lR}{xs:lP V},H9 b=some (.tup xs)->¬F b:=λ{b xs} y f=>by
     obtain⟨o,e,n⟩:=hw9.live b f;show n _<|oo<|e.symm.trans y
    have nD:¬F D:=hw4.neF n5;have s59:=s6.trans<|s7.trans<|s78.trans s9;have P8:M3 D=some (.dK<|Z0 V.ref L):=J _ _ nD<|s59.at e5.1;have p13:∀e∈L,Yr M3 e.2 (val e.1):=λe J7=>hw9.keepP J (hw4.neF<|g5 e J7)<|(e5.2 e J7).mono s59
    obtain⟨us,ha,m9⟩:=ru.mono s9;have ha13:M3 a=some (.tup<|V.str g.1 ::us.map V.ref):=J _ _ (tupF ha) ha;have K7:Paired (qK M3) us U:=let⟨h,_⟩:=m9;ny h λ_ _ r=>J _ _ (tupF r) r
    have C7:=nG K7;have hld13:M3 ld=some (.dK<|Z0 V.str N):=J _ _ (V1.neF n6)<|(s7.trans<|s78.trans s9).at e6;obtain⟨tsl,hl13,htl13⟩:=p13 (nm,l) hl;have htll:=nG htl13;have N6:(val (nm,l).1).length<=100:=hw.vl nm;refine .inl #[rfl,oB.f (by left)<|mJ (Zr (Z2 (r:=zy K) (CI Y) (pv 8) Zf<|Ym _) Zn Zi)<|.inl<|.inl #[rfl,oB.f (by left) ?_]];refine mJ (tT (Xo Y) (pv 5) (pv 11) (Zp Wo (W5 (Xo Y) (pv 5) (pv 11) λ_ _=>rfl)<|Yu (r:=xx K) yL (by rfl) T.ej xr<|Zb (Xp (r:=qV K) rj (pv 12) (X2 Zc) X5) Za) rfl)<|vS.mk (v:=.ref l) (by rw[<-hv2];show qy (k:=Xl nm) P8)<|.inl #[mQ ha13,Wc _ _,λi H14 x8 n14 io=>#[.inr<|mQ io,λl15 H15 D3 n15 jU=>.inr<|.inr #[(x8.trans D3).at hl13,jU,?_,λB V4 B8 n16 jt=>#[qN.k (k:=Xl nm) ((x8.trans<|D3.trans B8).at P8) ?_,?_]]]]
    ·rw[xD,mI,mI];have e0:sizeLine=16777216:=rfl;lia
    ·have:=oJ List.length f5;rw[mI,p5.length_eq,mI]at this;rw[show(Z0 V.ref L).length=L.length from mI ..];show Zq (by lia)
    rw[xD]at jt;have ee:Wy (Z0 V.ref L) (Xl nm) (V.ref B)=Z0 V.ref (pj L nm B):=De _ _ _;rw[ee];have F3:=x8.trans<|D3.trans B8;generalize hF:(λa=>F12 a/\∃o,R0 a=some o/\M3 a=some o)=Fn at k13;have hFn:∀b,Fn b->F b\/H9 b=none:=λb y=>by
     rw[<-hF]at y;show(f12 b y.1).imp id P7.free
    have nFn:∀{b:lR}{o:HO},¬F b->H9 b=some o->¬Fn b:=λnb e y=>(hFn _ y).elim nb λw=>by rw[e]at w;cases w
    have D9:=s59.at e5.1;have ld9:=(s7.trans<|s78.trans s9).at e6;have p16:Yr V4 B (val nm++U):=#[tsl++us,by rw[jt,ng],pJ (ny htl13 λ_ _ r=>F3.at r)<|ny K7 λ_ _ r=>F3.at r]
    have l16D:B≠D:=λy=>by rw[y,(x8.trans D3).at P8]at n16;cases n16
    have k17:=(k13.mono F3).setK (o:=.dK<|Z0 V.ref<|pj L nm B) (F3.at P8) (nFn nD D9) (λy=>by rw[<-y,P7.at D9]at ld12;cases ld12) (λy=>by rw[sd12]at y;rw[y,hw4.sti]at n5;cases n5) (hw4.same.free n5);have offP:∀{c:lR}{xs:lP Zt},c≠D->Yr V4 c xs->Yr (mH V4 D<|.dK<|Z0 V.ref<|pj L nm B) c xs:=λ{c xs} nc y=>y.off nc λws u=>by rw[F3.at P8]at u;cases u
    have p17:∀e∈pj L nm B,Yr (mH V4 D<|.dK<|Z0 V.ref<|pj L nm B) e.2 (X7 (M.map fst) val nm U e.1):=λe J7=>by
     rcases Vu J7 with rfl|⟨y,u⟩
     ·change Yr _ B (X7 (M.map fst) val nm U nm);unfold X7;rw[mT rfl,mT hm];show offP l16D p16
     ·unfold X7;rw[mS u];refine offP (λk=>?_)<|(p13 e y).mono F3;obtain⟨ws',i,_⟩:=p13 e y;rw[k,P8]at i;cases i
    have K8:∀b o,b≠D->M3 b=some o->mH V4 D (.dK<|Z0 V.ref<|pj L nm B) b=some o:=λb o nb y=>by rw[Ze nb];show F3.at y
    have hD17:mH V4 D (.dK<|Z0 V.ref<|pj L nm B) D=some (.dK<|Z0 V.ref<|pj L nm B):=Zd;generalize mH V4 D (.dK<|Z0 V.ref<|pj L nm B)=H17 at k17 p17 K8 hD17;have ha17:=K8 _ _ (λy=>by rw[y,P8]at ha13;cases ha13) ha13;have ldD:ld≠D:=λy=>by rw[y,e5.1]at n6;cases n6
    have L0:=K8 _ _ ldD hld13;have hus17:Paired (qK H17) us U:=ny K7 λ_ _ r=>K8 _ _ (λy=>by rw[y]at r;show nomatch P8.symm.trans r) r
    have hwp:=BY yv U [] wok.1;let I36:IC:=λz H'=>∃R8,z=[some (.ref x),some<|.ref C,some<|.int cell,some<|.ref dt,some<|.ref l1,some<|.ref D,some<|.ref ld,some<|.ref te,some<|.str "done",some<|.str z0,R8,some<|.str nm,some<|.ref a]/\(∀b o,b≠ld->H17 b=some o->H' b=some o)/\H' ld=some (.dK<|Z0 V.str<|pz N U)
    refine pU I36 ?_ ?_
    ·refine pQ (Y9 pC rfl (xo<|Xp (r:=qV K) rj (pv 12) (X2 Zc) X5) (oh 10 Xh) Zn)<|.inl #[mQ ha17,Wc _ _,λp18 H18 M4 n18 jL=>?_];rw[xD]at jL;have n18l:p18≠ld:=λy=>by rw[y,L0]at n18;cases n18
     let I37:IF:=λi z H'=>∃R8,z=[some (.ref x),some<|.ref C,some<|.int cell,some<|.ref dt,some<|.ref l1,some<|.ref D,some<|.ref ld,some<|.ref te,some<|.str "done",some<|.str z0,R8,some<|.str nm,some<|.ref a]/\(∀b o,b≠ld->H18 b=some o->H' b=some o)/\H' ld=some (.dK<|Z0 V.str<|pz N<|U.take i)
     refine#[mQ jL,BN (K:=K) (xs:=us.map V.ref) I37 #[none,rfl,λ_ _ _ y=>y,M4.at L0] ?_ ?_ ?_]
     ·rintro i z H' _ ⟨_,_,k,_⟩;show mQ<|k _ _ n18l jL
     ·rintro i v z H19 hi ⟨R8,rfl,I,N7⟩;rw[nK]at hi;obtain⟨d,hu,rfl⟩:=nU.mp hi;obtain⟨r,K0,ru17⟩:=oQ hus17 hu;have ru19:qK H19 d r:=I _ _ (λy=>by rw[y]at ru17;show nomatch L0.symm.trans ru17)<|M4.at ru17;have hkr:=hwp r<|pe K0;have hkeys:∀n,n∈(pz N<|U.take i).map fst↔(("points",n):Zh)∈ps:=Iz E7.lw λq' C4=>(hwp q'<|xq C4).mp
      have T4:pz N (U.take<|i+1)=if r.2.2.2 ="" then pz N (U.take i)else pj (pz N<|U.take i) r.1 r.2.2.2:=by rw[ol,K0];show Pc ..
      have ndl:((pz N<|U.take i).map fst).Nodup:=Mz hw.kx.lok.1
      by_cases hp:(("points",r.1):Zh)∈ps
      ·obtain⟨e0,he0,h10⟩:=mV.mp<|(hkeys r.1).mpr hp;have hv0:Xm (Z0 V.str<|pz N<|U.take i) (Xl r.1)=some (.str e0.2):=by
        have:=uX (f:=V.str) ndl he0;rw[h10]at this;show this
       refine mK (Zr (uj Y (mW (pv 10) Zc)<|pv 6) Zn Zi)<|.inr<|.inl #[mQ ru19,Zm (j:=0) rfl,.inr<|.inl #[ld,_,rfl,qy (k:=Xl r.1) N7,?_]];rw[hv0];refine mK (tT (Xo Y) (pv 6) (mW (pv 10) Zc) (mW (pv 10) Zc) rfl)<|.inr<|.inl #[mQ ru19,Zm (j:=3) rfl,.inr<|.inl #[mQ ru19,Zm (j:=0) rfl,qN.k (k:=Xl r.1) N7 ?_,?_]]
       ·have G9:=ym ndl λn hn=>show n∈ps.map snd from mV.mpr #[_,(hkeys n).mp hn,rfl]
        have:=yv.len;rw[mI,mI]at G9;rw[show(Z0 V.str<|pz N<|U.take i).length=(pz N<|U.take i).length from mI ..];show Zq (by lia)
       ·refine(oG rfl #[λb o nb y=>by rw[Ze nb];show I b o nb y,?_]);rw[Zd,T4,mS<|hkr.mpr hp];show oJ (λy=>some<|HO.dK y)<|De _ _ _
      ·have hv0:Xm (Z0 V.str<|pz N<|U.take i) (Xl r.1)=none:=X3 λy=>hp<|(hkeys r.1).mp y
       refine mK (Zr (uj Y (mW (pv 10) Zc)<|pv 6) Zn Zi)<|.inr<|.inl #[mQ ru19,Zm (j:=0) rfl,.inr<|.inl #[ld,_,rfl,qy (k:=Xl r.1) N7,?_]];rw[hv0];refine(oG rfl #[I,?_]);rw[T4,mT]
       ·show N7
       ·by_cases u:r.2.2.2 =""
        ·show u
        ·show absurd (hkr.mp u) hp
     ·rintro z H19 ⟨R8,rfl,I,N7⟩;rw[mI,C7,oR]at N7;show#[_,rfl,λb o nb y=>I b o nb<|M4.at y,N7]
    rintro z H19 ⟨R8,rfl,V2,N7⟩;have I:=k17.offK V2 L0 (nFn (V1.neF n6) ld9) (λy=>by rw[<-y,P7.at ld9]at ld12;cases ld12) (λy=>by rw[sd12]at y;rw[y,V1.sti]at n6;cases n6)<|V1.same.free n6;have hD19:=V2 _ _ ldD.symm hD17;have p19:∀e∈pj L nm B,Yr H19 e.2 (X7 (M.map fst) val nm U e.1):=λe J7=>let⟨D4,y1,y2⟩:=p17 e J7;#[D4,V2 _ _ (λy=>by rw[y,L0]at y1;cases y1) y1,ny y2 λt' _ r=>V2 _ _ (λy=>by rw[y]at r;show nomatch L0.symm.trans r) r]
    have put:∀b o,¬F b->H b=some o->H19 b=some o:=λb o nb y=>V2 _ _ (λu=>by rw[u]at y;rw[K5.at y]at n6;cases n6)<|K8 _ _ (λu=>by rw[u]at y;rw[J9.at y]at n5;cases n5)<|J _ _ nb<|D6.at y
    have e14':=(s2.trans<|s3.trans s4).at e1;have hn19:H19 l1=some (.lst<|ss.map V.str):=V2 _ _ (λu=>by rw[u]at e14';rw[s5.at e14']at n6;cases n6)<|K8 _ _ (λu=>by rw[u,n5]at e14';cases e14')<|J _ _ (hw.neF n1)<|(s5.trans s59).at e14';refine mK (Zl<|wn (sW Y (Yh (pv 0) T.ae T.bV (Wm T) Y.m T.aW.b .nil Zz)<|pv 5)<|wn (sW Y (Yh (pv 0) T.ae T.bK (Wd T) Y.m T.aU.b .nil Zz)<|pv 6)<|yz<|sW Y (Yh (pv 0) T.ae T.aN (Y1 T) Y.m T.aw.b .nil Zz)<|pv 4) #[I.obj,rfl,H0,Fn,x,C,ad12,_,_,M,rfl,I,λi D' j7 H20 p1' p2' s20 n20 jQ f20 g20=>.inr<|.inr #[D',D,_,_,rfl,rfl,.inl jQ.1,.inl<|s20.at hD19,?_,λkv D8=>?_,?_]]
    ·rw[show(Z0 V.ref j7).length=j7.length from mI ..,show(Z0 V.ref<|pj L nm B).length=(pj L nm B).length from mI ..];have a1:=oJ List.length f20;have i:=oJ List.length<|DE L nm B;rw[mT (by rw[f5];show p5.mem_iff.mpr hm),f5]at i;rw[mI]at a1 i;rw[a1,i,p1'.length_eq,p5.length_eq]
    ·obtain⟨e,J7,rfl⟩:=mV.mp D8;have hme:e.1∈(pj L nm B).map fst:=by
      rw[DE,mT (by rw[f5];show p5.mem_iff.mpr hm),f5];show p5.mem_iff.mpr<|p1'.mem_iff.mp<|f20 ▸ mV.mpr #[e,J7,rfl]
     obtain⟨e',i,y⟩:=mV.mp hme;refine#[.ref e'.2,?_,.inr #[2,.lst<|(X7 (M.map fst) val nm U e.1).map qM,by lk,(jQ.2 e J7).im,?_]]
     ·have:=uX (f:=V.ref) (Gf (v:=B) (x:=nm) esn) i;rw[y]at this;show this
     ·have:=(p19 e' i).mono s20;rw[y]at this;show this.im
    have k20:=I.mono s20;refine#[k20.obj,rfl,H0,Fn,x,C,ad12,_,_,M,rfl,k20,λi H21 s21 n21 jW=>.inr<|.inr #[i,ld,_,_,rfl,rfl,.inl jW,.inl<|(s20.trans s21).at N7,rfl,λkv D8=>?_,?_]]
    ·obtain⟨p,hp,rfl⟩:=mV.mp D8;show#[.str p.2,uX I.kx.lok.1 hp,.inl #[rfl,rfl,by delta rc;simp]]
    have k21:=k20.mono s21;refine#[k21.obj,rfl,H0,Fn,x,C,ad12,_,_,M,rfl,k21,λss3 p3 q3 i H22 s22 n22 jX=>?_];obtain rfl:ss3=ss:=yi q3 p2<|p3.trans p1.symm;refine .inr<|.inl #[1,_,_,by lk,.inr #[_,_,rfl,rfl],xI jX,xI<|(s20.trans<|s21.trans s22).at hn19,?_];rw[mS oH,nM rfl];refine q H22 Fn ad12 _ _ (λb y=>(hFn b y).imp id D6.free) (λb o nb y=>(s20.trans<|s21.trans s22).at (put b o nb y)) pts12 sd12 (λt' E8=>?_)<|k21.mono s22;unfold X7;split
    ·show λy=>hne1 (Hn.mp y).1
    ·show E8
   ·rw[V5]at res;obtain⟨t,rfl,o⟩:=res;cases C9;rw[show uo n=yI n from by rcases hn with rfl|rfl|rfl<;>rfl]at et';have r:=(s9.trans<|u6.trans m6).at o;have im:∀{d:lR},M3 d=some (.tup [.str (yI n),.str p])->Im K M3 1 (.tup [.str (yI n),.str p]) (.ref d):=λh=>uw (n:=0) (mQ h)<|.cons (.str _)<|.cons (.str _) .nil
    refine .inr<|.inl #[1,_,_,by lk,.inl #[_,_,rfl,rfl],im et',im r,?_];rw[mT rfl,nM rfl];show mJ (Zr (Z2 (r:=zy K) (CI Y) (pv 8) Zf<|Ym _) Zn Zi)<|.inr #[t,_,_,rfl,rfl,mQ r,mK (Zl<|sW Y (Zv (CW T hb) Y<|Zb (pv 0) Za)<|pv 9)<|refd<|u6.trans m6]
structure LM(T:Tx K mg)(H0:Hp)(x tr:Addr)(ps:List Zh)(tp hl:Addr)(n:Nat)(H:Hp)(F:Addr->Prop)(ad:pI)(lw:List (Str×Str))(val:Str->List Zt)(ln:List (Str×Nat)):Prop where
 k:nJ T H0 H F x tr ad lw val ln
 pts:rJ ps ad lw
 ne:∀t∈ln.map fst,val t≠[]
 l4:∀p∈ln,p.2<=4
 tup:H tp=some (.tup [.ref x,.ref tr])
 nF:¬F hl
 n0:H0 hl=none
 held:zw H (λb=>F b\/b=hl) hl n
def nJ.tupF{F:lR->Prop}{val:lQ->lP Zt}(h:nJ U y H F x u ad lw val s)(z:H b=some (.tup xs)):¬F b:=λf=>by
 obtain⟨o,e,n⟩:=h.live b f;show n _<|oo<|e.symm.trans z
def LM.next{F s:lR->Prop}{val r:lQ->lP Zt}(h:LM U l x j ps a q n H F ad lw val i)(k:nJ U l p s x j g d r i)(f:∀b,s b->F b\/H b=none)(off:wP F H p)(pts:rJ ps g d)(Y:∀t,val t≠[]->r t≠[]):LM U l x j ps a q n p s g d r i:=by
 obtain⟨y,o,_⟩:=id h.held;have e:p q=H q:=by rw[o];show off _ _ h.nF o
 refine#[k,pts,λt Q=>Y t<|h.ne t Q,h.l4,off _ _ (h.k.tupF h.tup) h.tup,(λz=>(f _ z).elim h.nF λw=>by rw[o]at w;cases w),h.n0,h.held.on (λc u e z=>off c u (λy=>z<|.inl y) e) (λc z=>?_) e];rcases z with z|z
 ·show(f c z).imp .inl id
 ·show .inl<|.inr z
def LM.mono{F:lR->Prop}{val:lQ->lP Zt}(h:LM U y x u ps r q n H F ad lw val p)(s:mz H o):LM U y x u ps r q n o F ad lw val p:=h.next (h.k.mono s) (λ_ z=>.inl z) (DW s) h.pts λ_ z=>z
def LM.he{F:lR->Prop}{val:lQ->lP Zt}(h:LM U Y x Q ps N j n H F ad lw val M):∀e∈ad.es,e.2≠j:=λe he z=>by
 obtain⟨s,i,_,g⟩:=id h.held;obtain⟨c,y,q⟩:=h.k.pth.2 e he;have p:=h.ne e.1<|h.k.nm ▸ mV.mpr #[e,he,rfl];rw[z,i]at y;have y:s.map V.ref=c.map V.ref:=HO.lst.inj<|oo y;generalize val e.1=L at q p;cases q with
 | nil=>show p rfl
 | cons r _ =>
  cases s with
  | nil=>cases y
  | cons u s =>
   obtain⟨l,d,o,_⟩:=g u oM;have a:u=_:=V.ref.inj (Fv y).1;rw[a]at o;have:=(HV o).1.symm.trans r;cases this
def LM.app{F:lR->Prop}{val:lQ->lP Zt}(h:LM U J x I ps E r n H F ad lw val C)(B:H r=some (.lst us))(s:mz H G)(A:H j=none)(Q:G j=some (.tup [.ref D,.str d.shown]))(sh:Yg 24000 3 d)(rp:∀N,(∀b o,(H b=none\/∃xs,o=.tup xs)->G b=some o->b≠r->N b=some o)->Rp N d (.ref D)):LM U J x I ps E r (n+1) (mH G r<|.lst<|us++[.ref j]) F ad lw val C:=by
 obtain⟨g,p,L,h3⟩:=h.held;obtain rfl:us=g.map V.ref:=HO.lst.inj<|oo<|B.symm.trans p;have M:=s.at p;have a:∀{l:lR},H l=none->l≠r:=λz y=>by rw[y,p]at z;cases z
 have i:∀{l:lR}{xs:lP V},G l=some (.tup xs)->¬(F l\/l=r):=λ{l xs} z y=>by
  rcases y with y|y
  ·show(h.k.mono s).tupF z y
  ·rw[y,M]at z;cases z
 have q:∀{b:lR}{o:HO},b≠r->G b=some o->mH G r (.lst<|g.map V.ref++[.ref j]) b=some o:=λc z=>by rw[Ze c];show z
 refine#[(h.k.mono s).setU M (λ_ z=>nomatch z) h.he h.nF (λz=>?_) (λz=>?_) h.n0,h.pts,h.ne,h.l4,q (λz=>by have:=h.tup;rw[z,p]at this;cases this)<|s.at h.tup,h.nF,h.n0,g++[j],by rw[Zd,ng];rfl,by rw[nW];simp;lia,λu Y=>?_]
 ·have:=h.k.lies;rw[<-z,p]at this;cases this
 ·have:=h.k.sti;rw[<-z,p]at this;cases this
 rcases ou.mp Y with z|z
 ·obtain⟨l,d',x1,x2,x3⟩:=h3 u z;have L:mz (uR (λb=>F b\/b=r) H) (uR (λb=>F b\/b=r)<|mH G r<|.lst<|g.map V.ref++[.ref j]):=JV (λb o e w=>q (λy=>w<|.inr y)<|s.at e) λb w=>.inl w
  show#[l,d',L.at x1,BR L x2,x3]
 ·rw[pD.mp z];refine#[D,d,Hh (q (a A) Q)<|i Q,rp _ λb o L e c=>Hh (q c e) ?_,sh];rcases L with y|⟨xs,rfl⟩
  ·show λw=>w.elim (h.k.neF y) c
  ·show i e
inductive Qp(T:Tx K mg)(H0:Hp)(x tr:Addr)(ps:List Zh)(tp hl:Addr)(n:Nat)(a t:Addr):St->Hp->Prop
 | mk (o2 o6 o7 o8 o9 Fr ad lw val ln):LM T H0 x tr ps tp hl n H Fr ad lw val ln->Qp T H0 x tr ps tp hl n a t [some (.ref a),some<|.ref t,o2,some<|.ref tp,some<|.ref x,some<|.ref hl,o6,o7,o8,o9] H
def Zur{lw:lP (lQ×lQ)}(h:∀p∈lw,Xb p.1/\p.2∈sS)(y:lw.length<=40):Yg 24000 3 (.dict<|(lw.map λp=>PyData.str p.1).zip (lw.map λp=>PyData.str p.2)):=by
 refine(Yg.dict (n:=6) (k:=0) (m:=40) (λd hd=>?_)<|by rw[FW,mI,mI];lia).up (by lk) (by lk);rw[List.zip_map']at hd;obtain⟨p,z,rfl⟩:=mV.mp hd;have z:=h p z;show#[AR z.1,.str (Wr _ z.2).1 (Wr _ z.2).2]
def Yfk(F:qX K "law" "law" vz f fd)(T:Tx K mg)(hb:∃mm,mB.Ns sysModules mm):Xf P w K mg mB oP 13 f fd ["_law_script"] (yh K T.tabs):=by
 refine F.okW uB ?_;rfl'
 ·obtain⟨a,ns,rfl,hS,A9,htb,q⟩:=h;intro X D;have tb:=qQ.of htb;refine mJ (mY 1 uB<|Zv (SX T) hr<|Zb (Zv (Vs T) hr<|Zb (pv 0)<|Zb Zc<|Zb Zc Za)<|Zb (Xs (Fp T) hr rfl T.ax.m T.ax.F.kp T.ax.b .nil Zz<|Zb (pv 0)<|Zb Zc Za) Za) #[a,ns,15,29,rfl,hS,A9,by lk,by lk,λu H1 cs s1 n1 e1 hc w5=>#[a,ns,0,rfl,s1.seq hS,u,_,cs,rfl,mO e1,λc h=>(hc c h).1,w5,λt pl jl gl H2 ps js sg s2 ht hP hJ hG yo=>?_]];have y9:=s1.trans s2;have yv:=yo.v;clear hc w5 e1 n1;refine mJ (mY 3 uB<|Zv (UY T) hr<|Zb (pv 1)<|Zb (pR ["_law_k","_law_script"] (oZ 1 [0] rfl) (zU rfl T.di<|Zb Zc<|Zb Zc Za) (oF 0) Wh (Xs (Fp T) hr rfl T.ax.m T.ax.F.kp T.ax.b .nil Zz<|Zb (pv 1)<|Zb (pv 0) Za)) Za) #[1,4,rfl,by lk,λD hD=>MP (lo:=1) (n:=3) (λk ys g=>(∃cs:lP Int,ys=cs.map V.int/\cs.length=k)/\g D=some (.lst ys)/\mz H2 g) #[#[[],rfl,rfl],Zd,pr hD] ?_ ?_]
  ·rintro k ys H3 hk ⟨⟨cs,rfl,w5⟩,hD3,N⟩;unfold qG;refine#[pA rfl,a,ns,1+k,rfl,(y9.trans N).seq hS,hD3,?_,#[cs++[zC ns (1+k)],?_,?_],Zd,λb o e=>?_]
   ·rw[mI];show Zq (by lia)
   ·rw[ng];rfl
   ·rw[nW,w5];rfl
   ·rw[Ze (Zg e hD)];show N.at e
  rintro ys H3 ⟨⟨cs,rfl,w5⟩,hD3,N⟩;refine#[t,D,ps,js,sg,cs,rfl,#[pl,jl,gl,N.at ht,hP.mono N,hJ.mono N,hG.mono N],yv,tb.mono<|y9.trans N,hD3,by lia,λtp x tr H0 H4 Fr ad B val ln s0 etp ht0 k4 pt4 ne4 l44 ll4=>?_];have hS0:=(y9.trans<|N.trans s0).seq hS;have tb0:=tb.mono<|y9.trans<|N.trans s0;have E8:=(N.trans s0).at ht;obtain⟨u,p0,i9⟩:=hP.mono<|N.trans s0;clear hS tb htb hD3 hP hJ hG ht w5 N s0 y9 s1 s2 hD A9 yo;refine mJ (mY 4 uB<|mW (pv 3) Zc)<|.inr<|.inl #[mQ etp,Zm (j:=0) rfl,?_];refine mJ (mY 5 uB<|Zo Za) #[mM,λhl H5 Y n5 e5=>?_];have L5:LM T H0 x tr ps tp hl 0 H5 Fr ad B val ln:=#[k4.mono Y,pt4,ne4,l44,Y.at etp,k4.neF n5,k4.same.free n5,[],e5,nw _,λ_ y=>nomatch y]
  clear k4 Y n5 e5 etp pt4 ne4 l44 ll4;let I38:IC:=λz g=>(∃M o6 o7 L J,z=[some (.ref a),some<|.ref t,M,some<|.ref tp,some<|.ref x,some<|.ref hl,o6,o7,L,J])/\∃Z:lR->Prop,zw g Z hl 20
  refine pU I38 ?_ ?_
  ·refine pQ (Y9 pC rfl (zU rfl T.di<|Zb Zc<|Zb Zc Za) (oh 2 uB) Zn) #[4,14,rfl,by lk,wS (lo:=4) (n:=10) (λi=>Qp T H0 x tr ps tp hl (2 * i) a t) (.mk _ _ _ _ _ _ _ _ _ _ L5) ?_ ?_]
   ·clear L5;rintro i z H1 hi ⟨M,o6,o7,L,J,Fr,ad,B,val,ln,L1⟩;refine mJ (mY 6 uB<|Xs (Fp T) hr rfl T.ax.m T.ax.F.kp T.ax.b .nil Zz<|Zb (pv 0)<|Zb (pv 2) Za) #[a,ns,4+i,rfl,L1.k.same.seq hS0,?_];generalize zC ns (4+i)=cell;refine mJ (mY 7 uB Ws) λsd H2 s2 n2 e2=>?_
    let I39:IC:=λz g=>∃M L J U,z=[some (.ref a),some<|.ref t,M,some<|.ref tp,some<|.ref x,some<|.ref hl,some<|.int cell,some<|.ref sd,L,J]/\mz H1 g/\g sd=some (.dK<|Z0 V.bl U)/\(U.map fst).Nodup
    refine pU I39 ?_ ?_
    ·have g2:=L1.k.same.trans s2;have ylen:=yv.len;refine pQ (Zr (We hr (Zp Ye (pv 6) Zc) Zc) Zn Zi) #[(by change(0:Int)<3;decide),.inl #[rfl,Yf (λ_=>?_) λ_=>#[_,_,_,[],rfl,s2,e2,.nil]]];refine mK (Y9 pC rfl (xS rfl T.cD<|Zb (pR ["_law_kind","_law_name"] (oZ 2 [] rfl) (Yn<|mW (pv 1) Zc) (ze (K:=K) (n:=2) rfl rfl<|Zy (oF 0)<|Zy (oF 1) Xq) Wh (pv 1)) Za) (sI rfl<|Zy (oh 8 uB)<|Zy (oh 9 uB) Xq) Zn)<|.inr<|.inl #[mQ<|g2.at E8,Zm (j:=0) rfl,mO<|g2.at p0,λD hD=>OG (f:=λ_=>true) (g2.at p0) (ny i9 λ_ _ r=>r.mono g2) (by lia) hD (λr sD eD=>?qq) ?aa (λ_ _ _ _ _ h=>h) ?cc]
     case aa=>rfl
     case cc=>rfl
     rw[show rH (λ_=>true) ps=ps.map snd from by unfold rH;rw[PY.mpr λ_ _=>rfl]]at eD;have hn:=yv.net.nd;have hln:(ps.map snd).length<=40:=by rw[mI];show ylen
     generalize ps.map snd=as at eD hn hln;have Ds:D≠sd:=λy=>by rw[y,e2]at hD;cases hD
     have sdH:∀{b:lR}{o:HO},H1 b=some o->b≠sd:=λy u=>by rw[u,n2]at y;cases y
     let I40:IF:=λj z g=>(∃M L J,z=[some (.ref a),some<|.ref t,M,some<|.ref tp,some<|.ref x,some<|.ref hl,some<|.int cell,some<|.ref sd,L,J])/\g D=some (.lst<|as.map V.str)/\mz H1 g/\∃U,g sd=some (.dK<|Z0 V.bl U)/\(U.map fst).Nodup/\(∀n∈U.map fst,n∈as.take j)/\U.length<=j
     refine#[mO eD,yP (K:=K) (xs:=as.map V.str) I40 #[#[_,_,_,rfl],eD,s2.trans sD,[],sD.at e2,.nil,(λ_ y=>nomatch y),pH _] ?_ ?_ ?_]
     ·rintro j z g _ ⟨_,y,_⟩;show mO y
     ·rintro j v z H4 hj ⟨⟨M,L,J,rfl⟩,Q5,s4,U,I,K4,r,d9⟩ p H5 Y n5 e5;rw[nK]at hj;obtain⟨nm,E3,rfl⟩:=nU.mp hj;have w6:=(oN.mp E3).1;have w9:nm∉U.map fst:=λy=>AY hn E3<|r nm y
      have T4:as.take (j+1)=as.take j++[nm]:=by rw[ol,E3];rfl
      refine#[mQ e5,rfl,rfl,?_];refine mK (Zr (Z2 ug (Zp Ye (Xs (Wj T) hr rfl T.ak.m T.ak.F.kp T.ak.b .nil Zz<|Zb (pv 6)<|Zb (pv 8) Za) Zc) Zc<|Ym _) Zn Zi) #[cell,j,rfl,(by change(0:Int)<5;decide),Yf (λ_=>?_) λ_=>#[#[_,_,_,rfl],Y.at Q5,s4.trans Y,U,Y.at I,K4,λn hn=>by rw[T4];show vT _<|r n hn,by lia]];refine mK (tT (Xo hr) (pv 7) (pv 9) (sW hr (Zp Ye (Xs (Wj T) hr rfl T.ak.m T.ak.F.kp T.ak.b .nil Zz<|Zb (pv 6)<|Zb (pv 8) Za) Zc) Zc) rfl) #[cell,j,rfl,(by change(0:Int)<5;decide),.inl #[rfl,qN.k (k:=Xl nm) (Y.at I) ?_,#[_,_,_,rfl],by rw[Ze Ds];show Y.at Q5,λb o y=>by rw[Ze (sdH y)];show Y.at<|s4.at y,U++[(nm,decide<|V.int (uh cell j%5)=V.int 1)],?_,?_,?_,?_]]
      ·rw[show(Z0 V.bl U).length=U.length from mI ..];show Zq (by lia)
      ·rw[Zd,JG (f:=V.bl) w9]
      ·rw[ng,qp];show#[K4,EJ _ _,λc hc d hd e=>by rw[e,pD.mp hd]at hc;show w9 hc]
      ·intro n hn;rw[ng]at hn;rw[T4];rcases ou.mp hn with y|y
       ·show vT _<|r n y
       ·rw[pD.mp y];show qc _<|pD.mpr rfl
      ·rw[nW];simp;lia
     ·rintro z g ⟨⟨M,L,J,rfl⟩,_,s4,U,I,K4,_⟩;show#[M,L,J,U,rfl,s4,I,K4]
    rintro z H3 ⟨M,L,J,U,rfl,N,I,K4⟩;have L3:=L1.mono N;let I41:IC:=λz g=>∃Fr ad B val,z=[some (.ref a),some<|.ref t,M,some<|.ref tp,some<|.ref x,some<|.ref hl,some<|.int cell,some<|.ref sd,L,J]/\LM T H0 x tr ps tp hl (2 * i) g Fr ad B val ln
    refine pU I41 ?_ ?_
    ·show pQ (Zr (pF<|W0 (Y5<|Yk<|Zv (Js T hb) hr<|Zb (pv 4)<|Zb (mW (pv 3) Zc)<|Zb (Zp Yi (pv 6) Zc)<|Zb (pv 7) Za)<|Wv<|Y5<|Yk<|Zv (Js T hb) hr<|Zb (pv 4)<|Zb (mW (pv 3) Zc)<|Zb (Zp Yi (pv 6) Zc)<|Zb Ws Za) Zn Zi) (.inr (.inl #[mQ L3.tup,Zm (j:=1) rfl,#[by lk,by lk],H0,Fr,x,tr,sd,ad,B,val,ln,ps,js,sg,_,U,rfl,L3.k,L3.pts,ht0,yv,tb0,L3.ne,L3.l4,I,K4,λH4 F4 ad4 lw4 r f4 n pt4 sd4 ne4 k4=>by
      have l:=L3.next k4 f4 n pt4 ne4;show .inr<|.inl #[mQ l.tup,Zm (j:=1) rfl,#[by lk,by lk],λdt H5 Y n5 e5=>#[H0,F4,x,tr,dt,ad4,lw4,r,ln,ps,js,sg,_,[],rfl,l.k.mono Y,l.pts,ht0,yv,tb0,l.ne,l.l4,e5,.nil,λH6 F6 ad6 lw6 j f6 off6 pt6 sd6 ne6 k6=>#[F6,ad6,lw6,j,rfl,(l.mono Y).next k6 f6 off6 pt6 ne6]]]]))
    clear L3 L1;rintro z H4 ⟨Fr,ad,B,val,rfl,l⟩;obtain⟨us,G,hu2,_⟩:=id l.held;refine mJ (Z3<|ro (pv 5)<|Zj<|Zb (Yh (pv 4) T.ae T.bV (Wm T) hr.m T.aW.b .nil Zz)<|Zb (Z7 (r:=yE) (AM hb hr.gd hr.units) (by rfl) T.fR zT<|Zb (Yh (pv 4) T.ae T.bV (Wm T) hr.m T.aW.b .nil Zz) Za) Za) #[.inl #[rfl,_,mO G],l.k.obj,rfl,H0,Fr,x,tr,ad,B,val,ln,rfl,l.k,λn D es H5 p5 q5 Y n5 P5 m5 f5=>#[(l.k.mono Y).obj,rfl,H0,Fr,x,tr,ad,B,val,ln,rfl,l.k.mono Y,λr D' j G1 p1 q1 t1 n1 P1 m1 _=>?_]];obtain rfl:=yi q1 q5<|p1.trans p5.symm;have sh:=MZ (val:=val) (ns:=ad.ns) (λt ht=>by obtain⟨p,hp,rfl⟩:=mV.mp<|p1.subset ht;show l.k.ok p hp) (by rw[p1.length_eq,mI];show l.k.len) l.k.kx.nok l.k.kx.pok;have rp:=P1.rp;rw[m1]at rp;have s41:=Y.trans t1;refine#[D',_,rfl,rp,sh.1,oi sh.2.2.1 (by lk),sh.shown (by lk),mM,λr G2 t2 n2 e2=>#[t2.at<|s41.at G,by rw[mI];show Zq (by lia),?_]];have C:=l.app G (s41.trans t2) (s41.free n2) e2 sh λg kp=>by
     have P2:=P5.mono<|t1.trans t2;have hlne:∀{b:lR},H4 b=none->b≠hl:=λy u=>by rw[u,G]at y;cases y
     have:Yw g D es val:=#[kp _ _ (.inl n5) P2.1<|hlne n5,λe he=>by
      obtain⟨r,n,j⟩:=P2.2 e he;show#[r,kp _ _ (.inl<|f5 e he) n<|hlne<|f5 e he,ny j λb _ w=>kp _ _ (.inr #[_,rfl]) w λu=>by rw[u]at w;show nomatch ((s41.trans t2).at G).symm.trans w]]
     have:=this.rp;rw[m5]at this;show this
    generalize mH G2 hl _=H6 at C ⊢;clear rp P1 P5 G hu2 l;obtain⟨vs,hv1,r,_⟩:=id C.held;refine mK (Z3<|ro (pv 5)<|Zj<|Zb (Yh (pv 4) T.ae T.bK (Wd T) hr.m T.aU.b .nil Zz)<|Zb (Z7 (r:=yE) (AM hb hr.gd hr.units) (by rfl) T.fR zT<|Zb (Yh (pv 4) T.ae T.bK (Wd T) hr.m T.aU.b .nil Zz) Za) Za) #[.inl #[rfl,_,mO hv1],C.k.obj,rfl,H0,Fr,x,tr,ad,B,val,ln,rfl,C.k,λr n s7 n7 e7=>#[(C.k.mono s7).obj,rfl,H0,Fr,x,tr,ad,B,val,ln,rfl,C.k.mono s7,λl8 j s8 n8 e8=>?_]];have lwl:=C.k.lwl;have shl:=Zur (lw:=B) (λp hp=>#[C.k.kx.nok.2 _ (C.k.kx.lok.2 p hp).1,(C.k.kx.lok.2 p hp).2]) lwl;refine#[l8,_,rfl,EN e8,shl.1,oi shl.2.2.1 (by lk),shl.shown (by lk),mM,λr H9 s9 n9 e9=>#[(s7.trans<|s8.trans s9).at hv1,by rw[mI];show Zq (by lia),?_]];have L9:=C.app hv1 (s7.trans<|s8.trans s9) ((s7.trans s8).free n9) e9 shl λg kp=>EN (kp _ _ (.inl n7) ((s8.trans s9).at e7) λu=>by rw[u,hv1]at n7;cases n7)
    show .mk _ _ _ _ _ _ _ _ _ _ (show LM T H0 x tr ps tp hl (2 * (i+1)) _ _ _ _ _ _ from L9)
   ·rintro z g ⟨M,o6,o7,L,J,Fr,ad,B,val,ln,hk⟩;show#[#[_,_,_,_,_,rfl],_,hk.held]
  clear L5;rintro z H9 ⟨⟨M,o6,o7,L,J,rfl⟩,Z9,us,eh,u,m9⟩;refine mK (Zl<|sW hr (pR ["_law_pair"] (oZ 1 [] rfl) (Yn<|pv 5) (oF 0) (uY<|Z2 (r:=uq K) (vD hr) (Z7 (r:=yE) (AM hb hr.gd hr.units) (by rfl) T.fR zT<|Zb (qC (K:=K) rfl (pv 0) Zc) Za) (qC (K:=K) rfl (pv 0) Zc)<|Ym _) (pv 0))<|Zo Za) #[mO eh,λC u=>Xc (xs:=us.map V.ref) (λi ys g=>ys=[]/\g C=some (.lst ys)/\mz H9 g) #[rfl,Zd,pr u] ?_ ?_ ?_]
  ·rintro i ys g _ ⟨_,_,sm⟩;show mO<|sm.at eh
  ·rintro i v ys g hi ⟨rfl,hC',sm⟩;rw[nK]at hi;obtain⟨u,j,rfl⟩:=nU.mp hi;obtain⟨l,d,r,p,n⟩:=m9 u<|pe j;have s9:mz (uR Z9 H9) g:=λb o e=>sm.at (HV e).1
   have r:=s9.at r;have p:=BR s9 p;unfold qG;refine#[pA rfl,.inr<|.inl #[mQ r,Zm (j:=0) rfl,l,d,rfl,p,n.1,oi n.2.2.1 (by lk),n.shown (by lk),.inr<|.inl #[mQ r,Zm (j:=1) rfl,.inl #[rfl,?_]]]];rw[nM rfl];show#[rfl,hC',sm]
  ·rintro ys g ⟨rfl,hC',sm⟩;refine#[mM,λle H2 s2 n2 e2=>.inr<|.inl #[1,.lst [],.lst [],by lk,.inr #[_,_,rfl,rfl],?_,?_,?_]]
   ·show xI (ss:=[])<|s2.at hC'
   ·show xI (ss:=[]) e2
   ·rw[nM rfl];show q H2
end
end K65
end
namespace K65
open PySem L2 NM YM
def Tp{z:Type}{us:lP z}(h:us.length=2):∃a b,us=[a,b]:=by
 rcases us with _|⟨a,_|⟨b,_|_⟩⟩<;>first|show#[_,_,rfl]|cases h
def MY{z:Type}{us:lP z}(h:us.length=3):∃a b c,us=[a,b,c]:=by
 rcases us with _|⟨a,_|⟨b,_|⟨c,_|_⟩⟩⟩<;>first|show#[_,_,_,rfl]|cases h
def Yhm{z:Type}{us:lP z}(h:us.length=4):∃a b c d,us=[a,b,c,d]:=by
 rcases us with _|⟨a,_|⟨b,_|⟨c,_|⟨d,_|_⟩⟩⟩⟩<;>first|show#[_,_,_,_,rfl]|cases h
def UD{us:lP lS}{n:Nat}(h:us.length=n):us=(List.range n).map (λi=>us.getD i .none):=by
 subst h;apply List.ext_getElem?;intro i
 by_cases h:i<us.length<;>simp[h]
def mR{K:lV}{f:lR}{x q:lQ}{st:lW}{s kV r z u y:lS}{od w:lU lR}{p:Array (lU lS)}{ps:lP lQ}(l:K.lookup f=some #[s,od,.func<|fnOf x q (W8 st) (Y3 st) (Zk st) .none kV r z w u y,p])(e:codeIn K u q=true)(k:keepIn K (.ref f)=true)(b:∀kV o z w n y (v:Nat->lS),bindArgs (fnOf x q (W8 st) (Y3 st) (Zk st) .none kV o z w n y) #[(List.range ps.length).map v,[]]=pure (ps.zip<|(List.range ps.length).map v)):Dn K x q st ps:=#[f,_,Fg l e k,(Fg l e k).binds λ_ _ _ _ _ _ j h=>by rw[UD h];show b ..]
def BX{K:lV}{f u:lR}{p kV o n r j i:lS}{od h y:lU lR}{g x:Array (lU lS)}{d:Nat}{w:Tok}(l:K.lookup f=some #[p,od,.func<|fnOf "leads" "Part.leads" (W8 Wi) (Y3 Wi) (Zk Wi) (.ref u) kV o n h r j,g])(ld:K.lookup u=some #[i,y,.seq (List.toArray [.str "" w]) d,x])(e:codeIn K r "Part.leads"=true)(k:keepIn K (.ref f)=true):yn K "leads" "Part.leads" Wi ["self","end","lie"] (.str "") :=
 #[f,_,_,Ng (st:=Wi) l e k,λs q KX z=>by
   rw[qf]at z ⊢;obtain⟨_,_,_,rfl⟩:=MY z;show BE rfl (KX _ _ ld) rfl rfl rfl,.str "" w,#[w,rfl],λs q KX z=>by
   have c:q.length=2:=by simpa using z
   obtain⟨_,_,rfl⟩:=Tp c;show BE rfl (KX _ _ ld) rfl rfl rfl]
def DM{K:lV}{f w:lR}{q kV p o u n j:lS}{od i y:lU lR}{h x:Array (lU lS)}{g:Nat}(l:K.lookup f=some #[q,od,.func<|fnOf "__init__" "Tracks.__init__" (W8 Y4) (Y3 Y4) (Zk Y4) (.ref w) kV p o i u n,h])(ld:K.lookup w=some #[j,y,.seq (List.toArray [.none]) g,x])(e:codeIn K u "Tracks.__init__"=true)(k:keepIn K (.ref f)=true):yn K "__init__" "Tracks.__init__" Y4 ["self","parts","joins","signals"] .non :=
 #[f,_,_,Ng (st:=Y4) l e k,λs r KX z=>by
   rw[qf]at z ⊢;obtain⟨_,_,_,_,rfl⟩:=Yhm z;show BE rfl (KX _ _ ld) rfl rfl rfl,.none,rfl,λs r KX z=>by
   have d:r.length=3:=by simpa using z
   obtain⟨_,_,_,rfl⟩:=MY d;show BE rfl (KX _ _ ld) rfl rfl rfl]
def YQ(lk:K.lookup C=some (excClassObj nm qn C s bs (.ref Y ::wC) true sn sub ab col dd k0 k1 k2 k3 k5 "ValueError.__new__"))(z:keepIn K (.ref C)=true)(y:findIn K (.ref C) "__init__"=some (some<|.ref f))(fn:PySem.W.typeIn K (.ref f)=some (.type "function"))(w:findIn K (.ref C) "__setattr__"=some (some<|.builtin "object.__setattr__"))(u:findIn K (.ref C) x=some none)(g:XG K C):XI K C Y f x:=#[#[_,_,_,_,_,_,_,_,_,_,_,_,_,_,lk],z,y,fn,w,g.xa,u]
def Ki(vs:Array lS)(p:lR):Prop:=vs[11]? =some (.ref p)
def mL(e:fd.code=.ref c)(_:K.lookup c=some #[.type "code",od,.fields vs,z])(_:Ki vs p)(h:PySem.W.codeHdIn K c p=true):uU K fd p:=#[c,e,h]
abbrev Tx.pts{K:lV}{mg:lQ->lU lS}(T:Tx K mg):lP lR:=[T.bX,T.bw,T.bi,T.bY,T.bx,T.cy,T.ci]
def sR(h:K.lookup a=some #[.type "tuple",od,.seq (List.toArray [.str "" z,.str "" y]) n,x])(H:Hp):SqT K H a ([.str "",.str ""]:lP V):=.inr #[_,_,_,h,rfl,rfl,by simp[tU],.cons #[_,rfl]<|.cons #[_,rfl] .nil]
def mE{z:Type}{p:z->Prop}{a:z}(h:p a):∃x,p x:=#[a,h]
def fin{l:PySem.W.OpenLaw}{w:lY}{K:lV}{h:lX}{x:lQ->lU lS}{q f:lR}{g kV o n u j:lS}{od i:lU lR}{d:Array (lU lS)}(X:K.In h)(G:h.Ns mainGlobals x)(r:x "law"=some (.ref q))(T:Tx K x)(a:nsIn K mainGlobals "law"=some (some<|.ref f))(lk:K.lookup f=some #[g,od,.func<|fnOf "law" "law" (W8 vz) (Y3 vz) (Zk vz) .none kV o n i u j,d])(e:codeIn K u "law"=true)(k:keepIn K (.ref f)=true)(y:∀p∈T.pts,h.get? p=some (PySem.W.tabObj #[]))(c:T.pts.Nodup)(Y:PySem.W.noTabs K=true)
  :∃(fd:me)(tabs:lP (lR×Array lS)),CV K h tabs/\(∀(s:lT)(v:lS),BindsTo s fd #[[v],[]] [("_law_script",v)])/\∀mB:lX,K.In mB->mB.Ns mainGlobals x->(∃U,mB.Ns sysModules U)->Xf l.prog w K x mB oP 13 q fd ["_law_script"] (yh K tabs):=by
 have e:=r.symm.trans<|mg_of X G a;cases e;show#[fnOf "law" "law" (W8 vz) (Y3 vz) (Zk vz) .none kV o n i u j,T.tabs,#[qk.mpr #[T.eP.imp λ_ z=>z.2,qk.mpr #[T.dX.imp λ_ z=>z.2,qk.mpr #[T.dY.imp λ_ z=>z.2,qk.mpr #[T.eQ.imp λ_ z=>z.2,qk.mpr #[T.dZ.imp λ_ z=>z.2,qk.mpr #[T.fk.imp λ_ z=>z.2,qk.mpr #[T.fm.imp λ_ z=>z.2,λ_ z=>nomatch z]]]]]]],qk.mpr #[y T.bX (by simp[Tx.pts]),qk.mpr #[y T.bw (by simp[Tx.pts]),qk.mpr #[y T.bi (by simp[Tx.pts]),qk.mpr #[y T.bY (by simp[Tx.pts]),qk.mpr #[y T.bx (by simp[Tx.pts]),qk.mpr #[y T.cy (by simp[Tx.pts]),qk.mpr #[y T.ci (by simp[Tx.pts]),λ_ z=>nomatch z]]]]]]],qk.mpr #[#[_,rfl,by lk],qk.mpr #[#[_,rfl,by lk],qk.mpr #[#[_,rfl,by lk],qk.mpr #[#[_,rfl,by lk],qk.mpr #[#[_,rfl,by lk],qk.mpr #[#[_,rfl,by lk],qk.mpr #[#[_,rfl,by lk],λ_ z=>nomatch z]]]]]]],c,Y],λs v=>.of_eq rfl,λmB _ _=>Yfk (Fg (st:=vz) lk ‹_› k) T]
def ua{K:Params->lV}{as:lP lR}{e:∀P,as=(K P).map (·.1)}{ts ps:lP lR}{w:lY}{h:lX}(Y:(PySem.W.kmHook K as e ts).says w h)(i:(ps.all λp=>ts.contains p)=true:=by lk):∀p∈ps,h.get? p=some (PySem.W.tabObj #[]):=λp z =>
 PySem.W.km_tabs_of Y p (KM.mp<|wE.mp i p z)
def walk{l:PySem.W.OpenLaw}{q:ma}{o:lP lQ}{n:(lQ->lU lS)->lX->Prop}{y:lY->lX->Prop}{d:DefRec}{K:Params->lV}(j:l.most=some 63)(r:d.params.defaults=[])
  (i:∀(w:lY)(h:lX),y w h->(K w.params).In h)
  (F:∀(w:lY)(z:lQ->lU lS)(p:lR)(h:lX),y w h->(K w.params).In h->h.Ns mainGlobals z->z d.name=some (.ref p)->
   ∃(fd:me)(tabs:lP (lR×Array lS)),CV (K w.params) h tabs/\(∀(s:lT)(u:lS),BindsTo s fd #[[u],[]] [("_law_script",u)])/\∀mB:lX,(K w.params).In mB->mB.Ns mainGlobals z->(∃g,mB.Ns sysModules g)->Xf l.prog w (K w.params) z mB oP 13 p fd ["_law_script"] (yh (K w.params) tabs)) (e:PyProof.Rows.importsNone q=true) :
  PySem.W.WalkO q o n y l.row.toRowW d [] (λf vs=>PySem.call f vs):=L2.walk_ofS (k:=13) (x :="_law_script") j r #[rfl,by lk,by lk,rfl] i F e
end K65
end
namespace PySem.W.Fast
def tw2698474001279612795:=True
lay_quick env_41 heap_1116 heap_39 heap_46 sts_101 sts_1068 sts_116 sts_131 sts_153 sts_175 sts_197 sts_212 sts_232 sts_291 sts_306 sts_335 sts_350 sts_393 sts_443 sts_49 sts_494 sts_556 sts_601 sts_649 sts_71 sts_727 sts_757 sts_86 sts_985 tree_100 tree_1067 tree_1115 tree_115 tree_130 tree_152 tree_174 tree_196 tree_211 tree_231 tree_290 tree_305 tree_334 tree_349 tree_392 tree_442 tree_47 tree_493 tree_555 tree_600 tree_648 tree_70 tree_726 tree_756 tree_85 tree_896 tree_981 view_39
end PySem.W.Fast
open PySem PySem.W PyProof.Rows L2 K65
set_option maxRecDepth 100000 in
set_option maxHeartbeats 0 in
theorem PySem.Challenge.cw_yardkeep_k62_ways_set_holds : PySem.Challenge.rw_yardkeep_k62_ways_set.Holds := by
  w_on; o_law; k_head; (case hw=>w_witness2)
  k_fill
  refine K65.walk (l:=PySem.Challenge.rw_yardkeep_k62_ways_set) rfl rfl (fun w h Y=>km_in_of Y) ?F ?Qz
  case Qz=>kernel_rfl
  case F=>
   intro w mg fa h Y X G hm
   have g:=fun{n v}=>@mg_of _ _ mg n v X G
   have n:=fun{n}=>@mg_none_of _ _ mg n X G
   refine' K65.fin X G hm ?T ?_ ?_ ?_ ?_ ?tm ?tn ?tq
   case' T=>apply Tx.mk
   all_goals try first|refine' mR ?_ ?_ ?_ ?_|refine' ⟨mR ?_ ?_ ?_ ?_,g ?_⟩|refine' BX ?_ ?_ ?_ ?_|refine' DM ?_ ?_ ?_ ?_
   all_goals try (intro _ _ _ _ _ _ u;rfl)
   all_goals try (refine g ?_;k_is)
   all_goals try (refine n ?_;k_is)
   all_goals try refine' mE (g ?_)
   all_goals try refine' tZ (g ?_) ?_
   all_goals try refine' YQ ?_ ?_ ?_ ?_ ?_ ?_ ?_
   all_goals try refine' mL ?_ ?_ ?_ ?_
   all_goals try refine' sR ?_
   all_goals try k_is
   all_goals try (refine ⟨?_,?_,?_,?_⟩<;>(try dsimp only [mR,BX,DM])<;>k_is)
   all_goals try (refine ⟨?_,?_,?_⟩<;>(try dsimp only [mR,BX,DM])<;>k_is)
   all_goals try dsimp only [mR,BX,DM,mU,kB,cB]
   all_goals try k_is
   all_goals try kit_is
   all_goals try k_exc
   all_goals try (refine ⟨⟨?_,?_,?_⟩,?_,?_,?_,?_,?_⟩<;>first|k_is|(show isClsIn _ _=true;k_is))
   all_goals try k_is
   all_goals try (delta Ki;rfl)
   all_goals try first|kernel_rfl|rfl
   case tm=>dsimp only [Tx.pts];exact ua Y
   case tn=>dsimp only [Tx.pts];decide
