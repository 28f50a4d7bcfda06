import PyProof.Rows.All
import Wide.All
import OpenK.AllK
import PySem.Challenge.RW_yardkeep_k61_come_and_leave
set_option Elab.async false
set_option linter.all false
set_option maxRecDepth 100000
set_option maxHeartbeats 4000000
set_option hygiene false in
local macro_rules|`(tactic|rfl')=>`(tactic|intro c6 A lJ s H vs Q E hr h)
local macro_rules|`(tactic|left)=>`(tactic|decide)
local macro_rules|`(tactic|trivial)=>`(tactic|decide +kernel)
open Lean in
local macro_rules|`(lay_quick $i*)=>do
 let g s:=mkIdent (.mkSimple s!"tw{(Name.str `PySem.Challenge.cw_yardkeep_k61_come_and_leave_holds s).hash}")
 return mkNullNode (<-(i.map (g ·.getId.toString)++(Array.range 1102).map fun k=>g s!"o_{k+43}").mapM fun x=>`(def $x :=True))
local macro_rules(kind:=Lean.Parser.Command.declaration)|x=>do if [`Lean.Parser.Command.definition,`Lean.Parser.Command.abbrev].contains x[1].getKind&&x[0].getArgs.all (·.isNone) then return x.setArg 0 (<-`(noncomputable def a:=1)).raw[0] else Lean.Macro.throwUnsupported
set_option bootstrap.genMatcherCode false
open PySem.W (Frag kitOne keepIn findIn nsIn mg_of fnOf codeIn)
abbrev kQ:=@List
abbrev kR:=PySem.Str
abbrev kS:=PySem.Addr
abbrev kT:=PySem.Value
abbrev kU:=PySem.Shared
abbrev kW:=@Option
abbrev kX:=PySem.W.Frag
abbrev kY:=PySem.Stmt
abbrev kZ:=PySem.Heap
abbrev lh:=PySem.World
abbrev li:=PySem.Expr
abbrev lq:=PySem.Program
abbrev lu:=PySem.Around
abbrev lv:=PySem.FuncData
def lV:=@List.length_map
def lT:=@PySem.wpAny_bind
def my:=@PySem.Heap.get?_push_of_some
def mq:=@List.map_append
def mh:=@List.mem_map
def mS:=@Option.map_eq_some_iff
def mG:=@List.getElem?_map
def mB:=@decide_eq_true
def mo:=@PySem.Heap.lt_size
def mv:=@PySem.Paired.length
def mi:=@PySem.wpAny_pure
def mn:=@Nat.le_refl
def mV:=@List.mem_cons_self
def mO:=@decide_eq_false
def oj:=@List.getElem?_eq_some_iff
def mX:=@Bool.false_ne_true
def mC:=@Nat.ne_of_lt
def oh:=@List.getElem?_eq_getElem
def mY:=@List.length_append
def nJ:=@List.mem_cons_of_mem
def nG:=@PySem.Heap.get?_push_size
def mH:=@List.map_cons
def mI:=@List.mem_cons
def ny:=@List.size_toArray
def nq:=@List.take_add_one
def oK:=@PySem.Str.length_append
def mW:=@Option.some.inj
def nW:=@List.mem_singleton
def nM:=@of_decide_eq_true
def mZ:=@List.mem_append
def nI:=@List.length_take
def oE:=@List.mem_of_getElem?
def lY:=@if_neg
def lZ:=@if_pos
def pq:=@List.mem_append_right
def qx:=@PyProof.Rows.boot_isinstance
def oN:=@Nat.lt_of_lt_of_le
def ou:=@List.length_cons
def ow:=@List.take_length
def pc:=@Int.emod_lt_of_pos
def ol:=@PySem.PassesOwn.never
def nj:=@Nat.le_trans
def pN:=@List.forall_mem_cons
def rn:=@List.getD_eq_getElem?_getD
def oY:=@Int.emod_nonneg
def rT:=@PySem.F.excBase_ValueError
def og:=@List.map_map
def pD:=@Bool.and_eq_true
def pj:=@List.nodup_cons
def qm:=@PySem.mem_of_lookup
def pP:=@List.nodup_append
def pz:=@List.append_nil
def qu:=@List.append_assoc
def rK:=@PySem.Heap.get?_update_other
def qX:=@beq_eq_false_iff_ne
def tY:=@PyProof.Rows.boot_sorted
def oJ:=@Nat.zero_le
def qB:=@List.lookup_cons
def qt:=@PySem.W.kia_one
def pL:=@PySem.wpAny_holding
def sv:=@List.getElem_of_mem
def pU:=@Nat.lt_irrefl
def qH:=@Bool.eq_iff_iff
def uc:=@List.getElem?_eq_none
def oQ:=@PySem.wpAny_mono
def sM:=@Array.length_toList
def sX:=@PySem.wpAny_Call_Name_kw
def nV:=@congrArg
def pV:=@Nat.lt_trans
def uL:=@PyProof.Rows.boot_str
def uU:=@List.take_of_length_le
def sy:=@List.mem_filter
def sS:=@List.filter_cons
def pI:=@True.intro
def tI:=@PySem.wpAny_newObj_type
def se:=@PySem.Heap.size_push
def su:=@List.nodup_nil
def nR:=@Ne.symm
def xR:=@PyProof.Rows.callWith_type1
def wK:=@PySem.F.plainAttrs_list
def wc:=@PySem.Calls.callWith_builtin
def wR:=@PyProof.Rows.boot_list
def wA:=@PyProof.Rows.boot_dict
def uM:=@PySem.wpAny_truthy_bool
def qT:=@PySem.sizeLine_eq
def vv:=@Option.some_ne_none
def xb:=@List.length_filter_le
def wE:=@PyProof.Rows.boot_int
def qo:=@beq_iff_eq
def vF:=@Bool.false_eq_true
def vn:=@PySem.Code.quiet_builtin
def uj:=@List.all_eq_true
def uz:=@List.mem_flatMap
def xv:=@PySem.Heap.get?_none_of_le
def xf:=@List.mem_append_left
def ye:=@PySem.F.plainAttrs_dict
def zh:=@PyProof.Rows.slot_tuple_getitem
def vA:=@PySem.wpAny_pyIter_list
def wn:=@PySem.W.KT.app_list
def wB:=@List.flatMap_append
def yA:=@PyProof.Rows.boot_bool
def Ai:=@Array.getElem?_eq_some_iff
def uX:=@List.not_mem_nil
def vK:=@List.mem_nil_iff
def xl:=@List.mem_filterMap
def wZ:=@PySem.Calls.spliced_cons
def sQ:=@List.map_nil
def wC:=@PySem.tupleKind_room_in1
def wD:=@List.filter_append
def rR:=@Nat.le_succ
def yp:=@PySem.W.looks_findIn
def yr:=@PySem.Calls.evalArgs_plain
def vY:=@decide_eq_true_eq
def xu:=@Nat.lt_succ_of_lt
def AX:=@PySem.F.slot_list_getattribute
def wG:=@List.foldl_append
def tT:=@Nat.le_of_lt
def ud:=@PySem.codeAny_mono
def Al:=@PySem.wpAny_getItem_str_slice
def ze:=@List.mem_map_of_mem
def zu:=@List.Perm.append_right
def xY:=@PySem.W.callWith_K
def uq:=@PySem.wpAny_typeOf
def zU:=@Array.getElem?_toList
def wQ:=@List.find?_cons
def wL:=@List.length_nil
def zC:=@PySem.Heap.get?_update_self
def Bg:=@PySem.Obj.isFreed_of_fields
def AK:=@List.getElem?_toArray
def AF:=@List.take_append_drop
def xG:=@PySem.Calls.spliced_nil
def sU:=@PySem.wpAny_call
def yZ:=@Int.toNat_natCast
def vf:=@List.any_cons
def yT:=@bne_self_eq_false
def yY:=@PySem.wpAny_loadPart_at
def vq:=@List.map_take
def qC:=@PyProof.Rows.wpS_bind
def yB:=@PySem.Heap.get?_push_ne
def DY:=@List.getElem?_append_right
def Bc:=@PySem.wpAny_newFunctionEnv
def zt:=@PySem.codeAny_call_builtin
def AN:=@PySem.F.slot_NoneType_hash
def Ez:=@List.getElem?_append_left
def EJ:=@List.drop_eq_getElem_cons
def Ee:=@PySem.Calls.call_function_entry
def yg:=@Nat.lt_succ_self
def xH:=@List.length_drop
def yc:=@beq_self_eq_true
def yU:=@PySem.Heap.size_update
def zg:=@PySem.BindsTo.of_defaults
def uV:=@Nat.ne_of_gt
def vI:=@Nat.le_of_eq
def Dt:=@Option.isSome_iff_exists
def uT:=@PySem.call_meetsIn
def zq:=@PySem.W.of_hideAll
def yO:=@PySem.wpAny_passesOwn
def xD:=@List.of_mem_zip
def EQ:=@List.getElem?_replicate
def yH:=@PySem.SeqAt.EqAt.same
def AD:=@PySem.Obj.data_mapFields
def CN:=@List.eraseIdx_cons_succ
def DX:=@PySem.wpAny_pyNext_list_item
def Ew:=@PySem.W.cellsFrom_some
def vj:=@Sum.inr.inj
def Jn:=@PySem.plainObj_wpAny_Assign_Attribute
def vN:=@PySem.wpAny_field
def Ip:=@Array.getElem?_setIfInBounds_ne
def AQ:=@List.reverse_cons
def zG:=@List.length_range
def xE:=@List.mem_range
def rX:=@if_false
def yP:=@List.Perm.swap
def BH:=@PySem.wpAny_pyNext_list_end
def Eb:=@PySem.W.methodCall_KW
def BN:=@PySem.F.slot_dict_get
def BO:=@PySem.wpAny_notOrdered_dict
def zl:=@PySem.wpAny_execs_cons
def Aw:=@PySem.wpAny_call_entry
def At:=@List.nil_sublist
def EM:=@List.getElem?_set_ne
def DF:=@PySem.Around.frames_deeper
def Eg:=@PySem.SeqAt.EqAt.bool_bool
def BI:=@PySem.F.slot_dict_update
def Eh:=@List.mem_of_mem_take
def xO:=@PySem.wpAny_standAt
def sR:=@or_false
def yI:=@Prod.mk.injEq
def Bf:=@List.cons.injEq
def Bs:=@PySem.W.hideAll_get
def ER:=@List.filterMap_cons
def zx:=@PySem.wpAny_execs_nil
def Dc:=@PySem.W.plainGet_of
def Do:=@PySem.W.looks_clsIn
def EE:=@PySem.SeqAt.EqAt.none_int
def DL:=@PySem.SeqAt.EqAt.none_str
def Fk:=@PySem.F.slot_list_pop
def AI:=@PySem.wpAny_specialOf
def zX:=@PySem.post_val_or_str
def zK:=@Bool.or_eq_true
def Ay:=@PySem.codeAny_builtin
def EO:=@PySem.W.codeHd_of_K
def An:=@List.Perm.trans
def AW:=@List.range_succ
def Cf:=@List.map_congr_left
def zF:=@List.filter_nil
def Cj:=@Nat.mul_le_mul_left
def GQ:=@PySem.Calls.Name_function_global
def IL:=@PySem.wpAny_newFunctionEnv_cells
def En:=@Nat.lt_of_le_of_lt
def xM:=@Nat.lt_or_ge
def EC:=@Option.isNone_none
def uf:=@PyProof.Rows.wpS_pure
def rW:=@if_true
def Ft:=@PySem.F.slot_dict_delitem
def AH:=@List.mapM_cons
def Dg:=@List.flatMap_cons
def BB:=@PySem.slot_list_getitem
def ME:=@PySem.wpAny_getItem_list_slice
def Cp:=@Option.isSome_map
def EF:=@PySem.wpAny_Call_method
def Fl:=@PySem.wpAny_comprehension_free
def JW:=@PySem.F.slot_dict_values
def Fc:=@List.Pairwise.map
def GW:=@List.sublist_append_left
def Le:=@PySem.F.args_dict_get_3
def Hg:=@PySem.F.slot_dict_items
def GU:=@PySem.F.attr_ValueError
def IK:=@decide_eq_false_iff_not
def yj:=@List.not_lt
def Ad:=@List.cons.inj
def Gu:=@PyProof.Rows.boot_tuple
def Fv:=@List.pairwise_singleton
def Mj:=@List.filter_cons_of_neg
def MQ:=@List.filter_cons_of_pos
def CI:=@List.getElem_inj
def Fg:=@decide_eq_decide
def EI:=@List.getElem_mem
def Em:=@List.drop_length
def JU:=@List.getElem?_set_self
def JZ:=@PySem.F.entry_dict_get
def LN:=@PySem.W.funFrames_hide
def Mt:=@PyProof.Rows.boot_repr
def Fx:=@List.length_replicate
def Lm:=@PySem.F.slot_list_append
def Lv:=@PySem.F.slot_list_extend
def Kw:=@PySem.F.slot_dict_pop
def zS:=@PySem.Txt.slice_le
def Ks:=@List.Perm.append_left
def MA:=@List.perm_append_comm
def JR:=@List.contains_iff_mem
def Kh:=@PyProof.Rows.boot_min
def GL:=@PySem.F.type_list_pop
def Gq:=@PyProof.Rows.boot_max
def CA:=@List.filter_map
def ya:=@PySem.call_meets
def GJ:=@PySem.W.hideAll_none
def IV:=@Array.mem_toList_iff
def Ln:=@PySem.W.kla_callFunE
def JE:=@PySem.W.kla_codeExpr
def Dp:=@PySem.wpAny_loadPart
def CY:=@PySem.wpAny_setField
def Fj:=@List.Perm.refl
def BM:=@PySem.boot_len
def JS:=@PySem.W.findObj_own
def FY:=@PySem.W.callWith_K0
def zv:=@PySem.Paired.snoc
def LF:=@PySem.evalArgs_none
def Mp:=@PySem.W.KeqHits.hit
def JH:=@PySem.W.looks_mroIn
def HJ:=@List.take_succ_cons
def zN:=@Prod.mk.inj
def IP:=@List.filter_eq_self
def Jz:=@PySem.W.codeRec_of
def Ek:=@List.all_cons
def DW:=@Bool.false_or
def Ll:=@PySem.W.check_slot
def DK:=@List.map_drop
def Ae:=@PySem.Walks.list
def Bj:=@PySem.wpAny_rule
def wv:=@Or.inl
def wx:=@Or.inr
namespace L2
open PySem PySem.Spec PyProof.Rows
abbrev md:=Sum Int kR
def tM:md->kT->Bool
 | .inl k,v=>Value.isInt k v
 | .inr x,v=>Value.isStrOf x v
def FT(w:lh):md->Int
 | .inl k=>hashInt k
 | .inr x=>hashStr w x
theorem Yp:∀{k:md} {v:kT},tM k v=true->(∃i t,k=Sum.inl i/\v=Value.int i t)\/(∃x t,k=Sum.inr x/\v=Value.str x t)
 | .inl i,v,h=>by
  obtain ⟨t,e⟩:=Value.isInt_shape (k:=i) (v:=v) h;exact .inl ⟨i,t,rfl,e⟩
 | .inr x,v,h=>by
  obtain ⟨t,e⟩:=Value.isStrOf_shape (x:=x) (v:=v) h;exact .inr ⟨x,t,rfl,e⟩
def Qc(i:Int)(t:Tok):tM (.inl i) (.int i t)=true:=by simp [tM,Value.isInt]
def Rr(x:kR)(t:Tok):tM (.inr x) (.str x t)=true:=by simp [tM,Value.isStrOf]
def QS(a b:Int):decide ((Sum.inl a:md)=Sum.inl b)=(a ==b):=by
 by_cases e:a=b
 ·subst e;simp
 ·have h:¬(Sum.inl a:md)=Sum.inl b:=fun q=>e (Sum.inl.inj q)
  rw [mO h];exact (qX.mpr e).symm
def Nc(a b:kR):decide ((Sum.inr a:md)=Sum.inr b)=decide (a=b):=by
 by_cases e:a=b
 ·subst e;simp
 ·have h:¬(Sum.inr a:md)=Sum.inr b:=fun q=>e (vj q)
  rw [mO h,mO e]
def RL(a:Int)(b:kR):decide ((Sum.inl a:md)=Sum.inr b)=false:=mO (fun q=>nomatch q)
def WI(a:kR)(b:Int):decide ((Sum.inr a:md)=Sum.inl b)=false:=mO (fun q=>nomatch q)
def Zu(prog:lq)(w:lh):PySem.KeyKind prog w md where
 is:=tM
 hash:=FT w
 inj:=fun v a b ha hb=>by
  rcases Yp ha with ⟨i,t,rfl,rfl⟩|⟨x,t,rfl,rfl⟩
  ·rcases Yp hb with ⟨j,u,rfl,e⟩|⟨y,u,rfl,e⟩
   ·injection e with e1 _;rw [e1]
   ·exact nomatch e
  ·rcases Yp hb with ⟨j,u,rfl,e⟩|⟨y,u,rfl,e⟩
   ·exact nomatch e
   ·injection e with e1 _;rw [e1]
 byValue:=fun k v h=>by
  rcases Yp h with ⟨i,t,rfl,rfl⟩|⟨x,t,rfl,rfl⟩ <;>rfl
 pyHash:=fun hv h=>by
  rcases Yp hv with ⟨i,t,rfl,rfl⟩|⟨x,t,rfl,rfl⟩
  ·exact wpAny_pyHash_int h
  ·exact wpAny_pyHash_str h
 eqBool:=fun hu hv h=>by
  rcases Yp hu with ⟨i,t,rfl,rfl⟩|⟨x,t,rfl,rfl⟩
  ·rcases Yp hv with ⟨j,u,rfl,rfl⟩|⟨y,u,rfl,rfl⟩
   ·rw [QS] at h;exact wpAny_eqBool_int h
   ·rw [RL] at h;exact SeqAt.EqAt.int_str i t y u _ _ _ _ h
  ·rcases Yp hv with ⟨j,u,rfl,rfl⟩|⟨y,u,rfl,rfl⟩
   ·rw [WI] at h;exact SeqAt.EqAt.str_int x t j u _ _ _ _ h
   ·rw [Nc] at h;exact wpAny_eqBool_str h
 «strs» :=fun k x t v h=>by
  rcases Yp h with ⟨i,u,rfl,e⟩|⟨y,u,rfl,e⟩
  ·exact nomatch e
  ·injection e with e1 _
   subst e1;cases v <;>rfl
def Vz(prog:lq)(w:lh)(i:Int)(t:Tok):(Zu prog w).is (.inl i) (.int i t)=true:=Qc i t
def US(prog:lq)(w:lh)(x:kR)(t:Tok):(Zu prog w).is (.inr x) (.str x t)=true:=Rr x t
inductive V where
 | non | bl (b:Bool) | int (i:Int) | str (x:Str) | byt (b:Array UInt8) | flt (b:UInt64) | ref (a:Addr) | ty (n:String)
 deriving DecidableEq
def Yd:V->kT->Prop
 | .non,u=>u=Value.none
 | .bl b,u=>u=Value.bool b
 | .int i,u=>∃t,u=Value.int i t
 | .str x,u=>∃t,u=Value.str x t
 | .byt b,u=>∃t,u=Value.bytes b t
 | .flt b,u=>∃t,u=Value.float b t
 | .ref a,u=>u=Value.ref a
 | .ty n,u=>u=Value.type n
abbrev Yc:kQ V->kQ kT->Prop:=Paired Yd
def Yc.length(r:Yc xs us):xs.length=us.length:=mv r
theorem Yc.get:∀{xs:kQ V} {us:kQ kT} {i:Nat} {x:V},Yc xs us->xs[i]? =some x->∃u,us[i]? =some u/\Yd x u
 | _,_,_,_,.nil,e=>by simp at e
 | _,_,0,_,.cons r _,e=>by simp at e;subst e;exact ⟨_,rfl,r⟩
 | _,_,i+1,x,.cons _ t,e=>by
  obtain ⟨u,h1,h2⟩:=Yc.get (i:=i) (x:=x) t (by simpa using e);exact ⟨u,by simpa using h1,h2⟩
theorem Yc.set(r:Yd x u):∀{xs:kQ V} {us:kQ kT} (i:Nat),Yc xs us->Yc (xs.set i x) (us.set i u)
 | _,_,_,.nil=>.nil
 | _,_,0,.cons _ t=>.cons r t
 | _,_,i+1,.cons q t=>.cons q (Yc.set r i t)
theorem Yc.append:∀{xs ys:kQ V} {us ws:kQ kT},Yc xs us->Yc ys ws->Yc (xs++ys) (us++ws)
 | _,_,_,_,.nil,s=>s
 | _,_,_,_,.cons r t,s=>.cons r (Yc.append t s)
theorem Yc.take:∀{xs:kQ V} {us:kQ kT} (n:Nat),Yc xs us->Yc (xs.take n) (us.take n)
 | _,_,0,_=>.nil
 | _,_,_+1,.nil=>.nil
 | _,_,n+1,.cons r t=>.cons r (Yc.take n t)
theorem Yc.drop:∀{xs:kQ V} {us:kQ kT} (n:Nat),Yc xs us->Yc (xs.drop n) (us.drop n)
 | _,_,0,r=>r
 | _,_,_+1,.nil=>.nil
 | _,_,n+1,.cons _ t=>Yc.drop n t
def oW:kW V->kW kT->Prop
 | some v,some u=>Yd v u
 | none,none=>True
 | _,_=>False
def KV{κ:Type}:kQ (κ×V)->kQ (κ×kT)->Prop:=Paired fun (p:κ×V) (q:κ×kT)=>p.1=q.1/\Yd p.2 q.2
def kV:md->V
 | .inl i=>.int i
 | .inr x=>.str x
inductive HO where
  | lst (xs:List V)
  | tup (xs:List V)
  | dK (kvs:List (md×V)) | dT (kvs:List (List md×V))
  | set (S:Int->Bool) (n:Nat)
  | ins (C dx:Addr) (fs:List (Str×V))
  | own (x:Addr)
  | xd (fs:List (Str×V))
  | met (f x:Addr)
  | rng (lo hi:Int)
  | frz (o:Obj) (u:HO)
  | tbl (ps:Array Value)
  | ext (φ:Heap->Prop)
abbrev Hp:=kS->kW HO
def upd(H:Hp)(a:kS)(o:HO):Hp:=fun b=>if b=a then some o else H b
def Zc  :upd H a o a=some o:=by unfold upd;rw [lZ rfl]
def Zd(h:b≠a):upd H a o b=H b:=by unfold upd;rw [lY h]
def DH  :upd (upd H a o) a u=upd H a u:=by
 funext b;unfold upd;split <;>rfl
def MC{H:Hp}{a b:kS}{o u:HO}(h:H a=some o)(h':H b=some u)(d:o≠u):a≠b:=by
 intro e;subst e;rw [h] at h';exact d (mW h')
def Zg{H:Hp}{a b:kS}{o:HO}(h:H a=some o)(h':H b=none):a≠b:=by
 intro e;subst e;rw [h] at h';cases h'
def Ed(oc:Obj)(c Pn:kS):Prop:=∀h:kZ,h.get? c=some oc->PySem.W.CodeHd h c Pn
def Xj(ls:kQ (Nat×Nat×kR)):Array kT:=(ls.flatMap fun p=>[rawInt p.1,rawInt p.2.1,.str p.2.2 0]).toArray
def qk(fs:kQ (Nat×Nat×kR×kS)):Array kT:=(fs.flatMap fun f=>[rawInt f.1,rawInt f.2.1,.ref f.2.2.2]).toArray
def Gn{m n:Nat}(h:rawInt m=rawInt n):m=n:=by
 unfold rawInt at h
 injection h with h
 lia
def Td:∀{ls ms:kQ (Nat×Nat×kR)},Xj ls=Xj ms->ls=ms:=by
 intro ls ms h;have h:(ls.flatMap fun p=>[rawInt p.1,rawInt p.2.1,Value.str p.2.2 0])=ms.flatMap fun p=>[rawInt p.1,rawInt p.2.1,Value.str p.2.2 0]:=by
  unfold Xj at h;simpa using h
 induction ls generalizing ms with
 | nil=>cases ms with
  | nil=>rfl
  | cons m r=>simp at h
 | cons l r ih=>cases ms with
  | nil=>simp at h
  | cons m r2 =>
   simp only [Dg,List.cons_append,List.nil_append,Bf] at h;obtain ⟨h1,h2,h3,h4⟩:=h;obtain ⟨l1,l2,l3⟩:=l;obtain ⟨m1,m2,m3⟩:=m;have e1:l1=m1:=Gn h1;have e2:l2=m2:=Gn h2;have e3:l3=m3:=by injection h3
   have e4:r=r2:=by first | exact ih (nV List.toArray h4) h4 | exact ih (nV List.toArray h4)
   rw [e1,e2,e3,e4]
theorem Ps:∀{ls:kQ (Nat×Nat×kR)},Xj ls ≠ #[Value.none]
 | [],h=>by simp [Xj] at h
 | _ ::_,h=>by simp [Xj] at h
theorem DV:∀fs:kQ (Nat×Nat×kR×kS),TriplesOk (qk fs).toList
 | []=>trivial
 | f ::fs=>by
  have:=DV fs;unfold qk at this ⊢;simpa [TriplesOk,rawInt] using this
theorem JY  :∀{fs:kQ (Nat×Nat×kR×kS)},codeAmong pos (qk fs).toList=some cv->∃f∈fs,cv=.ref f.2.2.2/\f.1=pos.line/\f.2.1=pos.col
 | [],h=>by simp [qk,codeAmong] at h
 | f ::fs,h=>by
  have e:(qk (f ::fs)).toList=rawInt f.1 ::rawInt f.2.1 ::Value.ref f.2.2.2 ::(qk fs).toList:=by simp [qk]
  rw [e] at h;have h:(if ((f.1:Int) ==(pos.line:Int) && (f.2.1:Int) ==(pos.col:Int))=true then some (Value.ref f.2.2.2) else codeAmong pos (qk fs).toList)=some cv:=h;split at h
  ·rename_i z;simp only [pD,qo] at z;exact ⟨f,mV,(mW h).symm,by lia,by lia⟩
  ·obtain ⟨g,hg,r⟩:=JY h;exact ⟨g,nJ _ hg,r⟩
def NI(fs:kQ (Nat×Nat×kR×kS))(f:Nat×Nat×kR×kS):qk (fs++[f])=qk fs ++ #[rawInt f.1,rawInt f.2.1,.ref f.2.2.2]:=by
 unfold qk;simp
section
variable (P:lq) (w:lh)
def Z5(H:Hp)(h:kZ)(a:kS):HO->Prop
 | .lst xs=>xs.length<=sizeLine/\∃(b9:kQ kT) (n:Nat),Yc xs b9/\h.get? a=some { cls:=.type "list",data:=.seq b9.toArray n }
 | .tup xs=>xs.length<=sizeLine/\∃b9:kQ kT,Yc xs b9/\IsTup h a b9.toArray
 | .dK kvs=>kvs.length<=sizeLine/\(a ==sysModules)=false/\∃vs,KV kvs vs/\h.DictOf (Zu P w) a vs
 | .dT kvs=>kvs.length<=sizeLine/\(a ==sysModules)=false/\∃xs:kQ (kQ md×kS×kT),
   Paired (fun (p:kQ md×V) (q:kQ md×kS×kT)=>p.1=q.1/\H q.2.1=some (.tup (p.1.map kV))/\Yd p.2 q.2.2) kvs xs /\
   ∃o es ep,h.get? a=some o/\o.ExactDict/\o.data=.dict es ep/\es.toList=xs.map (entryOfKey (tupleKind (Zu P w)))/\(xs.map (·.1)).Nodup
 | .set S n=>h.SetOf (intKind P w) a S n
 | .ins C dx fs=>H dx=some (.own a)/\fs.length<=1000/\dx≠a/\h.get? a=some (PySem.W.instObj C dx) /\
   ∃mA,h.Ns1 dx mA/\(∀f,oW (fs.lookup f) (mA f))/\PySem.Within mA (fs.map (·.1))
 | .own _=>∃o,h.get? a=some o
 | .xd fs=>∃mA,h.Ns1 a mA/\∀f,oW (fs.lookup f) (mA f)
 | .rng lo hi=>∃t u v,h.get? a=some { cls:=.type "range",data:=.fields #[.int lo t,.int hi u,.int 1 v] }
 | .frz o u=>h.get? a=some o/\Z5 H h a u
 | .tbl ps=>∃qs:Array kT,h.get? a=some { cls:=.none,data:=.fields qs }/\(ps=#[.none]/\TriplesOk qs.toList\/∃(ls:kQ (Nat×Nat×kR)) (fs:kQ (Nat×Nat×kR×kS)),ps=Xj ls/\(ls.map fun p=>(p.1,p.2.1)).Nodup/\qs=qk fs /\
   ∀f∈fs,((f.1,f.2.1,f.2.2.1):Nat×Nat×kR)∈ls/\∃(oc:Obj) (vs:Array kT) (tt:Nat) (Pn:kS),H f.2.2.2=some (.frz oc (.own a))/\oc.data=.fields vs/\vs[1]? =some (.str f.2.2.1 tt)/\H Pn=some (.tbl #[.none])/\Ed oc f.2.2.2 Pn)
 | .met f x=>h.get? a=some (PySem.W.methodObj (.ref f) (.ref x))
 | .ext φ=>φ h/\(∃o,h.get? a=some o)/\∀h1 h2:kZ,φ h1->(∀o,h1.get? a=some o->h2.get? a=some o)->φ h2
def mT(H:Hp)(h:kZ):Prop:=∀a o,H a=some o->Z5 P w H h a o
end
section
def Z5.lt(x:Z5 P w H h a o):a<h.objs.size:=by
 cases o with
 | lst xs=>obtain ⟨_,_,_,_,e⟩:=x;exact mo e
 | tup xs=>obtain ⟨_,_,_,p⟩:=x;exact p.lt
 | dK kvs=>obtain ⟨_,_,_,_,o,_,_,e,_⟩:=x;exact mo e
 | dT kvs=>obtain ⟨_,_,_,_,o,_,_,e,_⟩:=x;exact mo e
 | set S n=>obtain ⟨o,_,_,_,e,_⟩:=x;exact mo e
 | ins C dx fs=>obtain ⟨_,_,_,e,_⟩:=x;exact mo e
 | own y=>obtain ⟨_,e⟩:=x;exact mo e
 | xd fs=>obtain ⟨_,⟨_,_,_,e,_⟩,_⟩:=x;exact mo e
 | rng lo hi=>obtain ⟨_,_,_,e⟩:=x;exact mo e
 | frz ob u=>obtain ⟨e,_⟩:=x;exact mo e
 | tbl ps =>
  obtain ⟨_,e,_⟩:=x;exact mo e
 | met f y=>exact mo (show h.get? a=some _ from x)
 | ext φ=>obtain ⟨_,⟨_,e⟩,_⟩:=x;exact mo e
theorem Paired.mapP{α β:Type}{F G:α->β->Prop}:∀{l₁:kQ α} {l₂:kQ β},Paired F l₁ l₂->(∀a b,F a b->G a b)->Paired G l₁ l₂
 | _,_,.nil,_=>.nil
 | _,_,.cons r t,f=>.cons (f _ _ r) (Paired.mapP t f)
def Z5.stay(x:Z5 P w H h a o)(k:∀b u,(b=a\/H b=some (.own a))->h.get? b=some u->h'.get? b=some u)
  (ho:∀b,H b=some (.own a)->H' b=some (.own a)) (ht:∀b xs,H b=some (.tup xs)->H' b=some (.tup xs))
  (hz:∀b o,H b=some (.frz o (.own a))->H' b=some (.frz o (.own a)):=by first | exact fun _ _ q=>q | (intro b o q;rw [Zd (Zg q (by assumption))];exact q))
  (hw:∀b ps,H b=some (.tbl ps)->H' b=some (.tbl ps):=by first | exact fun _ _ q=>q | (intro b o q;rw [Zd (Zg q (by assumption))];exact q)):Z5 P w H' h' a o:=by
 induction o with
 | lst xs=>obtain ⟨z,b9,n,r,e⟩:=x;exact ⟨z,b9,n,r,k _ _ (.inl rfl) e⟩
 | tup xs=>obtain ⟨z,b9,r,ob,e,c⟩:=x;exact ⟨z,b9,r,ob,k _ _ (.inl rfl) e,c⟩
 | dK kvs=>obtain ⟨z,y,vs,r,ob,es,ep,e,c⟩:=x;exact ⟨z,y,vs,r,ob,es,ep,k _ _ (.inl rfl) e,c⟩
 | dT kvs =>
  obtain ⟨z,y,xs,r,ob,es,ep,e,c⟩:=x;exact ⟨z,y,xs,Paired.mapP r fun p q z=>⟨z.1,ht _ _ z.2.1,z.2.2⟩,ob,es,ep,k _ _ (.inl rfl) e,c⟩
 | set S n=>obtain ⟨ob,es,ep,t,e,c⟩:=x;exact ⟨ob,es,ep,t,k _ _ (.inl rfl) e,c⟩
 | ins C dx fs =>
  obtain ⟨d,z,ne,e,mA,⟨od,es,ep,e2,c⟩,r⟩:=x;exact ⟨ho _ d,z,ne,k _ _ (.inl rfl) e,mA,⟨od,es,ep,k _ _ (.inr d) e2,c⟩,r⟩
 | own y=>obtain ⟨ob,e⟩:=x;exact ⟨ob,k _ _ (.inl rfl) e⟩
 | xd fs=>obtain ⟨mA,⟨od,es,ep,e,c⟩,r⟩:=x;exact ⟨mA,⟨od,es,ep,k _ _ (.inl rfl) e,c⟩,r⟩
 | rng lo hi=>obtain ⟨t,u,v,e⟩:=x;exact ⟨t,u,v,k _ _ (.inl rfl) e⟩
 | frz ob u ih=>obtain ⟨e,q⟩:=x;exact ⟨k _ _ (.inl rfl) e,ih q⟩
 | tbl ps =>
  obtain ⟨qs,e,q⟩:=x;exact ⟨qs,k a _ (.inl rfl) e,q.imp_right fun ⟨ls,fs,e1,e2,e3,q⟩=>⟨ls,fs,e1,e2,e3,fun f hf=>let ⟨z1,oc,vs,tt,Pn,f1,f2,f3,f4,f5⟩:=q f hf;⟨z1,oc,vs,tt,Pn,hz _ _ f1,f2,f3,hw _ _ f4,f5⟩⟩⟩
 | met f y =>
  have e:h.get? a=some (PySem.W.methodObj (.ref f) (.ref y)):=x;show h'.get? a=some (PySem.W.methodObj (.ref f) (.ref y));exact k a _ (.inl rfl) e
 | ext φ=>obtain ⟨p,⟨o,e⟩,st⟩:=x;exact ⟨st _ _ p fun o q=>k _ _ (.inl rfl) q,⟨o,k _ _ (.inl rfl) e⟩,st⟩
def mT.lt(x:mT P w H h)(e:H a=some o):a<h.objs.size:=(x a o e).lt
def mT.fresh(x:mT P w H h)(e:h.objs.size<=a):H a=none:=by
 cases q:H a with
 | none=>rfl
 | some u=>exact absurd (oN (x.lt q) e) (pU _)
def mT.kept(x:mT P w H h)(k:∀b u,h.get? b=some u->h'.get? b=some u):mT P w H h':=fun a o e =>
 (x a o e).stay (fun b u _ q=>k b u q) (fun _ q=>q) fun _ _ q=>q
def mT.laid(x:mT P w H h)(k:∀b u,h.get? b=some u->h'.get? b=some u)(hp:h.objs.size<=a)(new:Z5 P w (upd H a o) h' a o):mT P w (upd H a o) h':=fun b u e=>by
 have hn:=x.fresh hp
 by_cases hb:b=a
 ·subst hb;rw [Zc] at e;cases e;exact new
 ·rw [Zd hb] at e;exact (x b u e).stay (fun c v _ q=>k c v q) (fun c q=>by rw [Zd (Zg q hn)];exact q) fun c xs q=>by rw [Zd (Zg q hn)];exact q
end
def Rd(H:Hp)(a:kS)(u:HO):Prop:=H a=some u\/∃o,H a=some (.frz o u)
def Rd.ok(r:Rd H a u)(x:mT P w H h):Z5 P w H h a u:=by
 rcases r with r|⟨o,r⟩
 ·exact x a u r
 ·obtain ⟨_,q⟩:=x a _ r;exact q
def yi:kW HO->Prop
 | some (.lst _)=>True
 | some (.dK _)=>True
 | some (.dT _)=>True
 | some (.set _ _)=>True
 | some (.ins _ _ _)=>True
 | some (.ext _)=>True
 | _=>False
section
def mT.write(ok:mT P w H h)(mu:yi (H x))(he:e=x\/H e=some (.own x))(k:∀b u,b≠e->h.get? b=some u->h'.get? b=some u)(heo:∃u,h'.get? e=some u)
  (new:Z5 P w (upd H x o') h' x o'):mT P w (upd H x o') h':=fun b u q=>by
 have nown:∀c y,H c=some (.own y)->c≠x:=fun c y r z=>by subst z;rw [r] at mu;exact mu
 have ntup:∀c xs,H c=some (.tup xs)->c≠x:=fun c xs r z=>by subst z;rw [r] at mu;exact mu
 have nfrz:∀c o y,H c=some (.frz o (.own y))->c≠x:=fun c o y r z=>by subst z;rw [r] at mu;exact mu
 by_cases hb:b=x
 ·subst hb;rw [Zc] at q;cases q;exact new
 ·rw [Zd hb] at q
  by_cases hbe:b=e
  ·have q':H b=some (.own x):=by
    rcases he with z|z
    ·exact absurd (hbe.trans z) hb
    ·rw [hbe];exact z
   rw [q] at q';cases q';obtain ⟨v,hv⟩:=heo;exact ⟨v,by rw [hbe];exact hv⟩
  ·refine (ok b u q).stay (fun c v hc r=>k c v ?_ r) (fun c r=>by rw [Zd (nown c b r)];exact r) (fun c xs r=>by rw [Zd (ntup c xs r)];exact r) (fun c o r=>by rw [Zd (nfrz c o b r)];exact r) (fun c ps r=>by rw [Zd fun z=>by subst z;rw [r] at mu;exact mu];exact r);rcases hc with rfl|hc
   ·exact hbe
   ·rintro rfl;rcases he with z|z
    ·exact nown c b hc z
    ·rw [hc] at z;cases z;exact hb rfl
end
structure Un(fs ex:List Addr)(H H':Hp)(h h':Heap):Prop where
 keep:∀b o,h.get? b=some o->H b=none->b∉fs->b∉ex->h'.get? b=some o
 slot:∀b o,h.get? b=some o->H b=none->b∈fs->b∉ex->∃sl,h'.get? b=some { o with slots:=sl }
 free:∀b o,h.get? b=some o->H b=none->b∉ex->H' b=none
 there:∀b o,h.get? b=some o->b∉ex->∃o',h'.get? b=some o'
 tups:∀b xs,H b=some (.tup xs)->H' b=some (.tup xs)
 frzs:∀b o u,H b=some (.frz o u)->H' b=some (.frz o u)
 tbls:∀b ps,H b=some (.tbl ps)->∃more,H' b=some (.tbl (ps++more))
section
def Un.any(u:Un fs ex H H1 h h1)(q:h.get? b=some ob)(n:H b=none)(hx:b∉ex):∃sl,h1.get? b=some { ob with slots:=sl }:=by
 by_cases hb:b∈fs
 ·exact u.slot b ob q n hb hx
 ·exact ⟨ob.slots,u.keep b ob q n hb hx⟩
def Un.kept(k:∀b u,h.get? b=some u->h'.get? b=some u):Un fs ex H H h h' :=
 ⟨fun b ob q _ _ _=>k b ob q,fun b ob q _ _ _=>⟨ob.slots,k b ob q⟩,fun _ _ _ n _=>n,fun b ob q _=>⟨ob,k b ob q⟩,fun _ _ q=>q,fun _ _ _ q=>q,fun _ ps q=>⟨#[],by rw [q];simp⟩⟩
def Un.refl:Un fs ex H H h h:=Un.kept fun _ _ q=>q
def Un.laid(k:∀b u,h.get? b=some u->h'.get? b=some u)(hp:h.objs.size<=a)(hn:H a=none):Un fs ex H (upd H a o) h h' where
 keep:=fun b u q _ _ _=>k b u q
 slot:=fun b u q _ _ _=>⟨u.slots,k b u q⟩
 free:=fun b u q n _=>by rw [Zd (mC (oN (mo q) hp))];exact n
 there:=fun b u q _=>⟨u,k b u q⟩
 tups:=fun b xs q=>by rw [Zd (Zg q hn)];exact q
 frzs:=fun b u xs q=>by rw [Zd (Zg q hn)];exact q
 tbls:=fun b ps q=>⟨#[],by rw [Zd (Zg q hn),q];simp⟩
def Un.write(mu:yi (H x))(he:e=x\/H e=some (.own x))(k:∀b u,b≠e->h.get? b=some u->h'.get? b=some u)(heo:∃u,h'.get? e=some u):Un fs ex H (upd H x o) h h':=by
 have hx:∀b,H b=none->b≠x:=fun b n z=>by subst z;rw [n] at mu;exact mu
 have hb:∀b,H b=none->b≠e:=fun b n z=>by
  subst z;rcases he with r|r
  ·exact hx b n r
  ·rw [n] at r;cases r
 have hm:∀b u,H b=some u->¬yi (some u)->b≠x:=fun b u q nm z=>by subst z;rw [q] at mu;exact nm mu
 refine ⟨fun b u q n _ _=>k b u (hb b n) q,fun b u q n _ _=>⟨u.slots,k b u (hb b n) q⟩,fun b u q n _=>by rw [Zd (hx b n)];exact n,fun b u q _=>?_,
  fun b xs q=>by rw [Zd (hm b _ q fun z=>z)];exact q,fun b u xs q=>by rw [Zd (hm b _ q fun z=>z)];exact q,fun b ps q=>⟨#[],by rw [Zd (hm b _ q fun z=>z),q];simp⟩⟩
 by_cases hbe:b=e
 ·subst hbe;exact heo
 ·exact ⟨u,k b u hbe q⟩
end
def sw(h:kZ)(H:Hp):kQ kS:=(List.range h.objs.size).filter fun a=>(H a).isSome
def tN(h:kZ)(H:Hp):kZ:=PySem.W.hideAll h (sw h H)
def Sm(h:kZ)(H:Hp):(tN h H).objs.size=h.objs.size:=PySem.W.hideAll_size _ _
def Nl(e:h.get? b=some o)(n:H b=none):(tN h H).get? b=some o :=
 Bs _ e fun hm=>by
  have q:(H b).isSome=true:=(sy.mp hm).2;rw [n] at q;simp at q
def Pb(e:(tN h H).get? b=some o):h.get? b=some o/\H b=none:=by
 have e':h.get? b=some o:=zq (sw h H) e;refine ⟨e',?_⟩;cases q:H b with
 | none=>rfl
 | some x =>
  have hm:b∈sw h H:=sy.mpr ⟨xE.mpr (mo e'),by simp [q]⟩;have z:(tN h H).get? b=none:=GJ (sw h H) hm;rw [z] at e;cases e
def RD(g h:kZ)(L:kS):kQ (kS×Obj):=(List.range h.objs.size).filterMap fun a=>if a=L\/(g.get? a).isSome=true then none else (h.get? a).map fun o=>(a,o)
def Zz(g h:kZ)(L d:kS):kQ (kS×Obj):=(RD g h L).filter fun p=>decide (p.1≠d)
def JN(mg:kR->kW kT)(h:kZ):Prop:=∃bm ob,mg "__builtins__" =some (.ref bm)/\bm≠builtinsNs/\h.get? bm=some ob/\ob.cls=.type "module" /\ob.dict=some builtinsNs/\ob.data=.plain
structure Mod(K:Frag)(mg:Str->Option Value)(lL:Heap):Prop where
 kin:K.In lL
 glob:lL.Ns mainGlobals mg
 blt:∃mb,lL.Ns builtinsNs mb/\∀x:Str,x ≠ "__name__" ->mb x=bootBuiltins x
 nolimit:lL.NoLimit
 bm:JN mg lL
structure Cx where
 prog:Program
 w:World
 K:Frag
 mg:Str->Option Value
 lL:Heap
 A:Around
 N:List Str
 ly:Shared
 lB:Hp
 env:Env
 lJ:List Env
 stack:List Env
 ex:List Addr
 fn:Str->Bool
 calm:Bool
 pn:List (Addr×Obj)
 xe:Value->Shared->Prop
def mJ(l:kQ Env):kQ kS:=l.filterMap (·.frame)
abbrev Cx.fs(X:Cx):kQ kS:=mJ X.lJ
def zZ(sc:Scope)(x:kR):Prop:=sc.names.lookup x=some .local\/sc.names.lookup x=some .cell\/sc.names.lookup x=some .free
def tW(sc:Scope)(x:kR):Prop:=sc.names.lookup x=some .local\/sc.names.lookup x=some .cell
def SV(env:Env)(h:kZ)(m:kR->kW kT)(x:kR)(u:kT):Prop :=
 (env.kindOf x=some .local/\m x=some u)\/((env.kindOf x=some .cell\/env.kindOf x=some .free)/\∃c,env.cells.lookup x=some c/\h.IsCell c (some u))
structure Cx.Ok(X:Cx):Prop where
 mod:Mod X.K X.mg X.lL
 kind:X.env.scope.kind=.function
 glob:X.env.globals=mainGlobals
 blt:X.env.builtins=builtinsNs
 above:X.ly.heap.objs.size<=X.env.locals
 inj:∀x y c,X.env.cells.lookup x=some c->X.env.cells.lookup y=some c->x=y
 has:∀x,(X.env.kindOf x=some .cell\/X.env.kindOf x=some .free)->∃c,X.env.cells.lookup x=some c
 cab:∀x c,X.fn x=true->X.env.cells.lookup x=some c->X.ly.heap.objs.size<=c
 hd:X.calm=true->X.A.handled=none
 frames:X.A.frames=some X.stack
 stk:X.stack=X.lJ\/(X.stack=X.env ::X.lJ/\X.env.frame=some X.env.locals)
 exf:∀b∈X.ex,b≠X.env.locals/\∀x c,X.env.cells.lookup x=some c->c≠b
 bs:∀b o,X.lL.get? b=some o->X.ly.heap.get? b=some o/\X.lB b=none
 bsz:X.lL.objs.size<=X.ly.heap.objs.size
 noex:∀b o,X.lL.get? b=some o->b∉X.ex
 exfs:∀b∈X.ex,b∉X.fs
 funs:X.ly.heap.FunFrames X.lL X.lJ
 frf:∀b∈X.fs,X.lB b=none
structure lQ(X:Cx)(a9:List (Addr×Obj))(σ:List (Option V))(H:Hp)(s:Shared):Prop where
 ok:X.Ok
 os:s.os=X.ly.os
 bare:AllBare s.gens
 lL:Un X.fs X.ex X.lB H X.ly.heap s.heap
 loc:∃m,s.heap.Ns X.env.locals m/\∀(i:Nat) (x:Str) (v:V),X.N[i]? =some x->σ[i]? =some (some v)->zZ X.env.scope x->∃u,Yd v u/\SV X.env s.heap m x u
 cell:∀x c,X.env.cells.lookup x=some c->∃v,s.heap.IsCell c v
 free:H X.env.locals=none
 freeC:∀x c,X.env.cells.lookup x=some c->H c=none
 pin:∀p∈X.pn++a9,s.heap.get? p.1=some p.2/\H p.1=none/\p.1≠X.env.locals/\p.1∉X.fs/\∀v,p.2.data ≠ .cell v
 hok:mT X.prog X.w H s.heap
 len:σ.length=X.N.length
variable {X:Cx}
def Cx.Ok.nofr(ok:X.Ok)(e:X.lL.get? b=some o):b∉X.fs:=fun hb=>by
 have:=(ok.funs.mem hb).1;rw [e] at this;cases this
def lQ.bs(I:lQ X a9 σ H s):∀b o,X.lL.get? b=some o->s.heap.get? b=some o/\H b=none:=fun b o e =>
 ⟨I.lL.keep b o (I.ok.bs b o e).1 (I.ok.bs b o e).2 (I.ok.nofr e) (I.ok.noex b o e),I.lL.free b o (I.ok.bs b o e).1 (I.ok.bs b o e).2 (I.ok.noex b o e)⟩
def lQ.bk(I:lQ X a9 σ H s):∀b o,X.lL.get? b=some o->s.heap.get? b=some o:=fun b o e=>(I.bs b o e).1
def lQ.mod(I:lQ X a9 σ H s):Mod X.K X.mg X.lL:=I.ok.mod
def lQ.kIn(I:lQ X a9 σ H s):X.K.In s.heap:=I.ok.mod.kin.keeps I.bk
def lQ.fr(I:lQ X a9 σ H s):∃m,Fr X.lL X.env.locals s.heap m :=
 let ⟨m,hn,_⟩:=I.loc
 ⟨m,hn,I.bk,nj I.ok.bsz I.ok.above⟩
def lQ.lt(I:lQ X a9 σ H s):X.env.locals<s.heap.objs.size:=let ⟨_,hn,_⟩:=I.loc;hn.lt
def lQ.sz(I:lQ X a9 σ H s):X.ly.heap.objs.size<=s.heap.objs.size:=nj I.ok.above (tT I.lt)
def lQ.nofs(I:lQ X a9 σ H s)(h:s.heap.objs.size<=a):a∉X.fs:=fun hb=>by
 obtain ⟨_,o,ho,_⟩:=I.ok.funs.mem hb;exact absurd (oN (mo ho) (nj I.sz h)) (pU _)
def lQ.cne(I:lQ X a9 σ H s):∀x c,X.env.cells.lookup x=some c->c≠X.env.locals:=fun x c e z=>by
 obtain ⟨v,o,ho,hd⟩:=I.cell x c e;obtain ⟨m,⟨o',es,ep,Q4,hd',_⟩,_⟩:=I.loc;rw [z,Q4] at ho;cases ho;rw [hd'] at hd;cases hd
def lQ.funs(I:lQ X a9 σ H s):s.heap.FunFrames X.lL X.lJ:=by
 have all:∀(l:kQ Env),(∀b∈mJ l,b∈X.fs)->X.ly.heap.FunFrames X.lL l->s.heap.FunFrames X.lL l:=by
  intro l
  induction l with
  | nil=>intro _ _;trivial
  | cons env r ih =>
   intro hs hl;obtain ⟨hk,⟨L,o,hf,hn,ho,hd⟩,hr⟩:=hl;have hL:L∈X.fs:=hs L (by unfold mJ;rw [ER,hf];exact mV);obtain ⟨sl,e⟩:=I.lL.slot L o ho (I.ok.frf L hL) hL fun z=>I.ok.exfs L z hL
   exact ⟨hk,⟨L,_,hf,hn,e,hd⟩,ih (fun b hb=>hs b (by unfold mJ;rw [ER,hf];exact nJ _ hb)) hr⟩
 exact all X.lJ (fun _ hb=>hb) I.ok.funs
def lQ.stack(I:lQ X a9 σ H s):s.heap.FunFrames X.lL X.stack:=by
 rcases I.ok.stk with e|⟨e,hf⟩
 ·rw [e];exact I.funs
 ·rw [e];obtain ⟨m,hn,_⟩:=I.loc;refine .cons (by rw [I.ok.kind];decide) hf hn ?_ I.funs;exact xv (nj I.ok.bsz I.ok.above)
def lQ.stkSub(I:lQ X a9 σ H s):∀b∈mJ X.stack,b∈X.env.locals ::X.fs:=fun b hb=>by
 rcases I.ok.stk with e|⟨e,hf⟩
 ·rw [e] at hb;exact nJ _ hb
 ·rw [e] at hb;unfold mJ at hb;rw [ER,hf] at hb;exact hb
def lQ.stkFree(I:lQ X a9 σ H s):∀b∈mJ X.stack,H b=none:=fun b hb=>by
 rcases mI.mp (I.stkSub b hb) with e|hb
 ·rw [e];exact I.free
 ·obtain ⟨_,o,ho,_⟩:=I.ok.funs.mem hb;exact I.lL.free b o ho (I.ok.frf b hb) fun z=>I.ok.exfs b z hb
def lQ.step{g':Array GenState}{t':Nat}{d':Drawn}{ch:kQ kS}(I:lQ X a9 σ H s)
  (M9:∀b∈ch,(b∈X.ex\/X.ly.heap.objs.size<=b)/\b≠X.env.locals/\(∀x c,X.env.cells.lookup x=some c->c≠b)/\∀p∈X.pn++a9,p.1≠b)
  (keep:∀b o,b≠X.env.locals->b∉X.fs->b∉ch->s.heap.get? b=some o->H b=none->h'.get? b=some o)
  (slot:∀b o,b≠X.env.locals->b∈X.fs->b∉ch->s.heap.get? b=some o->H b=none->∃sl,h'.get? b=some { o with slots:=sl }) (free:∀b o,b∉ch->s.heap.get? b=some o->H b=none->H' b=none)
  (there:∀b o,b∉ch->s.heap.get? b=some o->∃o',h'.get? b=some o')
  (tups:∀b xs,H b=some (.tup xs)->H' b=some (.tup xs)) (frzs:∀b o u,H b=some (.frz o u)->H' b=some (.frz o u)) (tbls:∀b ps,H b=some (.tbl ps)->∃more,H' b=some (.tbl (ps++more)))
  (ns:∀m,s.heap.Ns X.env.locals m->h'.Ns X.env.locals m) (hok:mT X.prog X.w H' h') (hg:AllBare g') :
  lQ X a9 σ H' { s with heap:=h',gens:=g',drawn:=d',toks:=t' }:=by
 have neL:∀b o,X.ly.heap.get? b=some o->b≠X.env.locals:=fun b o e=>mC (oN (mo e) I.ok.above)
 have neC:∀b o,X.ly.heap.get? b=some o->b∉X.ex->b∉ch:=fun b o e hx hb=>by
  rcases (M9 b hb).1 with z|z
  ·exact hx z
  ·exact absurd (oN (mo e) z) (pU _)
 have cellK:∀x c,X.env.cells.lookup x=some c->∀v,s.heap.IsCell c v->h'.IsCell c v:=fun x c e v ⟨o,ho,hd⟩=>by
  have nch:c∉ch:=fun z=>(M9 c z).2.2.1 x c e rfl
  by_cases hc:c∈X.fs
  ·obtain ⟨sl,q⟩:=slot c o (I.cne x c e) hc nch ho (I.freeC x c e);exact ⟨_,q,hd⟩
  ·exact ⟨o,keep c o (I.cne x c e) hc nch ho (I.freeC x c e),hd⟩
 refine ⟨I.ok,I.os,hg,⟨fun b o e n hb hx=>?_,fun b o e n hb hx=>?_,fun b o e n hx=>?_,fun b o e hx=>?_,fun b xs e=>tups b xs (I.lL.tups b xs e),fun b o xs e=>frzs b o xs (I.lL.frzs b o xs e),fun b ps e=>?_⟩,?_,fun x c e=>?_,?_,fun x c e=>?_,fun p hp=>?_,hok,I.len⟩
 ·exact keep b o (neL b o e) hb (neC b o e hx) (I.lL.keep b o e n hb hx) (I.lL.free b o e n hx)
 ·obtain ⟨sl,e1⟩:=I.lL.slot b o e n hb hx;obtain ⟨O1,e2⟩:=slot b _ (neL b o e) hb (neC b o e hx) e1 (I.lL.free b o e n hx);exact ⟨O1,e2⟩
 ·obtain ⟨o',e1⟩:=I.lL.there b o e hx;exact free b o' (neC b o e hx) e1 (I.lL.free b o e n hx)
 ·obtain ⟨o',e1⟩:=I.lL.there b o e hx;exact there b o' (neC b o e hx) e1
 ·obtain ⟨m1,e1⟩:=I.lL.tbls b ps e;obtain ⟨m2,e2⟩:=tbls b _ e1;exact ⟨m1++m2,by rw [e2,Array.append_assoc]⟩
 ·obtain ⟨m,hn,hl⟩:=I.loc;refine ⟨m,ns m hn,fun i x v e1 e2 e3=>?_⟩;obtain ⟨u,r,l⟩:=hl i x v e1 e2 e3;refine ⟨u,r,?_⟩;rcases l with l|⟨k,c,e,z⟩
  ·exact .inl l
  ·exact .inr ⟨k,c,e,cellK x c e _ z⟩
 ·obtain ⟨v,z⟩:=I.cell x c e;exact ⟨v,cellK x c e v z⟩
 ·obtain ⟨m,⟨o,_,_,ho,_⟩,_⟩:=I.loc;exact free _ o (fun z=>(M9 _ z).2.1 rfl) ho I.free
 ·obtain ⟨v,o,ho,hd⟩:=I.cell x c e;exact free c o (fun z=>(M9 c z).2.2.1 x c e rfl) ho (I.freeC x c e)
 ·obtain ⟨e,n,ne,nf,d⟩:=I.pin p hp;have nch:p.1∉ch:=fun z=>(M9 p.1 z).2.2.2 p hp rfl
  exact ⟨keep p.1 p.2 ne nf nch e n,free p.1 p.2 nch e n,ne,nf,d⟩
def lQ.un{t':Nat}(I:lQ X a9 σ H s)(u:Un X.fs [] H H' s.heap h')(hok:mT X.prog X.w H' h'):lQ X a9 σ H' { s with heap:=h',toks:=t' }:=by
 obtain ⟨m,⟨o,es,ep,ho,r⟩,_⟩:=id I.loc;obtain ⟨sl,hL⟩:=u.any ho I.free (by simp);exact I.step (g':=s.gens) (d':=s.drawn) (ch:=[]) (fun _ z=>nomatch z) (fun b o _ hb _ e n=>u.keep b o e n hb (by simp)) (fun b o _ hb _ e n=>u.slot b o e n hb (by simp)) (fun b o _ e n=>u.free b o e n (by simp)) (fun b o _ e=>u.there b o e (by simp)) u.tups u.frzs u.tbls (fun m' hm=>by
  obtain ⟨o',es',ep',Q4,r'⟩:=hm;rw [ho] at Q4;cases Q4;exact ⟨_,es',ep',hL,r'⟩) hok I.bare
def lQ.call{g':Array GenState}{t':Nat}{d':Drawn}{ch:kQ kS}(I:lQ X a9 σ H s)(u:Un (mJ X.stack) ch H H' s.heap h')(hok:mT X.prog X.w H' h')(hg:AllBare g')
  (M9:∀b∈ch,(b∈X.ex\/X.ly.heap.objs.size<=b)/\b≠X.env.locals/\(∀x c,X.env.cells.lookup x=some c->c≠b)/\∀p∈X.pn++a9,p.1≠b) :
  lQ X a9 σ H' { s with heap:=h',gens:=g',drawn:=d',toks:=t' }:=by
 obtain ⟨m,⟨o,es,ep,ho,r⟩,_⟩:=id I.loc;obtain ⟨sl,hL⟩:=u.any ho I.free fun z=>(M9 _ z).2.1 rfl
 exact I.step (ch:=ch) M9 (fun b o hL hb hc e n=>u.keep b o e n (fun z=>(mI.mp (I.stkSub b z)).elim hL hb) hc) (fun b o _ _ hc e n=>u.any e n hc) (fun b o hc e n=>u.free b o e n hc) (fun b o hc e=>u.there b o e hc) u.tups u.frzs u.tbls (fun m' hm=>by
  obtain ⟨o',es',ep',Q4,r'⟩:=hm;rw [ho] at Q4;cases Q4;exact ⟨_,es',ep',hL,r'⟩) hok hg
def lQ.turned{t':Nat}{it:kS}(I:lQ X a9 σ H s)(k:∀b o,b≠it->s.heap.get? b=some o->h'.get? b=some o)(hn:H it=none)(hL:it≠X.env.locals)
  (h1:it∈X.ex\/X.ly.heap.objs.size<=it) (h2:∀x c,X.env.cells.lookup x=some c->c≠it) (h3:∀p∈X.pn++a9,p.1≠it):lQ X a9 σ H { s with heap:=h',toks:=t' }:=by
 have nit:∀b u,H b=some u->b≠it:=fun b u e z=>by rw [z,hn] at e;cases e
 refine I.step (g':=s.gens) (d':=s.drawn) (ch:=[it]) (fun b hb=>?_) (fun b o _ _ hc e _=>k b o (fun z=>hc (by simp [z])) e) (fun b o _ _ hc e _=>⟨o.slots,k b o (fun z=>hc (by simp [z])) e⟩) (fun _ _ _ _ n=>n)
  (fun b o hc e=>⟨o,k b o (fun z=>hc (by simp [z])) e⟩) (fun _ _ e=>e) (fun _ _ _ e=>e) (fun b ps e=>⟨#[],by rw [e];simp⟩) (fun m hm=>?_) (fun b u e=>?_) I.bare
 ·have e:b=it:=by simpa using hb
  subst e;exact ⟨h1,hL,h2,h3⟩
 ·obtain ⟨o,es,ep,ho,r⟩:=hm;exact ⟨o,es,ep,k _ o (nR hL) ho,r⟩
 ·refine (I.hok b u e).stay (fun c v hc q=>k c v ?_ q) (fun _ q=>q) fun _ _ q=>q
  rcases hc with z|z
  ·rw [z];exact nit b u e
  ·exact nit c _ z
def lQ.tok(I:lQ X a9 σ H s)(t:Nat):lQ X a9 σ H { s with toks:=t }:=I.un (h':=s.heap) (t':=t) Un.refl I.hok
def lQ.kept(I:lQ X a9 σ H s)(k:∀b u,s.heap.get? b=some u->h'.get? b=some u):lQ X a9 σ H { s with heap:=h',toks:=t' }:=I.un (Un.kept k) (I.hok.kept k)
def lQ.laid(I:lQ X a9 σ H s)(k:∀b u,s.heap.get? b=some u->h'.get? b=some u)(hp:s.heap.objs.size<=a)(new:Z5 X.prog X.w (upd H a o) h' a o) :
  lQ X a9 σ (upd H a o) { s with heap:=h',toks:=t' }:=I.un (Un.laid k hp (I.hok.fresh hp)) (I.hok.laid k hp new)
def lQ.write(I:lQ X a9 σ H s)(mu:yi (H x))(he:e=x\/H e=some (.own x))(k:∀b u,b≠e->s.heap.get? b=some u->h'.get? b=some u)(heo:∃u,h'.get? e=some u)
  (new:Z5 X.prog X.w (upd H x o) h' x o):lQ X a9 σ (upd H x o) { s with heap:=h',toks:=t' }:=I.un (Un.write mu he k heo) (I.hok.write mu he k heo new)
def lQ.weak(I:lQ X a9 σ H s)(hl:σ'.length=σ.length)(w:∀(i:Nat) v,σ'[i]? =some (some v)->σ[i]? =some (some v)):lQ X a9 σ' H s :=
 ⟨I.ok,I.os,I.bare,I.lL,let ⟨m,hn,L9⟩:=I.loc;⟨m,hn,fun i x v e1 e2 e3=>L9 i x v e1 (w i v e2) e3⟩,I.cell,I.free,I.freeC,I.pin,I.hok,hl.trans I.len⟩
def lQ.pins_of(I:lQ X a9 σ H s)(h:∀p∈p8,s.heap.get? p.1=some p.2/\H p.1=none/\p.1≠X.env.locals/\p.1∉X.fs/\∀v,p.2.data ≠ .cell v):lQ X p8 σ H s :=
 ⟨I.ok,I.os,I.bare,I.lL,I.loc,I.cell,I.free,I.freeC,fun p hp=>(mZ.mp hp).elim (fun z=>I.pin p (xf _ z)) (h p),I.hok,I.len⟩
def Lr{N:kQ kR}(hN:N.Nodup){i j:Nat}{x:kR}(a:N[i]? =some x)(b:N[j]? =some x):i=j:=by
 obtain ⟨h1,e1⟩:=oj.mp a;obtain ⟨h2,e2⟩:=oj.mp b;exact (CI hN).mp (e1.trans e2.symm)
def VU{M:Model}{A:lu}{E:kT->kU->Prop}{i:Nat}{x:kR}{v:V}{u:kT}{Q:Unit->kU->Prop}(I:lQ X a9 σ H s)(hN:X.N.Nodup)(hi:X.N[i]? =some x)(hx:tW X.env.scope x)(r:Yd v u)
  (h:∀s',lQ X a9 (σ.set i (some v)) H s'->(∃a,Heap.SameBut a s.heap s'.heap/\(a=X.env.locals\/X.env.cells.lookup x=some a))->Q () s') (hf:X.fn x=true\/X.env.scope.names.lookup x=some .local:=by first | exact .inl rfl | exact .inr rfl | assumption):wpAny M A (storeName X.env x u) Q E s:=by
 obtain ⟨m,hn,hl⟩:=id I.loc;have hcls:(X.env.scope.kind ==.class || (X.env.scope.kind ==.module && X.env.locals !=X.env.globals))=false:=by rw [I.ok.kind];rfl
 have hiσ:i<σ.length:=by rw [I.len];exact (oj.mp hi).1
 have cne:=I.cne;have L7:∀{a:kS} {h':kZ},(∃o,s.heap.get? a=some o/\H a=none)->Heap.SameBut a s.heap h'->mT X.prog X.w H h':=fun {a h'} ha hs b ob e=>by
  obtain ⟨_,_,x0⟩:=ha;refine (I.hok b ob e).stay (fun c w' hc q=>(hs.2 c ?_).trans q) (fun _ q=>q) fun _ _ q=>q
  rintro rfl;rcases hc with rfl|hc
  ·rw [x0] at e;cases e
  ·rw [x0] at hc;cases hc
 rcases hx with hk|hk
 ·refine wpAny_storeName_local hk hn (fun h' V1 hs=>?_) hcls;obtain ⟨oL,_,_,hoL,_⟩:=id hn;refine h _ ⟨I.ok,I.os,I.bare,⟨fun b o e n hb hx=>?_,fun b o e n hb hx=>?_,I.lL.free,fun b o e hx=>?_,I.lL.tups,I.lL.frzs,I.lL.tbls⟩,⟨_,V1,fun j y v' e1 e2 e3=>?_⟩,fun y c e=>?_,I.free,I.freeC,fun p hp=>?_,L7 ⟨oL,hoL,I.free⟩ hs,by simpa using I.len⟩ ⟨_,hs,.inl rfl⟩
  ·exact (hs.2 b (mC (oN (mo e) I.ok.above))).trans (I.lL.keep b o e n hb hx)
  ·obtain ⟨sl,e1⟩:=I.lL.slot b o e n hb hx;exact ⟨sl,(hs.2 b (mC (oN (mo e) I.ok.above))).trans e1⟩
  ·obtain ⟨o',e1⟩:=I.lL.there b o e hx;exact ⟨o',(hs.2 b (mC (oN (mo e) I.ok.above))).trans e1⟩
  ·by_cases hj:j=i
   ·subst hj;rw [hi] at e1;cases e1;rw [JU hiσ] at e2;cases e2;exact ⟨u,r,.inl ⟨hk,by simp⟩⟩
   ·rw [EM (nR hj)] at e2;obtain ⟨u',r',q⟩:=hl j y v' e1 e2 e3;refine ⟨u',r',?_⟩;rcases q with ⟨k,e⟩|⟨k,c,e,z⟩
    ·refine .inl ⟨k,?_⟩;have:y≠x:=fun e=>hj (Lr hN e1 (e ▸ hi))
     simp [this,e]
    ·exact .inr ⟨k,c,e,z.sameBut hs (cne y c e)⟩
  ·obtain ⟨w',z⟩:=I.cell y c e;exact ⟨w',z.sameBut hs (cne y c e)⟩
  ·obtain ⟨e,n,ne,nf,d⟩:=I.pin p hp;exact ⟨(hs.2 p.1 ne).trans e,n,ne,nf,d⟩
 ·have D8:X.fn x=true:=by
   rcases hf with z|z
   ·exact z
   ·rw [z] at hk;cases hk
  obtain ⟨c,hc⟩:=I.ok.has x (.inl hk);obtain ⟨w',z⟩:=I.cell x c hc;refine wpAny_storeName_cell I.ok.kind hk hc z (fun h' J8 hs=>?_);obtain ⟨oc,hoc,hocd⟩:=id z;refine h { s with heap:=h' } ⟨I.ok,I.os,I.bare,⟨fun b o e n hb hx=>?_,fun b o e n hb hx=>?_,I.lL.free,fun b o e hx=>?_,I.lL.tups,I.lL.frzs,I.lL.tbls⟩,⟨m,hn.sameBut hs (nR (cne x c hc)),fun j y v' e1 e2 e3=>?_⟩,fun y c' e=>?_,I.free,I.freeC,fun p hp=>?_,L7 ⟨oc,hoc,I.freeC x c hc⟩ hs,by simpa using I.len⟩ ⟨c,hs,.inr hc⟩
  ·exact (hs.2 b (mC (oN (mo e) (I.ok.cab x c D8 hc)))).trans (I.lL.keep b o e n hb hx)
  ·obtain ⟨sl,e1⟩:=I.lL.slot b o e n hb hx;exact ⟨sl,(hs.2 b (mC (oN (mo e) (I.ok.cab x c D8 hc)))).trans e1⟩
  ·obtain ⟨o',e1⟩:=I.lL.there b o e hx;exact ⟨o',(hs.2 b (mC (oN (mo e) (I.ok.cab x c D8 hc)))).trans e1⟩
  ·by_cases hj:j=i
   ·subst hj;rw [hi] at e1;cases e1;rw [JU hiσ] at e2;cases e2;exact ⟨u,r,.inr ⟨.inl hk,c,hc,J8⟩⟩
   ·rw [EM (nR hj)] at e2;obtain ⟨u',r',q⟩:=hl j y v' e1 e2 e3;refine ⟨u',r',?_⟩;rcases q with q|⟨k,c',e,z'⟩
    ·exact .inl q
    ·refine .inr ⟨k,c',e,z'.sameBut hs ?_⟩;rintro rfl;exact hj (Lr hN e1 (I.ok.inj _ _ _ e hc ▸ hi))
  ·by_cases hcc:c'=c
   ·subst hcc;exact ⟨_,J8⟩
   ·obtain ⟨w2,z2⟩:=I.cell y c' e;exact ⟨w2,z2.sameBut hs hcc⟩
  ·obtain ⟨e,n,ne,nf,d⟩:=I.pin p hp;refine ⟨(hs.2 p.1 ?_).trans e,n,ne,nf,d⟩;intro q;rw [q,hoc] at e;have q':oc=p.2:=mW e;exact d w' (by rw [<-q'];exact hocd)
def EN{E:kT->kU->Prop}{Q:Unit->kU->Prop}(I:lQ X a9 σ H s)(hN:X.N.Nodup)(hi:X.N[i]? =some x)(hx:tW X.env.scope x)(r:Yd v u)
  (h:∀s',lQ X a9 (σ.set i (some v)) H s'->Q () s') (hf:X.fn x=true\/X.env.scope.names.lookup x=some .local:=by first | exact .inl rfl | exact .inr rfl | assumption):wpAny M A (storeName X.env x u) Q E s :=
 VU I hN hi hx r (fun s' I' _=>h s' I') hf
def lQ.call'(I:lQ X a9 σ H s)(ho:s'.os=s.os)(u:Un (mJ X.stack) ch H H' s.heap s'.heap)(hok:mT X.prog X.w H' s'.heap)(hg:AllBare s'.gens)
  (M9:∀b∈ch,(b∈X.ex\/X.ly.heap.objs.size<=b)/\b≠X.env.locals/\(∀x c,X.env.cells.lookup x=some c->c≠b)/\∀p∈X.pn++a9,p.1≠b):lQ X a9 σ H' s':=by
 obtain ⟨h',g',d',t',o'⟩:=s';have e:o'=s.os:=ho;subst e;exact I.call (g':=g') (t':=t') (d':=d') u hok hg M9
abbrev XK:=kT->kW kS->Hp->Prop
abbrev St:=kQ (kW V)
abbrev VK:=V->Hp->Prop
abbrev TE:=St->Hp->VK->Prop
abbrev TT:=St->Hp->(Bool->Hp->Prop)->Prop
abbrev TA:=St->Hp->(kQ V->Hp->Prop)->Prop
structure oV where
 nx:St->Hp->Prop
 rt:VK
 bk:St->Hp->Prop:=fun _ _=>False
 ct:St->Hp->Prop:=fun _ _=>False
abbrev TS:=oV->St->Hp->Prop
def EP(X:Cx)(a9:kQ (kS×Obj))(σ:St)(Q:VK)(u:kT)(s':kU):Prop:=∃v H',lQ X a9 σ H' s'/\Yd v u/\Q v H'
def TP(X:Cx)(a9:kQ (kS×Obj))(σ:St)(Q:Bool->Hp->Prop)(b:Bool)(s':kU):Prop:=∃H',lQ X a9 σ H' s'/\Q b H'
def AP(X:Cx)(a9:kQ (kS×Obj))(σ:St)(Q:kQ V->Hp->Prop)(us:kQ kT)(s':kU):Prop:=∃vs H',lQ X a9 σ H' s'/\Yc vs us/\Q vs H'
def SP(X:Cx)(a9:kQ (kS×Obj))(D:oV)(f:Flow)(s':kU):Prop :=
 match f with
 | .next=>∃σ' H',lQ X a9 σ' H' s'/\D.nx σ' H'
 | .brk=>∃σ' H',lQ X a9 σ' H' s'/\D.bk σ' H'
 | .cont=>∃σ' H',lQ X a9 σ' H' s'/\D.ct σ' H'
 | .ret u=>∃v σ' H',lQ X a9 σ' H' s'/\Yd v u/\D.rt v H'
def PE(X:Cx)(e:li)(t:TE):Prop :=
 ∀(a9:kQ (kS×Obj)) (s:kU) (σ:St) (H:Hp) (Q:VK),lQ X a9 σ H s->t σ H Q->wpAny (model X.prog X.w) X.A (eval e X.env) (EP X a9 σ Q) X.xe s
def PT(X:Cx)(e:li)(t:TT):Prop :=
 ∀(a9:kQ (kS×Obj)) (s:kU) (σ:St) (H:Hp) (Q:Bool->Hp->Prop),lQ X a9 σ H s->t σ H Q->wpAny (model X.prog X.w) X.A (isTrue e X.env (eval e X.env)) (TP X a9 σ Q) X.xe s
def PW(X:Cx)(e:li)(t:TT):Prop :=
 ∀(B7:Sem kT) (a9:kQ (kS×Obj)) (s:kU) (σ:St) (H:Hp) (Q:Bool->Hp->Prop),lQ X a9 σ H s->t σ H Q->wpAny (model X.prog X.w) X.A (isTrue e X.env B7) (TP X a9 σ Q) X.xe s
def PW.pt(h:PW X e t):PT X e t:=h _
def PA(X:Cx)(es:kQ li)(t:TA):Prop :=
 ∀(pos:Pos) (a9:kQ (kS×Obj)) (s:kU) (σ:St) (H:Hp) (Q:kQ V->Hp->Prop),lQ X a9 σ H s->t σ H Q->wpAny (model X.prog X.w) X.A (spliced (backTo pos (starEach es X.env))) (AP X a9 σ Q) X.xe s
def PS(X:Cx)(st:kY)(t:TS):Prop :=
 ∀(a9:kQ (kS×Obj)) (s:kU) (σ:St) (H:Hp) (D:oV),lQ X a9 σ H s->t D σ H->wpAny (model X.prog X.w) X.A (exec st X.env) (SP X a9 D) X.xe s
def qd(X:Cx)(st:kQ kY)(t:TS):Prop :=
 ∀(a9:kQ (kS×Obj)) (s:kU) (σ:St) (H:Hp) (D:oV),lQ X a9 σ H s->t D σ H->wpAny (model X.prog X.w) X.A (execs st X.env) (SP X a9 D) X.xe s
def ma{α:Type}{t:Sem α}{Q Q':α->kU->Prop}{E:kT->kU->Prop}(h:wpAny M A t Q E s)(hQ:∀a s,Q a s->Q' a s):wpAny M A t Q' E s:=oQ h hQ fun _ _ x=>x
section
variable {X:Cx}
def BQ(ha:PE X a ta)(hb:PE X b tb){R:V->V->Hp->Prop}(I:lQ X a9 σ H s)(h:ta σ H fun x H1=>tb σ H1 fun y H2=>R x y H2)
  {α:Type} {Q:α->kU->Prop} {f:kT->kT->Sem α}
  (hf:∀v u s2 x y H2,lQ X a9 σ H2 s2->Yd x v->Yd y u->R x y H2->wpAny (model X.prog X.w) X.A (f v u) Q X.xe s2) :
  wpAny (model X.prog X.w) X.A (eval a X.env) (fun v lz=>wpAny (model X.prog X.w) X.A (eval b X.env) (fun u lC=>wpAny (model X.prog X.w) X.A (f v u) Q X.xe lC) X.xe lz) X.xe s:=by
 refine ma (ha a9 s σ H _ I h) fun v s1 ⟨x,H1,I1,r1,q1⟩=>?_
 refine ma (hb a9 s1 σ H1 _ I1 q1) fun u s2 ⟨y,H2,I2,r2,q2⟩=>?_
 exact hf v u s2 x y H2 I2 r1 r2 q2
def qp(i:Nat):TE:=fun σ H Q=>∃v,σ[i]? =some (some v)/\Q v H
def tC(v:V):TE:=fun _ H Q=>Q v H
def Rm(hN:X.N[i]? =some x)(hv:zZ X.env.scope x) (hd:(x ==("__debug__" :kR))=false:=by left) (B3:(x ==("__classdict__" :kR))=false:=by left):PE X (.Name x pos) (qp i):=by
 intro a9 s σ H Q I h;obtain ⟨v,e,h⟩:=h;obtain ⟨m,hn,hl⟩:=I.loc;obtain ⟨u,r,l⟩:=hl i x v hN e hv;have fin:EP X a9 σ Q u s:=⟨v,H,I,r,h⟩
 rcases l with ⟨hk,hm⟩|⟨hk,c,hc,hcell⟩
 ·exact wpAny_Name (wpAny_loadName_local I.ok.kind hk hn hm fin) hd
 ·rcases hk with hk|hk
  ·exact wpAny_Name (wpAny_loadName_cell I.ok.kind hk hc hcell fin) hd
  ·exact wpAny_Name (wpAny_loadName_free I.ok.kind hk hc hcell fin B3) hd
def Zf{i j pos}:PE X (.Constant (.int i) j pos) (tC (.int i)):=fun _ _ _ H _ I h=>wpAny_Constant_int ⟨.int i,H,I.tok _,⟨_,rfl⟩,h⟩
def ri{b j pos}:PE X (.Constant (.bool b) j pos) (tC (.bl b)):=fun _ _ _ H _ I h=>Constant_bool ⟨.bl b,H,I,rfl,h⟩
def rG{j pos}:PE X (.Constant .none j pos) (tC .non):=fun _ _ _ H _ I h=>Constant_none ⟨.non,H,I,rfl,h⟩
def Ze{x j pos}:PE X (.Constant (.str x) j pos) (tC (.str x)):=fun _ _ _ H _ I h=>Calls.Constant_str ⟨.str x,H,I.tok _,⟨_,rfl⟩,h⟩
def Gl(X:Cx)(x:kR):Prop:=X.env.kindOf x=some .globalImplicit
def uE{E:kT->kU->Prop}{Q:kT->kU->Prop}(I:lQ X a9 σ H s)(hg:Gl X x)(hm:X.mg x=some u)(h:Q u s)
  (hd:(x ==("__debug__" :kR))=false:=by left):wpAny (model X.prog X.w) X.A (eval (.Name x pos) X.env) Q E s :=
 GQ I.ok.kind hg (Calls.loadGlobal_global (by rw [I.ok.glob];exact I.mod.glob.keeps I.bk) hm h) hd
def vo{E:kT->kU->Prop}{Q:kT->kU->Prop}(I:lQ X a9 σ H s)(hg:Gl X x)(hm:X.mg x=none)(hv:bootBuiltins x=some u)(h:Q u s)
  (hn:x ≠ "__name__" :=by left) (hd:(x ==("__debug__" :kR))=false:=by left):wpAny (model X.prog X.w) X.A (eval (.Name x pos) X.env) Q E s:=by
 obtain ⟨mb,h1,h2⟩:=I.mod.blt;exact GQ I.ok.kind hg (Calls.loadGlobal_builtin (by rw [I.ok.glob];exact I.mod.glob.keeps I.bk) hm (by rw [I.ok.blt];exact h1.keeps I.bk) ((h2 x hn).trans hv) h) hd
def Wa(hg:Gl X x)(hm:X.mg x=some u)(r:Yd v u) (hd:(x ==("__debug__" :kR))=false:=by left):PE X (.Name x pos) (tC v) :=
 fun _ _ _ H _ I h=>uE I hg hm ⟨v,H,I,r,h⟩ hd
def GN(hg:Gl X x)(hm:X.mg x=none)(hv:bootBuiltins x=some u)(r:Yd v u) (hn:x ≠ "__name__" :=by left) (hd:(x ==("__debug__" :kR))=false:=by left):PE X (.Name x pos) (tC v) :=
 fun _ _ _ H _ I h=>vo I hg hm hv ⟨v,H,I,r,h⟩ hn hd
variable {a b:li} {ta tb:TE} {pos:Pos}
def tB(t:TE):TT:=fun σ H Q=>t σ H fun x H1=>∃c,x=.bl c/\Q c H1
def Yn(h:PE X e t)(he:∀B7,isTrue e X.env B7=(do let v <-B7;standAt e.pos;holding [v] (truthy v)):=by intro _;rfl):PT X e (tB t):=by
 intro a9 s σ H Q I hw;refine isTrue_plain (ma (h a9 s σ H _ I hw) fun v s1 ⟨x,H1,I1,r1,q1⟩=>?_) (he _);obtain ⟨d,rfl,q⟩:=q1;cases r1;exact uM ⟨H1,I1,q⟩
variable {tA tB':TT} {Zz:kQ li}
def Qw(t u:TT):TT:=fun σ H Q=>t σ H fun c H1=>if c=true then u σ H1 Q else Q false H1
def UT(t u:TT):TT:=fun σ H Q=>t σ H fun c H1=>if c=true then Q true H1 else u σ H1 Q
def Uo(t:TT):TT:=fun σ H Q=>t σ H fun c H1=>Q (!c) H1
def wP(ha:PT X a tA):PW X (.BoolOp .And [a] pos) tA:=by
 intro wh a9 s σ H Q I h;refine isTrue_and (ma (ha a9 s σ H Q I h) fun c s1 e=>?_);cases c with
 | true=>exact isTrue_and_nil e
 | false=>exact e
def Wl(ha:PT X a tA):PW X (.BoolOp .Or [a] pos) tA:=by
 intro wh a9 s σ H Q I h;refine isTrue_or (ma (ha a9 s σ H Q I h) fun c s1 e=>?_);cases c with
 | false=>exact isTrue_or_nil e
 | true=>exact e
def xB(ha:PT X a tA)(hb:PW X (.BoolOp .And (b ::Zz) pos) tB'):PW X (.BoolOp .And (a ::b ::Zz) pos) (Qw tA tB'):=by
 intro wh a9 s σ H Q I h;refine isTrue_and (ma (ha a9 s σ H _ I h) fun c s1 ⟨H1,I1,q1⟩=>?_);cases c with
 | true=>exact hb wh a9 s1 σ H1 Q I1 q1
 | false=>exact ⟨H1,I1,q1⟩
def Wj(ha:PT X a tA)(hb:PW X (.BoolOp .Or (b ::Zz) pos) tB'):PW X (.BoolOp .Or (a ::b ::Zz) pos) (UT tA tB'):=by
 intro wh a9 s σ H Q I h;refine isTrue_or (ma (ha a9 s σ H _ I h) fun c s1 ⟨H1,I1,q1⟩=>?_);cases c with
 | true=>exact ⟨H1,I1,q1⟩
 | false=>exact hb wh a9 s1 σ H1 Q I1 q1
def Y8(ha:PT X a tA):PT X (.UnaryOp .Not a pos) (Uo tA):=by
 intro a9 s σ H Q I h;exact isTrue_not (ha a9 s σ H (fun c H1=>Q (!c) H1) I h)
def Od(ta tb:TE):TE:=fun σ H Q=>ta σ H fun x H1=>∃c,x=.bl c/\if c=true then tb σ H1 Q else Q (.bl false) H1
def Pz(ta tb:TE):TE:=fun σ H Q=>ta σ H fun x H1=>∃c,x=.bl c/\if c=true then Q (.bl true) H1 else tb σ H1 Q
def wg{op}(h:PE X a t):PE X (.BoolOp op [a] pos) t:=fun a9 s σ H Q I hw=>BoolOp_one (h a9 s σ H Q I hw)
def vd(ha:PE X a ta)(hb:PE X (.BoolOp .And (b ::Zz) pos) tb):PE X (.BoolOp .And (a ::b ::Zz) pos) (Od ta tb):=by
 intro a9 s σ H Q I h;refine BoolOp_and (ma (ha a9 s σ H _ I h) fun v s1 ⟨x,H1,I1,r1,q1⟩=>?_);obtain ⟨c,rfl,q1⟩:=q1;cases r1;refine uM ?_;cases c with
 | true=>exact hb a9 s1 σ H1 Q I1 q1
 | false=>exact ⟨.bl false,H1,I1,rfl,q1⟩
def Rb(ha:PE X a ta)(hb:PE X (.BoolOp .Or (b ::Zz) pos) tb):PE X (.BoolOp .Or (a ::b ::Zz) pos) (Pz ta tb):=by
 intro a9 s σ H Q I h;refine BoolOp_or (ma (ha a9 s σ H _ I h) fun v s1 ⟨x,H1,I1,r1,q1⟩=>?_);obtain ⟨c,rfl,q1⟩:=q1;cases r1;refine uM ?_;cases c with
 | false=>exact hb a9 s1 σ H1 Q I1 q1
 | true=>exact ⟨.bl true,H1,I1,rfl,q1⟩
def QB(t:TT)(ta tb:TE):TE:=fun σ H Q=>t σ H fun c H1=>if c=true then ta σ H1 Q else tb σ H1 Q
def uD(hc:PT X c tA)(ha:PE X a ta)(hb:PE X b tb):PE X (.IfExp c a b pos) (QB tA ta tb):=by
 intro a9 s σ H Q I h;refine wpAny_IfExp (ma (hc a9 s σ H _ I h) fun d s1 ⟨H1,I1,q1⟩=>?_);cases d with
 | true=>exact ha a9 s1 σ H1 Q I1 q1
 | false=>exact hb a9 s1 σ H1 Q I1 q1
end
def SqL(K:kX)(H:Hp)(a:kS)(xs:kQ V):Prop :=
 Rd H a (.lst xs) \/
  ∃(o:Obj) (b9:Array kT) (n:Nat),K.lookup a=some o/\o.cls=.type "list" /\o.dict=none/\o.data=.seq b9 n/\b9.size<=sizeLine/\Yc xs b9.toList
def SqT(K:kX)(H:Hp)(a:kS)(xs:kQ V):Prop :=
 Rd H a (.tup xs) \/
  ∃(o:Obj) (b9:Array kT) (n:Nat),K.lookup a=some o/\o.cls=.type "tuple" /\o.data=.seq b9 n/\b9.size<=sizeLine/\Yc xs b9.toList
def Qy:kT->kW V
 | .none=>some .non
 | .bool b=>some (.bl b)
 | .int i _=>some (.int i)
 | .str x _=>some (.str x)
 | .bytes b _=>some (.byt b)
 | .float b _=>some (.flt b)
 | .ref a=>some (.ref a)
 | .type n=>some (.ty n)
 | _=>none
def Yd.abs(r:Yd x u):Qy u=some x:=by
 cases x with
 | non=>cases r;rfl
 | bl _=>cases r;rfl
 | int _=>obtain ⟨t,rfl⟩:=r;rfl
 | str _=>obtain ⟨t,rfl⟩:=r;rfl
 | byt _=>obtain ⟨t,rfl⟩:=r;rfl
 | flt _=>obtain ⟨t,rfl⟩:=r;rfl
 | ref _=>cases r;rfl
 | ty _=>cases r;rfl
def Yd.inj(r:Yd x u)(q:Yd y u):x=y:=mW (r.abs.symm.trans q.abs)
def Yc.inj{xs ys:kQ V}{us:kQ kT}(h:Yc xs us)(h':Yc ys us):xs=ys:=by
 induction h generalizing ys with
 | nil=>cases h';rfl
 | cons r t ih=>cases h' with
  | cons r' t'=>rw [r.inj r',ih t']
def SqL.of{K:kX}(h:H a=some (.lst xs)):SqL K H a xs:=.inl (.inl h)
def SqT.of{K:kX}(h:H a=some (.tup xs)):SqT K H a xs:=.inl (.inl h)
def lQ.list(I:lQ X a9 σ H s)(h:SqL X.K H a xs):∃b9:kQ kT,Yc xs b9/\PlainL s.heap a b9.toArray/\xs.length<=sizeLine:=by
 rcases h with h|⟨o,b9,n,hk,hc,hd,hs,hz,r⟩
 ·obtain ⟨z,b9,n,r,e⟩:=h.ok I.hok;exact ⟨b9,r,⟨_,n,e,rfl,rfl,rfl⟩,z⟩
 ·refine ⟨b9.toList,r,⟨o,n,I.kIn a o hk,hc,hd,by simpa using hs⟩,?_⟩;have e:=r.length;simp only [sM] at e;lia
def lQ.tuple(I:lQ X a9 σ H s)(h:SqT X.K H a xs):∃b9:kQ kT,Yc xs b9/\IsTup s.heap a b9.toArray/\xs.length<=sizeLine:=by
 rcases h with h|⟨o,b9,n,hk,hc,hs,hz,r⟩
 ·obtain ⟨z,b9,r,p⟩:=h.ok I.hok;exact ⟨b9,r,p,z⟩
 ·refine ⟨b9.toList,r,⟨o,I.kIn a o hk,hc,n,by simpa using hs⟩,?_⟩;have e:=r.length;simp only [sM] at e;lia
def lQ.list_inj(I:lQ X a9 σ H s)(h:SqL X.K H a xs)(h':SqL X.K H a ys):xs=ys:=by
 obtain ⟨b9,r,⟨o,n,e,_,_,d⟩,_⟩:=I.list h;obtain ⟨its',r',⟨o',n',e',_,_,d'⟩,_⟩:=I.list h';rw [e] at e';cases e';rw [d] at d'
 injection d' with d1 _
 have:b9=its':=by simpa using nV Array.toList d1
 subst this;exact r.inj r'
def lQ.tuple_inj(I:lQ X a9 σ H s)(h:SqT X.K H a xs)(h':SqT X.K H a ys):xs=ys:=by
 obtain ⟨b9,r,⟨o,e,_,n,d⟩,_⟩:=I.tuple h;obtain ⟨its',r',⟨o',e',_,n',d'⟩,_⟩:=I.tuple h';rw [e] at e';cases e';rw [d] at d'
 injection d' with d1 _
 have:b9=its':=by simpa using nV Array.toList d1
 subst this;exact r.inj r'
abbrev Cx.wish(X:Cx)(E:kT->kU->Prop):Cx:={ X with xe:=E }
abbrev Cx.nox(X:Cx):Cx:=X.wish fun _ _=>False
def Cx.Ok.wish{X:Cx}(ok:X.Ok)(E:kT->kU->Prop):(X.wish E).Ok :=
 ⟨ok.mod,ok.kind,ok.glob,ok.blt,ok.above,ok.inj,ok.has,ok.cab,ok.hd,ok.frames,ok.stk,ok.exf,ok.bs,ok.bsz,ok.noex,ok.exfs,ok.funs,ok.frf⟩
def Cx.Ok.unwish{X:Cx}{E:kT->kU->Prop}(ok:(X.wish E).Ok):X.Ok :=
 ⟨ok.mod,ok.kind,ok.glob,ok.blt,ok.above,ok.inj,ok.has,ok.cab,ok.hd,ok.frames,ok.stk,ok.exf,ok.bs,ok.bsz,ok.noex,ok.exfs,ok.funs,ok.frf⟩
section
variable {E:kT->kU->Prop}
def lQ.wish(I:lQ X a9 σ H s)(E:kT->kU->Prop):lQ (X.wish E) a9 σ H s:=⟨I.ok.wish E,I.os,I.bare,I.lL,I.loc,I.cell,I.free,I.freeC,I.pin,I.hok,I.len⟩
def lQ.unwish(I:lQ (X.wish E) a9 σ H s):lQ X a9 σ H s:=⟨I.ok.unwish,I.os,I.bare,I.lL,I.loc,I.cell,I.free,I.freeC,I.pin,I.hok,I.len⟩
def SP.unwish(h:SP (X.wish E) a9 D f s'):SP X a9 D f s':=by
 cases f with
 | next=>obtain ⟨σ',H',I,q⟩:=h;exact ⟨σ',H',I.unwish,q⟩
 | brk=>obtain ⟨σ',H',I,q⟩:=h;exact ⟨σ',H',I.unwish,q⟩
 | cont=>obtain ⟨σ',H',I,q⟩:=h;exact ⟨σ',H',I.unwish,q⟩
 | ret u=>obtain ⟨v,σ',H',I,r,q⟩:=h;exact ⟨v,σ',H',I.unwish,r,q⟩
def qd.nox{st:kQ kY}{t:TS}(h:qd X.nox st t):qd X st t:=fun a9 s σ H D I hw =>
 oQ (h a9 s σ H D (I.wish _) hw) (fun _ _ q=>q.unwish) fun _ _ z=>False.elim z
end
section
variable {st:kY} {Zz:kQ kY} {t u:TS} {e:li} {te:TE} {pos:Pos}
def OK:TS:=fun D σ H=>D.nx σ H
def UI(t u:TS):TS:=fun D σ H=>t { D with nx:=u D } σ H
def Zk:qd X [] OK:=fun _ _ σ H _ I h=>zx ⟨σ,H,I,h⟩
def WT(h1:PS X st t)(h2:qd X Zz u):qd X (st ::Zz) (UI t u):=by
 intro a9 s σ H D I h;refine zl (ma (h1 a9 s σ H { D with nx:=u D } I h) fun f s1 q=>?_);cases f with
 | next =>
  obtain ⟨σ',H',I',q⟩:=q;exact h2 a9 s1 σ' H' D I' q
 | ret v=>exact q
 | brk=>exact q
 | cont=>exact q
def Rf(h1:PS X st t):qd X [st] t:=by
 intro a9 s σ H D I h;refine zl (ma (h1 a9 s σ H D I h) fun f s1 q=>?_);cases f with
 | next=>exact zx q
 | ret v=>exact q
 | brk=>exact q
 | cont=>exact q
def TD:TS:=fun D σ H=>D.ct σ H
def WY:PS X (.Continue pos) TD:=fun _ _ σ H _ I h=>wpAny_Continue ⟨σ,H,I,h⟩
def lQ.quiet(I:lQ X a9 σ H s):interactive X.env=false:=by simp [interactive,I.ok.kind]
def RM(te:TE):TS:=fun D σ H=>te σ H fun _ H1=>D.nx σ H1
def Zy(he:PE X e te)(hs:swapsWith e none pos.line X.env=pure false:=by rfl):PS X (.Expr e pos) (RM te):=by
 intro a9 s σ H D I h;exact wpAny_Expr_any (ma (he a9 s σ H _ I h) fun v s1 ⟨x,H1,I1,r1,q1⟩=>⟨σ,H1,I1,q1⟩) I.quiet hs
def Sq(te:TE):TS:=fun D σ H=>te σ H D.rt
def Zm(he:PE X e te):PS X (.Return (some e) pos) (Sq te):=by
 intro a9 s σ H D I h;exact wpAny_Return_some (ma (he a9 s σ H _ I h) fun v s1 ⟨x,H1,I1,r1,q1⟩=>⟨x,σ,H1,I1,r1,q1⟩)
def Ql:TS:=fun D _ H=>D.rt .non H
def VT:PS X (.Return none pos) Ql:=fun _ _ σ H _ I h=>wpAny_Return_none ⟨.non,σ,H,I,rfl,h⟩
def Ny(c:TT)(t u:TS):TS:=fun D σ H=>c σ H fun b H1=>if b=true then t D σ H1 else u D σ H1
def Zt(hc:PT X c tc)(ha:qd X a t)(hb:qd X b u):PS X (.If c a b pos) (Ny tc t u):=by
 intro a9 s σ H D I h;refine wpAny_If (ma (hc a9 s σ H _ I h) fun d s1 ⟨H1,I1,q1⟩=>?_);cases d with
 | true=>exact ha a9 s1 σ H1 D I1 q1
 | false=>exact hb a9 s1 σ H1 D I1 q1
end
abbrev TG:=V->St->Hp->(St->Hp->Prop)->Prop
abbrev vB:=kQ V->St->Hp->(St->Hp->Prop)->Prop
def PG(X:Cx)(B8:li)(t:TG):Prop :=
 ∀(a9:kQ (kS×Obj)) (s:kU) (σ:St) (H:Hp) (v:V) (u:kT) (Q:St->Hp->Prop),lQ X a9 σ H s->Yd v u->t v σ H Q ->
  wpAny (model X.prog X.w) X.A (assign B8 X.env u) (fun _ s'=>∃σ' H',lQ X a9 σ' H' s'/\Q σ' H') X.xe s
def wN(X:Cx)(ts:kQ li)(t:vB):Prop :=
 ∀(a9:kQ (kS×Obj)) (s:kU) (σ:St) (H:Hp) (vs:kQ V) (us:kQ kT) (Q:St->Hp->Prop),lQ X a9 σ H s->Yc vs us->t vs σ H Q ->
  wpAny (model X.prog X.w) X.A (assignInOrder ((assignEach ts X.env).map (·.2)) us) (fun _ s'=>∃σ' H',lQ X a9 σ' H' s'/\Q σ' H') X.xe s
def pZ(i:Nat):TG:=fun v σ H Q=>Q (σ.set i (some v)) H
def CP(hN:X.N.Nodup)(hi:X.N[i]? =some x)(hx:tW X.env.scope x)(hf:X.fn x=true\/X.env.scope.names.lookup x=some .local:=by first | exact .inl rfl | exact .inr rfl | assumption):PG X (.Name x pos) (pZ i):=by
 intro a9 s σ H v u Q I r h;exact wpAny_assign_Name (EN I hN hi hx r (fun s' I'=>⟨_,H,I',h⟩) hf)
def Jh:vB:=fun vs σ H Q=>vs=[]/\Q σ H
def Ev(t:TG)(u:vB):vB:=fun vs σ H Q=>∃v r,vs=v ::r/\t v σ H fun σ' H'=>u r σ' H' Q
def Y9:wN X [] Jh:=by
 intro a9 s σ H vs us Q I r h;obtain ⟨e,h⟩:=h;subst e;cases r;exact assignInOrder_nil ⟨σ,H,I,h⟩
def Zq(h1:PG X e t)(h2:wN X es u)
  (hs:(assignEach (e ::es) X.env).map (·.2)=assign e X.env ::(assignEach es X.env).map (·.2):=by rfl):wN X (e ::es) (Ev t u):=by
 intro a9 s σ H vs us Q I r h;obtain ⟨v,vr,e1,h⟩:=h;subst e1;cases r with
 | cons r rr =>
  rw [hs];refine assignInOrder_cons (ma (h1 a9 s σ H _ _ _ I r h) fun _ s1 ⟨σ1,H1,I1,q1⟩=>?_);exact h2 a9 s1 σ1 H1 _ _ Q I1 rr q1
def EZ(K:kX)(n:Nat)(t:vB):TG:=fun v σ H Q=>∃a xs,v=.ref a/\SqT K H a xs/\xs.length=n/\t xs σ H Q
def qG(hc:X.calm=true)(h:wN X es t)
  (hn:(assignEach es X.env).length=n:=by rfl) (z6:(assignEach es X.env).findIdx? (·.1)=none:=by rfl):PG X (.Tuple es k pos) (EZ X.K n t):=by
 intro a9 s σ H v u Q I r hw;obtain ⟨a,xs,e1,hq,hl,hw⟩:=hw;subst e1;cases r;obtain ⟨b9,rv,ht,hz⟩:=I.tuple hq;refine assign_Tuple_tuple (I.ok.hd hc) ht (by simp [hn,<-hl,rv.length]) z6 fun h' hx=>?_
 have I1:lQ X a9 σ H { s with heap:=h' }:=I.kept (t':=s.toks) fun b o e=>hx b o (mC (mo e)) e
 exact h a9 _ σ H xs _ Q I1 (by simpa using rv) hw
def yN(te:TE)(g:TG):TS:=fun D σ H=>te σ H fun x H1=>g x σ H1 D.nx
def ID(he:PE X e te)(hg:PG X tg g)(hs:swapsWithSole [tg] e pos.line X.env=pure false:=by rfl)(hw:swappedStores [tg] e X.env=pure none:=by rfl)
  (h1:(assignEach [tg] X.env).map (·.2)=[assign tg X.env]:=by rfl):PS X (.Assign [tg] e pos) (yN te g):=by
 intro a9 s σ H D I h;refine wpAny_Assign_stores (ma (he a9 s σ H _ I h) fun v s1 ⟨x,H1,I1,r1,q1⟩=>?_) hs hw;rw [h1];exact ma (hg a9 s1 σ H1 x v _ I1 r1 q1) fun _ s2 q=>q
def Rq(hN:X.N.Nodup)(hi:X.N[i]? =some x)(hx:tW X.env.scope x)(he:PE X e te)(hs:swapsWith e (some (.Name x A8)) pos.line X.env=pure false:=by rfl)(hf:X.fn x=true\/X.env.scope.names.lookup x=some .local:=by first | exact .inl rfl | exact .inr rfl | assumption) :
  PS X (.Assign [.Name x A8] e pos) (yN te (pZ i)):=by
 intro a9 s σ H D I h;refine wpAny_Assign_Name (ma (he a9 s σ H _ I h) fun v s1 ⟨y,H1,I1,r1,q1⟩=>?_) hs;exact EN I1 hN hi hx r1 (fun s2 I2=>⟨_,H1,I2,q1⟩) hf
structure It where
 go:Nat->Hp->Prop
 yld:Nat->Hp->V->Hp->Prop
 stop:Nat->Hp->Prop
def rA(X:Cx)(a9:kQ (kS×Obj))(H:Hp)(b:kS):Prop :=
 H b=none/\b≠X.env.locals/\b∉X.fs/\(b∈X.ex\/X.ly.heap.objs.size<=b)/\(∀x c,X.env.cells.lookup x=some c->c≠b)/\∀p∈X.pn++a9,p.1≠b
def lQ.fpOk(I:lQ X a9 σ H s)(hb:s.heap.objs.size<=b)(hn:H' b=none):rA X a9 H' b:=by
 refine ⟨hn,uV (oN I.lt hb),I.nofs hb,.inr (nj I.sz hb),fun x c e z=>?_,fun p hp z=>?_⟩
 ·obtain ⟨v,q⟩:=I.cell x c e;exact absurd (oN q.lt (by rw [z];exact hb)) (pU _)
 ·exact absurd (oN (mo (I.pin p hp).1) (by rw [z];exact hb)) (pU _)
structure uK(P:Program)(w:World)(K:Frag)(tg:Expr)(J:It)(fp:List Addr)(it:Addr)(tn:Nat->Heap->Prop):Prop where
 mem:it∈fp
 obj:∀i h,tn i h->∀b∈fp,∃o,h.get? b=some o/\∀v,o.data ≠ .cell v
 keep:∀i h h',tn i h->(∀b∈fp,∀o,h.get? b=some o->h'.get? b=some o)->tn i h'
 item:∀(X:Cx),X.prog=P->X.w=w->X.K=K->X.calm=true->∀(i:Nat) (a9:List (Addr×Obj)) (s:Shared) (σ:St) (H:Hp) (E:Value->Shared->Prop),lQ X a9 σ H s->(∀b∈fp,rA X a9 H b)->tn i s.heap->J.go i H ->
  wpAny (model P w) X.A (pyNext (.ref it)) (fun r s1=>∃u,r=some u /\
   wpAny (model P w) X.A (letOwnedTupleGo tg (.ref it) u) (fun _ s2=>∃x H',lQ X a9 σ H' s2/\Yd x u/\J.yld i H x H'/\tn (i+1) s2.heap/\∀b∈fp,H' b=none) E s1) E s
 done:∀(X:Cx),X.prog=P->X.w=w->X.K=K->X.calm=true->∀(i:Nat) (a9:List (Addr×Obj)) (s:Shared) (σ:St) (H:Hp) (E:Value->Shared->Prop),lQ X a9 σ H s->(∀b∈fp,rA X a9 H b)->tn i s.heap->J.stop i H ->
  wpAny (model P w) X.A (pyNext (.ref it)) (fun r s1=>r=none/\lQ X a9 σ H s1) E s
 self:∀(A:Around) (i:Nat) (s:Shared) (Q:Value->Shared->Prop) (E:Value->Shared->Prop),tn i s.heap->Q (.ref it) s->wpAny (model P w) A (pyIter (.ref it)) Q E s
abbrev TI:=St->Hp->(It->Hp->Prop)->Prop
def LH(X:Cx)(a9:kQ (kS×Obj))(σ:St)(tg:li)(R:It->Hp->Prop)(itv:kT)(s2:kU):Prop :=
 ∃(it:kS) (fp:kQ kS) (tn:Nat->kZ->Prop) (J:It) (H':Hp),itv=.ref it/\lQ X a9 σ H' s2/\uK X.prog X.w X.K tg J fp it tn/\tn 0 s2.heap/\(∀b∈fp,rA X a9 H' b)/\R J H'
def PI(X:Cx)(tg i9:li)(wi:TI):Prop :=
 ∀(a9:kQ (kS×Obj)) (s:kU) (σ:St) (H:Hp) (R:It->Hp->Prop),lQ X a9 σ H s->wi σ H R ->
  wpAny (model X.prog X.w) X.A (eval i9 X.env) (fun v s1=>wpAny (model X.prog X.w) X.A (pyIter v) (LH X a9 σ tg R) X.xe s1) X.xe s
def xZ{E:kT->kU->Prop}{Q:Unit->kU->Prop}(ho:s.heap.get? it=some o)(hc:o.cls=.type n)(hd:o.data=.fields vs)
    (hn:["enumerate", "zip", "dict_itemiterator", "dict_reverseitemiterator", "odict_iterator", "itertools.zip_longest", "itertools.pairwise"].contains n=false) (hQ:Q () s):wpAny M A (letOwnedTupleGo tg (.ref it) u) Q E s:=by
  unfold letOwnedTupleGo;cases tg <;>first
    | exact mi hQ
    | (cases u <;>first
        | exact mi hQ
        | (refine lT (wpAny_load ho ?_)
           rw [hc,hd];show wpAny M A (if (["enumerate", "zip", "dict_itemiterator", "dict_reverseitemiterator", "odict_iterator", "itertools.zip_longest", "itertools.pairwise"].contains n && vs[0]? ==some (rawInt _))=true then _ else _) Q E s;rw [lY (by intro h;rw [hn,Bool.false_and] at h;cases h)];exact mi hQ))
def rc(K:kX)(a:kS):It :=
 ⟨fun i H=>∃xs x,SqL K H a xs/\xs[i]? =some x,fun i H x H'=>H'=H/\∀xs,SqL K H a xs->xs[i]? =some x,fun i H=>∃xs,SqL K H a xs/\xs.length<=i⟩
def wV(K:kX)(a:kS):It :=
 ⟨fun i H=>∃xs x,SqT K H a xs/\xs[i]? =some x,fun i H x H'=>H'=H/\∀xs,SqT K H a xs->xs[i]? =some x,fun i H=>∃xs,SqT K H a xs/\xs.length<=i⟩
def uS(lo:Int)(n:Nat):It:=⟨fun i _=>i<n,fun i H x H'=>H'=H/\x=.int (lo+i),fun i _=>n<=i⟩
def XJ{P:lq}{w:lh}{K:kX}{tg:li}(a it:kS):uK P w K tg (rc K a) [it] it (fun i h=>h.IsListIter it a i) where
 mem:=by simp
 obj:=fun i h st b hb=>by
  have e:b=it:=by simpa using hb
  subst e;obtain ⟨o,e,c,d⟩:=st;exact ⟨o,e,fun v z=>by rw [d] at z;cases z⟩
 keep:=fun i h h' st k=>st.at fun o e=>k it (by simp) o e
 item:=by
  intro X hP hw hK hc i a9 s σ H E I hf st hg;subst hP hw hK;obtain ⟨xs,x,hq,hx⟩:=hg;obtain ⟨b9,rv,p,hz⟩:=I.list hq;obtain ⟨u,hu,ru⟩:=rv.get hx;obtain ⟨f0,f1,f2,f3,f4,f5⟩:=hf it (by simp);refine DX st p.isList (x:=u) (by simpa using hu) fun h' u5 sb=>?_
  have I1:lQ X a9 σ H { s with heap:=h' }:=I.turned (t':=s.toks) (fun b o hb e=>(sb.2 b hb).trans e) f0 f1 f3 f4 f5;obtain ⟨o,e,c,d⟩:=id u5;exact ⟨u,rfl,xZ (s:={ s with heap:=h' }) e c d (by left) ⟨x,H,I1,ru,⟨rfl,fun ys hy=>by rw [I.list_inj hy hq];exact hx⟩,u5,fun b hb=>(hf b hb).1⟩⟩
 done:=by
  intro X hP hw hK hc i a9 s σ H E I hf st hg;subst hP hw hK;obtain ⟨xs,hq,hx⟩:=hg;obtain ⟨b9,rv,p,hz⟩:=I.list hq;obtain ⟨f0,f1,f2,f3,f4,f5⟩:=hf it (by simp);have hl:=rv.length;exact BH (I.ok.hd hc) st p.isList (by simp;lia) fun h' eb=>⟨rfl,I.turned (t':=s.toks) (fun b o hb e=>eb b o hb e) f0 f1 f3 f4 f5⟩
 self:=fun _ _ _ _ _ st h=>wpAny_pyIter_listiter st h
def OB{P:lq}{w:lh}{K:kX}{tg:li}(a it:kS):uK P w K tg (wV K a) [it] it (fun i h=>h.IsTupleIter it a i) where
 mem:=by simp
 obj:=fun i h st b hb=>by
  have e:b=it:=by simpa using hb
  subst e;obtain ⟨o,e,c,d⟩:=st;exact ⟨o,e,fun v z=>by rw [d] at z;cases z⟩
 keep:=fun i h h' st k=>st.at fun o e=>k it (by simp) o e
 item:=by
  intro X hP hw hK hc i a9 s σ H E I hf st hg;subst hP hw hK;obtain ⟨xs,x,hq,hx⟩:=hg;obtain ⟨b9,rv,p,hz⟩:=I.tuple hq;obtain ⟨u,hu,ru⟩:=rv.get hx;obtain ⟨f0,f1,f2,f3,f4,f5⟩:=hf it (by simp);refine wpAny_pyNext_tuple_item st (show s.heap.IsTuple a b9.toArray from p) (x:=u) (by simpa using hu) fun h' u5 sb=>?_
  have I1:lQ X a9 σ H { s with heap:=h' }:=I.turned (t':=s.toks) (fun b o hb e=>(sb.2 b hb).trans e) f0 f1 f3 f4 f5;obtain ⟨o,e,c,d⟩:=id u5;exact ⟨u,rfl,xZ (s:={ s with heap:=h' }) e c d (by left) ⟨x,H,I1,ru,⟨rfl,fun ys hy=>by rw [I.tuple_inj hy hq];exact hx⟩,u5,fun b hb=>(hf b hb).1⟩⟩
 done:=by
  intro X hP hw hK hc i a9 s σ H E I hf st hg;subst hP hw hK;obtain ⟨xs,hq,hx⟩:=hg;obtain ⟨b9,rv,p,hz⟩:=I.tuple hq;obtain ⟨f0,f1,f2,f3,f4,f5⟩:=hf it (by simp);have hl:=rv.length;exact wpAny_pyNext_tuple_end (I.ok.hd hc) st (show s.heap.IsTuple a b9.toArray from p) (by simp;lia) fun h' eb=>⟨rfl,I.turned (t':=s.toks) (fun b o hb e=>eb b o hb e) f0 f1 f3 f4 f5⟩
 self:=fun _ _ _ _ _ st h=>wpAny_pyIter_tupleiter st h
def Np{P:lq}{w:lh}{K:kX}{tg:li}(it:kS)(lo:Int)(n:Nat):uK P w K tg (uS lo n) [it] it (fun i h=>IsRangeIter h it (lo+(i:Nat) * 1) ((n:Int)-(i:Nat)) 1) where
 mem:=by simp
 obj:=fun i h st b hb=>by
  have e:b=it:=by simpa using hb
  subst e;exact ⟨_,st,fun v z=>by
   have z':Data.fields _=Data.cell v:=z;cases z'⟩
 keep:=fun i h h' st k=>k it (by simp) _ st
 item:=by
  intro X hP hw hK hc i a9 s σ H E I hf st hg;subst hP hw hK;obtain ⟨f0,f1,f2,f3,f4,f5⟩:=hf it (by simp);have W:=Walks.range (prog:=X.prog) (w:=X.w) (I.ok.hd hc) it lo 1 n;refine W.item i s _ _ hg st fun v h' tk hv u5 kk=>?_
  obtain ⟨t,rfl⟩:=hv;have I1:lQ X a9 σ H { s with heap:=h',toks:=tk }:=I.turned (fun b o hb e=>kk b o (by simpa using hb) e) f0 f1 f3 f4 f5;refine ⟨_,rfl,xZ (s:={ s with heap:=h',toks:=tk }) (n := "range_iterator") u5 rfl rfl (by left) ⟨.int (lo+i),H,I1,⟨t,?_⟩,⟨rfl,rfl⟩,u5,fun b hb=>(hf b hb).1⟩⟩;rw [Int.mul_one]
 done:=by
  intro X hP hw hK hc i a9 s σ H E I hf st hg;subst hP hw hK;obtain ⟨f0,f1,f2,f3,f4,f5⟩:=hf it (by simp);exact wpAny_pyNext_range_end (I.ok.hd hc) st (by have:n<=i:=hg;lia) fun h' eb=>⟨rfl,I.turned (t':=s.toks) (fun b o hb e=>eb b o hb e) f0 f1 f3 f4 f5⟩
 self:=fun _ _ _ _ _ st h=>wpAny_pyIter_rangeiter st h
inductive Dd(S:Hp->Addr->List V->Prop)(I:Addr->It)(R:It->Hp->Prop)(H:Hp):V->Prop
 | mk {a xs}:S H a xs->R (I a) H->Dd S I R H (.ref a)
def Qd(K:kX)(tl:TE):TI:=fun σ H R=>tl σ H fun x H1=>Dd (SqL K) (rc K) R H1 x
def TJ(K:kX)(tl:TE):TI:=fun σ H R=>tl σ H fun x H1=>Dd (SqT K) (wV K) R H1 x
def Ym{l:li}{tl:TE}(hl:PE X l tl):PI X tg l (Qd X.K tl):=by
 intro a9 s σ H R I h;refine ma (hl a9 s σ H _ I h) fun v s1 ⟨x,H1,I1,r1,q1⟩=>?_
 obtain @⟨a,xs,hq,q⟩:=q1;cases r1;obtain ⟨b9,rv,p,hz⟩:=I1.list hq;refine vA p.isList ?_;refine ⟨s1.heap.objs.size,[s1.heap.objs.size],_,_,H1,rfl,I1.kept (t':=s1.toks) fun b o e=>my _ e,XJ a _,⟨_,nG _ rfl,rfl,rfl⟩,fun b hb=>?_,q⟩;have e:b=s1.heap.objs.size:=by simpa using hb
 subst e;exact I1.fpOk (mn _) (I1.hok.fresh (mn _))
def yn{l:li}{tl:TE}(hl:PE X l tl):PI X tg l (TJ X.K tl):=by
 intro a9 s σ H R I h;refine ma (hl a9 s σ H _ I h) fun v s1 ⟨x,H1,I1,r1,q1⟩=>?_
 obtain @⟨a,xs,hq,q⟩:=q1;cases r1;obtain ⟨b9,rv,p,hz⟩:=I1.tuple hq;refine wpAny_pyIter_tuple (show s1.heap.IsTuple a b9.toArray from p) ?_;refine ⟨s1.heap.objs.size,[s1.heap.objs.size],_,_,H1,rfl,I1.kept (t':=s1.toks) fun b o e=>my _ e,OB a _,⟨_,nG _ rfl,rfl,rfl⟩,fun b hb=>?_,q⟩;have e:b=s1.heap.objs.size:=by simpa using hb
 subst e;exact I1.fpOk (mn _) (I1.hok.fresh (mn _))
def Mz{a9:kQ (kS×Obj)}{σ:St}{H:Hp}{s:kU}{R:It->Hp->Prop}{E:kT->kU->Prop}{lo hi:Int}{t u v:Tok}{tk:Nat}(I:lQ X a9 σ H s)(h1:-(2 ^ 62)<=lo)(h2:lo<2 ^ 62)(h3:-(2 ^ 62)<=hi)(h4:hi<2 ^ 62)
  (q:R (uS lo (hi-lo).toNat) H):wpAny (model X.prog X.w) X.A (pyIter (.ref s.heap.objs.size)) (LH X a9 σ tg R) E { s with heap:=s.heap.push { cls:=.type "range",data:=.fields #[.int lo t,.int hi u,.int 1 v] },toks:=tk }:=by
 refine wpAny_pyIter_range (IsRange.new ..) (small_one h1 h2 h3 h4) ?_;have I1:lQ X a9 σ H { s with heap:=s.heap.push { cls:=.type "range",data:=.fields #[.int lo t,.int hi u,.int 1 v] },toks:=tk }:=I.kept fun b o e=>my _ e
 refine ⟨(s.heap.push { cls:=.type "range",data:=.fields #[.int lo t,.int hi u,.int 1 v] }).objs.size,[(s.heap.push { cls:=.type "range",data:=.fields #[.int lo t,.int hi u,.int 1 v] }).objs.size],_,_,H,rfl,
  I1.kept (t':=tk) fun b o e=>my _ e,Np _ lo (hi-lo).toNat,?_,fun b hb=>?_,q⟩
 ·have e1:lo+((0:Nat):Int) * 1=lo:=by simp
  have e2:(((hi-lo).toNat:Nat):Int)-((0:Nat):Int)=Builtin.Range.rangeSize lo hi 1:=by rw [rangeSize_one];split <;>lia
  show IsRangeIter _ _ (lo+((0:Nat):Int) * 1) ((((hi-lo).toNat:Nat):Int)-((0:Nat):Int)) 1;rw [e1,e2];exact nG _ rfl
 ·have e:b=(s.heap.push { cls:=.type "range",data:=.fields #[.int lo t,.int hi u,.int 1 v] }).objs.size:=by simpa using hb
  subst e;exact I1.fpOk (mn _) (I1.hok.fresh (mn _))
def UK(ta:TA):TI:=fun σ H R=>ta σ H fun vs H1=>∃j:Int,vs=[.int j]/\-(2 ^ 62)<=j/\j<2 ^ 62/\R (uS 0 j.toNat) H1
def OR(ta:TA):TI:=fun σ H R=>ta σ H fun vs H1=>∃i j:Int,vs=[.int i,.int j]/\(-(2 ^ 62)<=i/\i<2 ^ 62/\-(2 ^ 62)<=j/\j<2 ^ 62)/\R (uS i (j-i).toNat) H1
def WH{a:li}{ta:TA}{p pos:Pos} (hg:Gl X "range") (hm:X.mg "range" =none) (ha:PA X [a] ta) (hs:starEach [a] X.env=[(false,eval a X.env)]:=by rfl):PI X tg (.Call (.Name "range" p) [a] [] pos) (UK ta):=by
 intro a9 s σ H R I h;refine Call_ (vo I hg hm boot_range (xR (ma (ha pos a9 s σ H _ I h) fun us s1 ⟨vs,H1,I1,r1,q1⟩=>?_) hs rfl));obtain ⟨j,e,q1,q2,q⟩:=q1;subst e;cases r1 with
 | cons r rr =>
  cases rr;obtain ⟨t,rfl⟩:=r;exact call_range_1 (Mz I1 (by lia) (by lia) q1 q2 (by simpa using q))
def CZ  (hg:Gl X "range") (hm:X.mg "range" =none) (ha:PA X [a,b] ta) (hs:starEach [a,b] X.env=[(false,eval a X.env),(false,eval b X.env)]:=by rfl) (hs2:starEach [b] X.env=[(false,eval b X.env)]:=by rfl) :
  PI X tg (.Call (.Name "range" p) [a,b] [] pos) (OR ta):=by
 intro a9 s σ H R I h;refine Call_ (vo I hg hm boot_range (xR (ma (ha pos a9 s σ H _ I h) fun us s1 ⟨vs,H1,I1,r1,q1⟩=>?_) (by rw [hs,hs2]) (by rw [hs2];rfl)));obtain ⟨i,j,e,⟨q1,q2,q3,q4⟩,q⟩:=q1;subst e;cases r1 with
 | cons r rr =>
  cases rr with
  | cons r' rr =>
   cases rr;obtain ⟨t,rfl⟩:=r;obtain ⟨t',rfl⟩:=r';exact call_range_2 (Mz I1 q1 q2 q3 q4 q)
def QG(wi:TI)(g:TG)(tb:TS):TS:=fun D σ H=>wi σ H fun J H1=>∃W:Nat->Nat->St->Hp->Prop,(∃m,W 0 m σ H1)/\∀i m σ H,W i m σ H ->
 (J.stop i H/\D.nx σ H)\/(J.go i H/\∃N:St->Hp->Prop,(∀σ' H',N σ' H'->∃m',m'<m/\W (i+1) m' σ' H')/\∀x H',J.yld i H x H'->g x σ H' fun σ2 H2=>tb { D with nx:=N,ct:=N,bk:=D.nx } σ2 H2)
def xw(fp:kQ kS)(h:kZ):kQ (kS×Obj):=fp.filterMap fun b=>(h.get? b).map fun o=>(b,o)
def wf(hb:b∈fp)(e:h.get? b=some o):(b,o)∈xw fp h:=xl.mpr ⟨b,hb,by rw [e];rfl⟩
def PY(hp:p∈xw fp h):p.1∈fp/\h.get? p.1=some p.2:=by
 obtain ⟨b,hb,e⟩:=xl.mp hp;cases q:h.get? b with
 | none=>rw [q] at e;cases e
 | some o =>
  rw [q] at e;have e':(b,o)=p:=mW e;subst e';exact ⟨hb,q⟩
def lQ.pinned(I:lQ X a9 σ H s)(hf:∀b∈fp,rA X a9 H b)(ho:∀b∈fp,∃o,s.heap.get? b=some o/\∀v,o.data ≠ .cell v):lQ X (a9++xw fp s.heap) σ H s :=
 I.pins_of fun p hp=>(mZ.mp hp).elim (fun z=>I.pin p (pq _ z)) fun z=>by
  obtain ⟨hb,e⟩:=PY z;obtain ⟨f0,f1,f2,_⟩:=hf p.1 hb;obtain ⟨o,e',d⟩:=ho p.1 hb;rw [e] at e';cases e';exact ⟨e,f0,f1,f2,d⟩
def lQ.unpinned(I:lQ X (a9++pl) σ H s):lQ X a9 σ H s:=I.pins_of fun p hp=>I.pin p (pq _ (xf _ hp))
def Xb(hp:PassesOwn (model X.prog X.w) X.A X.env X.xe)(hc:X.calm=true)(hi:PI X tg i9 wi)(hg:PG X tg g)(hb:qd X body tb)
  (hs:∀x,foldedSetIterable i9 X.env x=pure x:=by intro _;rfl):PS X (.For tg i9 body [] pos) (QG wi g tb):=by
 intro a9 s σ H D I h;refine wpAny_For (ma (hi a9 s σ H _ I h) fun v s1 h1=>ma h1 fun itv s2 h2=>?_) hs;obtain ⟨it,fp,tn,J,H2,e,I2,T,st2,f2,W,⟨m0,w0⟩,K4⟩:=h2;subst e;have B5:∀{H':Hp},(∀b∈fp,H' b=none)->∀b∈fp,rA X a9 H' b:=fun hn b hb=>⟨hn b hb,(f2 b hb).2⟩
 refine codeAny_forLoop_any (fun n s'=>∃i σ' H',lQ X a9 σ' H' s'/\tn i s'.heap/\(∀b∈fp,H' b=none)/\W i n σ' H') ?_ m0 ⟨0,σ,H2,I2,st2,fun b hb=>(f2 b hb).1,w0⟩;rintro n s3 ⟨i,σ3,H3,I3,st3,fr3,w3⟩;rcases K4 i n σ3 H3 w3 with ⟨stop,qn⟩|⟨go,N,hN,step⟩
 ·refine yO hp (ma (T.done X rfl rfl rfl hc i a9 s3 σ3 H3 X.xe I3 (B5 fr3) st3 stop) fun r s4 ⟨hr,I4⟩=>?_);subst hr;exact zx ⟨σ3,H3,I4,qn⟩
 ·refine yO hp (ma (T.item X rfl rfl rfl hc i a9 s3 σ3 H3 X.xe I3 (B5 fr3) st3 go) fun r s4 ⟨u,hr,h4⟩=>?_);subst hr;refine yO hp (ma h4 fun _ s5 h9=>?_);obtain ⟨x,H5,I5,r5,y5,Q5,fr5⟩:=h9;have I5':=I5.pinned (B5 fr5) (T.obj _ _ Q5);refine yO hp (ma (hg _ s5 σ3 H5 x u _ I5' r5 (step x H5 y5)) fun _ s6 ⟨σ6,H6,I6,q6⟩=>?_);refine yO hp (ma (hb _ s6 σ6 H6 _ I6 q6) fun f s7 q7=>?_);have A4:∀{σ7:St} {H7:Hp},lQ X (a9++xw fp s5.heap) σ7 H7 s7->N σ7 H7->∃m,m<n/\∃i σ' H',lQ X a9 σ' H' s7/\tn i s7.heap/\(∀b∈fp,H' b=none)/\W i m σ' H':=fun {σ7 H7} I7 n7=>by
   obtain ⟨m',hm,w7⟩:=hN σ7 H7 n7;refine ⟨m',hm,i+1,σ7,H7,I7.unpinned,T.keep _ _ _ Q5 fun b hb o e=>(I7.pin (b,o) (pq _ (pq _ (wf hb e)))).1,fun b hb=>?_,w7⟩;obtain ⟨o,e,d⟩:=T.obj _ _ Q5 b hb;exact (I7.pin (b,o) (pq _ (pq _ (wf hb e)))).2.1
  cases f with
  | next=>obtain ⟨σ7,H7,I7,n7⟩:=q7;exact A4 I7 n7
  | cont=>obtain ⟨σ7,H7,I7,n7⟩:=q7;exact A4 I7 n7
  | brk=>obtain ⟨σ7,H7,I7,q7⟩:=q7;exact ⟨σ7,H7,I7.unpinned,q7⟩
  | ret v=>obtain ⟨x7,σ7,H7,I7,r7,q7⟩:=q7;exact ⟨x7,σ7,H7,I7.unpinned,r7,q7⟩
def Wc{K:kX}{a:kS}{xs:kQ V}{g:TG}{tb:TS}{D:oV}{σ:St}{H:Hp}(Pv:Nat->St->Hp->Prop)(h0:Pv 0 σ H)(hl:∀i σ H,i<=xs.length->Pv i σ H->SqL K H a xs)
  (hs:∀i x σ H,xs[i]? =some x->Pv i σ H->g x σ H fun σ2 H2=>tb { D with nx:=Pv (i+1),ct:=Pv (i+1),bk:=D.nx } σ2 H2) (hd:∀σ H,Pv xs.length σ H->D.nx σ H) :
  ∃W:Nat->Nat->St->Hp->Prop,(∃m,W 0 m σ H)/\∀i m σ H,W i m σ H ->
   ((rc K a).stop i H/\D.nx σ H)\/((rc K a).go i H/\∃N:St->Hp->Prop,(∀σ' H',N σ' H'->∃m',m'<m/\W (i+1) m' σ' H')/\∀x H',(rc K a).yld i H x H'->g x σ H' fun σ2 H2=>tb { D with nx:=N,ct:=N,bk:=D.nx } σ2 H2):=by
 refine ⟨fun i m σ H=>m=xs.length-i/\i<=xs.length/\Pv i σ H,⟨xs.length,by simp,oJ _,h0⟩,?_⟩;rintro i m σ H ⟨rfl,hi,p⟩;have q:=hl i σ H hi p
 by_cases c8:i<xs.length
 ·refine .inr ⟨⟨xs,xs[i],q,by simp [c8]⟩,Pv (i+1),fun σ' H' p'=>⟨xs.length-(i+1),by lia,rfl,c8,p'⟩,fun x H' y=>?_⟩;obtain ⟨e,y⟩:=y;subst e;exact hs i x σ _ (y xs q) p
 ·have e:i=xs.length:=by lia
  subst e;exact .inl ⟨⟨xs,q,mn _⟩,hd σ H p⟩
def Mr{K:kX}{a:kS}{xs:kQ V}{g:TG}{tb:TS}{D:oV}{σ:St}{H:Hp}(Pv:Nat->St->Hp->Prop)(h0:Pv 0 σ H)(hl:∀i σ H,i<=xs.length->Pv i σ H->SqT K H a xs)
  (hs:∀i x σ H,xs[i]? =some x->Pv i σ H->g x σ H fun σ2 H2=>tb { D with nx:=Pv (i+1),ct:=Pv (i+1),bk:=D.nx } σ2 H2) (hd:∀σ H,Pv xs.length σ H->D.nx σ H) :
  ∃W:Nat->Nat->St->Hp->Prop,(∃m,W 0 m σ H)/\∀i m σ H,W i m σ H ->
   ((wV K a).stop i H/\D.nx σ H)\/((wV K a).go i H/\∃N:St->Hp->Prop,(∀σ' H',N σ' H'->∃m',m'<m/\W (i+1) m' σ' H')/\∀x H',(wV K a).yld i H x H'->g x σ H' fun σ2 H2=>tb { D with nx:=N,ct:=N,bk:=D.nx } σ2 H2):=by
 refine ⟨fun i m σ H=>m=xs.length-i/\i<=xs.length/\Pv i σ H,⟨xs.length,by simp,oJ _,h0⟩,?_⟩;rintro i m σ H ⟨rfl,hi,p⟩;have q:=hl i σ H hi p
 by_cases c8:i<xs.length
 ·refine .inr ⟨⟨xs,xs[i],q,by simp [c8]⟩,Pv (i+1),fun σ' H' p'=>⟨xs.length-(i+1),by lia,rfl,c8,p'⟩,fun x H' y=>?_⟩;obtain ⟨e,y⟩:=y;subst e;exact hs i x σ _ (y xs q) p
 ·have e:i=xs.length:=by lia
  subst e;exact .inl ⟨⟨xs,q,mn _⟩,hd σ H p⟩
def ET{lo:Int}{n:Nat}{g:TG}{tb:TS}{D:oV}{σ:St}{H:Hp}(Pv:Nat->St->Hp->Prop)(h0:Pv 0 σ H)
  (hs:∀i σ H,i<n->Pv i σ H->g (.int (lo+i)) σ H fun σ2 H2=>tb { D with nx:=Pv (i+1),ct:=Pv (i+1),bk:=D.nx } σ2 H2) (hd:∀σ H,Pv n σ H->D.nx σ H) :
  ∃W:Nat->Nat->St->Hp->Prop,(∃m,W 0 m σ H)/\∀i m σ H,W i m σ H ->
   ((uS lo n).stop i H/\D.nx σ H)\/((uS lo n).go i H/\∃N:St->Hp->Prop,(∀σ' H',N σ' H'->∃m',m'<m/\W (i+1) m' σ' H')/\∀x H',(uS lo n).yld i H x H'->g x σ H' fun σ2 H2=>tb { D with nx:=N,ct:=N,bk:=D.nx } σ2 H2):=by
 refine ⟨fun i m σ H=>m=n-i/\i<=n/\Pv i σ H,⟨n,by simp,oJ _,h0⟩,?_⟩;rintro i m σ H ⟨rfl,hi,p⟩
 by_cases c8:i<n
 ·refine .inr ⟨c8,Pv (i+1),fun σ' H' p'=>⟨n-(i+1),by lia,rfl,c8,p'⟩,fun x H' y=>?_⟩;obtain ⟨e,y⟩:=y;subst e y;exact hs i σ _ c8 p
 ·have e:i=n:=by lia
  subst e;exact .inl ⟨mn _,hd σ H p⟩
abbrev R2:=V->V->Hp->VK->Prop
def mM(X:Cx)(f:kT->kT->Sem kT)(r:R2):Prop :=
 ∀(a9:kQ (kS×Obj)) (s:kU) (σ:St) (H:Hp) (x y:V) (v u:kT) (Q:VK),lQ X a9 σ H s->Yd x v->Yd y u->r x y H Q ->
  wpAny (model X.prog X.w) X.A (f v u) (EP X a9 σ Q) X.xe s
def Es(X:Cx)(f:kT->Sem kT)(r:V->Hp->VK->Prop):Prop :=
 ∀(a9:kQ (kS×Obj)) (s:kU) (σ:St) (H:Hp) (x:V) (v:kT) (Q:VK),lQ X a9 σ H s->Yd x v->r x H Q ->
  wpAny (model X.prog X.w) X.A (f v) (EP X a9 σ Q) X.xe s
def Xc(X:Cx)(f:kT)(r:kQ V->Hp->VK->Prop):Prop :=
 ∀(a9:kQ (kS×Obj)) (s:kU) (σ:St) (H:Hp) (xs:kQ V) (us:kQ kT) (Q:VK),lQ X a9 σ H s->Yc xs us->r xs H Q ->
  wpAny (model X.prog X.w) X.A (call f us) (EP X a9 σ Q) X.xe s
def Qx(X:Cx)(r:V->Hp->(Bool->Hp->Prop)->Prop):Prop :=
 ∀(a9:kQ (kS×Obj)) (s:kU) (σ:St) (H:Hp) (x:V) (v:kT) (Q:Bool->Hp->Prop),lQ X a9 σ H s->Yd x v->r x H Q ->
  wpAny (model X.prog X.w) X.A (truthy v) (TP X a9 σ Q) X.xe s
def pT(r:R2)(ta tb:TE):TE:=fun σ H Q=>ta σ H fun x H1=>tb σ H1 fun y H2=>r x y H2 Q
def UM(r:V->Hp->VK->Prop)(ta:TE):TE:=fun σ H Q=>ta σ H fun x H1=>r x H1 Q
def rI(C:Int->Int->Prop)(g:Int->Int->V):R2:=fun x y H Q=>∃i j,x=.int i/\y=.int j/\C i j/\Q (g i j) H
def uF(g:Int->Int->V):R2:=fun x y H Q=>∃i j,x=.int i/\y=.int j/\Q (g i j) H
def rU(g:Int->V):V->Hp->VK->Prop:=fun x H Q=>∃i,x=.int i/\Q (g i) H
def Eo(ha:PE X a ta)(hb:PE X b tb){R:V->V->Hp->Prop}(I:lQ X a9 σ H s)
  (h:ta σ H fun x H1=>tb σ H1 fun y H2=>R x y H2) {Q:kT->kU->Prop} {f:kT->kT->Sem kT}
  (hf:∀v u s2 x y H2,lQ X a9 σ H2 s2->Yd x v->Yd y u->R x y H2->wpAny (model X.prog X.w) X.A (f v u) Q X.xe s2) :
  wpAny (model X.prog X.w) X.A (eval a X.env) (fun v lz=>wpAny (model X.prog X.w) X.A (eval b X.env) (fun u lC=>wpAny (model X.prog X.w) X.A (f v u) Q X.xe lC) X.xe lz) X.xe s:=by
 refine ma (ha a9 s σ H _ I h) fun v s1 ⟨x,H1,I1,r1,q1⟩=>?_
 refine ma (hb a9 s1 σ H1 _ I1 q1) fun u s2 ⟨y,H2,I2,r2,q2⟩=>?_
 exact hf v u s2 x y H2 I2 r1 r2 q2
def Zo(ho:mM X (binaryOp op) r)(ha:PE X a ta)(hb:PE X b tb):PE X (.BinOp a op b pos) (pT r ta tb):=by
 intro a9 s σ H Q I h;exact wpAny_BinOp (Eo ha hb I h fun v u s2 x y H2 I2 rx ry q=>ho a9 s2 σ H2 x y v u Q I2 rx ry q)
def yQ{r:V->Hp->VK->Prop}(ho:Es X (unaryOp op) r)(ha:PE X a ta):PE X (.UnaryOp op a pos) (UM r ta):=by
 intro a9 s σ H Q I h;exact UnaryOp_ (ma (ha a9 s σ H _ I h) fun v s1 ⟨x,H1,I1,r1,q1⟩=>ho a9 s1 σ H1 x v Q I1 r1 q1)
def BF{f:kT->kT->Sem kT}{C:Int->Int->Prop}{g:Int->Int->Int}
  (L0:∀(i j:Int) (t u:Tok) (s:kU) (Q:kT->kU->Prop) (E:kT->kU->Prop),C i j->Q (.int (g i j) s.toks) { s with toks:=s.toks+1 }->wpAny (model X.prog X.w) X.A (f (.int i t) (.int j u)) Q E s) :
  mM X f (rI C fun i j=>.int (g i j)):=by
 intro a9 s σ H x y v u Q I rx ry h;obtain ⟨i,j,rfl,rfl,hc,q⟩:=h;obtain ⟨t,rfl⟩:=rx;obtain ⟨t',rfl⟩:=ry;exact L0 i j t t' s _ _ hc ⟨.int (g i j),H,I.tok _,⟨_,rfl⟩,q⟩
def Hx{f:kT->kT->Sem kT}{g:Int->Int->Int}
  (L0:∀(i j:Int) (t u:Tok) (s:kU) (Q:kT->kU->Prop) (E:kT->kU->Prop),Q (.int (g i j) s.toks) { s with toks:=s.toks+1 }->wpAny (model X.prog X.w) X.A (f (.int i t) (.int j u)) Q E s) :
  mM X f (uF fun i j=>.int (g i j)):=by
 intro a9 s σ H x y v u Q I rx ry h;obtain ⟨i,j,rfl,rfl,q⟩:=h;obtain ⟨t,rfl⟩:=rx;obtain ⟨t',rfl⟩:=ry;exact L0 i j t t' s _ _ ⟨.int (g i j),H,I.tok _,⟨_,rfl⟩,q⟩
def BA{f:kT->kT->Sem kT}{g:Int->Int->Bool}
  (L0:∀(i j:Int) (t u:Tok) (s:kU) (Q:kT->kU->Prop) (E:kT->kU->Prop),Q (.bool (g i j)) s->wpAny (model X.prog X.w) X.A (f (.int i t) (.int j u)) Q E s) :
  mM X f (uF fun i j=>.bl (g i j)):=by
 intro a9 s σ H x y v u Q I rx ry h;obtain ⟨i,j,rfl,rfl,q⟩:=h;obtain ⟨t,rfl⟩:=rx;obtain ⟨t',rfl⟩:=ry;exact L0 i j t t' s _ _ ⟨.bl (g i j),H,I,rfl,q⟩
def VW(i j:Int):Prop:=0<j/\j<1073741824
def Db(i j:Int):Prop:=(-(2 ^ 64)<i/\i<2 ^ 64)\/(-(2 ^ 64)<j/\j<2 ^ 64)
def Db.ok(h:Db i j):IntMulOk i j:=by
 rcases h with ⟨h1,h2⟩|⟨h1,h2⟩
 ·exact .of_left (intBits_le_64 h1 h2)
 ·exact .of_right (intBits_le_64 h1 h2)
def NW:mM X (binaryOp .Add) (uF fun i j=>.int (i+j)):=Hx fun _ _ _ _ _ _ _ q=>add_int q
def xF:mM X (binaryOp .Sub) (uF fun i j=>.int (i-j)):=Hx fun _ _ _ _ _ _ _ q=>sub_int q
def wW:mM X (binaryOp .Mult) (rI Db fun i j=>.int (i * j)):=BF fun _ _ _ _ _ _ _ hc q=>mul_int q hc.ok
def Yo:mM X (binaryOp .FloorDiv) (rI VW fun i j=>.int (i / j)):=BF fun i j _ _ _ _ _ hc q=>by
 have h1:(0:Int)<j:=hc.1;have h2:j<1073741824:=hc.2;exact floordiv_int (by lia) (by rw [Int.fdiv_eq_ediv_of_nonneg i (by lia)];exact q) (.inl (PyProof.noPylong_small (by lia)))
def Yi:mM X (binaryOp .Mod) (rI (fun _ j=>0<j) fun i j=>.int (i%j)):=BF fun i j _ _ _ _ _ hc q=>by
 have h1:(0:Int)<j:=hc;exact mod_int' (by lia) (by rw [Int.fmod_eq_emod_of_nonneg i (by lia)];exact q)
def Pf{f:kT->Sem kT}{g:Int->Int}
  (L0:∀(i:Int) (t:Tok) (s:kU) (Q:kT->kU->Prop) (E:kT->kU->Prop),Q (.int (g i) s.toks) { s with toks:=s.toks+1 }->wpAny (model X.prog X.w) X.A (f (.int i t)) Q E s) :
  Es X f (rU fun i=>.int (g i)):=by
 intro a9 s σ H x v Q I rx h;obtain ⟨i,rfl,q⟩:=h;obtain ⟨t,rfl⟩:=rx;exact L0 i t s _ _ ⟨.int (g i),H,I.tok _,⟨_,rfl⟩,q⟩
def xK:Es X (unaryOp .USub) (rU fun i=>.int (-i)):=Pf fun _ _ _ _ _ q=>neg_int q
def FC:V->V->Bool
 | .non,.non=>true | .non,.int _=>true | .int _,.non=>true | .non,.bl _=>true | .bl _,.non=>true | .non,.str _=>true | .str _,.non=>true
 | .int _,.int _=>true | .bl _,.bl _=>true | .str _,.str _=>true | .byt _,.byt _=>true
 | .int _,.str _=>true | .str _,.int _=>true | .bl _,.str _=>true | .str _,.bl _=>true
 | _,_=>false
def JV:R2:=fun x y H Q=>FC x y=true/\Q (.bl (decide (x=y))) H
def Ht:R2:=fun x y H Q=>FC x y=true/\Q (.bl (!decide (x=y))) H
def Lp:decide (V.int i=V.int j)=(i ==j):=by
 rw [qH];simp
def Hd:decide (V.bl i=V.bl j)=(i ==j):=by
 rw [qH];simp
def MS:decide (V.str i=V.str j)=(i ==j):=by
 rw [qH];simp
def LV:decide (V.byt i=V.byt j)=(i.toList ==j.toList):=by
 rw [qH];cases i;cases j;simp
def Yv(I:lQ X a9 σ H s)(q:Q (.bl k) H)(e:k=k'):EP X a9 σ Q (.bool k') s:=by
 subst e;exact ⟨.bl k,H,I,rfl,q⟩
def Kg:mM X (compareOp .Eq) JV:=by
 intro a9 s σ H x y v u Q I rx ry h;obtain ⟨hs,q⟩:=h;cases x with
 | non =>
  cases rx;cases y with
  | non=>cases ry;exact PySem.EqNone.eq_none_none (Yv I q (by simp))
  | bl j=>cases ry;exact PySem.EqNone.eq_none_bool (Yv I q (by simp))
  | int j=>obtain ⟨t',rfl⟩:=ry;exact PySem.EqNone.eq_none_int (Yv I q (by simp))
  | str j=>obtain ⟨t',rfl⟩:=ry;exact PySem.EqNone.eq_none_str (Yv I q (by simp))
  | _=>exact absurd (show false=true from hs) mX
 | bl i =>
  cases rx;cases y with
  | non=>cases ry;exact PySem.EqNone.eq_bool_none (Yv I q (by simp))
  | bl j=>cases ry;exact eq_bool (Yv I q Hd)
  | str j=>obtain ⟨t',rfl⟩:=ry;exact PySem.EqMixed.eq_bool_str (Yv I q (by simp))
  | _=>exact absurd (show false=true from hs) mX
 | int i =>
  obtain ⟨t,rfl⟩:=rx;cases y with
  | non=>cases ry;exact PySem.EqNone.eq_int_none (Yv I q (by simp))
  | int j=>obtain ⟨t',rfl⟩:=ry;exact eq_int (Yv I q Lp)
  | str j=>obtain ⟨t',rfl⟩:=ry;exact PySem.EqMixed.eq_int_str (Yv I q (by simp))
  | _=>exact absurd (show false=true from hs) mX
 | str i =>
  obtain ⟨t,rfl⟩:=rx;cases y with
  | non=>cases ry;exact PySem.EqNone.eq_str_none (Yv I q (by simp))
  | bl j=>cases ry;exact PySem.EqMixed.eq_str_bool (Yv I q (by simp))
  | int j=>obtain ⟨t',rfl⟩:=ry;exact PySem.EqMixed.eq_str_int (Yv I q (by simp))
  | str j=>obtain ⟨t',rfl⟩:=ry;exact eq_str (Yv I q MS)
  | _=>exact absurd (show false=true from hs) mX
 | byt i =>
  obtain ⟨t,rfl⟩:=rx;cases y with
  | byt j=>obtain ⟨t',rfl⟩:=ry;exact PySem.W.eq_bytes (Yv I q LV)
  | _=>exact absurd (show false=true from hs) mX
 | _=>cases y <;>exact absurd (show false=true from hs) mX
def UA:mM X (compareOp .NotEq) Ht:=by
 intro a9 s σ H x y v u Q I rx ry h;obtain ⟨hs,q⟩:=h;cases x with
 | non =>
  cases rx;cases y with
  | non=>cases ry;exact PySem.EqNone.ne_none_none (Yv I q (by simp))
  | bl j=>cases ry;exact PySem.EqNone.ne_none_bool (Yv I q (by simp))
  | int j=>obtain ⟨t',rfl⟩:=ry;exact PySem.EqNone.ne_none_int (Yv I q (by simp))
  | str j=>obtain ⟨t',rfl⟩:=ry;exact PySem.EqNone.ne_none_str (Yv I q (by simp))
  | _=>exact absurd (show false=true from hs) mX
 | bl i =>
  cases rx;cases y with
  | non=>cases ry;exact PySem.EqNone.ne_bool_none (Yv I q (by simp))
  | bl j=>cases ry;exact ne_bool (Yv I q (nV not Hd))
  | str j=>obtain ⟨t',rfl⟩:=ry;exact PySem.EqMixed.ne_bool_str (Yv I q (by simp))
  | _=>exact absurd (show false=true from hs) mX
 | int i =>
  obtain ⟨t,rfl⟩:=rx;cases y with
  | non=>cases ry;exact PySem.EqNone.ne_int_none (Yv I q (by simp))
  | int j=>obtain ⟨t',rfl⟩:=ry;exact ne_int (Yv I q (nV not Lp))
  | str j=>obtain ⟨t',rfl⟩:=ry;exact PySem.EqMixed.ne_int_str (Yv I q (by simp))
  | _=>exact absurd (show false=true from hs) mX
 | str i =>
  obtain ⟨t,rfl⟩:=rx;cases y with
  | non=>cases ry;exact PySem.EqNone.ne_str_none (Yv I q (by simp))
  | bl j=>cases ry;exact PySem.EqMixed.ne_str_bool (Yv I q (by simp))
  | int j=>obtain ⟨t',rfl⟩:=ry;exact PySem.EqMixed.ne_str_int (Yv I q (by simp))
  | str j=>obtain ⟨t',rfl⟩:=ry;exact ne_str (Yv I q (nV not MS))
  | _=>exact absurd (show false=true from hs) mX
 | byt i =>
  obtain ⟨t,rfl⟩:=rx;cases y with
  | byt j=>obtain ⟨t',rfl⟩:=ry;exact PySem.W.ne_bytes (Yv I q (nV not LV))
  | _=>exact absurd (show false=true from hs) mX
 | _=>cases y <;>exact absurd (show false=true from hs) mX
def uN:mM X (compareOp .Lt) (uF fun i j=>.bl (decide (i<j))):=BA fun _ _ _ _ _ _ _ q=>lt_int q
def sK:mM X (compareOp .LtE) (uF fun i j=>.bl (decide (i<=j))):=BA fun _ _ _ _ _ _ _ q=>le_int q
def ug:mM X (compareOp .Gt) (uF fun i j=>.bl (decide (j<i))):=BA fun _ _ _ _ _ _ _ q=>gt_int q
def Qf:mM X (compareOp .In) (fun x y H Q=>∃i j,x=.str i/\y=.str j/\Q (.bl (!(Builtin.Str.occurrences j i 0 j.length 1).isEmpty)) H):=by
 intro a9 s σ H x y v u Q I rx ry h;obtain ⟨i,j,rfl,rfl,q⟩:=h;obtain ⟨t,rfl⟩:=rx;obtain ⟨t',rfl⟩:=ry;exact in_str (Yv I q rfl)
def CC:mM X (compareOp .Is) (fun x y H Q=>y=.non/\Q (.bl (decide (x=.non))) H):=by
 intro a9 s σ H x y v u Q I rx ry h;obtain ⟨rfl,q⟩:=h;cases ry;refine is_none_gen (Yv I q ?_);cases x <;>first
  | (cases rx;rfl)
  | (obtain ⟨t,rfl⟩:=rx;rfl)
def Uh:mM X (compareOp .IsNot) (fun x y H Q=>y=.non/\Q (.bl (!decide (x=.non))) H):=by
 intro a9 s σ H x y v u Q I rx ry h;obtain ⟨rfl,q⟩:=h;cases ry;refine isnot_none_gen (Yv I q ?_);cases x <;>first
  | (cases rx;rfl)
  | (obtain ⟨t,rfl⟩:=rx;rfl)
def mM.or{f:kT->kT->Sem kT}(h:mM X f r)(h':mM X f r'):mM X f (fun x y H Q=>r x y H Q\/r' x y H Q):=by
 intro a9 s σ H x y v u Q I rx ry q;rcases q with q|q
 ·exact h a9 s σ H x y v u Q I rx ry q
 ·exact h' a9 s σ H x y v u Q I rx ry q
def Yw(b:li)(h:op ≠ .In:=by left)(h2:op ≠ .NotIn:=by left):behindInMarks op b=false:=by
 have e1:(op ==CmpOp.In)=false:=by cases op <;>first | rfl | exact absurd rfl h
 have e2:(op ==CmpOp.NotIn)=false:=by cases op <;>first | rfl | exact absurd rfl h2
 cases b <;>simp [behindInMarks,e1,e2]
def yR(ho:mM X (compareOp op) r)(ha:PE X a ta)(hb:PE X b tb)(hm:behindInMarks op b=false):PE X (.Compare a [op] [b] pos) (pT r ta tb):=by
 intro a9 s σ H Q I h;exact wpAny_Compare1 (Eo ha hb I h fun v u s2 x y H2 I2 rx ry q=>ho a9 s2 σ H2 x y v u Q I2 rx ry q) hm
def vQ(t:TE):TT:=fun σ H Q=>t σ H fun x H'=>∃k,x=.bl k/\Q k H'
def Z4(ho:mM X (compareOp op) r)(ha:PE X a ta)(hb:PE X b tb)(hm:behindInMarks op b=false):PT X (.Compare a [op] [b] pos) (vQ (pT r ta tb)):=by
 intro a9 s σ H Q I h;refine wpAny_isTrue_Compare1 (ma (ha a9 s σ H _ I h) fun v s1 ⟨x,H1,I1,r1,q1⟩=>ma (hb a9 s1 σ H1 _ I1 q1) fun u s2 ⟨y,H2,I2,r2,q2⟩ =>
  ma (ho a9 s2 σ H2 x y v u _ I2 r1 r2 q2) fun c s3 ⟨z,H3,I3,r3,k,e,q3⟩=>?_) hm
 subst e;cases r3;exact uM ⟨H3,I3,q3⟩
def OH(r r':R2)(ta tb tc:TE):TE:=fun σ H Q=>ta σ H fun x H1=>tb σ H1 fun y H2=>r x y H2 fun z H3=>∃k,z=.bl k /\
 (if k=true then tc σ H3 fun w' H4=>r' y w' H4 Q else Q (.bl false) H3)
def yt(ho:mM X (compareOp op) r)(Q4:mM X (compareOp op') r')(ha:PE X a ta)(hb:PE X b tb)(hc:PE X c tc)
  (hm:lastMarks [op,op'] [b,c]=false:=by with_unfolding_all rfl):PT X (.Compare a [op,op'] [b,c] pos) (vQ (OH r r' ta tb tc)):=by
 intro a9 s σ H Q I h;refine isTrue_chain (ma (ha a9 s σ H _ I h) fun v s1 ⟨x,H1,I1,r1,q1⟩=>test_link (ma (hb a9 s1 σ H1 _ I1 q1) fun u s2 ⟨y,H2,I2,r2,q2⟩ =>
  ma (ho a9 s2 σ H2 x y v u _ I2 r1 r2 q2) fun d s3 ⟨z,H3,I3,r3,k,e,q3⟩=>?_)) hm
 subst e;cases r3;refine uM ?_;cases k with
 | false =>
  obtain ⟨k',e',q'⟩:=q3;cases e';exact ite_ff ⟨H3,I3,q'⟩
 | true =>
  refine ite_tt (test_last (ma (hc a9 s3 σ H3 _ I3 q3) fun w' s4 ⟨z',H4,I4,r4,q4⟩=>ma (Q4 a9 s4 σ H4 y z' u w' _ I4 r2 r4 q4) fun d' s5 ⟨z2,H5,I5,r5,k2,e2,q5⟩=>?_));subst e2;cases r5;exact uM ⟨H5,I5,q5⟩
def Jv(K:kX)(x:V)(H:Hp)(k:Bool):Prop :=
 match x with
 | .non=>k=false
 | .bl b=>k=b
 | .int i=>k=(i !=0)
 | .str y=>y.length<=sizeLine/\k=((y.length:Int) !=0)
 | .byt y=>y.size<=sizeLine/\k=((y.size:Int) !=0)
 | .ref p=>(∃xs,SqL K H p xs/\k=!xs.isEmpty)\/(∃xs,SqT K H p xs/\k=!xs.isEmpty)\/∃kvs,H p=some (.dK kvs)/\k=!kvs.isEmpty
 | _=>False
def Ng{κ:Type}{kvs:kQ (κ×V)}{vs:kQ (κ×kT)}(r:KV kvs vs):(!vs.isEmpty)=!kvs.isEmpty:=by
 cases r <;>rfl
def KR(r:Yc xs b9):(!b9.toArray.isEmpty)=!xs.isEmpty:=by
 cases r <;>simp
def wq:(sizeLine:Nat)<2 ^ 63:=by rw [qT];decide
def Pq:Qx X (fun x H Q=>∃k,Jv X.K x H k/\Q k H):=by
 intro a9 s σ H x v Q I rx h;obtain ⟨k,e,q⟩:=h;have hl:=wq;have hs:sizeLine=16777216:=qT;cases x with
 | non =>
  cases rx;have e':k=false:=e;subst e';exact truthy_none ⟨H,I,q⟩
 | bl b =>
  cases rx;have e':k=b:=e;subst e';exact uM ⟨H,I,q⟩
 | int i =>
  obtain ⟨t,rfl⟩:=rx;have e':k=(i !=0):=e;subst e';exact PySem.P.truthy_int ⟨H,I,q⟩
 | str y =>
  obtain ⟨t,rfl⟩:=rx;obtain ⟨hy,e'⟩:y.length<=sizeLine/\k=((y.length:Int) !=0):=e;subst e';exact PySem.P.truthy_str (by lia) ⟨H,I.tok _,q⟩
 | byt y =>
  obtain ⟨t,rfl⟩:=rx;obtain ⟨hy,e'⟩:y.size<=sizeLine/\k=((y.size:Int) !=0):=e;subst e';exact PySem.W.truthy_bytes (by lia) ⟨H,I.tok _,q⟩
 | ref p =>
  cases rx;have e':(∃xs,SqL X.K H p xs/\k=!xs.isEmpty)\/(∃xs,SqT X.K H p xs/\k=!xs.isEmpty)\/∃kvs,H p=some (.dK kvs)/\k=!kvs.isEmpty:=e;rcases e' with ⟨xs,hx,e'⟩|⟨xs,hx,e'⟩|⟨kvs,hx,e'⟩
  ·subst e';obtain ⟨b9,r,pl,hz⟩:=I.list hx;have d7:=r.length;exact wpAny_truthy_list pl.isList (by simp only [ny];lia) ⟨H,I.tok _,by rw [KR r];exact q⟩
  ·subst e';obtain ⟨b9,r,pl,hz⟩:=I.tuple hx;have d7:=r.length;exact truthy_tuple pl (by simp only [ny];lia) ⟨H,I.tok _,by rw [KR r];exact q⟩
  ·subst e';obtain ⟨hz,hS,vs,r,m⟩:kvs.length<=sizeLine/\(p ==sysModules)=false/\∃vs,KV kvs vs/\s.heap.DictOf (Zu X.prog X.w) p vs:=I.hok p _ hx;have d7:kvs.length=vs.length:=mv r;exact wpAny_truthy_dict hS m (by lia) ⟨H,I.tok _,by rw [Ng r];exact q⟩
 | _=>exact (show False from e).elim
def PZ(ha:PE X a ta)(he:∀B7,isTrue a X.env B7=(do let v <-B7;standAt a.pos;holding [v] (truthy v))) :
  PT X a (fun σ H Q=>ta σ H fun x H'=>∃k,Jv X.K x H' k/\Q k H'):=by
 intro a9 s σ H Q I h;exact isTrue_plain (ma (ha a9 s σ H _ I h) fun v s1 ⟨x,H1,I1,r1,q1⟩=>Pq a9 s1 σ H1 x v Q I1 r1 q1) (he _)
def TL:mM X (binaryOp .Add) (fun x y H Q=>∃i j,x=.str i/\y=.str j/\i.length+j.length<=sizeLine/\Q (.str (i++j)) H):=by
 intro a9 s σ H x y v u Q I rx ry h;obtain ⟨i,j,rfl,rfl,hz,q⟩:=h;obtain ⟨t,rfl⟩:=rx;obtain ⟨t',rfl⟩:=ry;exact add_str (fun t' tk=>⟨.str (i++j),H,I.tok _,⟨_,rfl⟩,q⟩) hz
def W0(r:Yc [x] us):∃u,us=[u]/\Yd x u:=by
 cases r with
 | cons r1 r2=>cases r2;exact ⟨_,rfl,r1⟩
def uP(r:Yc [x,y] us):∃u w',us=[u,w']/\Yd x u/\Yd y w':=by
 cases r with
 | cons r1 r2 =>
  cases r2 with
  | cons r3 r4=>cases r4;exact ⟨_,_,rfl,r1,r3⟩
def Gp(hc:X.calm=true):Xc X (.builtin "max") (fun xs H Q=>∃i j,xs=[.int i,.int j]/\Q (.int (if j >i then j else i)) H):=by
 intro a9 s σ H xs us Q I r h;obtain ⟨i,j,rfl,q⟩:=h;obtain ⟨u,w',rfl,⟨t,rfl⟩,⟨t',rfl⟩⟩:=uP r;refine max_two_ints (I.ok.hd hc) fun h' tk k=>⟨_,H,I.kept k,?_,q⟩
 by_cases hj:j >i
 ·rw [lZ hj,lZ hj];exact ⟨_,rfl⟩
 ·rw [lY hj,lY hj];exact ⟨_,rfl⟩
def Ku(hc:X.calm=true):Xc X (.builtin "min") (fun xs H Q=>∃i j,xs=[.int i,.int j]/\Q (.int (if j<i then j else i)) H):=by
 intro a9 s σ H xs us Q I r h;obtain ⟨i,j,rfl,q⟩:=h;obtain ⟨u,w',rfl,⟨t,rfl⟩,⟨t',rfl⟩⟩:=uP r;refine min_two_ints (I.ok.hd hc) fun h' tk k=>⟨_,H,I.kept k,?_,q⟩
 by_cases hj:j<i
 ·rw [lZ hj,lZ hj];exact ⟨_,rfl⟩
 ·rw [lY hj,lY hj];exact ⟨_,rfl⟩
def QN:Xc X (.type "int") (fun xs H Q=>(∃i,xs=[.int i]/\Q (.int i) H)\/∃k,xs=[.bl k]/\Q (.int (if k then 1 else 0)) H):=by
 intro a9 s σ H xs us Q I r h;rcases h with ⟨i,rfl,q⟩|⟨k,rfl,q⟩
 ·obtain ⟨u,rfl,t,rfl⟩:=W0 r;exact call_int_int ⟨.int i,H,I,⟨_,rfl⟩,q⟩
 ·obtain ⟨u,rfl,r1⟩:=W0 r;cases r1;exact call_int_bool ⟨.int (if k then 1 else 0),H,I.tok _,⟨_,rfl⟩,q⟩
def zI:Xc X (.type "str") (fun xs H Q=>∃i,xs=[.int i]/\i.natAbs.log2<1920/\Q (.str (toString i)) H):=by
 intro a9 s σ H xs us Q I r h;obtain ⟨i,rfl,hz,q⟩:=h;obtain ⟨u,rfl,t,rfl⟩:=W0 r;exact PySem.P.str_of_int hz ⟨.str _,H,I.tok _,⟨_,rfl⟩,q⟩
structure vm(h:Heap)(x dx C:Addr)(mA:Str->Option Value):Prop where
 obj:h.get? x=some (PySem.W.instObj C dx)
 ns:h.Ns1 dx mA
 ne:dx≠x
def DA{h:kZ}{dx:kS}{mA:kR->kW kT}(n:h.Ns1 dx mA):∃od,h.get? dx=some od/\∀name,PySem.W.lookIn name od=some (mA name):=by
 obtain ⟨o,es,ep,ho,hd,hk,_,hm⟩:=n;refine ⟨o,ho,fun name=>?_⟩;have e:=hm name;unfold nsFind findBy at e;rw [<-Array.find?_toList] at e;unfold PySem.W.lookIn;rw [hd];dsimp only;split
 ·rename_i y q;rw [q] at e;exact nV some e
 ·rename_i q;rw [q] at e;have a:es.toList.any (·.refKey)=false:=by
   rw [List.any_eq_false];intro y hy;obtain ⟨z,t,K1⟩:=hk y (IV.mp hy);simp [DictEntry.refKey,K1]
  have a':¬es.toList.any (·.refKey)=true:=by rw [a];exact mX
  rw [lY a'];exact nV some e
def vm.look{mA:kR->kW kT}(I:vm h x dx C mA):∃od,PySem.W.InstAt h x (PySem.W.instObj C dx) C (some od)/\∀name,PySem.W.lookIn name od=some (mA name) :=
 let ⟨od,ho,hl⟩:=DA I.ns
 ⟨od,⟨I.obj,rfl,rfl,ho⟩,hl⟩
section
variable {prog:lq} {w:lh} {A:lu} {E:kT->kU->Prop} {s:kU} {K:kX} {x dx C f:kS} {mA:kR->kW kT} {name:kR} {v:kT}
def XM{Q:kT->kU->Prop}(X:K.In s.heap)(I:vm s.heap x dx C mA)(hg:PySem.W.plainGet K C name=true)(hh:PySem.W.hasDictIn K C=true)
  (ha:findIn K (.ref C) name=some none) (hv:mA name=some v) (hv':PySem.W.handedIn v=true) (h:Q v { s with toks:=s.toks+1 }) :
  wpAny (model prog w) A (getAttr (.ref x) name expr) Q E s:=by
 obtain ⟨od,J,hl⟩:=I.look;exact PySem.W.get_value X J (Dc hg).1 (JS hh ha rfl (by rw [hl,hv])) hv' h
def Nj{Q:kT×kQ kT->kU->Prop}(X:K.In s.heap)(I:vm s.heap x dx C mA)(hg:PySem.W.plainGet K C name=true)
  (hf:findIn K (.ref C) name=some (some (.ref f))) (ht:PySem.W.isFn K (.ref f)=true) (hv:mA name=none) (h:Q (.ref f,[.ref x]) s) :
  wpAny (model prog w) A (getMethod (.ref x) name pl) Q E s:=by
 obtain ⟨od,J,hl⟩:=I.look;exact PySem.W.method_fn X J (Dc hg).1 (Dc hg).2 hf (qo.mp ht) (by show (PySem.W.lookIn name od).map (·.isSome)=some false;rw [hl,hv];rfl) h
def Sz{Q:Unit->kU->Prop}(X:K.In s.heap)(I:vm s.heap x dx C mA)
  (hs:findIn K (.ref C) "__setattr__" =some (some (.builtin "object.__setattr__"))) (hp:PySem.W.plainOver K C=true) (ht:PySem.W.takerIn K C name=some none) (hh:PySem.W.hasDictIn K C=true)
  (hw:PySem.Within mA ns) (hsz:ns.length<=sizeLine)
  (h:∀h',vm h' x dx C (fun y=>if y=name then some v else mA y)->Heap.SameBut dx s.heap h'->Q () { s with heap:=h',toks:=s.toks+2 }) :
  wpAny (model prog w) A (setAttr (.ref x) name v) Q E s:=by
 obtain ⟨od,J,hl⟩:=I.look;refine PySem.W.set_plain X J hs (PySem.W.osa_open (s:={ s with toks:=s.toks+1 }) (r:=none) X J hp ht fun b=>?_);obtain ⟨cd,hc,hd'⟩:=PySem.W.any_some hh;have hx:s.heap.get? x=some ⟨.ref C,some dx,.plain,#[]⟩:=I.obj;refine lT (mi (lT (lT (Dp hx (lT (PySem.W.Looks.here (s:={ s with toks:=s.toks+1 }) (Do X hc) ?_))))));rw [hd'];refine mi (a:=some dx) (lT (mi (lT ?_)));refine wpAny_nsSet1 (s:={ s with toks:=s.toks+1 }) I.ns fun h' hn2 hs2=>?_
 obtain ⟨oD,esD,epD,hoD,hdD,hcD⟩:=hn2.count (PySem.Within.cons name v hw);refine lT (wpAny_lookBehind hoD (by rw [hdD];exact pastItsLine_dict (nj hcD (by rw [ou];lia))) ?_);exact mi (h _ ⟨(hs2.2 _ (nR I.ne)).trans I.obj,hn2,I.ne⟩ hs2)
def SQ{R:Result->kU->Prop}(X:K.In s.heap)(hm:PySem.W.makesIn K C=true)
  (hi:findIn K (.ref C) "__init__" =some (some (.ref f))) (hf:PySem.W.typeIn K (.ref f)=some (.type "function"))
  (h:codeAny (model prog w) (A.under (.builtin "type.__call__" ⟨.ref C ::vs,kw⟩)) (.call (.ref f) ⟨.ref (s.heap.objs.size+1) ::vs,kw⟩) (PySem.W.InitBack (s.heap.objs.size+1) R)
   { s with heap:=(s.heap.push PySem.W.emptyDict).push (PySem.W.instObj C s.heap.objs.size) }) :
  codeAny (model prog w) A (.call (.ref C) ⟨vs,kw⟩) R s:=by
 obtain ⟨hh,g,d,t,os⟩:=s;exact PySem.W.make_core (PySem.W.makes_of X hm) (yp X hi) (fun self=>PySem.W.bind_fn X self hf) (.inl rfl) h
end
def qh(f:kR)(v:V):kQ (kR×V)->kQ (kR×V)
 | []=>[(f,v)]
 | (g,x) ::r=>if g=f then (g,v) ::r else (g,x) ::qh f v r
theorem KM(f g:kR)(v:V):∀fs:kQ (kR×V),(qh f v fs).lookup g=if g=f then some v else fs.lookup g
 | []=>by
  show List.lookup g [(f,v)]=_
  by_cases h:g=f
  ·have hb:(g ==f)=true:=qo.mpr h;simp only [List.lookup,hb,lZ h]
  ·have hb:(g ==f)=false:=qX.mpr h;simp only [List.lookup,hb,lY h]
 | (k,x) ::r=>by
  have ih:=KM f g v r;rw [show qh f v ((k,x) ::r)=(if k=f then (k,v) ::r else (k,x) ::qh f v r) from rfl]
  by_cases hk:k=f
  ·rw [lZ hk]
   by_cases h:g=k
   ·have hb:(g ==k)=true:=qo.mpr h;simp only [List.lookup,hb,lZ (h.trans hk)]
   ·have hb:(g ==k)=false:=qX.mpr h;simp only [List.lookup,hb,lY (fun e:g=f=>h (e.trans hk.symm))]
  ·rw [lY hk]
   by_cases h:g=k
   ·have hb:(g ==k)=true:=qo.mpr h;simp only [List.lookup,hb,lY (fun e:g=f=>hk (h.symm.trans e))]
   ·have hb:(g ==k)=false:=qX.mpr h;simp only [List.lookup,hb];exact ih
theorem EX(f:kR)(v:V):∀fs:kQ (kR×V),f∈(qh f v fs).map (·.1)/\∀g,g∈fs.map (·.1)->g∈(qh f v fs).map (·.1)
 | []=>⟨by simp [qh],fun g h=>by simp at h⟩
 | (k,x) ::r=>by
  obtain ⟨i1,i2⟩:=EX f v r;rw [show qh f v ((k,x) ::r)=(if k=f then (k,v) ::r else (k,x) ::qh f v r) from rfl]
  by_cases hk:k=f
  ·rw [lZ hk];subst hk;exact ⟨by simp,fun g h=>by simpa using h⟩
  ·rw [lY hk];refine ⟨?_,fun g h=>?_⟩
   ·rw [mH];exact nJ _ i1
   ·rw [mH] at h ⊢;rcases mI.mp h with e|e
    ·exact mI.mpr (.inl e)
    ·exact nJ _ (i2 g e)
theorem FV(f:kR)(v:V):∀fs:kQ (kR×V),(qh f v fs).length<=fs.length+1
 | []=>by simp [qh]
 | (k,x) ::r=>by
  have ih:=FV f v r;rw [show qh f v ((k,x) ::r)=(if k=f then (k,v) ::r else (k,x) ::qh f v r) from rfl]
  by_cases hk:k=f
  ·rw [lZ hk,ou,ou];lia
  ·rw [lY hk,ou,ou];lia
def oW.some_of(r:oW (some v) o):∃u,o=some u/\Yd v u:=by
 cases o with
 | none=>exact (show False from r).elim
 | some u=>exact ⟨u,rfl,r⟩
def oW.none_of(r:oW none o):o=none:=by
 cases o with
 | none=>rfl
 | some u=>exact (show False from r).elim
def MZ(r:Yd v u):PySem.W.handedIn u=true:=by
 cases v with
 | non=>cases (show u=Value.none from r);rfl
 | bl b=>cases (show u=Value.bool b from r);rfl
 | int i=>obtain ⟨t,e⟩:=(show ∃t,u=Value.int i t from r);cases e;rfl
 | str x=>obtain ⟨t,e⟩:=(show ∃t,u=Value.str x t from r);cases e;rfl
 | byt b=>obtain ⟨t,e⟩:=(show ∃t,u=Value.bytes b t from r);cases e;rfl
 | flt b=>obtain ⟨t,e⟩:=(show ∃t,u=Value.float b t from r);cases e;rfl
 | ref a=>cases (show u=Value.ref a from r);rfl
 | ty n=>cases (show u=Value.type n from r);rfl
section
def zY(hok:mT P w H h)(e:H a=some (.ins C dx fs)):∃mA,vm h a dx C mA/\(∀f,oW (fs.lookup f) (mA f))/\PySem.Within mA (fs.map (·.1))/\fs.length<=1000/\H dx=some (.own a):=by
 obtain ⟨d,z,ne,ob,mA,n,r,q⟩:=(show Z5 P w H h a (.ins C dx fs) from hok a _ e)
 exact ⟨mA,⟨ob,n,ne⟩,r,q,z,d⟩
end
structure oF(K:Frag)(C:Addr):Prop where
 pg:PySem.W.plainGet K C Str.empty=true
 hd:PySem.W.hasDictIn K C=true
 po:PySem.W.plainOver K C=true
 sa:findIn K (.ref C) "__setattr__" =some (some (.builtin "object.__setattr__"))
def oF.get{K:kX}{C:kS}(c:oF K C)(f:kR):PySem.W.plainGet K C f=true:=c.pg
def lX(K:kX)(C:kS)(f:kR):Prop:=findIn K (.ref C) f=some none
def lX.taker{K:kX}{C:kS}{f:kR}(n:lX K C f):PySem.W.takerIn K C f=some none:=by
 unfold PySem.W.takerIn;rw [show findIn K (.ref C) f=some none from n]
 rfl
structure Xa(K:Frag)(C:Addr)(m:Str)(f:Addr):Prop where
 at_:findIn K (.ref C) m=some (some (.ref f))
 fn:PySem.W.isFn K (.ref f)=true
 kp:keepIn K (.ref f)=true
section
variable {E:kT->kU->Prop}
def Qb{Q:kT->kU->Prop}(I:lQ X a9 σ H s)(e:H a=some (.ins C dx fs))(c:oF X.K C)(n:lX X.K C f)(l:fs.lookup f=some v)
  (h:∀u s',lQ X a9 σ H s'->Yd v u->Q u s'):wpAny (model X.prog X.w) A (getAttr (.ref a) f b) Q E s:=by
 obtain ⟨mA,O,r,_,_,_⟩:=zY I.hok e;obtain ⟨u,hu,ru⟩:=oW.some_of (v:=v) (o:=mA f) (by rw [<-l];exact r f);exact XM I.kIn O (c.get f) c.hd n hu (MZ ru) (h u _ (I.tok _) ru)
def El{Q:kT×kQ kT->kU->Prop}(I:lQ X a9 σ H s)(e:H a=some (.ins C dx fs))(c:oF X.K C)(k:Xa X.K C m g)(l:fs.lookup m=none)
  (h:Q (.ref g,[.ref a]) s):wpAny (model X.prog X.w) A (getMethod (.ref a) m pl) Q E s:=by
 obtain ⟨mA,O,r,_,_,_⟩:=zY I.hok e;have hn:mA m=none:=oW.none_of (by rw [<-l];exact r m);exact Nj I.kIn O (c.get m) k.at_ k.fn hn h
def Vk{Q:Unit->kU->Prop}(I:lQ X a9 σ H s)(e:H a=some (.ins C dx fs))(c:oF X.K C)(n:lX X.K C f)(hl:fs.length<1000)(ry:Yd y u)
  (h:∀s',lQ X a9 σ (upd H a (.ins C dx (qh f y fs))) s'->Q () s'):wpAny (model X.prog X.w) A (setAttr (.ref a) f u) Q E s:=by
 obtain ⟨mA,O,r,wi,_,ho⟩:=zY I.hok e;have hz:(fs.map (·.1)).length<=sizeLine:=by rw [lV,qT];lia
 refine Sz I.kIn O c.sa c.po n.taker c.hd wi hz fun h' O' sb=>h _ ?_
 have hd:∃o,h'.get? dx=some o:=let ⟨o,_,_,e',_⟩:=O'.ns;⟨o,e'⟩;refine I.write (x:=a) (e:=dx) (by rw [e];exact pI) (.inr ho) (fun b q hb z=>(sb.2 b hb).trans z) hd ?_;refine ⟨by rw [Zd O.ne];exact ho,?_,O.ne,O'.obj,_,O'.ns,fun g=>?_,fun g hg=>?_⟩
 ·have:=FV f y fs;lia
 ·show oW ((qh f y fs).lookup g) (if g=f then some u else mA g);rw [KM]
  by_cases q:g=f
  ·rw [lZ q,lZ q];exact ry
  ·rw [lY q,lY q];exact r g
 ·by_cases q:g=f
  ·rw [q];exact (EX f y fs).1
  ·refine (EX f y fs).2 g (wi g fun z=>hg ?_);show (if g=f then some u else mA g)=none;rw [lY q];exact z
def lQ.made(I:lQ X a9 σ H s):lQ X a9 σ (upd (upd H s.heap.objs.size (.own (s.heap.objs.size+1))) (s.heap.objs.size+1) (.ins C s.heap.objs.size []))
  { s with heap:=(s.heap.push PySem.W.emptyDict).push (PySem.W.instObj C s.heap.objs.size) }:=by
 have e1:(s.heap.push PySem.W.emptyDict).get? s.heap.objs.size=some PySem.W.emptyDict:=nG s.heap rfl;have e2:((s.heap.push PySem.W.emptyDict).push (PySem.W.instObj C s.heap.objs.size)).get? (s.heap.objs.size+1)=some (PySem.W.instObj C s.heap.objs.size):=by
  have:=nG (s.heap.push PySem.W.emptyDict) (o:=PySem.W.instObj C s.heap.objs.size) rfl;rwa [se] at this
 have e3:(s.heap.push PySem.W.emptyDict).Ns s.heap.objs.size (fun _=>none):=⟨PySem.W.emptyDict,#[],_,e1,rfl,(fun e he=>absurd he (by simp)),fun _=>rfl⟩
 have I1:=I.laid (a:=s.heap.objs.size) (o:=.own (s.heap.objs.size+1)) (h':=s.heap.push PySem.W.emptyDict) (t':=s.toks) (fun b u q=>my _ q) (mn _) ⟨_,e1⟩;refine I1.laid (a:=s.heap.objs.size+1) (o:=.ins C s.heap.objs.size []) (t':=s.toks) (fun b u q=>my _ q) (vI (se _ _)) ?_;have ne:s.heap.objs.size≠s.heap.objs.size+1:=mC (yg _);refine ⟨by rw [Zd ne,Zc],oJ _,ne,e2,fun _=>none,(Heap.Ns1.of_empty e3).at fun o q=>my _ q,fun _=>pI,fun y hy=>absurd rfl hy⟩
def Ml{Q:kT->kU->Prop}(hb:attributeBase e f env (eval e env)=eval e env)
  (h:wpAny (model prog w) A (eval e env) (fun o lz=>wpAny (model prog w) A (getAttr o f true) Q E lz) E s):wpAny (model prog w) A (eval (.Attribute e f pos) env) Q E s :=
 Attribute_any_ h (by rw [arm_eval_Attribute,hb])
end
inductive Gf(K:Frag)(f:Str)(Q:VK)(H:Hp):V->Prop
 | mk {a C dx fs v}:H a=some (.ins C dx fs)->oF K C->lX K C f->fs.lookup f=some v->Q v H->Gf K f Q H (.ref a)
def SE(K:kX)(ta:TE)(f:kR):TE:=fun σ H Q=>ta σ H fun x H1=>Gf K f Q H1 x
def Oe(K:kX)(ta tv:TE)(f:kR):TS:=fun D σ H=>tv σ H fun y H1=>ta σ H1 fun x H2=>∃a C dx fs,x=.ref a/\H2 a=some (.ins C dx fs)/\oF K C/\lX K C f/\fs.length<1000 /\
 D.nx σ (upd H2 a (.ins C dx (qh f y fs)))
def Yb(he:PE X e ta)(hb:attributeBase e f X.env (eval e X.env)=eval e X.env):PE X (.Attribute e f pos) (SE X.K ta f):=by
 intro a9 s σ H Q I h;refine Ml hb (ma (he a9 s σ H _ I h) fun u s1 zz=>?_);obtain ⟨x,H1,I1,rx,@⟨a,C,dx,fs,v,ea,c,n,l,q⟩⟩:=zz;obtain rfl:u=Value.ref a:=rx;exact Qb I1 ea c n l fun u' s2 I2 ru=>⟨v,H1,I2,ru,q⟩
def Wg(ha:PE X o ta)(hv:PE X value tv)(hs:swapsWith value (some (.Attribute o f A8)) pos.line X.env=pure false):PS X (.Assign [.Attribute o f A8] value pos) (Oe X.K ta tv f):=by
 intro a9 s σ H D I h;refine Jn (ma (hv a9 s σ H _ I h) fun u s1 ⟨y,H1,I1,ry,q⟩=>ma (ha a9 s1 σ H1 _ I1 q) fun ov s2 zz=>?_) hs;obtain ⟨x,H2,I2,rx,a,C,dx,fs,ex,ea,c,n,l,q2⟩:=zz;subst ex;obtain rfl:ov=Value.ref a:=rx;exact Vk I2 ea c n l ry fun s3 I3=>⟨σ,_,I3,q2⟩
def XX{pl:Sem Bool}{m:kR}{g7:Pos}{args:kQ li}{a9:kQ (kS×Obj)}{s:kU}{σ:St}{H:Hp}{Q:kT->kU->Prop}{te:TE}(he:PE X e te)(I:lQ X a9 σ H s)
  (h:te σ H fun x H1=>∃a C dx fs g,x=.ref a/\H1 a=some (.ins C dx fs)/\oF X.K C/\Xa X.K C m g/\fs.lookup m=none /\
   ∀s1,lQ X a9 σ H1 s1->wpAny (model X.prog X.w) X.A (callWith pos (.ref g) [.ref a] (backTo pos (starEach args X.env)) (backToKw pos (keywordEach [] X.env))) Q X.xe s1)
  (ht:eval (.Call (.Attribute e m g7) args [] pos) X.env=(do
   let ov <-eval e X.env
   standAt g7.atName
   let (f,first) <-holding [ov] (getMethod ov m pl)
   callWith pos f first (backTo pos (starEach args X.env)) (backToKw pos (keywordEach [] X.env)))) :
  wpAny (model X.prog X.w) X.A (eval (.Call (.Attribute e m g7) args [] pos) X.env) Q X.xe s:=by
 refine Eb (pl:=pl) (ma (he a9 s σ H _ I h) fun u s1 zz=>?_) ht;obtain ⟨x,H1,I1,rx,a,C,dx,fs,g,ex,ea,c,k,l,q⟩:=zz;subst ex;obtain rfl:u=Value.ref a:=rx;exact El I1 ea c k l (q s1 I1)
section
variable {E:kT->kU->Prop} {Q:kT->kU->Prop}
inductive Xl(K:Frag)(H:Hp):V->Value->Prop where
 | non:Xl K H .non (.type "NoneType")
 | bl (x:Bool):Xl K H (.bl x) (.type "bool")
 | int (i:Int):Xl K H (.int i) (.type "int")
 | str (x:Str):Xl K H (.str x) (.type "str")
 | flt (x:UInt64):Xl K H (.flt x) (.type "float")
 | lst {a:Addr} {xs:List V} (e:H a=some (.lst xs)):Xl K H (.ref a) (.type "list")
 | frz {a:Addr} {o:Obj} {xs:List V} (e:H a=some (.frz o (.lst xs))):Xl K H (.ref a) (.type "list")
 | tup {a:Addr} {xs:List V} (e:H a=some (.tup xs)):Xl K H (.ref a) (.type "tuple")
 | dK {a:Addr} {kvs:List (md×V)} (e:H a=some (.dK kvs)):Xl K H (.ref a) (.type "dict")
 | dT {a:Addr} {kvs:List (List md×V)} (e:H a=some (.dT kvs)):Xl K H (.ref a) (.type "dict")
 | ins {a C dx:Addr} {fs:List (Str×V)} (e:H a=some (.ins C dx fs)) (cl:oF K C) (ha:findIn K (.ref C) "__class__" =some (some (.builtin "object.__class__")))
   (hn:PySem.W.specialIn K (.builtin "object.__class__") "__get__" =some (some (.builtin "getset_descriptor.__get__"))) (htk:PySem.W.takesIn K (.builtin "object.__class__")=some true)
   (hm:PySem.W.mroIn K C (.type "object")=some true):Xl K H (.ref a) (.ref C)
def KJ(I:lQ X a9 σ H s)(rx:Yd x u)(ty:Xl X.K H x t)(e:kitOne X.K t c=some b)(h:∀tk,Q (.bool b) { s with toks:=tk }) :
  wpAny (model X.prog X.w) A (call (.builtin "isinstance") [u,c]) Q E s:=by
 cases ty with
 | non=>cases (show u=Value.none from rx);exact qt PySem.W.kitx_none I.kIn pI e (fun z=>nomatch z) h
 | bl y=>cases (show u=Value.bool y from rx);exact qt PySem.W.kitx_bool I.kIn pI e (fun z=>nomatch z) h
 | int i=>obtain ⟨t,q⟩:=(show ∃t,u=Value.int i t from rx);cases q;exact qt PySem.W.kitx_int I.kIn pI e (fun z=>nomatch z) h
 | str y=>obtain ⟨t,q⟩:=(show ∃t,u=Value.str y t from rx);cases q;exact qt PySem.W.kitx_str I.kIn pI e (fun z=>nomatch z) h
 | flt y=>obtain ⟨t,q⟩:=(show ∃t,u=Value.float y t from rx);cases q;exact qt PySem.W.kitx_float I.kIn pI e (fun z=>nomatch z) h
 | @lst a xs ea =>
  cases (show u=Value.ref a from rx);obtain ⟨_,_,n,_,h1⟩:=(show Z5 X.prog X.w H s.heap a (.lst xs) from I.hok a _ ea)
  exact qt PySem.W.kitx_list I.kIn ⟨_,h1,rfl⟩ e (fun z=>nomatch z) h
 | @frz a ob xs ea =>
  cases (show u=Value.ref a from rx);obtain ⟨_,_,_,n,_,h1⟩:=(show Z5 X.prog X.w H s.heap a (.frz ob (.lst xs)) from I.hok a _ ea)
  exact qt PySem.W.kitx_list I.kIn ⟨_,h1,rfl⟩ e (fun z=>nomatch z) h
 | @tup a xs ea =>
  cases (show u=Value.ref a from rx);obtain ⟨_,_,_,p⟩:=(show Z5 X.prog X.w H s.heap a (.tup xs) from I.hok a _ ea)
  obtain ⟨o,h1,h2,_⟩:=p;exact qt PySem.W.kitx_tuple I.kIn ⟨o,h1,h2⟩ e (fun z=>nomatch z) h
 | @dK a kvs ea =>
  cases (show u=Value.ref a from rx);obtain ⟨_,_,vs,_,p⟩:=(show Z5 X.prog X.w H s.heap a (.dK kvs) from I.hok a _ ea)
  obtain ⟨o,es,ep,h1,h2,_⟩:=p;exact qt PySem.W.kitx_dict I.kIn ⟨o,h1,h2.1⟩ e (fun z=>nomatch z) h
 | @dT a kvs ea =>
  cases (show u=Value.ref a from rx);obtain ⟨_,_,xs,_,o,es,ep,h1,h2,_⟩:=(show Z5 X.prog X.w H s.heap a (.dT kvs) from I.hok a _ ea)
  exact qt PySem.W.kitx_dict I.kIn ⟨o,h1,h2.1⟩ e (fun z=>nomatch z) h
 | @ins a C dx fs ea cl ha hn htk hm =>
  cases (show u=Value.ref a from rx);obtain ⟨mA,O,_⟩:=zY I.hok ea;obtain ⟨od,J,_⟩:=O.look;exact qt (PySem.W.kitx_own (cl.get _) cl.hd ha hn htk hm) I.kIn J e (fun z=>nomatch z) h
end
structure Y5(k:Nat)(A:Around):Prop where
 hd:A.handled=none
 dp:A.depth+3 * k+5<recursionLimit
 un:A.units+16 * k+200<cLine
 gd:A.guards=some []
def Y5.mono(r:Y5 k A)(h:j<=k):Y5 j A:=⟨r.hd,by have:=r.dp;lia,by have:=r.un;lia,r.gd⟩
def Y5.m{j k:Nat}{A:lu}(r:Y5 k A)(h:j<=k:=by left):Y5 j A:=r.mono h
def Y5.deeper(r:Y5 (k+1) A)(env:Env):Y5 k (A.deeper env) :=
 ⟨r.hd,by have:=r.dp;show A.depth+1+3 * k+5<_;lia,by have:=r.un;show A.units+3+16 * k+200<_;lia,r.gd⟩
def NJ{A:lu}{C:kS}{us:kQ kT}{kw:kQ (kR×kT)}:(A.under (.builtin "type.__call__" ⟨.ref C ::us,kw⟩)).depth=A.depth+1:=by
 first | rfl | simp [Around.under,Code.weight,Code.isCreation,Code.isGuard,Code.isCaller,Code.frames,Code.isFrame,guardIds]
def So{A:lu}{C:kS}{us:kQ kT}{kw:kQ (kR×kT)}:(A.under (.builtin "type.__call__" ⟨.ref C ::us,kw⟩)).units=A.units+1:=by
 first | rfl | simp [Around.under,Code.cUnits,Code.frames,Code.isFrame]
def QO{A:lu}{C:kS}{us:kQ kT}{kw:kQ (kR×kT)}:(A.under (.builtin "type.__call__" ⟨.ref C ::us,kw⟩)).guards=A.guards:=by
 first | rfl | simp [Around.under,Code.guards,Code.isGuard,guardIds,pushGuards]
def Y5.make{k:Nat}{A:lu}(r:Y5 (k+1) A)(C:kS)(us:kQ kT)(kw:kQ (kR×kT)):Y5 k (A.under (.builtin "type.__call__" ⟨.ref C ::us,kw⟩)) :=
 ⟨r.hd,by have:=r.dp;rw [NJ];lia,by have:=r.un;rw [So];lia,QO.trans r.gd⟩
def Y5.depth(r:Y5 k A):A.depth<recursionLimit:=by have:=r.dp;lia
def Y5.units(r:Y5 k A):A.units+64<cLine:=by have:=r.un;lia
def tQ:TA:=fun _ H Q=>Q [] H
def sF(ta:TE)(tr:TA):TA:=fun σ H Q=>ta σ H fun x H1=>tr σ H1 fun xs H2=>Q (x ::xs) H2
def Za:PA X [] tQ:=fun _ _ _ _ H Q I h=>xG ⟨[],H,I,.nil,h⟩
def Sj(ha:PE X e te)(hr:PA X es t)(hs:starEach (e ::es) X.env=(false,eval e X.env) ::starEach es X.env:=by rfl):PA X (e ::es) (sF te t):=by
 intro pos a9 s σ H Q I h;rw [hs];show wpAny _ _ (spliced ((false,eval e X.env) ::backTo pos (starEach es X.env))) _ _ s;refine wZ (ma (ha a9 s σ H _ I h) fun u s1 ⟨x,H1,I1,r1,q1⟩=>?_);exact ma (hr pos a9 s1 σ H1 _ I1 q1) fun us s2 ⟨xs,H2,I2,r2,q2⟩=>⟨x ::xs,H2,I2,.cons r1 r2,q2⟩
abbrev Sp:=kQ V->Hp->VK->XK->Prop
abbrev ue:=kQ Env->Hp->kU->XK->kT->kU->Prop
structure sO(P:Program)(w:World)(K:Frag)(mg:Str->Option Value)(lL:Heap)(A:Around)(lJ:List Env)(s:Shared)(H:Hp):Prop where
 frames:A.frames=some lJ
 mod:Mod K mg lL
 bs:∀b o,lL.get? b=some o->s.heap.get? b=some o/\H b=none
 bsz:lL.objs.size<=s.heap.objs.size
 funs:s.heap.FunFrames lL lJ
 frf:∀b∈mJ lJ,H b=none
 hok:mT P w H s.heap
 bare:AllBare s.gens
def CE(lJ:kQ Env)(P:lq)(w:lh)(H:Hp)(s:kU)(Q:VK)(u:kT)(s':kU):Prop :=
 ∃v H',s'.os=s.os/\AllBare s'.gens/\Un (mJ lJ) [] H H' s.heap s'.heap/\mT P w H' s'.heap/\Yd v u/\Q v H'
def CR(CX:ue)(lJ:kQ Env)(P:lq)(w:lh)(H:Hp)(s:kU)(Q:VK)(E:XK)(r:Result)(s':kU):Prop :=
 match r with
 | .ok (.ret u)=>CE lJ P w H s Q u s'
 | .ok _=>False
 | .error e=>CX lJ H s E e s'
structure Xe(P:Program)(w:World)(K:Frag)(mg:Str->Option Value)(lL:Heap)(CX:ue)(k:Nat)(f:Addr)(fd:FuncData)(ps:List Str)(sp:Sp):Prop where
 len:∀vs H Q E,sp vs H Q E->vs.length=ps.length
 run:∀(A:Around) (lJ:List Env) (s:Shared) (H:Hp) (args:Args) (us:List Value) (vs:List V) (Q:VK) (E:XK),Y5 k A->sO P w K mg lL A lJ s H->BindsTo s fd args (ps.zip us)->Yc vs us->sp vs H Q E ->
  codeAny (model P w) A (.call (.ref f) args) (CR CX lJ P w H s Q E) s
def Xe.mono{P:lq}{w:lh}{K:kX}{mg:kR->kW kT}{lL:kZ}{CX:ue}{j k:Nat}{f:kS}{fd:lv}{ps:kQ kR}{sp:Sp}(F:Xe P w K mg lL CX j f fd ps sp)(h:j<=k) :
  Xe P w K mg lL CX k f fd ps sp:=⟨F.len,fun A lJ s H args us vs Q E hr=>F.run A lJ s H args us vs Q E (hr.mono h)⟩
def sO.make{P:lq}{w:lh}{K:kX}{mg:kR->kW kT}{lL:kZ}{A:lu}{lJ:kQ Env}{s:kU}{H:Hp}(e:sO P w K mg lL A lJ s H)(C:kS)(us:kQ kT)(kw:kQ (kR×kT)) :
  sO P w K mg lL (A.under (.builtin "type.__call__" ⟨.ref C ::us,kw⟩)) lJ s H:=⟨by first | exact e.frames | (simpa [Around.under,Code.envs,Code.isFrame,pushEnvs] using e.frames),e.mod,e.bs,e.bsz,e.funs,e.frf,e.hok,e.bare⟩
def lQ.env0(I:lQ X a9 σ H s):sO X.prog X.w X.K X.mg X.lL X.A X.stack s H :=
 ⟨I.ok.frames,I.ok.mod,I.bs,nj I.ok.bsz I.sz,I.stack,I.stkFree,I.hok,I.bare⟩
def lQ.after(I:lQ X a9 σ H s)(h:CE X.stack X.prog X.w H s Q u s'):EP X a9 σ Q u s':=by
 obtain ⟨v,H',os,bare,un,hok,r,q⟩:=h;obtain ⟨hh,g,d,t,os'⟩:=s';obtain rfl:os'=s.os:=os;exact ⟨v,H',I.call (h':=hh) (g':=g) (d':=d) (t':=t) (ch:=[]) un hok bare (fun b z=>absurd z (by simp)),r,q⟩
def Bw(sp:Sp)(C5:kQ V)(E:XK)(t:TA):TE:=fun σ H Q=>t σ H fun vs H1=>sp (vs++C5) H1 Q E
def CM(C:kS)(m:kR)(sp:Sp)(C5:kQ V)(E:XK)(ta:TE)(t:TA):TE:=fun σ H Q=>ta σ H fun x H1=>∃a dx fs,x=.ref a/\H1 a=some (.ins C dx fs)/\fs.lookup m=none /\
 t σ H1 fun vs H2=>sp (x ::(vs++C5)) H2 Q E
def pr(K:kX)(fd:lv)(ps:kQ kR)(ds:kQ kT):Prop :=
 ∀(s:kU) (us:kQ kT),K.In s.heap->(us++ds).length=ps.length->BindsTo s fd ⟨us,[]⟩ (ps.zip (us++ds))
def pr.all{K:kX}{fd:lv}{ps:kQ kR}(h:∀us:kQ kT,us.length=ps.length->bindArgs fd ⟨us,[]⟩=pure (ps.zip us)):pr K fd ps []:=fun s us _ hl=>by
 rw [pz] at hl ⊢;exact .of_eq (h us hl)
def qR(CX:ue)(X:Cx)(E:XK):Prop:=∀(a9:kQ (kS×Obj)) (σ:St) (H:Hp) (s:kU) (e:kT) (s':kU),lQ X a9 σ H s->CX X.stack H s E e s'->X.xe e s'
section
variable {X:Cx}
def zi(F:Xe X.prog X.w X.K X.mg X.lL CX k f fd ps sp)(hr:Y5 k X.A)(hb:pr X.K fd ps ds)(hd:Yc C5 ds)(hx:qR CX X E)
  (I:lQ X a9 σ H s) (r:Yc vs us) (h:sp (vs++C5) H Q E):wpAny (model X.prog X.w) X.A (call (.ref f) us) (EP X a9 σ Q) X.xe s:=by
 have r2:Yc (vs++C5) (us++ds):=r.append hd;have hl:(us++ds).length=ps.length:=by rw [<-r2.length];exact F.len _ _ _ _ h
 refine sU (ud (F.run X.A X.stack s H ⟨us,[]⟩ (us++ds) (vs++C5) Q E hr I.env0 (hb s us I.kIn hl) r2 h) fun r s' hq=>?_);cases r with
 | error e=>exact hx a9 σ H s e s' I hq
 | ok fl =>
  cases fl with
  | ret u=>exact I.after hq
  | next=>exact False.elim hq
  | brk=>exact False.elim hq
  | cont=>exact False.elim hq
def X1(F:Xe X.prog X.w X.K X.mg X.lL CX k f fd ps sp)(hr:Y5 k X.A)(hg:Gl X x)(hm:X.mg x=some (.ref f))(hk:keepIn X.K (.ref f)=true)(hb:pr X.K fd ps ds)(hd:Yc C5 ds)(hx:qR CX X E)
  (ha:PA X (e ::es) t) (L1:(x ==("__debug__" :kR))=false:=by left) (he:starEach (e ::es) X.env=(false,eval e X.env) ::starEach es X.env:=by rfl) (g8:(backTo pos (starEach es X.env)).any (·.1)=false:=by rfl) :
  PE X (.Call (.Name x p) (e ::es) [] pos) (Bw sp C5 E t):=by
 intro a9 s σ H Q I h;refine sX (uE I hg hm ?_ L1);refine xY (h₀:=X.lL) I.ok.mod.kin hk (ma (ha pos a9 s σ H _ I h) fun us s1 ⟨vs,H1,I1,r,q⟩=>⟨I1.kIn,?_⟩) he g8;exact zi F hr hb hd hx I1 r q
def UE(F:Xe X.prog X.w X.K X.mg X.lL CX k f fd ps sp)(hr:Y5 k X.A)(hg:Gl X x)(hm:X.mg x=some (.ref f))(hk:keepIn X.K (.ref f)=true)(hb:pr X.K fd ps ds)(hd:Yc C5 ds)(hx:qR CX X E)
  (L1:(x ==("__debug__" :kR))=false:=by left):PE X (.Call (.Name x p) [] [] pos) (Bw sp C5 E tQ):=by
 intro a9 s σ H Q I h;refine sX (uE I hg hm ?_ L1);exact FY I.kIn hk (zi (us:=[]) F hr hb hd hx I .nil h)
def Z7(he:PE X o ta)(c:oF X.K C)(hm:Xa X.K C m f)(F:Xe X.prog X.w X.K X.mg X.lL CX k f fd ps sp)(hr:Y5 k X.A)(hb:pr X.K fd ps ds)(hd:Yc C5 ds)(hx:qR CX X E)(ha:PA X (e ::es) t)
  (z6:starEach (e ::es) X.env=(false,eval e X.env) ::starEach es X.env:=by rfl) (g8:(backTo pos (starEach es X.env)).any (·.1)=false:=by rfl)
  (ht:eval (.Call (.Attribute o m g7) (e ::es) [] pos) X.env=(do
   let ov <-eval o X.env
   standAt g7.atName
   let (f,first) <-holding [ov] (getMethod ov m pl)
   callWith pos f first (backTo pos (starEach (e ::es) X.env)) (backToKw pos (keywordEach [] X.env))):=by rfl) :
  PE X (.Call (.Attribute o m g7) (e ::es) [] pos) (CM C m sp C5 E ta t):=by
 intro a9 s σ H Q I h;refine Eb (pl:=pl) (ma (he a9 s σ H _ I h) fun u s1 h9=>?_) ht;obtain ⟨x,H1,I1,rx,a,dx,fs,ex,ea,l,q⟩:=h9;subst ex;obtain rfl:u=Value.ref a:=rx;refine El I1 ea c hm l ?_;refine xY (first:=[.ref a]) (h₀:=X.lL) I.ok.mod.kin hm.kp (ma (ha pos a9 s1 σ H1 _ I1 q) fun us s2 ⟨vs,H2,I2,r,q2⟩=>⟨I2.kIn,?_⟩) z6 g8;exact zi (us:=.ref a ::us) (vs:=.ref a ::vs) F hr hb hd hx I2 (.cons rfl r) q2
def Xw{pl:Sem Bool}(he:PE X o ta)(c:oF X.K C)(hm:Xa X.K C m f)(F:Xe X.prog X.w X.K X.mg X.lL CX k f fd ps sp)(hr:Y5 k X.A)(hb:pr X.K fd ps ds)(hd:Yc C5 ds)(hx:qR CX X E)
  (ht:eval (.Call (.Attribute o m g7) [] [] pos) X.env=(do
   let ov <-eval o X.env
   standAt g7.atName
   let (f,first) <-holding [ov] (getMethod ov m pl)
   callWith pos f first (backTo pos (starEach [] X.env)) (backToKw pos (keywordEach [] X.env))):=by rfl) :
  PE X (.Call (.Attribute o m g7) [] [] pos) (CM C m sp C5 E ta tQ):=by
 intro a9 s σ H Q I h;refine Eb (pl:=pl) (ma (he a9 s σ H _ I h) fun u s1 zz=>?_) ht;obtain ⟨x,H1,I1,rx,a,dx,fs,ex,ea,l,q⟩:=zz;subst ex;obtain rfl:u=Value.ref a:=rx;refine El I1 ea c hm l ?_;exact FY (first:=[.ref a]) I1.kIn hm.kp (zi (us:=[.ref a]) (vs:=[.ref a]) F hr hb hd hx I1 (.cons rfl .nil) q)
structure Mk(K:Frag)(C f:Addr):Prop where
 makes:PySem.W.makesIn K C=true
 init:findIn K (.ref C) "__init__" =some (some (.ref f))
 fn:PySem.W.isFn K (.ref f)=true
 kp:keepIn K (.ref C)=true
def Ph(M:Mk X.K C f)(F:Xe X.prog X.w X.K X.mg X.lL CX k f fd ps sp)(hr:Y5 (k+1) X.A)(hb:pr X.K fd ps ds)(hd:Yc C5 ds)
  (hx:qR CX X E) (I:lQ X a9 σ H s) (r:Yc vs us)
  (h:∀x dx,H x=none->H dx=none->dx≠x->sp (.ref x ::(vs++C5)) (upd (upd H dx (.own x)) x (.ins C dx [])) (fun v H2=>v=.non/\Q (.ref x) H2) E) :
  wpAny (model X.prog X.w) X.A (call (.ref C) us) (EP X a9 σ Q) X.xe s:=by
 have hq:=h (s.heap.objs.size+1) s.heap.objs.size (I.hok.fresh (rR _)) (I.hok.fresh (mn _)) (mC (yg _));have I2:=lQ.made (C:=C) I;have r2:Yc (V.ref (s.heap.objs.size+1) ::(vs++C5)) (Value.ref (s.heap.objs.size+1) ::(us++ds)):=.cons rfl (r.append hd);have hl:(Value.ref (s.heap.objs.size+1) ::us++ds).length=ps.length:=by
  have e:=r2.length;rw [F.len _ _ _ _ hq] at e;exact e.symm
 refine sU (SQ (f:=f) I.kIn M.makes M.init (qo.mp M.fn) (ud (F.run _ X.stack _ _ ⟨Value.ref (s.heap.objs.size+1) ::us,[]⟩ (Value.ref (s.heap.objs.size+1) ::(us++ds)) _ _ E (hr.make C us [])
  (I2.env0.make C us []) (hb _ (Value.ref (s.heap.objs.size+1) ::us) I2.kIn hl) r2 hq) fun r s' hq'=>?_))
 cases r with
 | error e=>exact hx a9 σ _ _ e s' I2 hq'
 | ok fl =>
  cases fl with
  | ret u =>
   obtain ⟨v,H',I3,rv,ev,q3⟩:=I2.after hq';subst ev;exact ⟨rv,⟨V.ref (s.heap.objs.size+1),H',I3,rfl,q3⟩⟩
  | next=>exact False.elim hq'
  | brk=>exact False.elim hq'
  | cont=>exact False.elim hq'
variable {g:kQ kT->kQ kT->kQ kT} {gV:kQ V->kQ V->kQ V}
end
structure Zw(N P:List Str)(sc:Scope):Prop where
 kind:sc.kind=.function:=by rfl
 co:sc.isCoroutine=false:=by rfl
 gen:sc.isGenerator=false:=by rfl
 nd:N.Nodup:=by trivial
 pre:N.take P.length=P:=by rfl
 par:∀x∈P,sc.names.lookup x=some .local\/sc.names.lookup x=some .cell:=by trivial
 nofree:∀y∈sc.names,y.2 ≠ .free:=by trivial
theorem Jk{kindOf:kR->kW NameKind}:∀{binds:kQ (kR×kT)} {m:kR->kW kT},(∀v,(x,v)∉binds)->bindL kindOf binds m x=m x
 | [],_,_=>rfl
 | (n,v) ::r,m,h=>by
  unfold bindL;rw [Jk fun w hw=>h w (nJ _ hw)];split
  ·have:x≠n:=by rintro rfl;exact h v mV
   simp [this]
  ·rfl
theorem FQ{kindOf:kR->kW NameKind}:∀{binds:kQ (kR×kT)} {m:kR->kW kT},(∀v,(x,v)∉binds)->bindC kindOf binds m x=m x
 | [],_,_=>rfl
 | (n,v) ::r,m,h=>by
  unfold bindC;rw [FQ fun w hw=>h w (nJ _ hw)];split
  ·rfl
  ·have:x≠n:=by rintro rfl;exact h v mV
   simp [this]
theorem Mg{kindOf:kR->kW NameKind}  :∀{P:kQ kR} {vs:kQ kT} {i:Nat} {m:kR->kW kT},P.Nodup->P[i]? =some x->vs[i]? =some v->kindOf x=some .local ->
  bindL kindOf (P.zip vs) m x=some v
 | [],_,_,_,_,h,_,_=>by simp at h
 | _ ::_,[],_,_,_,_,h,_=>by simp at h
 | p ::P,w ::vs,0,m,nd,h1,h2,hk=>by
  simp at h1 h2;subst h1;subst h2;show bindL kindOf ((p,w) ::P.zip vs) m p=_;unfold bindL;rw [Jk fun v hv=>(pj.mp nd).1 (xD hv).1,lZ hk];simp
 | p ::P,w ::vs,i+1,m,nd,h1,h2,hk=>by
  show bindL kindOf ((p,w) ::P.zip vs) m x=_;unfold bindL;exact Mg (i:=i) (pj.mp nd).2 (by simpa using h1) (by simpa using h2) hk
theorem KF{kindOf:kR->kW NameKind}  :∀{P:kQ kR} {vs:kQ kT} {i:Nat} {m:kR->kW kT},P.Nodup->P[i]? =some x->vs[i]? =some v->kindOf x≠some .local ->
  bindC kindOf (P.zip vs) m x=some v
 | [],_,_,_,_,h,_,_=>by simp at h
 | _ ::_,[],_,_,_,_,h,_=>by simp at h
 | p ::P,w ::vs,0,m,nd,h1,h2,hk=>by
  simp at h1 h2;subst h1;subst h2;show bindC kindOf ((p,w) ::P.zip vs) m p=_;unfold bindC;rw [FQ fun v hv=>(pj.mp nd).1 (xD hv).1,lY hk];simp
 | p ::P,w ::vs,i+1,m,nd,h1,h2,hk=>by
  show bindC kindOf ((p,w) ::P.zip vs) m x=_;unfold bindC;exact KF (i:=i) (pj.mp nd).2 (by simpa using h1) (by simpa using h2) hk
def start(N:kQ kR)(vs:kQ V):St:=vs.map some++List.replicate (N.length-vs.length) none
def nK(CX:ue)(P:lq)(w:lh)(K:kX)(mg:kR->kW kT)(lL:kZ)(N:kQ kR)(qual:kR)(scope:Scope)(f:kS)(cd:kT)(A:lu)(lJ:kQ Env)(s:kU)(H:Hp)(E:XK):Cx where
 prog:=P
 w:=w
 K:=K
 mg:=mg
 lL:=lL
 A:=A.deeper (envOfC qual scope s.heap.objs.size f cd)
 N:=N
 ly:=s
 lB:=H
 env:=envOfC qual scope s.heap.objs.size f cd
 lJ:=lJ
 stack:=envOfC qual scope s.heap.objs.size f cd ::lJ
 ex:=[]
 calm:=true
 fn:=fun _=>true
 pn:=[]
 xe:=fun e s'=>wpAny (model P w) (A.deeper (envOfC qual scope s.heap.objs.size f cd)) (leaving (envOfC qual scope s.heap.objs.size f cd) e) (fun _ V2=>CX lJ H s E e V2) (fun e' V2=>CX lJ H s E e' V2) s'
def Jb{sc:Scope}{n:Nat}{x:kR}(h:sc.names.lookup x=some .cell):∃c,(cellsFrom n sc.names []).lookup x=some c:=by
 have q:=Ew sc.names n [] (.inl h);exact Dt.mp q
def MI{CX:ue}{P:lq}{w:lh}{K:kX}{mg:kR->kW kT}{lL:kZ}{N ps:kQ kR}{qual:kR}{scope:Scope}{f:kS}{cd:kT}{A:lu}{lJ:kQ Env}{s s1:kU}{H:Hp}{E:XK}{us:kQ kT}{vs:kQ V}
  (S:Zw N ps scope) (hd:A.handled=none) (e0:sO P w K mg lL A lJ s H) (hl:vs.length=ps.length) (r:Yc vs us)
  (x:InCallC s s.heap.objs.size (bindL (envOfC qual scope s.heap.objs.size f cd).kindOf (ps.zip us) fun _=>none) (cellsFrom (s.heap.objs.size+1) scope.names []) (bindC (envOfC qual scope s.heap.objs.size f cd).kindOf (ps.zip us) fun _=>none) s1) :
  lQ (nK CX P w K mg lL N qual scope f cd A lJ s H E) [] (start N vs) H s1:=by
 have g8:ps.length<=N.length:=by have:=nV List.length S.pre;rw [nI] at this;lia
 obtain ⟨h1,tk,rfl,hk⟩:=x.done;have noA:∀b:kS,b∉(nK CX P w K mg lL N qual scope f cd A lJ s H E).ex:=fun b z=>absurd (show b∈([]:kQ kS) from z) (by simp)
 refine ⟨⟨e0.mod,S.kind,rfl,rfl,mn _,fun y z c h1 h2=>?_,fun y hy=>?_,fun y c _ h=>?_,fun _=>hd,DF e0.frames,.inr ⟨rfl,rfl⟩,fun b z=>absurd z (noA b),e0.bs,e0.bsz,fun b _ _=>noA b,fun b z=>absurd z (noA b),e0.funs,e0.frf⟩,
  rfl,e0.bare,Un.kept hk,⟨_,x.toInCall.ns,fun i y v h1 h2 h3=>?_⟩,fun y c h=>⟨_,x.cell y c h⟩,e0.hok.fresh (mn _),fun y c h=>?_,fun p hp=>absurd (show p∈([]:kQ (kS×Obj)) from hp) (by simp),e0.hok.kept hk,?_⟩
 ·exact name_of_addr x.apart (qm h1) (qm h2)
 ·have hy:scope.names.lookup y=some .cell\/scope.names.lookup y=some .free:=hy;rcases hy with hy|hy
  ·exact Jb hy
  ·exact absurd rfl (S.nofree _ (qm hy))
 ·exact tT (x.above y c (qm h))
 ·have hi:i<vs.length:=by
   unfold start at h2
   by_cases hi:i<vs.length
   ·exact hi
   ·rw [DY (by simpa using hi)] at h2;rw [EQ] at h2;split at h2 <;>cases h2
  have ha:vs[i]? =some v:=by
   unfold start at h2;rw [Ez (by simpa using hi),mG] at h2;cases e:vs[i]? with
   | none=>rw [e] at h2;cases h2
   | some a=>rw [e] at h2;cases h2;rfl
  obtain ⟨u,hu,rv⟩:=r.get ha;have hp:ps[i]? =some y:=by
   rw [<-S.pre,List.getElem?_take_of_lt (by lia)];exact h1
  have ndP:ps.Nodup:=by rw [<-S.pre];exact S.nd.sublist (List.take_sublist _ _)
  refine ⟨u,rv,?_⟩;rcases S.par y (oE hp) with k|k
  ·exact .inl ⟨k,Mg ndP hp hu k⟩
  ·obtain ⟨c,e⟩:=Jb (n:=s.heap.objs.size+1) k;refine .inr ⟨.inl k,c,e,?_⟩;have q:=x.cell y c e;rw [KF ndP hp hu (by show scope.names.lookup y≠_;rw [k];decide)] at q;exact q
 ·exact e0.hok.fresh (tT (x.above y c (qm h)))
 ·unfold start;show _=N.length;rw [mY,lV,Fx];lia
def AV{CX:ue}{P:lq}{w:lh}{K:kX}{mg:kR->kW kT}{lL:kZ}{k:Nat}{f:kS}{name qual:kR}{params:Arguments}{body:kQ kY}{scope:Scope}{dV kV w5 pm c6 ct oc:kT}{an od:kW kS}
  {E4:Array (kW kT)} {N ps:kQ kR} {sp:Sp} (lk:K.lookup f=some ⟨oc,od,.func (fnOf name qual params body scope dV kV w5 pm an c6 ct),E4⟩) (B3:codeIn K c6 qual=true) (S:Zw N ps scope)
  (len:∀vs H Q E,sp vs H Q E->vs.length=ps.length)
  (m6:∀(A:lu) (lJ:kQ Env) (s:kU) (H:Hp) (vs:kQ V) (Q:VK) (E:XK),Y5 k (A.deeper (envOfC qual scope s.heap.objs.size f c6))->sp vs H Q E ->
   ∃t,qd (nK CX P w K mg lL N qual scope f c6 A lJ s H E) body t/\t { nx:=fun _ H'=>Q .non H',rt:=Q } (start N vs) H) :
  Xe P w K mg lL CX (k+1) f (fnOf name qual params body scope dV kV w5 pm an c6 ct) ps sp:=by
 refine ⟨len,fun A lJ s H args us vs Q E hr e0 hb r M6=>?_⟩;have hl:=len _ _ _ _ M6;have KX:K.In s.heap:=e0.mod.kin.keeps fun b o e=>(e0.bs b o e).1
 have lim:s.heap.NoLimit:=e0.mod.nolimit.keeps fun b o e=>(e0.bs b o e).1
 have Q6:∀y∈ps.zip us,scope.names.lookup y.1=some .local\/(scope.names.lookup y.1=some .cell/\((cellsFrom (s.heap.objs.size+1) scope.names []).lookup y.1).isSome=true):=fun ⟨n,v⟩ hy=>by
  rcases S.par n (xD hy).1 with q|q
  ·exact .inl q
  ·exact .inr ⟨q,Ew _ _ _ (.inl q)⟩
 refine codeAny_call_function hr.depth (KX _ _ lk) rfl S.co S.gen rfl (Jz KX B3) (hb _ _ _ _ ?_);refine IL S.kind Q6 fun env he s1 x=>?_
 subst he;refine ⟨lim.keeps x.toInCall.keep,codeAny_func ?_⟩;obtain ⟨t,ht,hq⟩:=m6 A lJ s H vs Q E (hr.deeper _) M6;have I:lQ (nK CX P w K mg lL N qual scope f c6 A lJ s H E) [] (start N vs) H s1:=MI S hr.hd e0 hl r x;refine oQ (ht [] s1 (start N vs) H _ I hq) (fun fl s' hs=>?_) fun e s' hs=>hs
 have fin:∀{σ':St} {H':Hp} {v:V} {u:kT},lQ (nK CX P w K mg lL N qual scope f c6 A lJ s H E) [] σ' H' s'->Yd v u->Q v H'->CE lJ P w H s Q u s' :=
  fun {σ' H' v u} J rv q=>⟨v,H',J.os,J.bare,J.lL,J.hok,rv,q⟩
 cases fl with
 | ret u =>
  obtain ⟨v,σ',H',J,rv,q⟩:=hs;exact fin J rv q
 | next =>
  obtain ⟨σ',H',J,q⟩:=hs;exact fin (v:=V.non) (u:=Value.none) J rfl q
 | brk =>
  obtain ⟨_,_,_,q⟩:=hs;exact False.elim q
 | cont =>
  obtain ⟨_,_,_,q⟩:=hs;exact False.elim q
section
variable {x:kR} {p pos:Pos} {e:li} {es:kQ li} {t:TA} {id T:String} {r:kQ V->Hp->VK->Prop}
def xj(r:kQ V->Hp->VK->Prop)(t:TA):TE:=fun σ H Q=>t σ H fun vs H1=>r vs H1 Q
def Z2(hc:Xc X (.builtin id) r)(hg:Gl X x)(hm:X.mg x=none)(hv:bootBuiltins x=some (.builtin id))(ha:PA X (e ::es) t) (hn:x ≠ "__name__" :=by left) (L1:(x ==("__debug__" :kR))=false:=by left)
  (he:starEach (e ::es) X.env=(false,eval e X.env) ::starEach es X.env:=by rfl) (g8:(backTo pos (starEach es X.env)).any (·.1)=false:=by rfl):PE X (.Call (.Name x p) (e ::es) [] pos) (xj r t):=by
 intro a9 s σ H Q I h;refine sX (vo I hg hm hv ?_ hn L1);exact PyProof.Rows.callWith_builtin1 (ma (ha pos a9 s σ H _ I h) fun us s1 ⟨vs,H1,I1,r1,q1⟩=>hc a9 s1 σ H1 vs us Q I1 r1 q1) he g8
def Y6(hc:Xc X (.type T) r)(hg:Gl X x)(hm:X.mg x=none)(hv:bootBuiltins x=some (.type T))(ha:PA X (e ::es) t) (hn:x ≠ "__name__" :=by left) (L1:(x ==("__debug__" :kR))=false:=by left)
  (he:starEach (e ::es) X.env=(false,eval e X.env) ::starEach es X.env:=by rfl) (g8:(backTo pos (starEach es X.env)).any (·.1)=false:=by rfl):PE X (.Call (.Name x p) (e ::es) [] pos) (xj r t):=by
 intro a9 s σ H Q I h;refine sX (vo I hg hm hv ?_ hn L1);exact xR (ma (ha pos a9 s σ H _ I h) fun us s1 ⟨vs,H1,I1,r1,q1⟩=>hc a9 s1 σ H1 vs us Q I1 r1 q1) he g8
end
end L2
namespace HT
open PySem PyProof.Rows
section
open PySem.SeqAt
open PySem.AutoSeq1 (wpAny_loadPart')
open PySem.MeetsSeq PySem.MeetsSeq2 PySem.MeetsSeq3
end
section
variable {E:kT->kU->Prop}
def sIx(n d:Nat):kW Int->Nat
 | none=>d
 | some v=>if v<0 then (v+(n:Int)).toNat else min v.toNat n
def sIx_none(n d:Nat):sIx n d none=d:=rfl
def sIx_nat(n d k:Nat):sIx n d (some (k:Int))=min k n:=by
 show (if (k:Int)<0 then ((k:Int)+(n:Int)).toNat else min (k:Int).toNat n)=min k n;rw [lY (by lia),yZ]
def Px(n d:Nat)(hd:d<=n)(o:kW Int):sIx n d o<=n:=by
 cases o with
 | none=>exact hd
 | some v =>
  show (if v<0 then (v+(n:Int)).toNat else min v.toNat n)<=n
  by_cases hv:v<0
  ·rw [lZ hv];lia
  ·rw [lY hv];exact Nat.min_le_right _ _
def KY(v:Int)(n d:Nat):(if v<0 then max (v+(n:Int)) 0 else min v (n:Int))=((sIx n d (some v):Nat):Int):=by
 show (if v<0 then max (v+(n:Int)) 0 else min v (n:Int))=(((if v<0 then (v+(n:Int)).toNat else min v.toNat n):Nat):Int)
 by_cases hv:v<0
 ·simp only [lZ hv];lia
 ·simp only [lY hv];lia
def VN(lo hi:kW Int)(n:Nat):Builtin.Slice.sliceAdjust lo hi 1 (n:Int)=(((sIx n 0 lo:Nat):Int),((sIx n n hi:Nat):Int)):=by
 have h1:¬((1:Int)<0):=by lia
 unfold Builtin.Slice.sliceAdjust;simp only [h1,rX];refine Prod.ext ?_ ?_
 ·cases lo with
  | none=>rfl
  | some v=>exact KY v n 0
 ·cases hi with
  | none=>rfl
  | some v=>exact KY v n n
def QV(i j:Nat):Builtin.Slice.slicePlaces (i:Int) (j:Int) 1=j-i:=by
 unfold Builtin.Slice.slicePlaces;have h1:(1:Int) >0:=by lia
 simp only [h1,rW,Int.ediv_one];split <;>lia
def Ix{Q:kW Int->kU->Prop}(p:IsPart v o)(h:Q o s):wpAny (model prog w) A (Builtin.Slice.slicePartIndex v) Q E s:=by
 cases p with
 | none=>exact slicePart_none h
 | int i t=>exact slicePart_int h
def TQ{sl:kS}{vl vu:kT}{lo hi:kW Int}{n:Nat}{Q:Int×Int×Nat->kU->Prop}(hs:s.heap.IsSliceOf sl vl vu .none)(pl:IsPart vl lo)(pu:IsPart vu hi)
  (h:Q (((sIx n 0 lo:Nat):Int),1,sIx n n hi-sIx n 0 lo) s):wpAny (model prog w) A (Builtin.Slice.sliceApplied (.ref sl) (pure (n:Int))) Q E s:=by
 obtain ⟨os,hos,K5,hds⟩:=id hs;unfold Builtin.Slice.sliceApplied Builtin.Slice.sliceFields;refine lT (lT (vN hos hds (x:=vl) rfl (lT (vN hos hds (x:=vu) rfl (lT (vN hos hds (x:=.none) rfl (mi ?_)))))));refine lT (slicePart_none ?_);show wpAny _ _ (if ((1:Int) ==0)=true then _ else _) _ _ s;rw [lY (by left)];refine lT (Ix pl (lT (Ix pu (lT (mi ?_)))));show wpAny _ _ (match Builtin.Slice.sliceAdjust lo hi 1 (n:Int) with | (lo,hi)=>pure (lo,(1:Int),Builtin.Slice.slicePlaces lo hi 1)) _ _ s;rw [VN lo hi n];show wpAny _ _ (pure (((sIx n 0 lo:Nat):Int),(1:Int),Builtin.Slice.slicePlaces ((sIx n 0 lo:Nat):Int) ((sIx n n hi:Nat):Int) 1)) _ _ s;rw [QV];exact mi h
def Oy(xs:Array kT)(i k:Nat):((List.range k).filterMap fun (m:Nat)=>xs[((i:Int)+(m:Int) * 1).toNat]?).toArray=((xs.toList.drop i).take k).toArray:=by
 have e:(fun (m:Nat)=>xs[((i:Int)+(m:Int) * 1).toNat]?)=fun m=>xs[i+m]? :=by
  funext m
  have:((i:Int)+(m:Int) * 1).toNat=i+m:=by lia
  rw [this]
 rw [e];have:=pick_run xs i k;rw [List.filterMap_map] at this;have e2:((fun x=>xs[x]?) ∘ fun x=>i+x)=fun m=>xs[i+m]? :=rfl
 rw [e2] at this;rw [this]
def getItem_tuple_cut{t sl:kS}{c7:Array kT}{vl vu:kT}{lo hi:kW Int}{Q:kT->kU->Prop}(ht:IsTup s.heap t c7)(hs:s.heap.IsSliceOf sl vl vu .none)(pl:IsPart vl lo)(pu:IsPart vu hi)
  (hw:¬(sIx c7.size 0 lo=0/\sIx c7.size c7.size hi=c7.size))
  (h:Q (.ref s.heap.objs.size) { s with heap:=s.heap.push { cls:=.type "tuple",data:=.seq ((c7.toList.drop (sIx c7.size 0 lo)).take (sIx c7.size c7.size hi-sIx c7.size 0 lo)).toArray } })
  (hsz:c7.size<=sizeLine):wpAny (model prog w) A (getItem (.ref t) (.ref sl)) Q E s:=by
 have L8:sizeOk (.seq ((c7.toList.drop (sIx c7.size 0 lo)).take (sIx c7.size c7.size hi-sIx c7.size 0 lo)).toArray):=by
  show ((c7.toList.drop (sIx c7.size 0 lo)).take (sIx c7.size c7.size hi-sIx c7.size 0 lo)).toArray.size<=sizeLine;rw [ny,nI,xH,sM];lia
 have hj:sIx c7.size c7.size hi<=c7.size:=Px _ _ (mn _) hi;obtain ⟨os,hos,K5,hds⟩:=id hs;have hTs:s.TypeIs (.ref sl) "slice" :=⟨os,hos,K5⟩
 unfold getItem
 try with_reducible refine pL ?_
 first | refine lT (mi ?_) | skip
 refine lT (wpAny_sequenceKey ht.typeIs (by left) ?_);refine lT (wpAny_callSpecial?_slot (name:=Str.ofString "__getitem__") ht.typeIs zh
  (Aw zh ht.typeIs entry_tuple_getitem ?_ (args_tuple_getitem _ _)))
 show wpAny _ _ (Builtin.Tuple.tupleItemsOf (.ref t) >>=_) _ _ s;refine lT (tupleItemsOf_ ht ?_);refine lT (uq hTs ?_);rw [lZ (by left)];refine lT (TQ hs pl pu ?_);have A7:¬((((sIx c7.size 0 lo:Nat):Int) ==0 && (1:Int) ==1 && (sIx c7.size c7.size hi-sIx c7.size 0 lo) ==c7.size)=true):=by
  intro q;rw [pD,pD] at q;have q1:((sIx c7.size 0 lo:Nat):Int)=0:=eq_of_beq q.1.1;have q2:sIx c7.size c7.size hi-sIx c7.size 0 lo=c7.size:=eq_of_beq q.2;exact hw ⟨by lia,by lia⟩
 show wpAny _ _ (if (((sIx c7.size 0 lo:Nat):Int) ==0 && (1:Int) ==1 && (sIx c7.size c7.size hi-sIx c7.size 0 lo) ==c7.size)=true then _ else _) _ _ s;rw [lY A7,Oy]
 first
  | exact lT (m:=Builtin.Tuple.tupleExact _) (tI (mi ⟨_,rfl,mi h⟩) L8)
  | exact lT (m:=Builtin.Tuple.tupleExact _) (tI (lT (mi (mi ⟨_,rfl,mi h⟩))) L8)
  | exact lT (lT (m:=Builtin.Tuple.tupleExact _) (tI (mi (mi ⟨_,rfl,mi h⟩)) L8))
  | exact lT (lT (m:=Builtin.Tuple.tupleExact _) (tI (mi ⟨_,rfl,mi h⟩) L8))
end
end HT
namespace L2
open PySem PySem.Spec PyProof.Rows
abbrev TO:=St->Hp->(kW Int->Hp->Prop)->Prop
def PO(X:Cx)(e:kW li)(t:TO):Prop :=
 ∀(a9:kQ (kS×Obj)) (s:kU) (σ:St) (H:Hp) (Q:kW Int->Hp->Prop),lQ X a9 σ H s->t σ H Q ->
  wpAny (model X.prog X.w) X.A (evalPart e X.env) (fun u s'=>∃o H',lQ X a9 σ H' s'/\IsPart u o/\Q o H') X.xe s
def NK:TO:=fun _ H Q=>Q none H
def Pp(t:TE):TO:=fun σ H Q=>t σ H fun x H1=>∃i,x=.int i/\Q (some i) H1
section
variable {X:Cx} {e:li} {te:TE} {lo hi:kW li} {tl th:TO} {pos p2:Pos}
def Wr:PO X none NK:=by
 intro a9 s σ H Q I h;rw [evalPart_none];exact mi ⟨none,H,I,.none,h⟩
def Wh(h:PE X e te):PO X (some e) (Pp te):=by
 intro a9 s σ H Q I hw;rw [evalPart_some];refine ma (h a9 s σ H _ I hw) fun u s1 ⟨x,H1,I1,r1,q1⟩=>?_
 obtain ⟨i,rfl,q⟩:=q1;obtain ⟨t,rfl⟩:=r1;exact ⟨some i,H1,I1,.int i t,q⟩
def qM(X:Cx)(r:V->kW Int->kW Int->Hp->VK->Prop):Prop :=
 ∀(a9:kQ (kS×Obj)) (s:kU) (σ:St) (H:Hp) (x:V) (v vl vu:kT) (lo hi:kW Int) (sl:kS) (Q:VK),lQ X a9 σ H s->Yd x v->s.heap.IsSliceOf sl vl vu .none->IsPart vl lo->IsPart vu hi->r x lo hi H Q ->
  ∃T id,typeLookup (.type T) "__getitem__" =pure (some (.builtin id))/\s.TypeIs v T/\wpAny (model X.prog X.w) X.A (getItem v (.ref sl)) (EP X a9 σ Q) X.xe s
def qM.or{r r':V->kW Int->kW Int->Hp->VK->Prop}(h:qM X r)(h':qM X r'):qM X (fun x lo hi H Q=>r x lo hi H Q\/r' x lo hi H Q):=by
 intro a9 s σ H x v vl vu lo hi sl Q I rx hs pl pu q;rcases q with q|q
 ·exact h a9 s σ H x v vl vu lo hi sl Q I rx hs pl pu q
 ·exact h' a9 s σ H x v vl vu lo hi sl Q I rx hs pl pu q
def PL(r:V->kW Int->kW Int->Hp->VK->Prop)(te:TE)(tl th:TO):TE:=fun σ H Q=>te σ H fun x H1=>tl σ H1 fun l H2=>th σ H2 fun u H3=>r x l u H3 Q
def X7{r:V->kW Int->kW Int->Hp->VK->Prop}(hr:qM X r)(he:PE X e te)(hl:PO X lo tl)(hu:PO X hi th):PE X (.Subscript e (.Slice lo hi none p2) pos) (PL r te tl th):=by
 intro a9 s σ H Q I h;refine Subscript_ (ma (he a9 s σ H _ I h) fun v s1 ⟨x,H1,I1,r1,q1⟩=>?_);refine wpAny_Slice (ma (hl a9 s1 σ H1 _ I1 q1) fun vl s2 ⟨l,H2,I2,pl,q2⟩=>ma (hu a9 s2 σ H2 _ I2 q2) fun vu s3 ⟨u,H3,I3,pu,q3⟩=>?_);rw [evalPart_none];refine mi ?_;have I4:lQ X a9 σ H3 { s3 with heap:=s3.heap.push { cls:=.type "slice",data:=.fields #[vl,vu,.none] } }:=I3.kept (t':=s3.toks) fun b ob q=>my _ q
 obtain ⟨T,id,hT,ht,hg⟩:=hr a9 { s3 with heap:=s3.heap.push { cls:=.type "slice",data:=.fields #[vl,vu,.none] } } σ H3 x v vl vu l u s3.heap.objs.size Q I4 r1 (Heap.IsSliceOf.new ..) pl pu q3;show wpAny (model X.prog X.w) X.A (subscriptTail e (.Slice lo hi none p2) v (.ref s3.heap.objs.size)) (EP X a9 σ Q) X.xe { s3 with heap:=s3.heap.push { cls:=.type "slice",data:=.fields #[vl,vu,.none] } };exact tail_any (ops:=[.ref s3.heap.objs.size,v]) ht hT hg (by with_unfolding_all rfl)
def qf(xs:kQ V)(lo hi:kW Int):kQ V:=(xs.drop (HT.sIx xs.length 0 lo)).take (HT.sIx xs.length xs.length hi-HT.sIx xs.length 0 lo)
def Hr(xs:kQ V)(lo hi:kW Int):(qf xs lo hi).length<=xs.length:=by
 unfold qf;rw [nI,xH];lia
def Pl(K:kX):V->kW Int->kW Int->Hp->VK->Prop:=fun x lo hi H Q=>∃a xs,x=.ref a/\SqT K H a xs /\
 ¬(HT.sIx xs.length 0 lo=0/\HT.sIx xs.length xs.length hi=xs.length)/\∀p,H p=none->Q (.ref p) (upd H p (.tup (qf xs lo hi)))
def Pd:qM X (Pl X.K):=by
 intro a9 s σ H x v vl vu lo hi sl Q I rx hs pl pu h;obtain ⟨a,xs,rfl,hx,hw,q⟩:=h;cases rx;obtain ⟨b9,r,ht,hz⟩:=I.tuple hx;have d7:b9.toArray.size=xs.length:=by rw [ny];exact r.length.symm
 refine ⟨"tuple",_,zh.lookup,ht.typeIs,?_⟩;refine HT.getItem_tuple_cut ht hs pl pu (by rw [d7];exact hw) ?_ (by rw [d7];exact hz);rw [d7];refine ⟨.ref s.heap.objs.size,_,I.laid (t':=s.toks) (o:=.tup (qf xs lo hi)) (fun b ob q=>my _ q) (mn _) ?_,rfl,q _ (I.hok.fresh (mn _))⟩;exact ⟨nj (Hr xs lo hi) hz,_,(r.drop (HT.sIx xs.length 0 lo)).take (HT.sIx xs.length xs.length hi-HT.sIx xs.length 0 lo),IsTup.new _ _⟩
end
def xo(n:Nat)(i:Int):kW Nat:=if 0<=i then (if i<n then some i.toNat else none) else if -(n:Int)<=i then some (i+n).toNat else none
def nU{α:Type}(xs:kQ α)(i:Int):kW α:=(xo xs.length i).bind fun j=>xs[j]?
def QE(h:xo n i=some j):seqIndex? i n=some j/\j<n/\-(n:Int)<=i/\i<n:=by
 unfold xo at h
 by_cases h0:0<=i
 ·rw [lZ h0] at h
  by_cases h1:i<n
  ·rw [lZ h1] at h;have e:i.toNat=j:=mW h;exact ⟨by rw [seqIndex_of h0 h1,e],by lia,by lia,h1⟩
  ·rw [lY h1] at h;cases h
 ·rw [lY h0] at h
  by_cases h1:-(n:Int)<=i
  ·rw [lZ h1] at h;have e:(i+n).toNat=j:=mW h;exact ⟨by rw [seqIndex_neg (by lia) h1,e],by lia,h1,by lia⟩
  ·rw [lY h1] at h;cases h
def Bu{α:Type}{xs:kQ α}{v:α}(h:nU xs i=some v):∃j,seqIndex? i xs.length=some j/\xs[j]? =some v/\j<xs.length/\-(xs.length:Int)<=i/\i<xs.length:=by
 unfold nU at h;cases e:xo xs.length i with
 | none=>rw [e] at h;cases h
 | some j =>
  rw [e] at h;obtain ⟨h1,h2,h3,h4⟩:=QE e;exact ⟨j,h1,h,h2,h3,h4⟩
def Xn{α:Type}{xs:kQ α}{j:Nat}{v:α}(h:xs[j]? =some v):nU xs (j:Int)=some v:=by
 have hj:j<xs.length:=(oj.mp h).1;have e:xo xs.length (j:Int)=some j:=by
  unfold xo;rw [lZ (by lia),lZ (by lia)];simp
 unfold nU;rw [e];exact h
def BJ(b:li):Prop:=∀o i,subscripted b false o i=operate [o,i] (getItem o i)
def tL(X:Cx)(r:R2):Prop :=
 ∀(value slice:li) (a9:kQ (kS×Obj)) (s:kU) (σ:St) (H:Hp) (x y:V) (v u:kT) (Q:VK),lQ X a9 σ H s->Yd x v->Yd y u->r x y H Q ->
  subscripted slice false v u=operate [v,u] (getItem v u)->wpAny (model X.prog X.w) X.A (subscriptTail value slice v u) (EP X a9 σ Q) X.xe s
def Bp(X:Cx)(id:String)(r:V->kQ V->Hp->VK->Prop):Prop :=
 ∀(a9:kQ (kS×Obj)) (s:kU) (σ:St) (H:Hp) (x:V) (xs:kQ V) (v:kT) (us:kQ kT) (Q:VK),lQ X a9 σ H s->Yd x v->Yc xs us->r x xs H Q ->
  wpAny (model X.prog X.w) X.A (call (.builtin id) (v ::us)) (EP X a9 σ Q) X.xe s
section
variable {X:Cx} {a b:li} {ta tb:TE} {pos:Pos}
def tL.or(h:tL X r)(h':tL X r'):tL X (fun x y H Q=>r x y H Q\/r' x y H Q):=by
 intro value slice a9 s σ H x y v u Q I rx ry q hs;rcases q with q|q
 ·exact h value slice a9 s σ H x y v u Q I rx ry q hs
 ·exact h' value slice a9 s σ H x y v u Q I rx ry q hs
def GG(hr:tL X r)(ha:PE X a ta)(hb:PE X b tb)(hs:BJ b):PE X (.Subscript a b pos) (pT r ta tb):=by
 intro a9 s σ H Q I h;exact Subscript_ (Eo ha hb I h fun v u s2 x y H2 I2 rx ry q=>hr a b a9 s2 σ H2 x y v u Q I2 rx ry q (hs _ _))
def Kc(K:kX):R2:=fun x y H Q=>∃p xs i v,x=.ref p/\y=.int i/\SqL K H p xs/\nU xs i=some v/\Q v H
def JL(K:kX):R2:=fun x y H Q=>∃p xs i v,x=.ref p/\y=.int i/\SqT K H p xs/\nU xs i=some v/\Q v H
def FO:R2:=fun x y H Q=>∃z i c,x=.str z/\y=.int i/\z.length<=sizeLine/\nU z.cps.toList i=some c/\Q (.str ⟨#[c]⟩) H
def Pu:tL X (Kc X.K):=by
 intro value slice a9 s σ H x y v u Q I rx ry h hs;obtain ⟨p,xs,i,z,rfl,rfl,hq,he,q⟩:=h;cases rx;obtain ⟨t,rfl⟩:=ry;obtain ⟨b9,r,pl,hz⟩:=I.list hq;obtain ⟨j,h1,h2,h3,h4,h5⟩:=Bu he;obtain ⟨w,ew,z7⟩:=r.get h2;have hl:=r.length;have hn:=wq;have fin:EP X a9 σ Q w s:=⟨z,H,I,z7,q⟩
 by_cases h0:0<=i
 ·have hj:i.toNat=j:=by
   rw [seqIndex_of h0 h5] at h1;exact mW h1
  exact item_listR pl.isList h0 (by lia) (by rw [hj];simpa using ew) fin hs
 ·have hj:(i+(b9.toArray.size:Int)).toNat=j:=by
   rw [seqIndex_neg (by lia) h4] at h1;rw [ny,<-hl];exact mW h1
  exact subscriptTail_builtinR (x:=w) pl.isList.typeIs BB.lookup
   (wpAny_getItem_list_neg (Q:=fun r s'=>r=w/\EP X a9 σ Q r s') pl.isList (by lia) (by rw [ny] <;>lia) (by lia) (by rw [hj];simpa using ew) ⟨rfl,fin⟩) hs
def NZ:tL X (JL X.K):=by
 intro value slice a9 s σ H x y v u Q I rx ry h hs;obtain ⟨p,xs,i,z,rfl,rfl,hq,he,q⟩:=h;cases rx;obtain ⟨t,rfl⟩:=ry;obtain ⟨b9,r,pl,hz⟩:=I.tuple hq;obtain ⟨j,h1,h2,h3,h4,h5⟩:=Bu he;obtain ⟨w,ew,z7⟩:=r.get h2;have hl:=r.length;have hn:=wq;have fin:EP X a9 σ Q w s:=⟨z,H,I,z7,q⟩
 exact subscriptTail_builtinR (x:=w) pl.typeIs zh.lookup
  (getItem_tuple (j:=j) (Q:=fun r s'=>r=w/\EP X a9 σ Q r s') pl (by lia) (by lia) (by rw [ny,<-hl];exact h1) (by simpa using ew) ⟨rfl,fin⟩) hs
def RN:tL X FO:=by
 intro value slice a9 s σ H x y v u Q I rx ry h hs;obtain ⟨z,i,c,rfl,rfl,hz,he,q⟩:=h;obtain ⟨t,rfl⟩:=rx;obtain ⟨t',rfl⟩:=ry;obtain ⟨j,h1,h2,h3,h4,h5⟩:=Bu he;have hl:z.cps.toList.length=z.length:=by simp [Str.length]
 rw [hl] at h1 h4 h5;have hn:=wq;exact tail_any (typeIs_str s z t) slot_str_getitem.lookup (getItem_str (c:=c) (by
  have e1:decide (i < -(2 ^ 63:Int))=false:=mO (by lia);have e2:decide (i ≥ 2 ^ 63)=false:=mO (by lia);rw [e1,e2,Bool.or_false]) (by rw [h1];simpa using h2) ⟨.str ⟨#[c]⟩,H,I.tok _,⟨_,rfl⟩,q⟩) hs
def uA(K:kX):R2:=fun x y H Q=>Kc K x y H Q\/JL K x y H Q\/FO x y H Q
def LP:tL X (uA X.K):=Pu.or (NZ.or RN)
def Sl(lo hi:kW Int)(n:Nat):(sliceBounds lo hi none n).1=((HT.sIx n 0 lo:Nat):Int)/\(sliceBounds lo hi none n).2.1=((HT.sIx n n hi:Nat):Int)/\(sliceBounds lo hi none n).2.2=1:=by
 refine ⟨?_,?_,rfl⟩
 ·cases lo with
  | none=>simp [sliceBounds,HT.sIx]
  | some i =>
   simp only [sliceBounds,HT.sIx,Option.getD_none,show (1:Int) >0 by left,rW]
   by_cases h:i<0
   ·simp only [h,rW] <;>lia
   ·simp only [h,rX] <;>lia
 ·cases hi with
  | none=>simp [sliceBounds,HT.sIx]
  | some i =>
   simp only [sliceBounds,HT.sIx,Option.getD_none,show (1:Int) >0 by left,rW]
   by_cases h:i<0
   ·simp only [h,rW] <;>lia
   ·simp only [h,rX] <;>lia
def NO(b9:kQ kT)(lo hi:kW Int):slicePick b9.toArray lo hi none=((b9.drop (HT.sIx b9.length 0 lo)).take (HT.sIx b9.length b9.length hi-HT.sIx b9.length 0 lo)).toArray:=by
 obtain ⟨h1,h2,h3⟩:=Sl lo hi b9.toArray.size;unfold slicePick;rw [h1,h2,h3];simp only [sliceRange_one,pick_run,ny] <;>rfl
def PQ(K:kX):V->kW Int->kW Int->Hp->VK->Prop:=fun x lo hi H Q=>∃a xs,x=.ref a/\SqL K H a xs/\∀p,H p=none->Q (.ref p) (upd H p (.lst (qf xs lo hi)))
def Pk:qM X (PQ X.K):=by
 intro a9 s σ H x v vl vu lo hi sl Q I rx hs pl pu h;obtain ⟨a,xs,rfl,hx,q⟩:=h;cases rx;obtain ⟨b9,r,ht,hz⟩:=I.list hx;have d7:=r.length;refine ⟨"list",_,BB.lookup,ht.isList.typeIs,?_⟩;refine ME ht.isList hs pl pu .none (by simp) ?_ (by rw [ny] <;>lia);rw [NO,<-d7];refine ⟨.ref s.heap.objs.size,_,I.laid (t':=s.toks) (o:=.lst (qf xs lo hi)) (fun b ob q=>my _ q) (mn _) ?_,rfl,q _ (I.hok.fresh (mn _))⟩;exact ⟨nj (Hr xs lo hi) hz,_,0,(r.drop (HT.sIx xs.length 0 lo)).take (HT.sIx xs.length xs.length hi-HT.sIx xs.length 0 lo),nG _ rfl⟩
def qQ:V->Bool
 | .non=>true
 | .bl _=>true
 | .int _=>true
 | .str _=>true
 | _=>false
def qc:V->V->Bool
 | .non,.non=>true
 | .bl a,.bl b=>a ==b
 | .bl a,.int b=>(if a then 1 else 0) ==b
 | .int a,.bl b=>a ==(if b then 1 else 0)
 | .int a,.int b=>a ==b
 | .str a,.str b=>a ==b
 | _,_=>false
def za(ry:Yd y u)(rx:Yd x v)(fy:qQ y=true)(fx:qQ x=true):SeqAt.EqAt A s u v (qc y x):=by
 cases y with
 | non =>
  cases ry;cases x with
  | non=>cases rx;exact yH _
  | bl b=>cases rx;exact SeqAt.EqAt.none_bool b
  | int b=>obtain ⟨t,rfl⟩:=rx;exact EE b t
  | str b=>obtain ⟨t,rfl⟩:=rx;exact DL b t
  | _=>exact absurd (show false=true from fx) mX
 | bl a =>
  cases ry;cases x with
  | non=>cases rx;exact SeqAt.EqAt.bool_none a
  | bl b=>cases rx;exact Eg a b
  | int b=>obtain ⟨t,rfl⟩:=rx;exact SeqAt.EqAt.bool_int a b t
  | str b=>obtain ⟨t,rfl⟩:=rx;exact SeqAt.EqAt.bool_str a b t
  | _=>exact absurd (show false=true from fx) mX
 | int a =>
  obtain ⟨t',rfl⟩:=ry;cases x with
  | non=>cases rx;exact SeqAt.EqAt.int_none a t'
  | bl b=>cases rx;exact SeqAt.EqAt.int_bool a t' b
  | int b=>obtain ⟨t,rfl⟩:=rx;exact SeqAt.EqAt.int_int a t' b t
  | str b=>obtain ⟨t,rfl⟩:=rx;exact SeqAt.EqAt.int_str a t' b t
  | _=>exact absurd (show false=true from fx) mX
 | str a =>
  obtain ⟨t',rfl⟩:=ry;cases x with
  | non=>cases rx;exact SeqAt.EqAt.str_none a t'
  | bl b=>cases rx;exact SeqAt.EqAt.str_bool a t' b
  | int b=>obtain ⟨t,rfl⟩:=rx;exact SeqAt.EqAt.str_int a t' b t
  | str b=>obtain ⟨t,rfl⟩:=rx;exact SeqAt.EqAt.str_str a t' b t
  | _=>exact absurd (show false=true from fx) mX
 | _=>exact absurd (show false=true from fy) mX
def qv(x:V)(u:kT):Bool:=match u with
 | .none=>qc .non x
 | .bool b=>qc (.bl b) x
 | .int i _=>qc (.int i) x
 | .str z _=>qc (.str z) x
 | _=>false
def Lb(r:Yd y u)(f:qQ y=true):qv x u=qc y x:=by
 cases y with
 | non=>cases r;rfl
 | bl b=>cases r;rfl
 | int i=>obtain ⟨t,rfl⟩:=r;rfl
 | str z=>obtain ⟨t,rfl⟩:=r;rfl
 | _=>exact absurd (show false=true from f) mX
theorem yK:∀{xs:kQ V} {us:kQ kT},Yc xs us->xs.all qQ=true->us.any (qv x)=xs.any fun y=>qc y x
 | _,_,.nil,_=>rfl
 | y ::xs,u ::us,.cons r t,f=>by
  rw [Ek,pD] at f;rw [vf,vf,Lb r f.1,yK t f.2]
theorem xW(rx:Yd x v)(fx:qQ x=true):∀{xs:kQ V} {us:kQ kT},Yc xs us->xs.all qQ=true->∀u∈us,SeqAt.EqAt A s u v (qv x u)
 | _,_,.nil,_=>fun u hu=>by cases hu
 | y ::xs,u ::us,.cons r t,f=>fun u' hu=>by
  rw [Ek,pD] at f;rcases mI.mp hu with rfl|hu
  ·rw [Lb r f.1];exact za r rx f.1 fx
  ·exact xW rx fx t f.2 u' hu
def oo(x:V)(xs:kQ V):Bool:=xs.any fun y=>qc y x
def yC(K:kX)(neg:Bool):R2:=fun x y H Q=>∃p xs,y=.ref p/\(SqL K H p xs\/SqT K H p xs)/\qQ x=true/\xs.all qQ=true/\Q (.bl (if neg then !oo x xs else oo x xs)) H
def Iz:mM X (compareOp .In) (yC X.K false):=by
 intro a9 s σ H x y v u Q I rx ry h;obtain ⟨p,xs,rfl,hq,fx,fs,q⟩:=h;cases ry;rcases hq with hq|hq
 ·obtain ⟨b9,r,pl,hz⟩:=I.list hq;refine SeqAt.in_listAt (qv x) pl.isList (fun w hw=>xW rx fx r fs w (by simpa using hw)) ⟨.bl _,H,I,rfl,?_⟩;rw [show b9.toArray.any (qv x)=b9.any (qv x) by simp,yK r fs];exact q
 ·obtain ⟨b9,r,pl,hz⟩:=I.tuple hq;refine SeqAt.in_tupleAt (qv x) pl (fun w hw=>xW rx fx r fs w (by simpa using hw)) ⟨.bl _,H,I,rfl,?_⟩;rw [show b9.toArray.any (qv x)=b9.any (qv x) by simp,yK r fs];exact q
def RI:mM X (compareOp .NotIn) (yC X.K true):=by
 intro a9 s σ H x y v u Q I rx ry h;obtain ⟨p,xs,rfl,hq,fx,fs,q⟩:=h;cases ry;rcases hq with hq|hq
 ·obtain ⟨b9,r,pl,hz⟩:=I.list hq;refine SeqAt.notIn_listAt (qv x) pl.isList (fun w hw=>xW rx fx r fs w (by simpa using hw)) ⟨.bl _,H,I,rfl,?_⟩;rw [show b9.toArray.any (qv x)=b9.any (qv x) by simp,yK r fs];exact q
 ·obtain ⟨b9,r,pl,hz⟩:=I.tuple hq;refine SeqAt.notIn_tupleAt (qv x) pl (fun w hw=>xW rx fx r fs w (by simpa using hw)) ⟨.bl _,H,I,rfl,?_⟩;rw [show b9.toArray.any (qv x)=b9.any (qv x) by simp,yK r fs];exact q
def WM:Xc X (.builtin "len") (fun xs H Q=>∃p ys,xs=[.ref p]/\(SqL X.K H p ys\/SqT X.K H p ys)/\Q (.int ys.length) H):=by
 intro a9 s σ H xs us Q I r h;obtain ⟨p,ys,rfl,hq,q⟩:=h;obtain ⟨u,rfl,rx⟩:=W0 r;cases rx;have hn:=wq;rcases hq with hq|hq
 ·obtain ⟨b9,r',pl,hz⟩:=I.list hq;have d7:=r'.length;exact Calls.call_len_list pl.isList (by simp only [ny] <;>lia) ⟨.int ys.length,H,I.tok _,⟨s.toks+1,by rw [ny,d7]⟩,q⟩
 ·obtain ⟨b9,r',pl,hz⟩:=I.tuple hq;have d7:=r'.length;exact len_tuple pl (by simp only [ny] <;>lia) ⟨.int ys.length,H,I.tok _,⟨s.toks+1,by rw [ny,d7]⟩,q⟩
def Qs:Xc X (.builtin "len") (fun xs H Q=>∃z,xs=[.str z]/\z.length<=sizeLine/\Q (.int z.length) H):=by
 intro a9 s σ H xs us Q I r h;obtain ⟨z,rfl,hz,q⟩:=h;obtain ⟨u,rfl,t,rfl⟩:=W0 r;have hn:=wq;exact len_str (by lia) ⟨.int z.length,H,I.tok _,⟨_,rfl⟩,q⟩
def Xc.or{r r':kQ V->Hp->VK->Prop}(h:Xc X f r)(h':Xc X f r'):Xc X f (fun xs H Q=>r xs H Q\/r' xs H Q):=by
 intro a9 s σ H xs us Q I rs q;rcases q with q|q
 ·exact h a9 s σ H xs us Q I rs q
 ·exact h' a9 s σ H xs us Q I rs q
def RF:Xc X (.type "list") (fun xs H Q=>∃p ys,xs=[.ref p]/\(SqL X.K H p ys\/SqT X.K H p ys)/\∀l,H l=none->Q (.ref l) (upd H l (.lst ys))):=by
 intro a9 s σ H xs us Q I r h;obtain ⟨p,ys,rfl,hq,q⟩:=h;obtain ⟨u,rfl,rx⟩:=W0 r;cases rx;have fin:∀(b9:kQ kT),Yc ys b9->ys.length<=sizeLine->∀(h':kZ) (c':Nat),(∀b o',s.heap.get? b=some o'->h'.get? b=some o') ->
   h'.get? s.heap.objs.size=some { cls:=.type "list",dict:=none,data:=.seq b9.toArray c',slots:=#[] }->EP X a9 σ Q (.ref s.heap.objs.size) { s with heap:=h' }:=fun b9 r' hz h' c' kp e =>
  ⟨.ref s.heap.objs.size,_,I.laid (t':=s.toks) kp (mn _) (show Z5 X.prog X.w _ h' _ (.lst ys) from ⟨hz,b9,c',r',e⟩),rfl,q _ (I.hok.fresh (mn _))⟩
 rcases hq with hq|hq
 ·obtain ⟨b9,r',pl,hz⟩:=I.list hq;have d7:=r'.length;obtain ⟨o,ho,hc,n,hd⟩:=pl.isList;exact call_list_seq p (.inl rfl) ho hc hd (fun h' c' kp e=>fin b9 r' hz h' c' kp e) (by simp only [ny] <;>lia)
 ·obtain ⟨b9,r',pl,hz⟩:=I.tuple hq;have d7:=r'.length;obtain ⟨o,ho,hc,n,hd⟩:=pl;exact call_list_seq p (.inr rfl) ho hc hd (fun h' c' kp e=>fin b9 r' hz h' c' kp e) (by simp only [ny] <;>lia)
def MX(K:kX)(T:String)(x:V)(H:Hp):Prop:=match x with
 | .str _=>T = "str"
 | .int _=>T = "int"
 | .ref p=>(T = "list" /\∃xs,SqL K H p xs)\/(T = "tuple" /\∃o,K.lookup p=some o/\o.cls=.type "tuple" /\o.dict=none) \/
   (T = "dict" /\((∃kvs,H p=some (.dK kvs))\/∃kvs,H p=some (.dT kvs)))\/(T = "set" /\∃S n,H p=some (.set S n))
 | _=>False
def RG(I:lQ X a9 σ H s)(r:Yd x v)(ty:MX X.K T x H) :
  s.TypeIs v T/\∀a,v=.ref a->∃ob,s.heap.get? a=some ob/\ob.dict=none:=by
 cases x with
 | str z =>
  obtain ⟨t,rfl⟩:=r;cases (show T = "str" from ty);exact ⟨typeIs_str s z t,fun _ e=>nomatch e⟩
 | int i =>
  obtain ⟨t,rfl⟩:=r;cases (show T = "int" from ty);exact ⟨typeIs_int s i t,fun _ e=>nomatch e⟩
 | ref p =>
  cases r;rcases ty with ⟨rfl,xs,hq⟩|⟨rfl,o,hk,hc,hd⟩|⟨rfl,hk⟩|⟨rfl,S,n,hk⟩
  ·obtain ⟨b9,_,pl,_⟩:=I.list hq;refine ⟨pl.isList.typeIs,fun a e=>?_⟩;cases e;obtain ⟨o,n,e,c,hd,_⟩:=pl;exact ⟨o,e,hd⟩
  ·refine ⟨⟨o,I.kIn p o hk,hc⟩,fun a e=>?_⟩;cases e;exact ⟨o,I.kIn _ o hk,hd⟩
  ·have z:∃o,s.heap.get? p=some o/\o.ExactDict:=by
    rcases hk with ⟨kvs,hk⟩|⟨kvs,hk⟩
    ·obtain ⟨_,_,_,_,o,_,_,e,ex,_⟩:=I.hok p _ hk;exact ⟨o,e,ex⟩
    ·obtain ⟨_,_,_,_,o,_,_,e,ex,_⟩:=I.hok p _ hk;exact ⟨o,e,ex⟩
   obtain ⟨o,e,ex⟩:=z;refine ⟨⟨o,e,ex.1⟩,fun a e2=>?_⟩;cases e2;exact ⟨o,e,ex.2.1⟩
  ·obtain ⟨o,_,_,_,e,ex,_⟩:=I.hok p _ hk;refine ⟨⟨o,e,ex.1⟩,fun a e2=>?_⟩;cases e2;exact ⟨o,e,ex.2.1⟩
 | _=>exact False.elim ty
def Gx(K:kX)(T:String)(r:V->kQ V->Hp->VK->Prop)(to:TE)(t:TA):TE:=fun σ H Q=>to σ H fun x H1=>MX K T x H1/\t σ H1 fun xs H2=>r x xs H2 Q
variable {o e:li} {es:kQ li} {to:TE} {t:TA} {name:kR} {g7 d6:Pos} {T id:String} {r:V->kQ V->Hp->VK->Prop}
def vX(pa:PlainAttrs T)(slot:Slot T name id) (hty:typeOf (.builtin id)=pure (.type "method_descriptor")) (hm:Bp X id r) (ho:PE X o to) (ha:PA X (e ::es) t)
  (y9:attributeBase o name X.env (eval o X.env)=eval o X.env:=by rfl)
  (N5:((backTo d6 (starEach (e ::es) X.env)).all (fun x=>!x.1) && (backToKw d6 (keywordEach [] X.env)).all (fun x=>x.1.isSome)
   && decide ((e ::es).length+([]:kQ Keyword).length+(if ([]:kQ Keyword).isEmpty then 0 else 1)<30))=true:=by rfl)
  (B9:(g7.endLine ==d6.line)=true:=by rfl) (hs:starEach (e ::es) X.env=(false,eval e X.env) ::starEach es X.env:=by rfl) (hplain:(backTo d6 (starEach es X.env)).any (·.1)=false:=by rfl) :
  PE X (.Call (.Attribute o name g7) (e ::es) [] d6) (Gx X.K T r to t):=by
 intro a9 s σ H Q I h;refine wpAny_Call_method_late y9 N5 B9 rfl (ma (ho a9 s σ H _ I h) fun v s1 h9=>?_);obtain ⟨x,H1,I1,r1,ty,q1⟩:=h9;obtain ⟨h1,h2⟩:=RG I1 r1 ty;refine ⟨T,id,pa,slot,hty,h1,h2,?_⟩;have hA:=ha d6 a9 s1 σ H1 _ I1 q1;rw [hs] at hA ⊢;refine wc (by show (false || (backTo d6 (starEach es X.env)).any (·.1))=false;rw [hplain] <;>rfl) (yr ?_);exact ma hA fun us s2 ⟨vs,H2,I2,r2,q2⟩=>hm a9 s2 σ H2 x vs v us Q I2 r1 r2 q2
/- xs.append(e),list.index on a module's tuple .. are Bp facts of 06m -/
end
def EY(X:Cx)(id:String)(r:V->kQ V->Hp->VK->Prop):Prop :=
 ∀(a9:kQ (kS×Obj)) (s:kU) (σ:St) (H:Hp) (x:V) (xs:kQ V) (v:kT) (us:kQ kT) (Q:VK),lQ X a9 σ H s->Yd x v->Yc xs us->r x xs H Q ->
  wpAny (model X.prog X.w) X.A (call (.builtin id) (v ::us)) (EP X a9 σ Q) X.xe s
def Yc.one{x:V}{us:kQ kT}(h:Yc [x] us):∃u,us=[u]/\Yd x u:=by
 cases h with
 | cons r t=>cases t;exact ⟨_,rfl,r⟩
theorem Yc.eraseIdx:∀{xs:kQ V} {us:kQ kT} (i:Nat),Yc xs us->Yc (xs.eraseIdx i) (us.eraseIdx i)
 | _,_,_,.nil=>.nil
 | _,_,0,.cons _ t=>t
 | _,_,i+1,.cons r t=>.cons r (Yc.eraseIdx i t)
theorem Lf{α:Type}:∀(l:kQ α) (i:Nat),(l.eraseIdx i).length<=l.length
 | [],_=>mn _
 | _ ::_,0=>rR _
 | _ ::r,i+1=>Nat.succ_le_succ (Lf r i)
variable {X:Cx}
def lQ.lset{b9 its':kQ kT}{n:Nat}{f:Array kT->Array kT}{t':Nat}(I:lQ X a9 σ H s)(hH:H l=some (.lst xs))
  (e:s.heap.get? l=some { cls:=.type "list",data:=.seq b9.toArray n }) (hf:f b9.toArray=its'.toArray) (hv:Yc ys its') (hz:ys.length<=sizeLine) :
  lQ X a9 σ (upd H l (.lst ys)) { s with heap:=s.heap.update l (Obj.mapSeq f),toks:=t' }:=by
 have q:=PySem.IsL.update e f;rw [hf] at q;refine I.write (x:=l) (e:=l) (by rw [hH];exact trivial) (.inl rfl) (fun b' u hb hu=>(rK s.heap (Obj.mapSeq f) (nR hb)).trans hu) ⟨_,q⟩ ?_;exact ⟨hz,its',_,hv,q⟩
def lQ.lnew(I:lQ X a9 σ H s)(hv:Yc ys b9)(hz:ys.length<=sizeLine) :
  lQ X a9 σ (upd H s.heap.objs.size (.lst ys)) { s with heap:=s.heap.push { cls:=.type "list",data:=.seq b9.toArray },toks:=t' } :=
 I.laid (fun _ _ q=>my _ q) (mn _) ⟨hz,b9,0,hv,nG _ rfl⟩
def lQ.fresh(I:lQ X a9 σ H s):H s.heap.objs.size=none:=I.hok.fresh (mn _)
def lQ.lstM(I:lQ X a9 σ H s)(hH:H l=some (.lst xs)):xs.length<=sizeLine/\∃(b9:kQ kT) (n:Nat),Yc xs b9/\xs.length=b9.length/\s.heap.get? l=some { cls:=.type "list",data:=.seq b9.toArray n }:=by
 obtain ⟨z,b9,n,r,e⟩:=I.hok l _ hH;exact ⟨z,b9,n,r,r.length,e⟩
def Qo(h:n<=sizeLine):Builtin.List.listTooLong n=false:=by
 unfold Builtin.List.listTooLong;exact mO (by lia)
def Mi:V->kQ V->Hp->VK->Prop:=fun x vs H Q=>∃l xs y,x=.ref l/\vs=[y]/\H l=some (.lst xs)/\xs.length<sizeLine/\Q .non (upd H l (.lst (xs++[y])))
def EU:EY X "list.append" Mi:=by
 intro a9 s σ H x vs v us Q I rx rv h;obtain ⟨l,xs,y,rfl,rfl,hH,hz,q⟩:=h;cases rx;obtain ⟨u,rfl,ru⟩:=rv.one;obtain ⟨z,b9,n,r,hl,e⟩:=I.lstM hH;refine ya Lm ⟨_,e,rfl⟩ F.entry_list_append (F.args_list_append_2 _ _) (PySem.list_append l b9.toArray n u (by rw [ny];lia)) ⟨e,?_⟩;refine ⟨.non,_,I.lset (its':=b9++[u]) hH e (by simp) (r.append (.cons ru .nil)) ?_,rfl,q⟩;rw [mY,List.length_singleton];lia
def Vl:V->kQ V->Hp->VK->Prop:=fun x vs H Q=>∃l b xs zs,x=.ref l/\vs=[.ref b]/\H l=some (.lst xs)/\H b=some (.lst zs)/\xs.length+zs.length<=sizeLine/\Q .non (upd H l (.lst (xs++zs)))
def Qu:EY X "list.extend" Vl:=by
 intro a9 s σ H x vs v us Q I rx rv h;obtain ⟨l,b,xs,zs,rfl,rfl,hH,hB,hz,q⟩:=h;cases rx;obtain ⟨u,rfl,ru⟩:=rv.one;cases ru;obtain ⟨z,b9,n,r,hl,e⟩:=I.lstM hH;obtain ⟨z2,E3,n2,r2,O2,e2⟩:=I.lstM hB;have hsz:b9.toArray.size+E3.toArray.size<=sizeLine:=by rw [ny,ny];lia
 have hlong:¬(!b9.toArray.isEmpty && Builtin.List.listTooLong (b9.toArray.size+E3.toArray.size))=true:=by
  rw [Qo hsz,Bool.and_false];exact mX
 refine ya Lv ⟨_,e,rfl⟩ F.entry_list_extend (F.args_list_extend_2 _ _)
  (AutoSeq1.list_extend_list_list_0 l b9.toArray n b E3.toArray n2 hlong (by rw [ny];lia) (by lia)) ⟨e,e2,?_⟩
 refine ⟨.non,_,I.lset (its':=b9++E3) hH e (by simp) (r.append r2) ?_,rfl,q⟩;rw [mY];lia
def SX:V->kQ V->Hp->VK->Prop:=fun x vs H Q=>∃l xs i k y,x=.ref l/\vs=[.int i]/\H l=some (.lst xs)/\-(2 ^ 63)<=i/\i<2 ^ 63/\seqIndex? i xs.length=some k/\xs[k]? =some y/\Q y (upd H l (.lst (xs.eraseIdx k)))
def HG:EY X "list.pop" SX:=by
 intro a9 s σ H x vs v us Q I rx rv h;obtain ⟨l,xs,i,k,y,rfl,rfl,hH,h1,h2,hk,hy,q⟩:=h;cases rx;obtain ⟨u,rfl,ru⟩:=rv.one;obtain ⟨t,rfl⟩:=ru;obtain ⟨z,b9,n,r,hl,e⟩:=I.lstM hH;obtain ⟨w,hw,z7⟩:=r.get hy;refine ya Fk ⟨_,e,rfl⟩ F.entry_list_pop (F.args_list_pop_2 _ _)
  (MeetsSeq.list_pop_at l b9.toArray n i t k w (fitsIndex_both h1 h2) (by rw [ny,<-hl];exact hk) (by rw [<-zU];exact hw) (by rw [ny];lia)) ⟨e,?_⟩
 refine ⟨y,_,I.lset (its':=b9.eraseIdx k) hH e ?_ (r.eraseIdx k) ?_,z7,q⟩
 ·show b9.toArray.eraseIdxIfInBounds k=(b9.eraseIdx k).toArray;rw [List.eraseIdxIfInBounds_toArray]
 ·have:=Lf xs k;lia
def XN:R2:=fun x y H Q=>∃l b xs zs,x=.ref l/\y=.ref b/\H l=some (.lst xs)/\H b=some (.lst zs)/\xs.length+zs.length<=sizeLine/\∀p,H p=none->Q (.ref p) (upd H p (.lst (xs++zs)))
def Sd:mM X (binaryOp .Add) XN:=by
 intro a9 s σ H x y v u Q I rx ry h;obtain ⟨l,b,xs,zs,rfl,rfl,hH,hB,hz,q⟩:=h;cases rx;cases ry;obtain ⟨z,b9,n,r,hl,e⟩:=I.lstM hH;obtain ⟨z2,E3,n2,r2,O2,e2⟩:=I.lstM hB;refine PySem.P.add_list e e2 ?_ (by rw [ny,ny];lia);have ea:b9.toArray++E3.toArray=(b9++E3).toArray:=by simp
 rw [ea];exact ⟨.ref _,_,I.lnew (t':=s.toks) (r.append r2) (by rw [mY];lia),rfl,q _ I.fresh⟩
section
variable {E:kT->kU->Prop}
end
section
variable {κ:Type} [DecidableEq κ]
def Y2(kvs:kQ (κ×V))(k:κ):kW V:=(kvs.find? fun kv=>decide (kv.1=k)).map (·.2)
def nO(kvs:kQ (κ×V))(k:κ)(v:V):kQ (κ×V) :=
 if (kvs.any fun kv=>decide (kv.1=k))=true then kvs.map (fun kv=>if kv.1=k then (kv.1,v) else kv) else kvs++[(k,v)]
def uk(kvs:kQ (κ×V))(k:κ):kQ (κ×V):=kvs.filter fun kv=>decide (kv.1≠k)
def vZ{p:κ×V}{r:kQ (κ×V)}{k:κ}(e:p.1=k):Y2 (p ::r) k=some p.2:=by simp [Y2,wQ,e]
def uH{p:κ×V}{r:kQ (κ×V)}{k:κ}(e:¬p.1=k):Y2 (p ::r) k=Y2 r k:=by simp [Y2,wQ,e]
theorem zj(k:κ):∀kvs:kQ (κ×V),(kvs.any fun kv=>decide (kv.1=k))=(Y2 kvs k).isSome
 | []=>rfl
 | p ::r=>by
  rw [vf]
  by_cases e:p.1=k
  ·simp only [vZ e,mB e,Bool.true_or,Option.isSome_some]
  ·rw [uH e,mO e,DW];exact zj k r
def zQ(kvs:kQ (κ×V))(k:κ)(v:V):(nO kvs k v).length<=kvs.length+1:=by
 unfold nO;split
 ·rw [lV];lia
 ·rw [mY,ou,wL];lia
def GK{kvs:kQ (κ×V)}{k:κ}(v:V)(h:Y2 kvs k=none):nO kvs k v=kvs++[(k,v)]:=by
 unfold nO;rw [zj,h];exact lY (by left)
def oW.isSome_eq(r:oW o u):o.isSome=u.isSome:=by
 cases o with
 | none=>cases u with
  | none=>rfl
  | some _=>exact (show False from r).elim
 | some _=>cases u with
  | none=>exact (show False from r).elim
  | some _=>rfl
def oW.getD(r:oW o u)(rd:Yd d d'):Yd (o.getD d) (u.getD d'):=by
 cases o with
 | none=>cases u with
  | none=>exact rd
  | some _=>exact (show False from r).elim
 | some _=>cases u with
  | none=>exact (show False from r).elim
  | some _=>exact r
def KV.val{kvs:kQ (κ×V)}{vs:kQ (κ×kT)}(r:KV kvs vs)(k:κ):oW (Y2 kvs k) (valueAt vs k):=by
 unfold KV at r
 induction r with
 | nil=>exact pI
 | @cons p q ps qs h t ih =>
  obtain ⟨h1,h2⟩:=h
  by_cases e:p.1=k
  ·have e':q.1=k:=h1.symm.trans e;have b:valueAt (q ::qs) k=some q.2:=by simp [valueAt,wQ,e']
   rw [vZ e,b];exact h2
  ·have e':¬q.1=k:=fun z=>e (h1.trans z)
   have b:valueAt (q ::qs) k=valueAt qs k:=by simp [valueAt,wQ,e']
   rw [uH e,b];exact ih
def KV.any{kvs:kQ (κ×V)}{vs:kQ (κ×kT)}(r:KV kvs vs)(k:κ):(kvs.any fun kv=>decide (kv.1=k))=vs.any fun kv=>decide (kv.1=k):=by
 unfold KV at r
 induction r with
 | nil=>rfl
 | cons h t ih=>rw [vf,vf,ih,h.1]
def KV.repl{kvs:kQ (κ×V)}{vs:kQ (κ×kT)}(r:KV kvs vs)(k:κ)(ry:Yd y u) :
  KV (kvs.map fun kv=>if kv.1=k then (kv.1,y) else kv) (vs.map fun kv=>if kv.1=k then (kv.1,u) else kv):=by
 unfold KV at r ⊢
 induction r with
 | nil=>exact .nil
 | @cons p q ps qs h t ih =>
  rw [mH,mH];refine .cons ?_ ih;obtain ⟨h1,h2⟩:=h
  by_cases e:p.1=k
  ·rw [lZ e,lZ (h1.symm.trans e)];exact ⟨h1,ry⟩
  ·rw [lY e,lY (fun z=>e (h1.trans z))];exact ⟨h1,h2⟩
def KV.put{kvs:kQ (κ×V)}{vs:kQ (κ×kT)}(r:KV kvs vs)(k:κ)(ry:Yd y u):KV (nO kvs k y) (stored vs k u):=by
 unfold nO stored;rw [r.any k]
 by_cases e:(vs.any fun kv=>decide (kv.1=k))=true
 ·rw [lZ e,lZ e];exact r.repl k ry
 ·rw [lY e,lY e];exact zv r ⟨rfl,ry⟩
def KV.drop{kvs:kQ (κ×V)}{vs:kQ (κ×kT)}(r:KV kvs vs)(k:κ):KV (uk kvs k) (without vs k):=by
 unfold KV at r ⊢;unfold uk without
 induction r with
 | nil=>exact .nil
 | @cons p q ps qs h t ih =>
  obtain ⟨h1,h2⟩:=h;rw [sS,sS]
  by_cases e:p.1=k
  ·have a:¬decide (p.1≠k)=true:=by simp [e]
   have b:¬decide (q.1≠k)=true:=by simp [h1.symm.trans e]
   rw [lY a,lY b];exact ih
  ·have e':¬q.1=k:=fun z=>e (h1.trans z)
   have a:decide (p.1≠k)=true:=by simp [e]
   have b:decide (q.1≠k)=true:=by simp [e']
   rw [lZ a,lZ b];exact .cons ⟨h1,h2⟩ ih
def KV.length{kvs:kQ (κ×V)}{vs:kQ (κ×kT)}(r:KV kvs vs):kvs.length=vs.length:=mv r
def Iq(kvs:kQ (κ×V))(k:κ):(uk kvs k).length<=kvs.length:=xb _ _
end
def rO(r:Yd (kV k) u):(Zu P w).is k u=true:=by
 cases k with
 | inl i=>obtain ⟨t,e⟩:=(show ∃t,u=Value.int i t from r);subst e;exact Vz P w i t
 | inr x=>obtain ⟨t,e⟩:=(show ∃t,u=Value.str x t from r);subst e;exact US P w x t
theorem BE  :∀{ks:kQ md} {us:kQ kT},Yc (ks.map kV) us->ItemsAre (Zu P w) ks us
 | [],_,r=>by rw [sQ] at r;cases r;exact .nil
 | k ::ks,_,r=>by
  rw [mH] at r;cases r with
  | cons h t=>exact .cons (rO h) (BE t)
abbrev KT(H:Hp):kQ (kQ md×V)->kQ (kQ md×kS×kT)->Prop:=Paired fun p q=>p.1=q.1/\H q.2.1=some (.tup (p.1.map kV))/\Yd p.2 q.2.2
def KT.val(r:KT H kvs xs)(k:kQ md):oW (Y2 kvs k) ((atKey xs k).map (·.2)):=by
 induction r with
 | nil=>exact pI
 | @cons p q ps qs h t ih =>
  obtain ⟨h1,_,h2⟩:=h
  by_cases e:p.1=k
  ·have e':q.1=k:=h1.symm.trans e;have b:atKey (q ::qs) k=some q.2:=by simp [atKey,wQ,e']
   rw [vZ e,b];exact h2
  ·have e':¬q.1=k:=fun z=>e (h1.trans z)
   have b:atKey (q ::qs) k=atKey qs k:=by simp [atKey,wQ,e']
   rw [uH e,b];exact ih
def KT.repl(r:KT H kvs xs)(k:kQ md)(ry:Yd y u) :
  KT H (kvs.map fun kv=>if kv.1=k then (kv.1,y) else kv) (xs.map (putAt k u)):=by
 induction r with
 | nil=>exact .nil
 | @cons p q ps qs h t ih =>
  rw [mH,mH];refine .cons ?_ ih;obtain ⟨h1,h2,h3⟩:=h;unfold putAt
  by_cases e:p.1=k
  ·rw [lZ e,lZ (h1.symm.trans e)];exact ⟨h1,h2,ry⟩
  ·rw [lY e,lY (fun z=>e (h1.trans z))];exact ⟨h1,h2,h3⟩
def KT.put(r:KT H kvs xs)(k:kQ md)(hb:H b=some (.tup (k.map kV)))(ry:Yd y u) :
  KT H (nO kvs k y) (storedH xs k b u):=by
 have e:(kvs.any fun kv=>decide (kv.1=k))=(atKey xs k).isSome:=by
  rw [zj,(r.val k).isSome_eq,Cp]
 unfold nO storedH;rw [e]
 by_cases q:(atKey xs k).isSome=true
 ·rw [lZ q,lZ q];exact r.repl k ry
 ·rw [lY q,lY q];exact zv r ⟨rfl,hb,ry⟩
def KT.keeps(r:KT H kvs xs)(ht:∀b ys,H b=some (.tup ys)->H' b=some (.tup ys)):KT H' kvs xs :=
 Paired.mapP r fun _ _ z=>⟨z.1,ht _ _ z.2.1,z.2.2⟩
section
def Hu(ok:mT P w H h)(e:Rd H a u):Z5 P w H h a u:=e.ok ok
def qe(ok:mT P w H h)(e:Rd H a (.dK kvs)):kvs.length<=sizeLine/\(a ==sysModules)=false/\∃vs,KV kvs vs/\h.DictOf (Zu P w) a vs :=
 show Z5 P w H h a (.dK kvs) from Hu ok e
def uJ(ok:mT P w H h)(e:H a=some (.dK kvs)):kvs.length<=sizeLine/\(a ==sysModules)=false/\∃vs,KV kvs vs/\h.DictOf (Zu P w) a vs:=qe ok (.inl e)
def wm(ok:mT P w H h)(e:H a=some (.tup (ks.map kV))):(tupleKind (Zu P w)).is h ks a:=by
 obtain ⟨_,b9,r,o,h1,h2,n,h3⟩:=(show Z5 P w H h a (.tup (ks.map kV)) from ok a _ e)
 exact ⟨o,b9.toArray,n,h1,h2,h3,by simpa using BE r⟩
def vO(ok:mT P w H h)(e:Rd H a (.dT kvs)):kvs.length<=sizeLine/\(a ==sysModules)=false /\
  ∃xs,KT H kvs xs/\h.DictOfH (tupleKind (Zu P w)) a xs:=by
 obtain ⟨z,y,xs,r,o,es,ep,h1,h2,h3,h4,h5⟩:=(show Z5 P w H h a (.dT kvs) from Hu ok e)
 refine ⟨z,y,xs,r,o,es,ep,h1,h2,h3,h4,fun x hx=>?_,h5⟩;have all:∀{l:kQ (kQ md×V)} {m:kQ (kQ md×kS×kT)},KT H l m->∀x∈m,(tupleKind (Zu P w)).is h x.1 x.2.1:=by
  intro l m q
  induction q with
  | nil=>intro x hx;exact nomatch hx
  | @cons p q ps qs hq t ih =>
   intro x hx;rcases mI.mp hx with e|hx
   ·subst e;exact wm ok (by rw [<-hq.1];exact hq.2.1)
   ·exact ih x hx
 exact all r x hx
def Gr(ok:mT P w H h)(e:H a=some (.dT kvs)):kvs.length<=sizeLine/\(a ==sysModules)=false /\
  ∃xs,KT H kvs xs/\h.DictOfH (tupleKind (Zu P w)) a xs:=vO ok (.inl e)
end
def Xq(H:Hp)(a:kS)(y:V)(r:kW V):Prop :=
 (∃kvs k,Rd H a (.dK kvs)/\y=kV k/\r=Y2 kvs k)\/∃kvs k b,Rd H a (.dT kvs)/\y=.ref b/\H b=some (.tup (k.map kV))/\r=Y2 kvs k
def pG(H:Hp)(a:kS)(y v:V)(H':Hp):Prop :=
 (∃kvs k,H a=some (.dK kvs)/\y=kV k/\kvs.length<sizeLine/\H'=upd H a (.dK (nO kvs k v))) \/
 ∃kvs k b,H a=some (.dT kvs)/\y=.ref b/\H b=some (.tup (k.map kV))/\kvs.length<sizeLine/\H'=upd H a (.dT (nO kvs k v))
def Xq.k{H:Hp}{a:kS}{kvs:kQ (md×V)}{k:md}(e:H a=some (.dK kvs)):Xq H a (kV k) (Y2 kvs k):=.inl ⟨kvs,k,.inl e,rfl,rfl⟩
def Xq.t{H:Hp}{a b:kS}{kvs:kQ (kQ md×V)}{k:kQ md}(e:H a=some (.dT kvs))(eb:H b=some (.tup (k.map kV))):Xq H a (.ref b) (Y2 kvs k):=.inr ⟨kvs,k,b,.inl e,rfl,eb,rfl⟩
def pG.k{H:Hp}{a:kS}{kvs:kQ (md×V)}{k:md}{v:V}(e:H a=some (.dK kvs))(hl:kvs.length<sizeLine):pG H a (kV k) v (upd H a (.dK (nO kvs k v))):=.inl ⟨kvs,k,e,rfl,hl,rfl⟩
def pG.t{H:Hp}{a b:kS}{kvs:kQ (kQ md×V)}{k:kQ md}{v:V}(e:H a=some (.dT kvs))(eb:H b=some (.tup (k.map kV)))(hl:kvs.length<sizeLine) :
  pG H a (.ref b) v (upd H a (.dT (nO kvs k v))):=.inr ⟨kvs,k,b,e,rfl,eb,hl,rfl⟩
section
variable {E:kT->kU->Prop}
def lQ.big(I:lQ X a9 σ H s):sysModules<s.heap.objs.size:=by
 have h:mainGlobals<s.heap.objs.size:=(I.mod.glob.keeps I.bk).lt;exact pV (by left) h
def QD{Q:kT->kU->Prop}(hu:A.units+1<cLine)(I:lQ X a9 σ H s)(g:Xq H a y (some v))(ry:Yd y u)(h:∀w' s',lQ X a9 σ H s'->Yd v w'->Q w' s') :
  wpAny (model X.prog X.w) A (getItem (.ref a) u) Q E s:=by
 rcases g with ⟨kvs,k,e,ey,l⟩|⟨kvs,k,b,e,ey,eb,l⟩
 ·subst ey;obtain ⟨z,hd,vs,m8,dd⟩:=qe I.hok e;obtain ⟨w',hw,z7⟩:=oW.some_of (v:=v) (o:=valueAt vs k) (by rw [l];exact m8.val k);exact wpAny_getItem_of (rO ry) dd.mapOf hw (h w' _ (I.tok _) z7)
 ·subst ey;cases (show u=Value.ref b from ry);obtain ⟨z,hd,xs,m8,dd⟩:=vO I.hok e;obtain ⟨w',hw,z7⟩:=oW.some_of (v:=v) (o:=(atKey xs k).map (·.2)) (by rw [l];exact m8.val k);obtain ⟨p,hp,hp2⟩:=mS.mp hw;refine wpAny_getItem_heap (wC hu) (wm I.hok eb) dd hp ?_;rw [hp2];exact h w' _ (I.tok _) z7
def UN{Q:kT->kU->Prop}(hu:A.units+1<cLine)(I:lQ X a9 σ H s)(g:Xq H a y o)(ry:Yd y u)(h:∀s',lQ X a9 σ H s'->Q (.bool o.isSome) s') :
  wpAny (model X.prog X.w) A (compareOp .In u (.ref a)) Q E s:=by
 rcases g with ⟨kvs,k,e,ey,l⟩|⟨kvs,k,b,e,ey,eb,l⟩
 ·subst ey;obtain ⟨z,hd,vs,m8,dd⟩:=qe I.hok e;refine wpAny_in_of (rO ry) hd dd.mapOf ?_;rw [<-(m8.val k).isSome_eq,<-l];exact h _ (I.tok _)
 ·subst ey;cases (show u=Value.ref b from ry);obtain ⟨z,hd,xs,m8,dd⟩:=vO I.hok e;refine wpAny_in_heap (wC hu) (wm I.hok eb) hd dd ?_;have q:=(m8.val k).isSome_eq;rw [Cp] at q;rw [<-q,<-l];exact h _ (I.tok _)
def Sn{Q:kT->kU->Prop}(hu:A.units+1<cLine)(I:lQ X a9 σ H s)(g:Xq H a y o)(ry:Yd y u)(h:∀s',lQ X a9 σ H s'->Q (.bool (!o.isSome)) s') :
  wpAny (model X.prog X.w) A (compareOp .NotIn u (.ref a)) Q E s:=by
 rcases g with ⟨kvs,k,e,ey,l⟩|⟨kvs,k,b,e,ey,eb,l⟩
 ·subst ey;obtain ⟨z,hd,vs,m8,dd⟩:=qe I.hok e;refine wpAny_notIn_of (rO ry) hd dd.mapOf ?_;rw [<-(m8.val k).isSome_eq,<-l];exact h _ (I.tok _)
 ·subst ey;cases (show u=Value.ref b from ry);obtain ⟨z,hd,xs,m8,dd⟩:=vO I.hok e;refine wpAny_notIn_heap (wC hu) (wm I.hok eb) hd dd ?_;have q:=(m8.val k).isSome_eq;rw [Cp] at q;rw [<-q,<-l];exact h _ (I.tok _)
def yq(I:lQ X a9 σ H s)(mu:yi (H a))(hs:Heap.SameBut a s.heap h')(he:∃q,h'.get? a=some q)(new:Z5 X.prog X.w (upd H a ob) h' a ob) :
  lQ X a9 σ (upd H a ob) { s with heap:=h',toks:=t' } :=
 I.write (x:=a) (e:=a) mu (.inl rfl) (fun b q hb z=>(hs.2 b hb).trans z) he new
def vU(z:kvs.length<=sizeLine)(hd:(a ==sysModules)=false)(m8:KV kvs vs)(dd:h'.DictOf (Zu P w) a vs) :
  Z5 P w H' h' a (.dK kvs):=⟨z,hd,vs,m8,dd⟩
def PH{Q:Unit->kU->Prop}(hu:A.units+1<cLine)(I:lQ X a9 σ H s)(g:pG H a y v H')(ry:Yd y u)(rv:Yd v r)(h:∀s',lQ X a9 σ H' s'->Q () s') :
  wpAny (model X.prog X.w) A (setItem (.ref a) u r) Q E s:=by
 rcases g with ⟨kvs,k,e,ey,l,eH⟩|⟨kvs,k,b,e,ey,eb,l,eH⟩
 ·subst ey eH;obtain ⟨z,hd,vs,m8,dd⟩:=uJ I.hok e;have hz:vs.length<=sizeLine:=by rw [<-m8.length];exact z
  have hl:(nO kvs k v).length<=sizeLine:=by have:=zQ kvs k v;lia
  refine wpAny_setItem_pairs (hsz:=hz) (rO ry) dd fun h' J9 hs=>h _ ?_
  have he:∃q,h'.get? a=some q:=let ⟨q,_,_,hq,_⟩:=J9;⟨q,hq⟩;exact yq I (by rw [e];exact pI) hs he (vU hl hd (m8.put k rv) J9)
 ·subst ey eH;cases (show u=Value.ref b from ry);obtain ⟨z,hd,xs,m8,dd⟩:=Gr I.hok e;have hz:xs.length<=sizeLine:=by rw [<-mv m8];exact z
  have hl:(nO kvs k v).length<=sizeLine:=by have:=zQ kvs k v;lia
  refine wpAny_setItem_heap (hsz:=hz) (wC hu) (wm I.hok eb) dd fun h' J9 hs=>h _ ?_
  obtain ⟨q,es,ep,hq,h2,h3,h4,_,h5⟩:=J9;refine yq I (by rw [e];exact pI) hs ⟨q,hq⟩ ⟨hl,hd,_,(m8.put k eb rv).keeps fun c ys ec=>?_,q,es,ep,hq,h2,h3,h4,h5⟩;rw [Zd (MC ec e (fun z=>nomatch z))];exact ec
def XY{Q:Unit->kU->Prop}(I:lQ X a9 σ H s)(e:H a=some (.dK kvs))(ry:Yd (kV k) u)(l:(Y2 kvs k).isSome=true)(h:∀s',lQ X a9 σ (upd H a (.dK (uk kvs k))) s'->Q () s') :
  wpAny (model X.prog X.w) A (delItem (.ref a) u) Q E s:=by
 obtain ⟨z,hd,vs,m8,dd⟩:=uJ I.hok e;refine wpAny_delItem_slot dd.typeIs (by left) Ft
  (uT Ft dd.typeIs PySem.F.entry_dict_delitem (PySem.F.args_dict_delitem_2 _ _) (meets_dict_delitem_pairs (Zu X.prog X.w) a (rO ry)) ⟨vs,dd,by rw [<-m8.length];exact z,by rw [<-(m8.val k).isSome_eq];exact l,fun h' J9 hs=>h _ ?_⟩)
 have he:∃q,h'.get? a=some q:=let ⟨q,_,_,hq,_⟩:=J9;⟨q,hq⟩;exact yq I (by rw [e];exact pI) hs he (vU (nj (Iq kvs k) z) hd (m8.drop k) J9)
def QY{Q:kT->kU->Prop}(I:lQ X a9 σ H s)(e:H a=some (.dK kvs))(ry:Yd (kV k) u)(l:Y2 kvs k=some v)(hm:more=[]\/∃x,more=[x])
  (h:∀w' s',lQ X a9 σ (upd H a (.dK (uk kvs k))) s'->Yd v w'->Q w' s'):wpAny (model X.prog X.w) A (call (.builtin "dict.pop") (.ref a ::u ::more)) Q E s:=by
 obtain ⟨z,hd,vs,m8,dd⟩:=uJ I.hok e;obtain ⟨w',hw,z7⟩:=oW.some_of (v:=v) (o:=valueAt vs k) (by rw [<-l];exact m8.val k);have hp:(keyPart u).isSome=true:=by
  cases k with
  | inl i=>obtain ⟨t,q⟩:=(show ∃t,u=Value.int i t from ry);subst q;rfl
  | inr x=>obtain ⟨t,q⟩:=(show ∃t,u=Value.str x t from ry);subst q;rfl
 have ha:argsOk "dict.pop" ⟨.ref a ::u ::more,[]⟩:=by
  rcases hm with q|⟨x,q⟩
  ·subst q;exact PySem.F.args_dict_pop_2 _ _
  ·subst q;exact PySem.F.args_dict_pop_3 _ _ _
 refine uT Kw dd.typeIs PySem.F.entry_dict_pop ha (meets_dict_pop_there (Zu X.prog X.w) a (rO ry) more hm hp)
  ⟨vs,w',dd,by rw [<-m8.length];exact z,hw,fun h' J9 hs=>h w' _ ?_ z7⟩
 have he:∃q,h'.get? a=some q:=let ⟨q,_,_,hq,_⟩:=J9;⟨q,hq⟩;exact yq I (by rw [e];exact pI) hs he (vU (nj (Iq kvs k) z) hd (m8.drop k) J9)
def QP{Q:kT->kU->Prop}(I:lQ X a9 σ H s)(e:Rd H a (.dK kvs))(h:∀t s',lQ X a9 σ H s'->Q (.int kvs.length t) s'):wpAny (model X.prog X.w) A (call (.builtin "len") [.ref a]) Q E s:=by
 obtain ⟨z,hd,vs,m8,dd⟩:=qe I.hok e;refine call_len_dict hd dd (by rw [<-m8.length];rw [qT] at z;lia) ?_;rw [<-m8.length];exact h _ _ (I.tok _)
end
def Kv(i:li):Prop:=∀ov iv,subscripted i false ov iv=operate [ov,iv] (getItem ov iv)
def Rl{prog:lq}{w:lh}{A:lu}{E:kT->kU->Prop}{s:kU}{env:Env}{value slice:li}{pos:Pos}{T id:String}{Q:kT->kU->Prop}
  (hl:typeLookup (.type T) "__getitem__" =pure (some (.builtin id))) (hs:Kv slice)
  (h:wpAny (model prog w) A (eval value env) (fun o lz=>wpAny (model prog w) A (eval slice env) (fun i lC=>lC.TypeIs o T/\wpAny (model prog w) A (getItem o i) Q E lC) E lz) E s) :
  wpAny (model prog w) A (eval (.Subscript value slice pos) env) Q E s:=by
 refine Subscript_ (oQ h (fun o lz h₁=>oQ h₁ (fun i lC lH=>?_) fun _ _ x=>x) fun _ _ x=>x);obtain ⟨hT,lH⟩:=lH;unfold subscriptTail;refine lT ?_;rw [getitemInPython_of_ne hT.not_modules];refine lT (AI hT hl ?_);have fin:wpAny (model prog w) A (subscripted slice false o i) (fun r lE=>wpAny (model prog w) A (letTemporaryGo value o r >>=fun _=>pure r) Q E lE) E lC:=by
  rw [hs o i];exact wpAny_operating (oQ lH (fun r lE lI=>lT (wpAny_letTemporaryGo (mi lI))) fun _ _ x=>x)
 first
  | exact mi (lT fin)
  | exact lT (mi (lT fin))
  | exact lT fin
def OZ(I:lQ X a9 σ H s)(g:Xq H a y o):s.TypeIs (.ref a) "dict" :=by
 rcases g with ⟨kvs,k,e,_,_⟩|⟨kvs,k,b,e,_,_,_⟩
 ·obtain ⟨_,_,vs,_,dd⟩:=qe I.hok e;exact dd.typeIs
 ·obtain ⟨_,_,xs,_,dd⟩:=vO I.hok e;exact dd.typeIs
def VM(td ty:TE):TE:=fun σ H Q=>td σ H fun x H1=>ty σ H1 fun y H2=>∃a v,x=.ref a/\Xq H2 a y (some v)/\Q v H2
def Vb(td ty tv:TE):TS:=fun D σ H=>tv σ H fun v H1=>td σ H1 fun x H2=>ty σ H2 fun y H3=>∃a H4,x=.ref a/\pG H3 a y v H4/\D.nx σ H4
def X9(hu:X.A.units+1<cLine)(ho:PE X o td)(hi:PE X i ty)(hs:Kv i):PE X (.Subscript o i pos) (VM td ty):=by
 intro a9 s σ H Q I h;refine Rl PySem.F.slot_dict_getitem.lookup hs (ma (ho a9 s σ H _ I h) fun u s1 ⟨x,H1,I1,rx,q1⟩=>ma (hi a9 s1 σ H1 _ I1 q1) fun iv s2 h9=>?_);obtain ⟨y,H2,I2,ry,a,v,ex,g,q2⟩:=h9;subst ex;obtain rfl:u=Value.ref a:=rx;exact ⟨OZ I2 g,QD hu I2 g ry fun w' s3 I3 z7=>⟨v,H2,I3,z7,q2⟩⟩
def rE(hu:X.A.units+1<cLine)(ho:PE X o td)(hi:PE X i ty)(hv:PE X value tv)(hs:swapsWith value (some (.Subscript o i A8)) pos.line X.env=pure false) :
  PS X (.Assign [.Subscript o i A8] value pos) (Vb td ty tv):=by
 intro a9 s σ H D I h;refine wpAny_Assign_Subscript (ma (hv a9 s σ H _ I h) fun r s1 ⟨v,H1,I1,rv,q1⟩=>ma (ho a9 s1 σ H1 _ I1 q1) fun u s2 ⟨x,H2,I2,rx,q2⟩=>ma (hi a9 s2 σ H2 _ I2 q2) fun iv s3 h9=>?_) hs;obtain ⟨y,H3,I3,ry,a,H4,ex,g,q3⟩:=h9;subst ex;obtain rfl:u=Value.ref a:=rx;exact PH hu I3 g ry rv fun s4 I4=>⟨σ,H4,I4,q3⟩
def Iu(h:kZ)(hb:sysModules<h.objs.size):Z5 P w H (h.push { cls:=.type "dict",data:=.dict #[] }) h.objs.size (.dK []) :=
 ⟨oJ _,qX.mpr (nR (mC hb)),[],.nil,Heap.DictOf.new h⟩
def SO(h:kZ)(hb:sysModules<h.objs.size):Z5 P w H (h.push { cls:=.type "dict",data:=.dict #[] }) h.objs.size (.dT []) :=
 ⟨oJ _,qX.mpr (nR (mC hb)),[],.nil,_,#[],0,nG _ rfl,⟨rfl,rfl,rfl⟩,rfl,rfl,su⟩
def UL:TE:=fun _ H Q=>∀p,H p=none->Q (.ref p) (upd H p (.dK []))
def SY:TE:=fun _ H Q=>∀p,H p=none->Q (.ref p) (upd H p (.dT []))
def TB:PE X (.Dict [] [] pos) UL:=fun a9 s σ H Q I h =>
 wpAny_Dict_empty ⟨.ref s.heap.objs.size,_,I.laid (a:=s.heap.objs.size) (o:=.dK []) (t':=s.toks) (fun _ _ q=>my _ q) (mn _) (Iu s.heap I.big),rfl,h _ (I.hok.fresh (mn _))⟩
def Sx:PE X (.Dict [] [] pos) SY:=fun a9 s σ H Q I h =>
 wpAny_Dict_empty ⟨.ref s.heap.objs.size,_,I.laid (a:=s.heap.objs.size) (o:=.dT []) (t':=s.toks) (fun _ _ q=>my _ q) (mn _) (SO s.heap I.big),rfl,h _ (I.hok.fresh (mn _))⟩
def CF:kQ (TE×TE)->St->Hp->(kQ (V×V)->Hp->Prop)->Prop
 | [],_,H,Q=>Q [] H
 | (tk,tv) ::r,σ,H,Q=>tk σ H fun x H1=>tv σ H1 fun y H2=>CF r σ H2 fun ps H3=>Q ((x,y) ::ps) H3
abbrev VV:kQ (V×V)->kQ (kT×kT)->Prop:=Paired fun p q=>Yd p.1 q.1/\Yd p.2 q.2
def Bq(X:Cx)(pos:Pos)(keys:kQ (kW li))(D5:kQ li)(D4:kQ (TE×TE)):Prop :=
 ∀(a9:kQ (kS×Obj)) (s:kU) (σ:St) (H:Hp) (Q:kQ (V×V)->Hp->Prop),lQ X a9 σ H s->CF D4 σ H Q ->
  wpAny (model X.prog X.w) X.A (evalPairs (pairTrees keys D5 X.env pos)) (fun vs s'=>∃ps H',lQ X a9 σ H' s'/\VV ps vs/\Q ps H') X.xe s
def Vv  :Bq X pos [] [] []:=fun a9 s σ H Q I h=>pairTrees_nil_walk ⟨[],H,I,.nil,h⟩
def Ox(hk:PE X k tk)(hv:PE X v tv)(hr:Bq X pos ks vs D4) :
  Bq X pos (some k ::ks) (v ::vs) ((tk,tv) ::D4):=fun a9 s σ H Q I h =>
 pairTrees_cons_walk (ma (hk a9 s σ H _ I h) fun u s1 ⟨x,H1,I1,rx,q1⟩=>ma (hv a9 s1 σ H1 _ I1 q1) fun w2 s2 ⟨y,H2,I2,ry,q2⟩ =>
  ma (hr a9 s2 σ H2 _ I2 q2) fun ws s3 ⟨ps,H3,I3,m8,q3⟩=>⟨(x,y) ::ps,H3,I3,.cons ⟨rx,ry⟩ m8,q3⟩)
def wz(kvs more:kQ (md×V)):kQ (md×V):=more.foldl (fun P4 kv=>nO P4 kv.1 kv.2) kvs
def KV.merge:∀{more:kQ (md×V)} {rs:kQ (md×kT)} {kvs:kQ (md×V)} {vs:kQ (md×kT)},KV more rs->KV kvs vs->KV (wz kvs more) (merged vs rs):=by
 intro more rs kvs vs r;unfold KV at r
 induction r generalizing kvs vs with
 | nil=>intro q;exact q
 | @cons p q ps qs h t ih =>
  intro r0;have e:KV (nO kvs p.1 p.2) (stored vs q.1 q.2):=by
   have:=r0.put p.1 h.2;rw [<-h.1];exact this
  exact ih e
theorem Dk:∀(more kvs:kQ (md×V)),(wz kvs more).length<=kvs.length+more.length
 | [],kvs=>by show kvs.length<=kvs.length+0;lia
 | p ::r,kvs=>by
  have h1:=Dk r (nO kvs p.1 p.2);have h2:=zQ kvs p.1 p.2;show (wz (nO kvs p.1 p.2) r).length<=_;rw [ou];lia
theorem MH  :∀{kvs:kQ (md×V)} {ws:kQ (kT×kT)},VV (kvs.map fun kv=>(kV kv.1,kv.2)) ws->∃rs,Carries (Zu P w) ws rs/\KV kvs rs
 | [],_,r=>by rw [sQ] at r;cases r;exact ⟨[],pI,.nil⟩
 | p ::kvs,_,r=>by
  rw [mH] at r;cases r with
  | @cons a b as bs h t =>
   obtain ⟨rs,c,q⟩:=MH (P:=P) (w:=w) t;obtain ⟨b1,b2⟩:=b;exact ⟨(p.1,b2) ::rs,⟨rO h.1,rfl,c⟩,.cons ⟨rfl,h.2⟩ q⟩
def GT(D4:kQ (TE×TE)):TE:=fun σ H Q=>∀p,H p=none->CF D4 σ (upd H p (.dK [])) fun ps H2=>H2 p=some (.dK [])/\∃kvs:kQ (md×V),ps=kvs.map (fun kv=>(kV kv.1,kv.2))/\kvs.length<=15/\Q (.ref p) (upd H2 p (.dK (wz [] kvs)))
def Ri(h:Bq X pos keys D5 D4)(j7:keys.all (·.isSome)=true)(hl:keys.length=D5.length)(h0:keys≠[])
  (h15:keys.length<=15):PE X (.Dict keys D5 pos) (GT D4):=by
 intro a9 s σ H Q I q;have hn:=I.hok.fresh (mn s.heap.objs.size);have I1:=I.laid (a:=s.heap.objs.size) (o:=.dK []) (h':=s.heap.push { cls:=.type "dict",data:=.dict #[] }) (t':=s.toks) (fun _ _ q=>my _ q) (mn _) (Iu s.heap I.big);refine wpAny_Dict_walk (knd:=Zu X.prog X.w) j7 hl h0 h15 (ma (h a9 _ σ _ _ I1 (q _ hn)) fun ws s2 h9=>?_);obtain ⟨ps,H2,I2,m8,e,kvs,ep,lk,q2⟩:=h9;subst ep;obtain ⟨rs,c,rk⟩:=MH (P:=X.prog) (w:=X.w) m8;obtain ⟨z,hd,vs0,r0,dd⟩:=uJ I2.hok e;cases r0;refine ⟨rs,c,dd,fun h' J9 hs=>⟨.ref s.heap.objs.size,_,?_,rfl,q2⟩⟩;have hz:(wz [] kvs).length<=sizeLine:=by
  have h1:=Dk kvs [];rw [wL] at h1;rw [qT];lia
 have he:∃q,h'.get? s.heap.objs.size=some q:=let ⟨q,_,_,hq,_⟩:=J9;⟨q,hq⟩;exact yq I2 (by rw [e];exact pI) hs he (vU hz hd (rk.merge .nil) J9)
structure M1(X:Cx)(o:Expr)(m:Str)(g7:Pos)(e:Expr)(d6:Pos):Prop where
 lL:attributeBase o m X.env (eval o X.env)=eval o X.env
 few:((backTo d6 (starEach [e] X.env)).all (fun x=>!x.1) && (backToKw d6 (keywordEach [] X.env)).all (fun x=>x.1.isSome)
  && decide (([e]:List Expr).length+([]:List Keyword).length+(if ([]:List Keyword).isEmpty then 0 else 1)<30))=true
 line:(g7.endLine ==d6.line)=true
 trees:backTo d6 (starEach [e] X.env)=[(false,eval e X.env)]
structure M2(X:Cx)(o:Expr)(m:Str)(g7:Pos)(e f:Expr)(d6:Pos):Prop where
 lL:attributeBase o m X.env (eval o X.env)=eval o X.env
 few:((backTo d6 (starEach [e,f] X.env)).all (fun x=>!x.1) && (backToKw d6 (keywordEach [] X.env)).all (fun x=>x.1.isSome)
  && decide (([e,f]:List Expr).length+([]:List Keyword).length+(if ([]:List Keyword).isEmpty then 0 else 1)<30))=true
 line:(g7.endLine ==d6.line)=true
 trees:backTo d6 (starEach [e,f] X.env)=[(false,eval e X.env),(false,eval f X.env)]
def AB(H:Hp)(a:kS):Prop:=(∃kvs,Rd H a (.dK kvs))\/∃kvs,Rd H a (.dT kvs)
def CS(I:lQ X a9 σ H s)(d:AB H a) :
  s.TypeIs (.ref a) "dict" /\(∀b,Value.ref a=.ref b->∃ob,s.heap.get? b=some ob/\ob.dict=none)/\(a ==sysModules)=false:=by
 rcases d with ⟨kvs,e⟩|⟨kvs,e⟩
 ·obtain ⟨_,hd,vs,_,dd⟩:=qe I.hok e;refine ⟨dd.typeIs,fun b q=>?_,hd⟩;cases q;obtain ⟨ob,_,_,h1,h2,_⟩:=dd;exact ⟨ob,h1,h2.2.1⟩
 ·obtain ⟨_,hd,xs,_,dd⟩:=vO I.hok e;refine ⟨dd.typeIs,fun b q=>?_,hd⟩;cases q;obtain ⟨ob,_,_,h1,h2,_⟩:=dd;exact ⟨ob,h1,h2.2.1⟩
section
variable {E:kT->kU->Prop}
def OL{Q:kT->kU->Prop}(hu:A.units+1<cLine)(I:lQ X a9 σ H s)(g:Xq H a y o)(ry:Yd y u)(rd:Yd d r)(h:∀w' s',lQ X a9 σ H s'->Yd (o.getD d) w'->Q w' s') :
  wpAny (model X.prog X.w) A (call (.builtin "dict.get") [.ref a,u,r]) Q E s:=by
 rcases g with ⟨kvs,k,e,ey,l⟩|⟨kvs,k,b,e,ey,eb,l⟩
 ·subst ey;obtain ⟨z,hd,vs,m8,dd⟩:=qe I.hok e;refine uT BN dd.typeIs JZ (Le _ _ _) (meets_dict_get_default (Zu X.prog X.w) a (rO ry) hd r) ⟨_,dd.mapOf,h _ _ (I.tok _) ?_⟩;rw [l];exact (m8.val k).getD rd
 ·subst ey;cases (show u=Value.ref b from ry);obtain ⟨z,hd,xs,m8,dd⟩:=vO I.hok e;refine uT BN dd.typeIs JZ (Le _ _ _) (meetsH_dict_get_default (tupleKind (Zu X.prog X.w)) a b hd r) ⟨wC hu,k,xs,wm I.hok eb,dd,h _ _ (I.tok _) ?_⟩;rw [l];exact (m8.val k).getD rd
end
def PC(td ty tx:TE):TE:=fun σ H Q=>td σ H fun x H1=>∃a,x=.ref a/\AB H1 a/\ty σ H1 fun y H2=>tx σ H2 fun z H3=>∃o,Xq H3 a y o/\Q (o.getD z) H3
def Tp(td ty:TE):TE:=fun σ H Q=>td σ H fun x H1=>∃a,x=.ref a/\AB H1 a/\ty σ H1 fun y H2=>∃kvs k v,H2 a=some (.dK kvs)/\y=kV k/\Y2 kvs k=some v/\Q v (upd H2 a (.dK (uk kvs k)))
def xP(hu:X.A.units+1<cLine)(ho:PE X o td)(he:PE X e ty)(hf:PE X f tx) (m:M2 X o "get" g7 e f d6):PE X (.Call (.Attribute o "get" g7) [e,f] [] d6) (PC td ty tx):=by
 intro a9 s σ H Q I h;refine EF m.lL m.few m.line ye BN PySem.F.type_dict_get (ma (ho a9 s σ H _ I h) fun u s1 h9=>?_);obtain ⟨x,H1,I1,rx,a,ex,d,q1⟩:=h9;subst ex;obtain rfl:u=Value.ref a:=rx;obtain ⟨t1,t2,_⟩:=CS I1 d;refine ⟨t1,t2,?_⟩;rw [m.trees];refine wc rfl (yr (wZ (ma (he a9 s1 σ H1 _ I1 q1) fun iv s2 ⟨y,H2,I2,ry,q2⟩ =>
  wZ (ma (hf a9 s2 σ H2 _ I2 q2) fun fv s3 ⟨z,H3,I3,rz,ov,g,q3⟩=>xG ?_))))
 exact OL hu I3 g ry rz fun w' s4 I4 z7=>⟨_,H3,I4,z7,q3⟩
def CV(ho:PE X o td)(he:PE X e ty) (m:M1 X o "pop" g7 e d6):PE X (.Call (.Attribute o "pop" g7) [e] [] d6) (Tp td ty):=by
 intro a9 s σ H Q I h;refine EF m.lL m.few m.line ye Kw PySem.F.type_dict_pop (ma (ho a9 s σ H _ I h) fun u s1 h9=>?_);obtain ⟨x,H1,I1,rx,a,ex,d,q1⟩:=h9;subst ex;obtain rfl:u=Value.ref a:=rx;obtain ⟨t1,t2,_⟩:=CS I1 d;refine ⟨t1,t2,?_⟩;rw [m.trees];refine wc rfl (yr (wZ (ma (he a9 s1 σ H1 _ I1 q1) fun iv s2 ⟨y,H2,I2,ry,kvs,k,v,ea,ey,l,q2⟩=>xG ?_)));subst ey;exact QY I2 ea ry l (.inl rfl) fun w' s3 I3 z7=>⟨v,_,I3,z7,q2⟩
section
variable {E:kT->kU->Prop}
def VF{Q:kT->kU->Prop}(I:lQ X a9 σ H s)(e:Rd H a (.dK kvs))(h:∀p s',H p=none->lQ X a9 σ (upd H p (.dK kvs)) s'->Q (.ref p) s'):wpAny (model X.prog X.w) A (call (.type "dict") [.ref a]) Q E s:=by
 obtain ⟨z,hd,vs,m8,dd⟩:=qe I.hok e;refine kt_call_dict hd dd (by rw [<-m8.length];exact z) fun h' J9 hs=>?_
 refine h _ _ (I.hok.fresh (mn _)) (I.laid (a:=s.heap.objs.size) (o:=.dK kvs) (t':=s.toks) (fun b q hq=>?_) (mn _) (vU z (qX.mpr (nR (mC I.big))) m8 J9));exact (hs.2 b (mC (mo hq))).trans (my _ hq)
end
end L2
namespace Att
open PySem PySem.W PySem.Calls PyProof.Rows
def SD  :∀(ns:kQ Int) (vs:kQ kT),WellAll P h vs (ns.map WData.int)->IntsAre vs ns:=by
 intro ns
 induction ns with
 | nil =>
  intro vs w;rw [sQ] at w;cases w;exact .nil
 | cons n ns ih =>
  intro vs w;rw [mH] at w;cases w with
  | cons a b =>
   cases a;exact .cons _ _ (ih _ b)
def Rk{l:OpenLaw}{n:Nat}(hn:l.most=some n){P:Params}{h:kZ}{args:kQ WData}{vals:kQ kT}
  (V7:l.row.toRowW.claim.pre args=true) (O3:WellAll P h vals args) :
  ∃a vs ns,vals=[Value.ref a]/\args=[WData.list (ns.map WData.int)]/\h.get? a=some { cls:=.type "list",data:=.seq vs.toArray }/\IntsAre vs ns/\ns.length<=n:=by
 have hsh:WShape.hasAll [] args [.list .int]=true:=(pre_splitW V7).1;have hc:l.pre.holds [] { args:=args }=true:=(pre_splitW V7).2;obtain ⟨d,r,rfl,h1,h2⟩:=hasAllW_cons hsh;obtain rfl:=hasAllW_nil h2;obtain ⟨xs,rfl,h3⟩:=hasW_list h1;obtain ⟨ns,rfl⟩:=items_int h3;have d7:ns.length<=n:=by
  unfold OpenLaw.pre at hc;have h4:(WTm.not (.lt (.lit (.int (n:Int))) (.len (.arg 0)))).holds [] { args:=[.list (ns.map .int)] }=true:=by
   have h4:=(holds_andW hc).1;rw [hn] at h4;exact h4
  have h5:=condW_of h4 (w_not (w_lt w_lit (w_len_list (w_arg rfl))));rw [lV] at h5;refine Nat.le_of_not_lt fun q=>?_
  have q':(n:Int)<((ns.length:Nat):Int):=by lia
  first
   | (rw [mB q'] at h5;exact absurd h5 (by left))
   | (simp at h5;lia)
 cases O3 with
 | cons w1 w2 =>
  cases w2;cases w1 with
  | list ho j7=>exact ⟨_,_,ns,rfl,rfl,ho,SD ns _ j7,d7⟩
def UF(l:OpenLaw)(args:kQ WData):l.row.toRowW.claim.post args (.bool true) args=true :=
 postW_of (r:=l.row.toRowW) (X:=(true ==true))
  (show WShape.has [] (.bool true) .bool=true by first | rfl | decide | simp [WShape.has,WShape.arms,WShape.armsAll])
  (show (WTm.eq .res (.lit (.bool true))).value [] { args:=args,res:=some (.bool true),after:=args }=some (.bool (true ==true)) from w_eq_bool (w_res rfl) w_lit) rfl
def attach_call{l:OpenLaw}{n:Nat}{q:lq}{C6:kQ kR}{XP:(kR->kW kT)->kZ->Prop}{YP:lh->kZ->Prop}{d:DefRec}
  (hn:l.most=some n) (hdf:d.params.defaults=[])
  (call:∀(w:lh) (ly lz:kU) (mg mb:kR->kW kT) (fa:kS) (o:Obj) (pm cd w5:kT) (a:kS) (vs:kQ kT) (ns:kQ Int),
   Ground q C6 [] XP w ly mg mb lz.heap->YP w lz.heap ->
   lz.heap.get? fa=some o->o.data=.func (docDef d.name d.params d.body d.scope pm cd w5)->lz.heap.CodeRec cd d.name->mg d.name=some (.ref fa) ->
   lz.heap.get? a=some { cls:=.type "list",data:=.seq vs.toArray }->IntsAre vs ns->ns.length<=n->lz.gens=#[] ->
   codeAny (model l.prog w) callerA (.call (.ref fa) ⟨[.ref a],[]⟩) (fun r s'=>r=.ok (.ret (.bool true))/\OldK lz.heap s'.heap/\s'.os=lz.os/\AllBare s'.gens) lz) :
  WalkO q C6 XP YP l.row.toRowW d [] (fun f vs=>PySem.call f vs):=by
 intro w ly lz mg mb G Y fa o pm cd w5 dV kV ho hd B3 hD hmg hg args vals as V7 hlay hrd O3 hlo;obtain rfl:dV=.none:=Dflts.none hD hdf;obtain rfl:kV=.none:=Dflts.noKw hD;obtain ⟨a,vs,ns,rfl,rfl,hobj,Q1,d7⟩:=Rk hn V7 O3;refine enter_call (ud (call w ly lz mg mb fa o pm cd w5 a vs ns G Y ho (fd_plain hd) B3 hmg hobj Q1 d7 hg) fun r s' hq=>?_);obtain ⟨rfl,h2,h3,h4⟩:=hq;exact ⟨.inl ⟨.bool true,.bool true,[],rfl,fun _=>rfl,.bool true,UF l _,fun _=>⟨List.Pairwise.nil,fun _ hm=>(nomatch hm)⟩⟩,h2,h3,h4⟩
section
variable {prog:lq} {w:lh} {A:lu} {E:kT->kU->Prop} {s:kU} {K:kX}
def XW(h:kZ)(L d:kS):kQ (kS×Obj):=(List.range h.objs.size).filterMap fun a=>if a=L\/a=d then none else (h.get? a).map fun o=>(a,o)
end
end Att
namespace L2
open PySem PySem.Spec PyProof.Rows
theorem LR:∀{vs:kQ kT} {ns:kQ Int},IntsAre vs ns->Yc (ns.map V.int) vs
 | _,_,.nil=>.nil
 | _,_,.cons n t h=>.cons ⟨t,rfl⟩ (LR h)
end L2
/- THE LAST THEOREM (shape;LID,My.* are yours):
   My.Adr:a structure of the addresses that your layer names (classes,functions);My.Txt K t:a structure (Prop) of the equations over K;
   My.txt_mk:{K} {implicit addresses ..} (e1:nsIn K mainGlobals "law" =some (some (.ref f))) (e2:K.lookup f=some ⟨oc,od,.func (fnOf "law" "law" params body scope dV kV w5 pm an c6 ct),sl⟩) (e3:codeIn K c6 "law" =true) .. :∃t,My.Txt K t
(the tactic k_is has no namespace:write k_is) -/
namespace L2
open PySem PySem.Spec PyProof.Rows
def Ya(s:kY)(j:Nat):kY:=match s with
 | .ClassDef _ _ _ body _ _ _ _ _ _ _=>body.getD j (.Pass ⟨0,0,0,0⟩)
 | _=>.Pass ⟨0,0,0,0⟩
def Wu(s:kY):Arguments:=match s with
 | .FunctionDef _ a _ _ _ _ _ _ _ _=>a
 | _=>{ posonlyargs:=[],args:=[],vararg:=none,kwonlyargs:=[],kw_defaults:=[],kwarg:=none,defaults:=[] }
def Y4(s:kY):kQ kY:=match s with
 | .FunctionDef _ _ b _ _ _ _ _ _ _=>b
 | _=>[]
def Zj(s:kY):Scope:=match s with
 | .FunctionDef _ _ _ _ _ _ sc _ _ _=>sc
 | _=>{ kind:=.function,names:=[],isGenerator:=false,isCoroutine:=false }
abbrev nH:ue:=fun _ _ _ _ _ _=>False
abbrev E0:XK:=fun _ _ _=>False
def Z3:qR nH X E0:=fun _ _ _ _ _ _ _ h=>h.elim
structure pQ(K:Frag)(x qual:Str)(st:Stmt)(f:Addr)(fd:FuncData):Prop where
 ex:∃(oc:Value) (od:Option Addr) (kV w5 pm:Value) (an:Option Addr) (c6 ct:Value) (E4:Array (Option Value)),
  fd=fnOf x qual (Wu st) (Y4 st) (Zj st) .none kV w5 pm an c6 ct/\K.lookup f=some ⟨oc,od,.func fd,E4⟩/\codeIn K c6 qual=true
 kp:keepIn K (.ref f)=true
section
variable {P:lq} {w:lh} {K:kX} {mg:kR->kW kT} {lL:kZ}
def pQ.ok{x qual:kR}{st:kY}{f:kS}{fd:lv}{N ps:kQ kR}{k:Nat}{sp:Sp}(F:pQ K x qual st f fd)(S:Zw N ps (Zj st))(len:∀vs H Q E,sp vs H Q E->vs.length=ps.length)
  (m6:∀(c6:kT) (A:lu) (lJ:kQ Env) (s:kU) (H:Hp) (vs:kQ V) (Q:VK) (E:XK),Y5 k (A.deeper (envOfC qual (Zj st) s.heap.objs.size f c6))->sp vs H Q E ->
   ∃t,qd (nK nH P w K mg lL N qual (Zj st) f c6 A lJ s H E).nox (Y4 st) t/\t { nx:=fun _ H'=>Q .non H',rt:=Q } (start N vs) H):Xe P w K mg lL nH (k+1) f fd ps sp:=by
 obtain ⟨oc,od,kV,w5,pm,an,c6,ct,E4,rfl,lk,B3⟩:=F.ex;refine AV lk B3 S len fun A lJ s H vs Q E hr M6=>?_
 obtain ⟨t,h,q⟩:=m6 c6 A lJ s H vs Q E hr M6;exact ⟨t,h.nox,q⟩
def pQ.binds{x qual:kR}{st:kY}{f:kS}{fd:lv}{ps:kQ kR}(F:pQ K x qual st f fd)
  (h:∀(kV w5 pm:kT) (an:kW kS) (c6 ct:kT) (us:kQ kT),us.length=ps.length->bindArgs (fnOf x qual (Wu st) (Y4 st) (Zj st) .none kV w5 pm an c6 ct) ⟨us,[]⟩=pure (ps.zip us)):pr K fd ps []:=by
 obtain ⟨oc,od,kV,w5,pm,an,c6,ct,E4,rfl,lk,B3⟩:=F.ex;exact .all (h kV w5 pm an c6 ct)
def BG{x qual:kR}{st:kY}{f:kS}{oc:kT}{od an:kW kS}{E4:Array (kW kT)}{kV w5 pm c6 ct:kT}(l:K.lookup f=some ⟨oc,od,.func (fnOf x qual (Wu st) (Y4 st) (Zj st) .none kV w5 pm an c6 ct),E4⟩)
  (c:codeIn K c6 qual=true) (k:keepIn K (.ref f)=true):pQ K x qual st f (fnOf x qual (Wu st) (Y4 st) (Zj st) .none kV w5 pm an c6 ct):=⟨⟨oc,od,kV,w5,pm,an,c6,ct,E4,rfl,l,c⟩,k⟩
end
def Xi(hr:Y5 k A):A.units+1<cLine:=En (Nat.add_le_add_left (by left:1<=64) _) hr.units
def Zp(h:n<=1000):n<sizeLine:=En h (by left)
variable {X:Cx}
def pv(i:Nat)(hN:X.N[i]? =some x:=by rfl)(hv:zZ X.env.scope x:=by first | exact wv rfl | exact wx (wv rfl) | exact wx (wx rfl)) (hd:(x ==("__debug__" :kR))=false:=by left)
  (B3:(x ==("__classdict__" :kR))=false:=by left):PE X (.Name x pos) (qp i):=Rm hN hv hd B3
def Ui:Xc X (.builtin "len") (fun xs H Q=>∃a kvs,xs=[V.ref a]/\H a=some (.dK kvs)/\Q (.int kvs.length) H):=by
 intro a9 s σ H xs us Q I r h;obtain ⟨a,kvs,rfl,ha,q⟩:=h;obtain ⟨u,rfl,ru⟩:=W0 r;cases ru;exact QP I (.inl ha) fun t s' I'=>⟨.int kvs.length,H,I',⟨t,rfl⟩,q⟩
def X0{A B:Prop}(h:B):if false=true then A else B:=by
 rw [lY mX];exact h
def W7{A B:Prop}(h:A):if true=true then A else B:=by
 rw [lZ rfl];exact h
def Yj{c A B:Prop}[Decidable c](h1:c->A)(h2:¬c->B):if c then A else B:=by
 by_cases h:c
 ·rw [lZ h];exact h1 h
 ·rw [lY h];exact h2 h
def lK(H H':Hp):Prop:=∀b o,H b=some o->H' b=some o
def lK.refl(H:Hp):lK H H:=fun _ _ h=>h
def lK.trans(a:lK H H1)(b:lK H1 H2):lK H H2:=fun c o h=>b c o (a c o h)
def lK.free(e:lK H H')(h:H' l=Option.none):H l=Option.none:=by
 cases q:H l with
 | none=>rfl
 | some o =>
  rw [e l o q] at h;cases h
def lK.seq{K:kX}{H H':Hp}{a:kS}{xs:kQ V}(e:lK H H')(h:SqL K H a xs):SqL K H' a xs:=by
 rcases h with (h|⟨o,h⟩)|h
 ·exact .inl (.inl (e _ _ h))
 ·exact .inl (.inr ⟨o,e _ _ h⟩)
 ·exact .inr h
section
variable {κ:Type} [DecidableEq κ]
end
end L2
section
namespace L2
open PySem PySem.Spec PyProof.Rows
section
variable {R:Result->kU->Prop}
def Gw(I:Nat->kU->Prop)
  (K4:∀n s,I n s->wpAny (model prog w) A (pyNext it) (fun r lz=>match r with
   | none=>R (.ok .next) lz
   | some v=>wpAny (model prog w) A (letOwnedTupleGo B8 it v) (fun _ s₁'=>wpAny (model prog w) A (assign B8 env v) (fun _ lC =>
     wpAny (model prog w) A (forIn C8 true fun c r=>if r=true then do let ok <-isTrue c env (eval c env);pure (ForInStep.yield ok) else pure (ForInStep.yield r)) (fun ok lE =>
      if ok=true then wpAny (model prog w) A (eval E5 env) (fun x s₄ =>
       wpAny (model prog w) A (call (.builtin "list.append") [P4,x]) (fun _ s₅=>∃m,m<n/\I m s₅) (fun _ _=>False) s₄) (fun _ _=>False) lE
      else ∃m,m<n/\I m lE) (fun _ _=>False) lC) (fun _ _=>False) s₁') (fun _ _=>False) lz) (fun _ _=>False) s)
  (n:Nat) (h:I n s) :
  codeAny (model prog w) A (.compLoop (.ListComp E5 [⟨B8,i9,C8,0⟩] scope pos) 0 it P4 env) R s:=by
 refine codeAny_loop rfl I (fun n s hI=>?_) n h;show wpAny _ A ((compTurn (.ListComp E5 [⟨B8,i9,C8,0⟩] scope pos) 0 it P4 env).onRaise (fun x=>do noteFrame x env;theTreesLotGoes x)) _ _ s;refine wpAny_noted ?_;rw [compTurn_list];refine lT (xO (lT (oQ (K4 n s hI) (fun r lz h₁=>?_) fun _ _ h'=>h'.elim)));cases r with
 | none=>exact mi h₁
 | some v =>
  refine lT (oQ h₁ (fun _ s₁' h₁'=>?_) fun _ _ h'=>h'.elim);refine lT (oQ h₁' (fun _ lC lH=>lT (oQ lH (fun ok lE lI=>?_) fun _ _ h'=>h'.elim)) fun _ _ h'=>h'.elim);cases ok with
  | false=>exact mi ⟨rfl,lI⟩
  | true =>
   exact lT (lT (oQ lI (fun x s₄ h₄=>lT (oQ h₄ (fun _ s₅ lG=>mi (mi ⟨rfl,lG⟩)) fun _ _ h'=>h'.elim)) fun _ _ h'=>h'.elim))
end
def Y0(X:Cx)(scope:Scope)(cl:kQ (kR×kS))(N':kQ kR)(s:kU)(H:Hp)(C:kS)(ex:kQ kS):Cx where
 prog:=X.prog
 w:=X.w
 K:=X.K
 mg:=X.mg
 lL:=X.lL
 A:=X.A
 N:=N'
 ly:=s
 lB:=H
 env:=compEnvC scope cl C X.env
 lJ:=X.stack
 stack:=X.stack
 ex:=ex
 fn:=fun _=>false
 calm:=X.calm
 pn:=[]
 xe:=fun _ _=>False
structure Wf(X:Cx)(scope:Scope)(cl:List (Str×Addr))(N':List Str)(fr:St->St):Prop where
 kind:scope.kind=.function
 cell:∀y∈scope.names,y.2 ≠ .cell
 names:∀y∈scope.names,y.2=.local->scope.names.lookup y.1=some .local
 clos:closureFor scope X.env=pure cl
 sub:∀x c,cl.lookup x=some c->X.env.cells.lookup x=some c
 has:∀x,((relabel scope X.env).names.lookup x=some .cell\/(relabel scope X.env).names.lookup x=some .free)->∃c,cl.lookup x=some c
 len:∀σ:St,σ.length=X.N.length->(fr σ).length=N'.length
 fr:∀(σ:St) (i:Nat) (x:Str) (v:V),N'[i]? =some x->(fr σ)[i]? =some (some v)->zZ (relabel scope X.env) x ->
  ((relabel scope X.env).names.lookup x=some .cell\/(relabel scope X.env).names.lookup x=some .free) /\
  (X.env.kindOf x=some .cell\/X.env.kindOf x=some .free)/\∃j:Nat,X.N[j]? =some x/\σ[j]? =some (some v)
def X8(a b:St):Prop:=∀(i:Nat) (v:V),a[i]? =some (some v)->b[i]? =some (some v)
def X8.set(h:a[i]? =some none):X8 a (a.set i (some v)):=fun j u e=>by
 by_cases hj:i=j
 ·subst hj;rw [h] at e;cases e
 ·rw [EM hj];exact e
def X8.trans(h:X8 a b)(k:X8 b c):X8 a c:=fun i v e=>k i v (h i v e)
def PF(X:Cx)(C8:kQ li)(t:TT):Prop :=
 ∀(a9:kQ (kS×Obj)) (s:kU) (σ:St) (H:Hp) (Q:Bool->Hp->Prop),lQ X a9 σ H s->t σ H Q ->
  wpAny (model X.prog X.w) X.A (forIn C8 true fun c r=>if r=true then do let ok <-isTrue c X.env (eval c X.env);pure (ForInStep.yield ok) else pure (ForInStep.yield r)) (TP X a9 σ Q) X.xe s
def xS:TT:=fun _ H Q=>Q true H
def Wk:PF X [] xS:=fun _ _ _ H _ I h=>wpAny_tests_nil ⟨H,I,h⟩
def rP(h:PT X c t):PF X [c] t:=fun a9 s σ H Q I hq=>wpAny_tests_one (h a9 s σ H Q I hq)
def pS(J:It)(fr:St->St)(g:TG)(tf:TT)(te:TE)(Q:VK)(σ:St)(H1:Hp)(D:kS):Prop :=
 ∃W:Nat->Nat->kQ V->Hp->Prop,(∃m,W 0 m [] (upd H1 D (.lst [])))/\∀i m ys H,W i m ys H ->
  (J.stop i H/\Q (.ref D) H)\/(J.go i H/\∃N:kQ V->Hp->Prop,(∀V3 H',N V3 H'->∃m',m'<m/\W (i+1) m' V3 H') /\
   ∀x H',J.yld i H x H'->g x (fr σ) H' fun σ2 H2=>X8 (fr σ) σ2/\tf σ2 H2 fun b H3 =>
    if b=true then te σ2 H3 fun y H4=>H4 D=some (.lst ys)/\ys.length<sizeLine/\N (ys++[y]) (upd H4 D (.lst (ys++[y]))) else N ys H3)
def zJ(wi:TI)(fr:St->St)(g:TG)(tf:TT)(te:TE):TE:=fun σ H Q=>wi σ H fun J H1=>∀D,H1 D=none->pS J fr g tf te Q σ H1 D
section
variable {X:Cx} {fr:St->St}
def UY(I:lQ X a9 σ H s)(S:Wf X scope cl N' fr)(hC:s.heap.objs.size<=C)(hf:∀b∈fp,rA X a9 H b)(ho:∀b∈fp,∃o,s.heap.get? b=some o):(Y0 X scope cl N' s H C fp).Ok where
 mod:=I.ok.mod
 kind:=S.kind
 glob:=I.ok.glob
 blt:=I.ok.blt
 above:=hC
 inj:=fun x y c h1 h2=>I.ok.inj x y c (S.sub x c h1) (S.sub y c h2)
 has:=fun x h=>S.has x h
 cab:=fun x c h=>absurd (show false=true from h) mX
 hd:=I.ok.hd
 frames:=I.ok.frames
 stk:=.inl rfl
 exf:=fun b hb=>by
  obtain ⟨o,e⟩:=ho b hb;refine ⟨mC (oN (mo e) hC),fun x c h=>(hf b hb).2.2.2.2.1 x c (S.sub x c h)⟩
 bs:=I.bs
 bsz:=nj I.ok.bsz I.sz
 noex:=fun b o e hb=>by
  rcases (hf b hb).2.2.2.1 with z|z
  ·exact I.ok.noex b o e z
  ·exact absurd (oN (mo e) (nj I.ok.bsz z)) (pU _)
 exfs:=fun b hb z=>by
  rcases mI.mp (I.stkSub b z) with q|q
  ·exact (hf b hb).2.1 q
  ·exact (hf b hb).2.2.1 q
 funs:=I.stack
 frf:=I.stkFree
def Ij{m₁:kR->kW kT}(I:lQ X a9 σ H s)(S:Wf X scope cl N' fr)(hC:s.heap.objs.size<C)(hD:D=s.heap.objs.size)(hf:∀b∈fp,rA X a9 H b)(ho:∀b∈fp,∃o,s.heap.get? b=some o)
  (old:∀b o,s.heap.get? b=some o->h₁.get? b=some o) (hl:h₁.get? D=some { cls:=.type "list",data:=.seq ([]:kQ kT).toArray 0 }) (hn:h₁.Ns C m₁) (hCz:h₁.objs.size<=C+1) :
  lQ (Y0 X scope cl N' s H C fp) [] (fr σ) (upd H D (.lst [])) { s with heap:=h₁,toks:=tk }:=by
 have fD:H D=none:=I.hok.fresh (vI hD.symm);have fC:H C=none:=I.hok.fresh (tT hC);have hDC:D≠C:=by rw [hD];exact mC hC
 refine ⟨UY I S (tT hC) hf ho,rfl,I.bare,Un.laid old (vI hD.symm) fD,⟨m₁,hn,fun i x v e1 e2 e3=>?_⟩,fun x c e=>?_,?_,fun x c e=>?_,fun p hp=>absurd (show p∈([]:kQ (kS×Obj)) from hp) (by simp),?_,S.len σ I.len⟩
 ·obtain ⟨k1,k2,j,j1,j2⟩:=S.fr σ i x v e1 e2 e3;obtain ⟨c,hc⟩:=S.has x k1;have J8:=S.sub x c hc;obtain ⟨m,_,L9⟩:=I.loc;obtain ⟨u,r,l⟩:=L9 j x v j1 j2 (by rcases k2 with k|k;exact .inr (.inl k);exact .inr (.inr k));refine ⟨u,r,.inr ⟨k1,c,hc,?_⟩⟩;rcases l with ⟨k,_⟩|⟨_,c2,T8,o,z,d⟩
  ·rcases k2 with q|q <;>(rw [k] at q;cases q)
  ·rw [J8] at T8;cases T8;exact ⟨o,old _ _ z,d⟩
 ·obtain ⟨v,o,z,d⟩:=I.cell x c (S.sub x c e);exact ⟨v,o,old _ _ z,d⟩
 ·show upd H D (.lst []) C=none;rw [Zd hDC.symm];exact fC
 ·show upd H D (.lst []) c=none;rw [Zd (fun z=>?_)]
  ·exact I.freeC x c (S.sub x c e)
  ·obtain ⟨v,o,q,d⟩:=I.cell x c (S.sub x c e);have:=mo q;rw [z,hD] at this;exact pU _ this
 ·exact I.hok.laid old (vI hD.symm) ⟨oJ _,[],0,.nil,hl⟩
def IW(I:lQ X a9 σ H s)(hC:s.heap.objs.size<C)(hf:∀b∈fp,rA X a9 H b)(J:lQ (Y0 X scope cl N' s H C fp) [] (fr σ) H' s2)(hs:Heap.SameBut C s2.heap h') :
  lQ X a9 σ H' { s2 with heap:=h' }:=by
 have fC:H' C=none:=J.free;have u:Un (mJ X.stack) fp H H' s.heap s2.heap:=J.lL;have ne:∀b o,s.heap.get? b=some o->b≠C:=fun b o e=>mC (pV (mo e) hC)
 have u2:Un (mJ X.stack) fp H H' s.heap h':=by
  refine ⟨fun b o e n hb hx=>?_,fun b o e n hb hx=>?_,u.free,fun b o e hx=>?_,u.tups,u.frzs,u.tbls⟩
  ·rw [hs.2 b (ne b o e)];exact u.keep b o e n hb hx
  ·obtain ⟨sl,q⟩:=u.slot b o e n hb hx;exact ⟨sl,by rw [hs.2 b (ne b o e)];exact q⟩
  ·obtain ⟨o',q⟩:=u.there b o e hx;exact ⟨o',by rw [hs.2 b (ne b o e)];exact q⟩
 have hok:mT X.prog X.w H' h':=fun b o e=>by
  refine (J.hok b o e).stay (fun c v hc q=>?_) (fun _ q=>q) fun _ _ q=>q
  have nc:c≠C:=by
   rintro rfl;rcases hc with z|z
   ·rw [<-z,fC] at e;cases e
   ·rw [fC] at z;cases z
  rw [hs.2 c nc];exact q
 refine I.call' (s':={ s2 with heap:=h' }) (ch:=fp) J.os u2 hok J.bare fun b hb=>?_
 obtain ⟨_,f1,f2,f3,f4,f5⟩:=hf b hb;exact ⟨f3,f1,f4,f5⟩
end
def RR{fr:St->St}
  (hc:X.calm=true) (S:Wf X scope cl N' fr) (hi:PI X tg i9 wi) (hg:∀s H C ex,PG (Y0 X scope cl N' s H C ex) tg g) (hf:∀s H C ex,PF (Y0 X scope cl N' s H C ex) C8 tf)
  (he:∀s H C ex,PE (Y0 X scope cl N' s H C ex) E5 te) (hs:∀x,foldedSetIterable i9 X.env x=pure x:=by intro _;rfl):PE X (.ListComp E5 [⟨tg,i9,C8,0⟩] scope pos) (zJ wi fr g tf te):=by
 intro a9 s σ H Q I h;rw [eval_ListComp];refine Fl (use:=none) rfl hs S.clos S.kind S.names (ma (hi a9 s σ H _ I h) fun v s1 h1=>ma h1 fun itv s2 h2=>?_);obtain ⟨it,fp,tn,J,H2,e,I2,T,st2,f2,q⟩:=h2;subst e;refine tI (Bc S.cell (by intro y hy;simp at hy) (fun h₁ K0 B2=>?_) S.kind);dsimp only at K0 B2 ⊢;generalize hP:s2.heap.push { cls:=.type "list",dict:=none,data:=.seq ([]:kQ kT).toArray }=P at K0 B2 ⊢;have hPz:P.objs.size=s2.heap.objs.size+1:=by rw [<-hP,se]
 have U0:s2.heap.objs.size<P.objs.size:=by rw [hPz];exact yg _
 have V8:∀b∈fp,∃o,s2.heap.get? b=some o:=fun b hb=>let ⟨o,e,_⟩:=T.obj _ _ st2 b hb;⟨o,e⟩
 have E6:∀b,b<s2.heap.objs.size->b≠P.objs.size:=fun b hb=>mC (pV hb U0)
 have old:∀b o,s2.heap.get? b=some o->h₁.get? b=some o:=fun b o e=>B2.extBut b o (E6 b (mo e)) (my _ (hP ▸ my _ e))
 have A6:h₁.get? s2.heap.objs.size=some { cls:=.type "list",data:=.seq ([]:kQ kT).toArray 0 }:=B2.extBut _ _ (mC U0) (my _ (hP ▸ nG _ rfl));have fD:H2 s2.heap.objs.size=none:=I2.hok.fresh (mn _);obtain ⟨W,⟨m0,w0⟩,K4⟩:=q s2.heap.objs.size fD;have hz:h₁.objs.size<=P.objs.size+1:=by
  have e:=B2.1;rw [se] at e;exact vI e
 have st1:tn 0 h₁:=T.keep _ _ _ st2 fun b hb o e=>old b o e
 have B5:∀{p8:kQ (kS×Obj)} {H':Hp},(∀p∈p8,p.1∉fp)->(∀b∈fp,H' b=none)->∀b∈fp,rA (Y0 X scope cl N' s2 H2 P.objs.size fp) p8 H' b:=fun {p8 H'} hp hn b hb=>by
  obtain ⟨o,e⟩:=V8 b hb;obtain ⟨_,f1,f2',f3,f4,f5⟩:=f2 b hb;refine ⟨hn b hb,E6 b (mo e),fun z=>?_,.inl hb,fun x c h=>f4 x c (S.sub x c h),fun p hp' z=>?_⟩
  ·rcases mI.mp (I2.stkSub b z) with q|q
   ·exact f1 q
   ·exact f2' q
  ·have hp2:p∈p8:=by simpa [Y0] using hp'
   exact hp p hp2 (by rw [z];exact hb)
 have loop:∀s3:kU,s3={ s2 with heap:=h₁,toks:=s2.toks+([]:kQ (kR×kT)).length } ->
   codeAny (model X.prog X.w) X.A (.compLoop (.ListComp E5 [⟨tg,i9,C8,0⟩] scope pos) 0 (.ref it) (.ref s2.heap.objs.size) (compEnvC scope cl P.objs.size X.env)) (compPost (model X.prog X.w) X.A X.xe none (EP X a9 σ Q) (.ref s2.heap.objs.size) P.objs.size) s3:=by
  rintro s3 rfl;have I3:lQ (Y0 X scope cl N' s2 H2 P.objs.size fp) [] (fr σ) (upd H2 s2.heap.objs.size (.lst [])) { s2 with heap:=h₁,toks:=s2.toks+([]:kQ (kR×kT)).length }:=Ij I2 S U0 rfl f2 V8 old A6 K0 hz;refine Gw (fun n s'=>∃i ys H',lQ (Y0 X scope cl N' s2 H2 P.objs.size fp) [] (fr σ) H' s'/\tn i s'.heap/\(∀b∈fp,H' b=none)/\W i n ys H') ?_ m0 ⟨0,[],_,I3,st1,fun b hb=>?_,w0⟩
  ·rintro n s3 ⟨i,ys,H3,I3,st3,fr3,w3⟩;rcases K4 i n ys H3 w3 with ⟨stop,qn⟩|⟨go,N,hN,step⟩
   ·refine ma (T.done (Y0 X scope cl N' s2 H2 P.objs.size fp) rfl rfl rfl hc i [] s3 (fr σ) H3 _ I3 (B5 (by simp) fr3) st3 stop) fun r s4 ⟨hr,I4⟩=>?_
    subst hr;obtain ⟨m4,hn4,_⟩:=I4.loc;exact ⟨m4,hn4,fun h' O0=>⟨.ref s2.heap.objs.size,H3,IW I2 U0 f2 I4 O0,rfl,qn⟩⟩
   ·refine ma (T.item (Y0 X scope cl N' s2 H2 P.objs.size fp) rfl rfl rfl hc i [] s3 (fr σ) H3 _ I3 (B5 (by simp) fr3) st3 go) fun r s4 ⟨u,hr,h4⟩=>?_
    subst hr;refine ma h4 fun _ s5 h9=>?_
    obtain ⟨x,H5,I5,r5,y5,Q5,fr5⟩:=h9;have I5':=I5.pinned (B5 (by simp) fr5) (T.obj _ _ Q5);refine ma (hg s2 H2 P.objs.size fp _ s5 (fr σ) H5 x u _ I5' r5 (step x H5 y5)) fun _ s6 ⟨σ6,H6,I6,kp,q6⟩=>?_
    refine ma (hf s2 H2 P.objs.size fp _ s6 σ6 H6 _ I6 q6) fun ok s7 ⟨H7,I7,q7⟩=>?_
    have A4:∀{σ8:St} {H8:Hp} {s8:kU} {ys8:kQ V},X8 (fr σ) σ8->lQ (Y0 X scope cl N' s2 H2 P.objs.size fp) ([]++xw fp s5.heap) σ8 H8 s8->N ys8 H8 ->
      ∃m,m<n/\∃i ys H',lQ (Y0 X scope cl N' s2 H2 P.objs.size fp) [] (fr σ) H' s8/\tn i s8.heap/\(∀b∈fp,H' b=none)/\W i m ys H':=fun {σ8 H8 s8 ys8} kp8 I8 n8=>by
     obtain ⟨m',hm,w8⟩:=hN ys8 H8 n8;refine ⟨m',hm,i+1,ys8,H8,(I8.unpinned).weak (by rw [I8.len];exact S.len σ I2.len) kp8,T.keep _ _ _ Q5 fun b hb o e=>(I8.pin (b,o) (pq _ (pq _ (wf hb e)))).1,fun b hb=>?_,w8⟩;obtain ⟨o,e,d⟩:=T.obj _ _ Q5 b hb;exact (I8.pin (b,o) (pq _ (pq _ (wf hb e)))).2.1
    cases ok with
    | false=>exact A4 kp I7 q7
    | true =>
     refine ma (he s2 H2 P.objs.size fp _ s7 σ6 H7 _ I7 q7) fun uy s8 h9=>?_
     obtain ⟨y,H8,I8,r8,hD8,hz8,q8⟩:=h9;exact ma (EU _ s8 σ6 H8 (.ref s2.heap.objs.size) [y] (.ref s2.heap.objs.size) [uy] (fun _ H9=>N (ys++[y]) H9) I8 rfl (.cons r8 .nil) ⟨_,ys,y,rfl,rfl,hD8,hz8,q8⟩) fun _ s9 ⟨v9,H9,I9,_,q9⟩=>A4 kp I9 q9
  ·show upd H2 s2.heap.objs.size (.lst []) b=none;obtain ⟨o,e⟩:=V8 b hb;rw [Zd (mC (mo e))];exact (f2 b hb).1
 exact codeAny_compStart_list (loop _ rfl) (T.self X.A 0 _ _ _ st1 (loop _ rfl))
section
variable {K:kX} {a:kS} {fr:St->St} {g:TG} {tf:TT} {te:TE} {Q:VK} {σ:St} {H1:Hp} {D:kS}
def Wi(fr:St->St)(g:TG)(tf:TT)(te:TE)(σ:St)(D:kS)(x:V)(ys:kQ V)(H:Hp)(N:kQ V->Hp->Prop):Prop :=
 g x (fr σ) H fun σ2 H2=>X8 (fr σ) σ2/\tf σ2 H2 fun b H3=>if b=true then te σ2 H3 fun y H4=>H4 D=some (.lst ys)/\ys.length<sizeLine/\N (ys++[y]) (upd H4 D (.lst (ys++[y]))) else N ys H3
def Xv(Pv:Nat->kQ V->Hp->Prop)(h0:Pv 0 [] (upd H1 D (.lst [])))(hl:∀i ys H,i<=xs.length->Pv i ys H->SqL K H a xs)
  (hs:∀i x ys H,xs[i]? =some x->Pv i ys H->Wi fr g tf te σ D x ys H (Pv (i+1))) (hd:∀ys H,Pv xs.length ys H->Q (.ref D) H):pS (rc K a) fr g tf te Q σ H1 D:=by
 refine ⟨fun i m ys H=>m=xs.length-i/\i<=xs.length/\Pv i ys H,⟨xs.length,by simp,oJ _,h0⟩,?_⟩;rintro i m ys H ⟨rfl,hi,p⟩;have q:=hl i ys H hi p
 by_cases c8:i<xs.length
 ·refine .inr ⟨⟨xs,xs[i],q,by simp [c8]⟩,Pv (i+1),fun V3 H' p'=>⟨xs.length-(i+1),by lia,rfl,c8,p'⟩,fun x H' y=>?_⟩;obtain ⟨e,y⟩:=y;subst e;exact hs i x ys _ (y xs q) p
 ·have e:i=xs.length:=by lia
  subst e;exact .inl ⟨⟨xs,q,mn _⟩,hd ys H p⟩
def BX(Pv:Nat->kQ V->Hp->Prop)(h0:Pv 0 [] (upd H1 D (.lst [])))(hl:∀i ys H,i<=xs.length->Pv i ys H->SqT K H a xs)
  (hs:∀i x ys H,xs[i]? =some x->Pv i ys H->Wi fr g tf te σ D x ys H (Pv (i+1))) (hd:∀ys H,Pv xs.length ys H->Q (.ref D) H):pS (wV K a) fr g tf te Q σ H1 D:=by
 refine ⟨fun i m ys H=>m=xs.length-i/\i<=xs.length/\Pv i ys H,⟨xs.length,by simp,oJ _,h0⟩,?_⟩;rintro i m ys H ⟨rfl,hi,p⟩;have q:=hl i ys H hi p
 by_cases c8:i<xs.length
 ·refine .inr ⟨⟨xs,xs[i],q,by simp [c8]⟩,Pv (i+1),fun V3 H' p'=>⟨xs.length-(i+1),by lia,rfl,c8,p'⟩,fun x H' y=>?_⟩;obtain ⟨e,y⟩:=y;subst e;exact hs i x ys _ (y xs q) p
 ·have e:i=xs.length:=by lia
  subst e;exact .inl ⟨⟨xs,q,mn _⟩,hd ys H p⟩
def Vs{lo:Int}{n:Nat}(Pv:Nat->kQ V->Hp->Prop)(h0:Pv 0 [] (upd H1 D (.lst [])))
  (hs:∀i ys H,i<n->Pv i ys H->Wi fr g tf te σ D (.int (lo+i)) ys H (Pv (i+1))) (hd:∀ys H,Pv n ys H->Q (.ref D) H):pS (uS lo n) fr g tf te Q σ H1 D:=by
 refine ⟨fun i m ys H=>m=n-i/\i<=n/\Pv i ys H,⟨n,by simp,oJ _,h0⟩,?_⟩;rintro i m ys H ⟨rfl,hi,p⟩
 by_cases c8:i<n
 ·refine .inr ⟨c8,Pv (i+1),fun V3 H' p'=>⟨n-(i+1),by lia,rfl,c8,p'⟩,fun x H' y=>?_⟩;obtain ⟨e,y⟩:=y;subst e y;exact hs i ys _ c8 p
 ·have e:i=n:=by lia
  subst e;exact .inl ⟨mn _,hd ys H p⟩
def Cy(x:kR):It:=⟨fun i _=>i<x.cps.size,fun i H v H'=>H'=H/\∃c,x.cps[i]? =some c/\v=.str ⟨#[c]⟩,fun i _=>x.cps.size<=i⟩
def Rh(Pv:Nat->kQ V->Hp->Prop)(h0:Pv 0 [] (upd H1 D (.lst [])))
  (hs:∀i c ys H,x.cps[i]? =some c->Pv i ys H->Wi fr g tf te σ D (.str ⟨#[c]⟩) ys H (Pv (i+1))) (hd:∀ys H,Pv x.cps.size ys H->Q (.ref D) H):pS (Cy x) fr g tf te Q σ H1 D:=by
 refine ⟨fun i m ys H=>m=x.cps.size-i/\i<=x.cps.size/\Pv i ys H,⟨x.cps.size,by simp,oJ _,h0⟩,?_⟩;rintro i m ys H ⟨rfl,hi,p⟩
 by_cases c8:i<x.cps.size
 ·refine .inr ⟨c8,Pv (i+1),fun V3 H' p'=>⟨x.cps.size-(i+1),by lia,rfl,c8,p'⟩,fun v H' y=>?_⟩;obtain ⟨e,c,hc,ev⟩:=y;subst e ev;exact hs i c ys _ hc p
 ·have e:i=x.cps.size:=by lia
  subst e;exact .inl ⟨mn _,hd ys H p⟩
end
def VS{P:lq}{w:lh}{K:kX}{tg:li}(it:kS)(x:kR)(t:Tok):uK P w K tg (Cy x) [it] it (fun i h=>h.IsStrIter it "str_ascii_iterator" x t i) where
 mem:=by simp
 obj:=fun i h st b hb=>by
  have e:b=it:=by simpa using hb
  subst e;obtain ⟨o,e,c,d⟩:=st;exact ⟨o,e,fun v z=>by rw [d] at z;cases z⟩
 keep:=fun i h h' st k=>by
  obtain ⟨o,e,r⟩:=st;exact ⟨o,k it (by simp) o e,r⟩
 item:=by
  intro X hP hw hK hc i a9 s σ H E I hf st hg;subst hP hw hK;obtain ⟨f0,f1,f2,f3,f4,f5⟩:=hf it (by simp);have c8:i<x.cps.size:=hg;refine wpAny_pyNext_ascii_item st (c:=x.cps[i]) (by simp [c8]) fun h' u5 sb=>?_
  have I1:lQ X a9 σ H { s with heap:=h',toks:=s.toks+1 }:=I.turned (fun b o hb e=>(sb.2 b hb).trans e) f0 f1 f3 f4 f5;obtain ⟨o,e,c,d⟩:=id u5;exact ⟨_,rfl,xZ (s:={ s with heap:=h',toks:=s.toks+1 }) e c d (by left) ⟨.str ⟨#[x.cps[i]]⟩,H,I1,⟨_,rfl⟩,⟨rfl,_,by simp [c8],rfl⟩,u5,fun b hb=>(hf b hb).1⟩⟩
 done:=by
  intro X hP hw hK hc i a9 s σ H E I hf st hg;subst hP hw hK;obtain ⟨f0,f1,f2,f3,f4,f5⟩:=hf it (by simp);have D9:x.cps.size<=i:=hg;exact wpAny_pyNext_ascii_end (I.ok.hd hc) st (by simp [D9]) fun h' eb=>⟨rfl,I.turned (t':=s.toks) (fun b o hb e=>eb b o hb e) f0 f1 f3 f4 f5⟩
 self:=fun _ _ _ _ _ st h=>wpAny_pyIter_striter_ascii st h
def Rn(tl:TE):TI:=fun σ H R=>tl σ H fun v H1=>∃x,v=.str x/\x.cps.all (· < 128)=true/\R (Cy x) H1
def Ow{X:Cx}{tg l:li}{tl:TE}(hl:PE X l tl):PI X tg l (Rn tl):=by
 intro a9 s σ H R I h;refine ma (hl a9 s σ H _ I h) fun v s1 ⟨y,H1,I1,r1,q1⟩=>?_
 obtain ⟨x,e,ha,q⟩:=q1;subst e;obtain ⟨t,rfl⟩:=r1;refine wpAny_pyIter_ascii ha ?_;refine ⟨s1.heap.objs.size,[s1.heap.objs.size],_,_,H1,rfl,I1.kept (t':=s1.toks) fun b o e=>my _ e,VS _ x t,⟨_,nG _ rfl,rfl,rfl⟩,fun b hb=>?_,q⟩;have e:b=s1.heap.objs.size:=by simpa using hb
 subst e;exact I1.fpOk (mn _) (I1.hok.fresh (mn _))
theorem Yc.at_bool:∀{bs:kQ Bool} {us:kQ kT} {i:Nat} {u:kT},Yc (bs.map V.bl) us->us[i]? =some u->∃b,bs[i]? =some b/\u=.bool b
 | [],_,_,_,.nil,e=>by simp at e
 | b ::bs,_,0,u,.cons r _,e=>by
  simp at e;subst e;exact ⟨b,rfl,r⟩
 | b ::bs,_,i+1,u,.cons _ t,e=>by
  obtain ⟨c,h1,h2⟩:=Yc.at_bool (i:=i) t (by simpa using e);exact ⟨c,by simpa using h1,h2⟩
def Ob(bs:kQ Bool):(List.range bs.length).all (fun i=>bs.getD i false)=bs.all id:=by
 have e:(List.range bs.length).map (fun i=>bs.getD i false)=bs:=by
  apply List.ext_getElem
  ·simp
  ·intro i h1 h2;simp at h1;simp [h1]
 calc (List.range bs.length).all (fun i=>bs.getD i false)=((List.range bs.length).map (fun i=>bs.getD i false)).all id:=by rw [List.all_map];rfl
  _=bs.all id:=by rw [e]
def UH(hc:X.calm=true):Xc X (.builtin "all") (fun xs H Q=>∃(p:kS) (bs:kQ Bool),xs=[.ref p]/\SqL X.K H p (bs.map V.bl)/\Q (.bl (bs.all id)) H):=by
 intro a9 s σ H xs us Q I r h;obtain ⟨p,bs,rfl,hq,q⟩:=h;obtain ⟨u,rfl,ru⟩:=W0 r;cases ru;obtain ⟨b9,rv,pl,hz⟩:=I.list hq;have c8:p<s.heap.objs.size:=by obtain ⟨_,_,e,_⟩:=pl;exact mo e
 refine call_all_walk (vA pl.isList ?_);refine ⟨s.heap.objs.size,_,_,b9.toArray.size,_,_,fun i=>bs.getD i false,rfl,Ae (A:=X.A.in1) (show X.A.in1.handled=none from I.ok.hd hc) s.heap.objs.size p (mC c8) b9.toArray,⟨⟨_,nG _ rfl,rfl,rfl⟩,pl.isList.push _⟩,?_,fun h' tk k=>?_⟩
 ·intro i v s' Q' E' hv hQ;obtain ⟨b,hb,rfl⟩:=Yc.at_bool (i:=i) rv (by simpa using hv);refine uM ?_;have e:bs.getD i false=b:=by rw [rn,hb];rfl
  have hQ':Q' (bs.getD i false) s':=hQ;rw [e] at hQ';exact hQ'
 ·have hl:=rv.length;rw [lV] at hl;refine ⟨.bl (bs.all id),H,?_,?_,q⟩
  ·refine I.kept (t':=tk) fun b o e=>k b o ?_ (my _ e)
   have:=mo e;intro z;have z':b=s.heap.objs.size:=by simpa using z
   rw [z'] at this;exact pU _ this
  ·show Value.bool ((List.range b9.toArray.size).all fun i=>bs.getD i false)=Value.bool (bs.all id);rw [ny,<-hl,Ob]
def Vh:Xc X (.builtin "isinstance") (fun xs H Q=>∃x c b t,xs=[x,c]/\Xl X.K H x t/\((∃n,c=.ty n/\kitOne X.K t (.type n)=some b)\/∃a,c=.ref a/\kitOne X.K t (.ref a)=some b)/\Q (.bl b) H):=by
 intro a9 s σ H xs us Q I r h;obtain ⟨x,c,b,t,rfl,ty,k,q⟩:=h;obtain ⟨u,w',rfl,rx,z7⟩:=uP r;rcases k with ⟨n,rfl,k⟩|⟨a,rfl,k⟩
 ·cases z7;exact KJ I rx ty k fun tk=>⟨.bl b,H,I.tok tk,rfl,q⟩
 ·cases z7;exact KJ I rx ty k fun tk=>⟨.bl b,H,I.tok tk,rfl,q⟩
def Io:V->kW Int->kW Int->Hp->VK->Prop:=fun x lo hi H Q=>∃z,x=.str z/\z.length<=sizeLine/\Q (.str (Txt.slice z lo hi)) H
def Rs:qM X Io:=by
 intro a9 s σ H x v vl vu lo hi sl Q I rx hs pl pu h;obtain ⟨z,rfl,hz,q⟩:=h;obtain ⟨t,rfl⟩:=rx;refine ⟨"str",_,F.slot_str_getitem.lookup,typeIs_str _ _ _,?_⟩;obtain ⟨o,ho,hc,hd⟩:=hs;cases pl with
 | none =>
  cases pu with
  | none=>exact Al (l:=none) (u:=none) (st:=none) ⟨o,ho,hc,hd⟩ rfl (zX ⟨nj (zS z none none) hz,fun t' k=>⟨.str (Txt.slice z none none),H,I.tok k,⟨t',rfl⟩,q⟩⟩)
  | int j tj=>exact Al (l:=none) (u:=some (j,tj)) (st:=none) ⟨o,ho,hc,hd⟩ rfl (zX ⟨nj (zS z none (some j)) hz,fun t' k=>⟨.str (Txt.slice z none (some j)),H,I.tok k,⟨t',rfl⟩,q⟩⟩)
 | int i ti =>
  cases pu with
  | none=>exact Al (l:=some (i,ti)) (u:=none) (st:=none) ⟨o,ho,hc,hd⟩ rfl (zX ⟨nj (zS z (some i) none) hz,fun t' k=>⟨.str (Txt.slice z (some i) none),H,I.tok k,⟨t',rfl⟩,q⟩⟩)
  | int j tj=>exact Al (l:=some (i,ti)) (u:=some (j,tj)) (st:=none) ⟨o,ho,hc,hd⟩ rfl (zX ⟨nj (zS z (some i) (some j)) hz,fun t' k=>⟨.str (Txt.slice z (some i) (some j)),H,I.tok k,⟨t',rfl⟩,q⟩⟩)
def Ig(M:St->Hp->St->Hp->Prop)(t:TS):TS:=fun D σ H=>t { D with nx:=M σ H } σ H/\∀σ' H',M σ H σ' H'->D.nx σ' H'
def SZ{X:Cx}{st:kY}{t:TS}(M:St->Hp->St->Hp->Prop)(h:PS X st t):PS X st (Ig M t):=by
 intro a9 s σ H D I hq;refine ma (h a9 s σ H { D with nx:=M σ H } I hq.1) fun f s' q=>?_
 cases f with
 | next=>obtain ⟨σ',H',I',m⟩:=q;exact ⟨σ',H',I',hq.2 σ' H' m⟩
 | brk=>exact q
 | cont=>exact q
 | ret u=>exact q
def yE:li->Bool
 | .Starred .. =>false
 | _=>true
def xQ(h:yE e=true):starEach (e ::es) env=(false,eval e env) ::starEach es env:=by
 cases e <;>first
  | rfl
  | exact absurd h mX
def Zb(ha:PE X e te)(hr:PA X es t)(h:yE e=true:=by rfl):PA X (e ::es) (sF te t):=Sj ha hr (xQ h)
structure WSs(X:Cx)(b:List Stmt)(D:oV)(σ:St)(H:Hp):Prop where
 run:∀(a9:List (Addr×Obj)) (s:Shared),lQ X a9 σ H s->wpAny (model X.prog X.w) X.A (execs b X.env) (SP X a9 D) X.xe s
structure WS(X:Cx)(st:Stmt)(D:oV)(σ:St)(H:Hp):Prop where
 run:∀(a9:List (Addr×Obj)) (s:Shared),lQ X a9 σ H s->wpAny (model X.prog X.w) X.A (exec st X.env) (SP X a9 D) X.xe s
structure WE(X:Cx)(e:Expr)(σ:St)(H:Hp)(Q:VK):Prop where
 run:∀(a9:List (Addr×Obj)) (s:Shared),lQ X a9 σ H s->wpAny (model X.prog X.w) X.A (eval e X.env) (EP X a9 σ Q) X.xe s
section
variable {X:Cx} {b Zz:kQ kY} {st:kY} {e:li} {D:oV} {σ:St} {H:Hp} {t:TS} {te:TE} {Q:VK}
def Zn:qd X b (WSs X b):=fun a9 s _ _ _ I h=>h.run a9 s I
def XR:PS X st (WS X st):=fun a9 s _ _ _ I h=>h.run a9 s I
def yM:PE X e (WE X e):=fun a9 s _ _ _ I h=>h.run a9 s I
def WSs.of(h:qd X b t)(q:t D σ H):WSs X b D σ H:=⟨fun a9 s I=>h a9 s σ H D I q⟩
def WS.of(h:PS X st t)(q:t D σ H):WS X st D σ H:=⟨fun a9 s I=>h a9 s σ H D I q⟩
def WE.of(h:PE X e te)(q:te σ H Q):WE X e σ H Q:=⟨fun a9 s I=>h a9 s σ H Q I q⟩
def WSs.step(h:PS X st t)(q:t { D with nx:=WSs X Zz D } σ H):WSs X (st ::Zz) D σ H:=WSs.of (WT h Zn) q
def WSs.last(h:PS X st t)(q:t D σ H):WSs X [st] D σ H:=WSs.of (Rf h) q
def WSs.nil(q:D.nx σ H):WSs X [] D σ H:=WSs.of Zk q
def WSs.cut(M:St->Hp->Prop)(h:WS X st { D with nx:=M } σ H)(k:∀σ' H',M σ' H'->WSs X Zz D σ' H'):WSs X (st ::Zz) D σ H:=by
 refine WSs.step (t:=Ig (fun _ _=>M) (WS X st)) (SZ (fun _ _=>M) XR) ⟨h,fun σ' H' m=>k σ' H' m⟩
end
def Tl(hk:PE X k tk)(hv:PE X v tv):PE X (.Dict [some k] [v] pos) (GT [(tk,tv)]):=Ri (Ox hk hv Vv) rfl rfl (by simp) (by show 1<=15;decide)
def tw{α:Type}(P:α->Prop):kQ α->Prop
 | []=>True
 | a ::l=>P a/\tw P l
theorem tw.mem{α:Type}{P:α->Prop}:∀{l:kQ α} {a:α},tw P l->a∈l->P a
 | _ ::_,a,h,m=>by
  rcases mI.mp m with rfl|m
  ·exact h.1
  ·exact tw.mem h.2 m
theorem Ii{env:Env}:∀{names:kQ (kR×NameKind)} {x:kR},names.lookup x=some .free ->
  (names.map fun (n,k)=>if (k ==NameKind.free && env.scope.kind ==.function && env.kindOf n ==some .cell) then (n,NameKind.cell) else (n,k)).lookup x=some .cell \/
  (names.map fun (n,k)=>if (k ==NameKind.free && env.scope.kind ==.function && env.kindOf n ==some .cell) then (n,NameKind.cell) else (n,k)).lookup x=some .free
 | [],_,h=>by simp at h
 | (n,k) ::r,x,h=>by
  have ih:=@Ii env r x
  by_cases hx:x ==n
  ·have hk:k=.free:=by
    rw [qB,hx] at h;exact mW h
   subst hk
   by_cases hc:(NameKind.free ==NameKind.free && env.scope.kind ==.function && env.kindOf n ==some .cell)=true
   ·left
    rw [mH];show List.lookup x ((if _ then (n,NameKind.cell) else (n,NameKind.free)) ::_)=_;rw [lZ hc,qB,hx]
   ·right
    rw [mH];show List.lookup x ((if _ then (n,NameKind.cell) else (n,NameKind.free)) ::_)=_;rw [lY hc,qB,hx]
  ·have hx:(x ==n)=false:=by simpa using hx
   rw [qB,hx] at h;have q:=ih h;rw [mH];have e:∀(b:Bool) (l:kQ (kR×NameKind)),List.lookup x ((if b=true then (n,NameKind.cell) else (n,k)) ::l)=l.lookup x:=fun b l=>by
    cases b <;>simp [qB,hx]
   rcases q with q|q
   ·exact .inl ((e _ _).trans q)
   ·exact .inr ((e _ _).trans q)
def FD{env:Env}:∀{names:kQ (kR×NameKind)} {x:kR},
    ((names.map fun (n,k)=>if (k ==NameKind.free && env.scope.kind ==.function && env.kindOf n ==some .cell) then (n,NameKind.cell) else (n,k)).lookup x=some .cell \/
     (names.map fun (n,k)=>if (k ==NameKind.free && env.scope.kind ==.function && env.kindOf n ==some .cell) then (n,NameKind.cell) else (n,k)).lookup x=some .free) ->
    names.lookup x=some .cell\/names.lookup x=some .free
  | [],_,h=>by simp at h
  | (n,k) ::r,x,h=>by
    have ih:=@FD env r x;rw [mH] at h
    by_cases hx:x ==n
    · rw [qB,hx];have e:∀(c:Prop) [Decidable c] (l:kQ (kR×NameKind)),List.lookup x ((if c then (n,NameKind.cell) else (n,k)) ::l)=some (if c then .cell else k):=fun c _ l=>by
        split <;>rw [qB,hx]
      rcases h with h|h
      · have h:=(e _ _).symm.trans h;have h:=mW h;split at h
        · rename_i c
          right
          have:k=.free:=by
            rw [pD,pD] at c;simpa using c.1.1
          rw [this]
        · left;rw [h]
      · have h:=(e _ _).symm.trans h;have h:=mW h;split at h
        · cases h
        · right;rw [h]
    · have hx:(x ==n)=false:=by simpa using hx
      have e:∀(c:Prop) [Decidable c] (l:kQ (kR×NameKind)),List.lookup x ((if c then (n,NameKind.cell) else (n,k)) ::l)=l.lookup x:=fun c _ l=>by
        split <;>rw [qB,hx]
      rw [qB,hx];exact ih (h.imp (fun z=>(e _ _).symm.trans z) fun z=>(e _ _).symm.trans z)
def Wf.std{X:Cx}{scope:Scope}{cl:kQ (kR×kS)}{N':kQ kR}(n:Nat)(js:kQ Nat)(kind:scope.kind=.function)(cell:∀y∈scope.names,y.2 ≠ .cell)
  (names:∀y∈scope.names,y.2=.local->scope.names.lookup y.1=some .local) (clos:closureFor scope X.env=pure cl) (u9:tw (fun p=>X.env.cells.lookup p.1=some p.2) cl)
  (x0:(scope.names.all fun y=>y.2 !=.free || ((cl.lookup y.1).isSome && (X.env.kindOf y.1 ==some .cell || X.env.kindOf y.1 ==some .free)))=true)
  (hN:N'.length=n+js.length) (hj:tw (fun p:Nat×Nat=>∃x,N'[n+p.1]? =some x/\X.N[p.2]? =some x/\scope.names.lookup x=some .free) ((List.range js.length).zip js)) :
  Wf X scope cl N' (fun σ=>List.replicate n none++js.map fun j=>(σ[j]?).join) where
 kind:=kind
 cell:=cell
 names:=names
 clos:=clos
 sub:=fun x c h=>tw.mem (P:=fun p=>X.env.cells.lookup p.1=some p.2) (a:=(x,c)) u9 (qm h)
 has:=fun x h=>by
  rcases FD (env:=X.env) h with h|h
  ·exact absurd rfl (cell _ (qm h))
  ·have q:=uj.mp x0 _ (qm h);simp only [yT,DW,pD] at q;exact Dt.mp q.1
 len:=fun σ _=>by simp [hN]
 fr:=fun σ i x v h1 h2 _=>by
  have hi:n<=i:=by
   rcases xM i n with c8|hge
   ·rw [Ez (by simpa using c8),EQ,lZ c8] at h2;cases h2
   ·exact hge
  rw [DY (by simpa using hi),Fx,mG] at h2;cases hjs:js[i-n]? with
  | none=>rw [hjs] at h2;cases h2
  | some j =>
   rw [hjs] at h2;have h2:(σ[j]?).join=some v:=mW h2;have c8:i-n<js.length:=by
    rcases xM (i-n) js.length with z|z
    ·exact z
    ·rw [uc z] at hjs;cases hjs
   have hm:(i-n,j)∈(List.range js.length).zip js:=by
    rw [List.mem_iff_getElem?];refine ⟨i-n,?_⟩;rw [List.getElem?_zip_eq_some];exact ⟨by simp [c8],hjs⟩
   obtain ⟨x',e1,e2,e3⟩:=tw.mem hj hm;have e:n+(i-n)=i:=by lia
   simp only [e] at e1;rw [h1] at e1;cases e1;have q:=uj.mp x0 _ (qm e3);simp only [yT,DW,pD,zK,qo] at q;refine ⟨Ii e3,q.2,j,e2,?_⟩;cases hs:σ[j]? with
   | none=>rw [hs] at h2;cases h2
   | some o=>rw [hs] at h2;exact nV some h2
inductive Tr where
 | non | int (i:Int) | str (x:Str) | tup (ts:List Tr) | lst (ts:List Tr)
noncomputable instance:DecidableEq Tr:=fun _ _=>Classical.propDecidable _
mutual
inductive Im(K:Frag)(H:Hp):Nat->Tr->V->Prop where
 | non {n:Nat}:Im K H n .non .non
 | int {n:Nat} (i:Int):Im K H n (.int i) (.int i)
 | str {n:Nat} (x:Str):Im K H n (.str x) (.str x)
 | tupI {n:Nat} {a:Addr} {xs:List V} {ts:List Tr}:SqT K H a xs->sZ K H n ts xs->Im K H (n+1) (.tup ts) (.ref a)
 | lstI {n:Nat} {a:Addr} {xs:List V} {ts:List Tr}:SqL K H a xs->sZ K H n ts xs->Im K H (n+1) (.lst ts) (.ref a)
inductive sZ(K:Frag)(H:Hp):Nat->List Tr->List V->Prop where
 | nil {n:Nat}:sZ K H n [] []
 | cons {n:Nat} {t:Tr} {v:V} {ts:List Tr} {vs:List V}:Im K H n t v->sZ K H n ts vs->sZ K H n (t ::ts) (v ::vs)
end
theorem sZ.toP{K:kX}{H:Hp}{n:Nat}:∀{ts:kQ Tr} {xs:kQ V},sZ K H n ts xs->Paired (Im K H n) ts xs
 | [],_,h=>by cases h;exact .nil
 | _ ::_,_,h=>by
  cases h with
  | cons r t=>exact .cons r t.toP
theorem sZ.ofP{K:kX}{H:Hp}{n:Nat}:∀{ts:kQ Tr} {xs:kQ V},Paired (Im K H n) ts xs->sZ K H n ts xs
 | _,_,.nil=>.nil
 | _,_,.cons r t=>.cons r (sZ.ofP t)
def Im.tup{K:kX}{H:Hp}{n:Nat}{a:kS}{xs:kQ V}{ts:kQ Tr}(sq:SqT K H a xs)(ps:Paired (Im K H n) ts xs):Im K H (n+1) (.tup ts) (.ref a):=.tupI sq (.ofP ps)
def Im.lst{K:kX}{H:Hp}{n:Nat}{a:kS}{xs:kQ V}{ts:kQ Tr}(sq:SqL K H a xs)(ps:Paired (Im K H n) ts xs):Im K H (n+1) (.lst ts) (.ref a):=.lstI sq (.ofP ps)
theorem Paired.get{α β:Type}{R:α->β->Prop}:∀{l₁:kQ α} {l₂:kQ β} {i:Nat} {a:α},Paired R l₁ l₂->l₁[i]? =some a->∃b,l₂[i]? =some b/\R a b
 | _,_,_,_,.nil,e=>by simp at e
 | _,_,0,_,.cons r _,e=>by simp at e;subst e;exact ⟨_,rfl,r⟩
 | _,_,i+1,a,.cons _ t,e=>by
  obtain ⟨u,h1,h2⟩:=Paired.get (i:=i) (a:=a) t (by simpa using e);exact ⟨u,by simpa using h1,h2⟩
theorem Paired.get'{α β:Type}{R:α->β->Prop}:∀{l₁:kQ α} {l₂:kQ β} {i:Nat} {b:β},Paired R l₁ l₂->l₂[i]? =some b->∃a,l₁[i]? =some a/\R a b
 | _,_,_,_,.nil,e=>by simp at e
 | _,_,0,_,.cons r _,e=>by simp at e;subst e;exact ⟨_,rfl,r⟩
 | _,_,i+1,a,.cons _ t,e=>by
  obtain ⟨u,h1,h2⟩:=Paired.get' (i:=i) (b:=a) t (by simpa using e);exact ⟨u,by simpa using h1,h2⟩
def Paired.append{α β:Type}{R:α->β->Prop}{a₁:kQ α}{b₁:kQ β}{a₂:kQ α}{b₂:kQ β}(h:Paired R a₁ b₁)(s:Paired R a₂ b₂):Paired R (a₁++a₂) (b₁++b₂):=by
 induction h with
 | nil=>exact s
 | cons r t ih=>exact .cons r ih
theorem Paired.strs{K:kX}{H:Hp}{n:Nat}:∀xs:kQ kR,Paired (Im K H n) (xs.map Tr.str) (xs.map V.str)
 | []=>.nil
 | x ::xs=>.cons (.str x) (Paired.strs (K:=K) (H:=H) (n:=n) xs)
def lK.at(e:lK H H')(h:H b=some o):H' b=some o:=e b o h
def lK.new(h:H p=none):lK H (upd H p o):=fun b u e=>by rw [Zd (Zg e h)];exact e
def Paired.uniq{α β:Type}{R:α->β->Prop}(f:∀a a' b,R a b->R a' b->a=a'){l l':kQ α}{m:kQ β}(h:Paired R l m)(h':Paired R l' m):l=l':=by
 induction h generalizing l' with
 | nil=>cases h';rfl
 | cons r t ih=>cases h' with
  | cons r' t'=>rw [f _ _ _ r r',ih t']
variable {X:Cx}
def lQ.lt_excl(I:lQ X a9 σ H s)(h:SqL X.K H a xs)(h':SqT X.K H a ys):False:=by
 obtain ⟨b9,_,pl,_⟩:=I.list h;obtain ⟨its',_,tp,_⟩:=I.tuple h';exact SeqAt.ne_of_list_tuple pl.isList (show s.heap.IsTuple a its'.toArray from tp) rfl
def Im.inj(I:lQ X a9 σ H s):∀{n:Nat} {t u:Tr} {v:V},Im X.K H n t v->Im X.K H n u v->t=u:=by
 intro n
 induction n with
 | zero=>intro t u v h h';cases h <;>cases h' <;>rfl
 | succ n ih =>
  intro t u v h h';cases h with
  | non=>cases h';rfl
  | int i=>cases h';rfl
  | str x=>cases h';rfl
  | tupI sq pm =>
   cases h' with
   | tupI u0 pm' =>
    have e:=I.tuple_inj sq u0;subst e;rw [Paired.uniq (R:=Im X.K H n) (fun _ _ _ z z'=>ih z z') pm.toP pm'.toP]
   | lstI u0 pm'=>exact (I.lt_excl u0 sq).elim
  | lstI sq pm =>
   cases h' with
   | tupI u0 pm'=>exact (I.lt_excl sq u0).elim
   | lstI u0 pm' =>
    have e:=I.list_inj sq u0;subst e;rw [Paired.uniq (R:=Im X.K H n) (fun _ _ _ z z'=>ih z z') pm.toP pm'.toP]
def Ye(h:SeqAt.EqAt A s u v b)(e:b=b'):SeqAt.EqAt A s u v b':=e ▸ h
def Gb(ts us:kQ Tr):(((List.range (min ts.length us.length)).all fun j=>decide (ts[j]? =us[j]?)) && ts.length ==us.length)=decide (ts=us):=by
 rw [qH];simp only [pD,uj,xE,vY,qo]
 constructor
 ·rintro ⟨h,e⟩;refine List.ext_getElem? fun i=>?_
  by_cases hi:i<ts.length
  ·exact h i (by lia)
  ·rw [uc (by lia),uc (by lia)]
 ·rintro rfl;exact ⟨fun _ _=>rfl,rfl⟩
def TN{ts us:kQ Tr}(h:ts.length=us.length):((List.range ts.length).all fun j=>decide (ts[j]? =us[j]?))=decide (ts=us):=by
 have q:=Gb ts us;rw [h,Nat.min_self,yc,Bool.and_true] at q;rw [h];exact q
def Wv(A:lu):A.in1.units=A.units+1:=rfl
def Bm
  (ih:∀{t u:Tr} {x y:V} {vx vy:kT},Im X.K H n t x->Im X.K H n u y->Yd x vx->Yd y vy->SeqAt.EqAt A s vx vy (decide (t=u)))
  (ps:Paired (Im X.K H n) ts xs) (E1:Paired (Im X.K H n) us ys) (rv:Yc xs b9) (F4:Yc ys its') :
  ∀j (h1:j<b9.toArray.size) (h2:j<its'.toArray.size),SeqAt.EqAt A s b9.toArray[j] its'.toArray[j] (decide (ts[j]? =us[j]?)):=by
 intro j h1 h2;have l1:=rv.length;have l2:=F4.length;have h1':j<xs.length:=by simpa [l1] using h1
 have h2':j<ys.length:=by simpa [l2] using h2
 obtain ⟨t,e1,r1⟩:=Paired.get' ps (i:=j) (b:=xs[j]) (by simp [h1']);obtain ⟨u,e2,r2⟩:=Paired.get' E1 (i:=j) (b:=ys[j]) (by simp [h2']);obtain ⟨v1,f1,g1⟩:=rv.get (i:=j) (x:=xs[j]) (by simp [h1']);obtain ⟨v2,f2,g2⟩:=F4.get (i:=j) (x:=ys[j]) (by simp [h2']);have k1:b9.toArray[j]=v1:=by
  have:b9[j]? =some b9.toArray[j]:=by simp [show j<b9.length by simpa using h1]
  rw [f1] at this;exact (mW this).symm
 have k2:its'.toArray[j]=v2:=by
  have:its'[j]? =some its'.toArray[j]:=by simp [show j<its'.length by simpa using h2]
  rw [f2] at this;exact (mW this).symm
 rw [k1,k2,e1,e2];refine Ye (ih r1 r2 g1 g2) ?_;rw [qH];simp
def Im.tuple_rc(I:lQ X a9 σ H s)
  (ih:∀{t u:Tr} {x y:V} {vx vy:kT},Im X.K H n t x->Im X.K H n u y->Yd x vx->Yd y vy->SeqAt.EqAt A.in1 s vx vy (decide (t=u))) (hu:A.units<cLine)
  (sq:SqT X.K H a xs) (ps:Paired (Im X.K H n) ts xs) (u0:SqT X.K H b ys) (E1:Paired (Im X.K H n) us ys) :
  SeqAt.RcAt A s (.ref a) (.ref b) (decide (Tr.tup ts=Tr.tup us))/\SeqAt.RcNeAt A s (.ref a) (.ref b) (!decide (Tr.tup ts=Tr.tup us)):=by
 obtain ⟨b9,rv,tp,_⟩:=I.tuple sq;obtain ⟨its',F4,B6,_⟩:=I.tuple u0;have l1:=rv.length;have l2:=F4.length;have m1:=mv ps;have m2:=mv E1;have e:((List.range (min b9.toArray.size its'.toArray.size)).all (fun j=>decide (ts[j]? =us[j]?)) && b9.toArray.size ==its'.toArray.size)=decide (Tr.tup ts=Tr.tup us):=by
  rw [ny,ny,<-l1,<-l2,<-m1,<-m2,Gb,qH];simp
 constructor
 ·rw [<-e];exact SeqAt.RcAt.tuples (show s.heap.IsTuple a b9.toArray from tp) (show s.heap.IsTuple b its'.toArray from B6) hu (Bm ih ps E1 rv F4)
 ·rw [<-e];exact SeqAt.RcNeAt.tuples (show s.heap.IsTuple a b9.toArray from tp) (show s.heap.IsTuple b its'.toArray from B6) hu (Bm ih ps E1 rv F4)
def Im.list_rc(I:lQ X a9 σ H s){n:Nat}{A:lu}{a b:kS}{ts us:kQ Tr}{xs ys:kQ V}
  (ih:∀{t u:Tr} {x y:V} {vx vy:kT},Im X.K H n t x->Im X.K H n u y->Yd x vx->Yd y vy->SeqAt.EqAt A.in1 s vx vy (decide (t=u))) (hu:A.units<cLine)
  (sq:SqL X.K H a xs) (ps:Paired (Im X.K H n) ts xs) (u0:SqL X.K H b ys) (E1:Paired (Im X.K H n) us ys) :
  SeqAt.RcAt A s (.ref a) (.ref b) (decide (Tr.lst ts=Tr.lst us))/\SeqAt.RcNeAt A s (.ref a) (.ref b) (!decide (Tr.lst ts=Tr.lst us)):=by
 obtain ⟨b9,rv,tp,_⟩:=I.list sq;obtain ⟨its',F4,B6,_⟩:=I.list u0;have l1:=rv.length;have l2:=F4.length;have m1:=mv ps;have m2:=mv E1
 by_cases hl:ts.length=us.length
 ·have e:((List.range b9.toArray.size).all fun j=>decide (ts[j]? =us[j]?))=decide (Tr.lst ts=Tr.lst us):=by
   rw [ny,<-l1,<-m1,TN hl,qH];simp
  have hs:b9.toArray.size=its'.toArray.size:=by rw [ny,ny];lia
  constructor
  ·rw [<-e];exact SeqAt.RcAt.lists tp.isList B6.isList hs hu (Bm ih ps E1 rv F4)
  ·rw [<-e];exact SeqAt.RcNeAt.lists tp.isList B6.isList hs hu (Bm ih ps E1 rv F4)
 ·have e:decide (Tr.lst ts=Tr.lst us)=false:=mO fun z=>hl (by injection z with z;rw [z])
  have hs:(b9.toArray.size !=its'.toArray.size)=true:=by rw [ny,ny];simp;lia
  rw [e];exact ⟨SeqAt.RcAt.lists_lengths tp.isList B6.isList hs hu,SeqAt.RcNeAt.lists_lengths tp.isList B6.isList hs hu⟩
def Im.eqAt(I:lQ X a9 σ H s):∀(n:Nat) (A:lu) {t u:Tr} {x y:V} {vx vy:kT},Im X.K H n t x->Im X.K H n u y->Yd x vx->Yd y vy->A.units+n<cLine->SeqAt.EqAt A s vx vy (decide (t=u)):=by
 intro n
 induction n with
 | zero =>
  intro A t u x y vx vy h h' rx ry hu;cases h <;>cases h' <;>exact Ye (za rx ry rfl rfl) (by rw [qH];simp [qc])
 | succ n ih =>
  intro A t u x y vx vy h h' rx ry hu;have F7:A.units<cLine:=by lia
  have U1:A.in1.units+n<cLine:=by rw [Wv];lia
  have ih1:∀{t u:Tr} {x y:V} {vx vy:kT},Im X.K H n t x->Im X.K H n u y->Yd x vx->Yd y vy->SeqAt.EqAt A.in1 s vx vy (decide (t=u)):=fun z z' r r'=>ih A.in1 z z' r r' U1
  cases h with
  | @tupI _ a xs ts sq pm =>
   cases rx;obtain ⟨b9,rv,tp,_⟩:=I.tuple sq;cases h' with
   | non=>cases ry;exact Ye (SeqAt.EqAt.tuple_none (show s.heap.IsTuple _ b9.toArray from tp) F7) (mO fun z=>nomatch z).symm
   | int i=>obtain ⟨t',rfl⟩:=ry;exact Ye (SeqAt.EqAt.tuple_int i t' (show s.heap.IsTuple _ b9.toArray from tp) F7) (mO fun z=>nomatch z).symm
   | str i=>obtain ⟨t',rfl⟩:=ry;exact Ye (SeqAt.EqAt.tuple_str i t' (show s.heap.IsTuple _ b9.toArray from tp) F7) (mO fun z=>nomatch z).symm
   | @tupI _ b ys us u0 pm' =>
    cases ry
    by_cases R7:a=b
    ·subst R7;rw [Im.inj I (Im.tupI sq pm) (Im.tupI u0 pm'),mB rfl];exact yH _
    ·exact SeqAt.EqAt.of_refs R7 (Im.tuple_rc I ih1 F7 sq pm.toP u0 pm'.toP).1
   | lstI u0 pm' =>
    cases ry;obtain ⟨its',F4,B6,_⟩:=I.list u0;exact Ye (SeqAt.EqAt.tuple_list (show s.heap.IsTuple _ b9.toArray from tp) B6.isList F7) (mO fun z=>nomatch z).symm
  | @lstI _ a xs ts sq pm =>
   cases rx;obtain ⟨b9,rv,tp,_⟩:=I.list sq;cases h' with
   | non=>cases ry;exact Ye (SeqAt.EqAt.list_none tp.isList F7) (mO fun z=>nomatch z).symm
   | int i=>obtain ⟨t',rfl⟩:=ry;exact Ye (SeqAt.EqAt.list_int i t' tp.isList F7) (mO fun z=>nomatch z).symm
   | str i=>obtain ⟨t',rfl⟩:=ry;exact Ye (SeqAt.EqAt.list_str i t' tp.isList F7) (mO fun z=>nomatch z).symm
   | tupI u0 pm' =>
    cases ry;obtain ⟨its',F4,B6,_⟩:=I.tuple u0;exact Ye (SeqAt.EqAt.list_tuple tp.isList (show s.heap.IsTuple _ its'.toArray from B6) F7) (mO fun z=>nomatch z).symm
   | @lstI _ b ys us u0 pm' =>
    cases ry
    by_cases R7:a=b
    ·subst R7;rw [Im.inj I (Im.lstI sq pm) (Im.lstI u0 pm'),mB rfl];exact yH _
    ·exact SeqAt.EqAt.of_refs R7 (Im.list_rc I ih1 F7 sq pm.toP u0 pm'.toP).1
  | non =>
   cases rx;cases h' with
   | non=>cases ry;exact Ye (yH _) (mB rfl).symm
   | int i=>obtain ⟨t',rfl⟩:=ry;exact Ye (EE i t') (mO fun z=>nomatch z).symm
   | str i=>obtain ⟨t',rfl⟩:=ry;exact Ye (DL i t') (mO fun z=>nomatch z).symm
   | tupI u0 pm'=>cases ry;obtain ⟨its',_,B6,_⟩:=I.tuple u0;exact Ye (SeqAt.EqAt.none_tuple (show s.heap.IsTuple _ its'.toArray from B6) F7) (mO fun z=>nomatch z).symm
   | lstI u0 pm'=>cases ry;obtain ⟨its',_,B6,_⟩:=I.list u0;exact Ye (SeqAt.EqAt.none_list B6.isList F7) (mO fun z=>nomatch z).symm
  | int j =>
   cases h' with
   | tupI u0 pm'=>obtain ⟨t',rfl⟩:=rx;cases ry;obtain ⟨its',_,B6,_⟩:=I.tuple u0;exact Ye (SeqAt.EqAt.int_tuple j t' (show s.heap.IsTuple _ its'.toArray from B6) F7) (mO fun z=>nomatch z).symm
   | lstI u0 pm'=>obtain ⟨t',rfl⟩:=rx;cases ry;obtain ⟨its',_,B6,_⟩:=I.list u0;exact Ye (SeqAt.EqAt.int_list j t' B6.isList F7) (mO fun z=>nomatch z).symm
   | _=>exact Ye (za rx ry rfl rfl) (by rw [qH];simp [qc])
  | str j =>
   cases h' with
   | tupI u0 pm'=>obtain ⟨t',rfl⟩:=rx;cases ry;obtain ⟨its',_,B6,_⟩:=I.tuple u0;exact Ye (SeqAt.EqAt.str_tuple j t' (show s.heap.IsTuple _ its'.toArray from B6) F7) (mO fun z=>nomatch z).symm
   | lstI u0 pm'=>obtain ⟨t',rfl⟩:=rx;cases ry;obtain ⟨its',_,B6,_⟩:=I.list u0;exact Ye (SeqAt.EqAt.str_list j t' B6.isList F7) (mO fun z=>nomatch z).symm
   | _=>exact Ye (za rx ry rfl rfl) (by rw [qH];simp [qc])
def AZ(K:kX)(neg:Bool):R2:=fun x y H Q=>∃n t u,n<=60/\((∃ts us,t=Tr.tup ts/\u=Tr.tup us)\/∃ts us,t=Tr.lst ts/\u=Tr.lst us)/\Im K H n t x/\Im K H n u y/\Q (.bl (if neg then !decide (t=u) else decide (t=u))) H
def UU{X:Cx}(hu:X.A.units+64<cLine):mM X (compareOp .Eq) (AZ X.K false):=by
 intro a9 s σ H x y v u Q I rx ry h;obtain ⟨n,t,t',hn,hk,h1,h2,q⟩:=h;rcases hk with ⟨ts,us,rfl,rfl⟩|⟨ts,us,rfl,rfl⟩
 ·cases h1 with
  | tupI sq pm =>
   cases h2 with
   | tupI u0 pm' =>
    cases rx;cases ry;exact (Im.tuple_rc (A:=X.A) I (fun z z' r r'=>Im.eqAt I _ _ z z' r r' (by rw [Wv];lia)) (by lia) sq pm.toP u0 pm'.toP).1 _ _ _ _ ⟨.bl _,H,I,rfl,q⟩
 ·cases h1 with
  | lstI sq pm =>
   cases h2 with
   | lstI u0 pm' =>
    cases rx;cases ry;exact (Im.list_rc (A:=X.A) I (fun z z' r r'=>Im.eqAt I _ _ z z' r r' (by rw [Wv];lia)) (by lia) sq pm.toP u0 pm'.toP).1 _ _ _ _ ⟨.bl _,H,I,rfl,q⟩
def Sy{X:Cx}(hu:X.A.units+64<cLine):mM X (compareOp .NotEq) (AZ X.K true):=by
 intro a9 s σ H x y v u Q I rx ry h;obtain ⟨n,t,t',hn,hk,h1,h2,q⟩:=h;rcases hk with ⟨ts,us,rfl,rfl⟩|⟨ts,us,rfl,rfl⟩
 ·cases h1 with
  | tupI sq pm =>
   cases h2 with
   | tupI u0 pm' =>
    cases rx;cases ry;exact (Im.tuple_rc (A:=X.A) I (fun z z' r r'=>Im.eqAt I _ _ z z' r r' (by rw [Wv];lia)) (by lia) sq pm.toP u0 pm'.toP).2 _ _ _ _ ⟨.bl _,H,I,rfl,q⟩
 ·cases h1 with
  | lstI sq pm =>
   cases h2 with
   | lstI u0 pm' =>
    cases rx;cases ry;exact (Im.list_rc (A:=X.A) I (fun z z' r r'=>Im.eqAt I _ _ z z' r r' (by rw [Wv];lia)) (by lia) sq pm.toP u0 pm'.toP).2 _ _ _ _ ⟨.bl _,H,I,rfl,q⟩
def Go(t:TA):TE:=fun σ H Q=>t σ H fun xs H1=>xs.length<=sizeLine/\∀p H',lK H1 H'->H1 p=none->H' p=some (.tup xs)->Q (.ref p) H'
def Tb(t:TA):TE:=fun σ H Q=>t σ H fun xs H1=>xs.length<=sizeLine/\∀p H',lK H1 H'->H1 p=none->H' p=some (.lst xs)->Q (.ref p) H'
def Zi{x1}(h:PA X es t):PE X (.Tuple es x1 pos) (Go t):=by
 intro a9 s σ H Q I hq;refine wpAny_Tuple_spliced (ma (h pos a9 s σ H _ I hq) fun us s1 ⟨xs,H1,I1,r,z,q⟩=>⟨by rw [<-r.length];exact z,?_⟩);have hf:H1 s1.heap.objs.size=none:=I1.hok.fresh (mn _);refine ⟨.ref s1.heap.objs.size,upd H1 s1.heap.objs.size (.tup xs),I1.laid (t':=s1.toks) (fun b u e=>my _ e) (mn _) ?_,rfl,q _ _ (lK.new hf) hf Zc⟩;exact ⟨z,us,r,⟨_,nG _ rfl,rfl,_,rfl⟩⟩
def Zl(h:PA X es t):PE X (.List es pos) (Tb t):=by
 intro a9 s σ H Q I hq;refine wpAny_List_spliced (ma (h pos a9 s σ H _ I hq) fun us s1 ⟨xs,H1,I1,r,z,q⟩=>⟨by rw [<-r.length];exact z,?_⟩);have hf:H1 s1.heap.objs.size=none:=I1.hok.fresh (mn _);refine ⟨.ref s1.heap.objs.size,upd H1 s1.heap.objs.size (.lst xs),I1.laid (t':=s1.toks) (fun b u e=>my _ e) (mn _) ?_,rfl,q _ _ (lK.new hf) hf Zc⟩;exact ⟨z,us,0,r,nG _ rfl⟩
def mM.imp{f:kT->kT->Sem kT}(h:mM X f r)(g:∀x y H Q,r' x y H Q->r x y H Q):mM X f r':=fun a9 s σ H x y v u Q I rx ry q=>h a9 s σ H x y v u Q I rx ry (g _ _ _ _ q)
def qM.imp{r r':V->kW Int->kW Int->Hp->VK->Prop}(h:qM X r)(g:∀x l u H Q,r' x l u H Q->r x l u H Q):qM X r':=fun a9 s σ H x v vl vu lo hi sl Q I rx hs pl pu q=>h a9 s σ H x v vl vu lo hi sl Q I rx hs pl pu (g _ _ _ _ _ q)
def Xc.imp{r r':kQ V->Hp->VK->Prop}(h:Xc X f r)(g:∀xs H Q,r' xs H Q->r xs H Q):Xc X f r':=fun a9 s σ H xs us Q I rs q=>h a9 s σ H xs us Q I rs (g _ _ _ q)
def pb(H:Hp)(o:HO)(Q:VK):Prop:=∀p H',lK H H'->H p=none->H' p=some o->Q (.ref p) H'
def pb.at(h:pb H o Q)(p:kS)(hp:H p=none):Q (.ref p) (upd H p o):=h p _ (lK.new hp) hp Zc
def KZ:R2:=fun x y H Q=>∃l b xs zs,x=.ref l/\y=.ref b/\H l=some (.lst xs)/\H b=some (.lst zs)/\xs.length+zs.length<=sizeLine/\pb H (.lst (xs++zs)) Q
def UW:mM X (binaryOp .Add) KZ:=Sd.imp fun x y H Q ⟨l,b,xs,zs,h1,h2,h3,h4,h5,h6⟩=>⟨l,b,xs,zs,h1,h2,h3,h4,h5,fun p hp=>h6.at p hp⟩
def Lo(K:kX):V->kW Int->kW Int->Hp->VK->Prop:=fun x lo hi H Q=>∃a xs,x=.ref a/\SqT K H a xs/\¬(HT.sIx xs.length 0 lo=0/\HT.sIx xs.length xs.length hi=xs.length)/\pb H (.tup (qf xs lo hi)) Q
def Qv:qM X (Lo X.K):=Pd.imp fun x l u H Q ⟨a,xs,h1,h2,h3,h4⟩=>⟨a,xs,h1,h2,h3,fun p hp=>h4.at p hp⟩
def MW(K:kX):V->kW Int->kW Int->Hp->VK->Prop:=fun x lo hi H Q=>∃a xs,x=.ref a/\SqL K H a xs/\pb H (.lst (qf xs lo hi)) Q
def UG:qM X (MW X.K):=Pk.imp fun x l u H Q ⟨a,xs,h1,h2,h4⟩=>⟨a,xs,h1,h2,fun p hp=>h4.at p hp⟩
def X6(mr:kQ V->Hp->VK->Prop)(M:Mk X.K C f)
  (F:Xe X.prog X.w X.K X.mg X.lL CX k f fd ps sp) (hr:Y5 (k+1) X.A) (hg:Gl X x) (hm:X.mg x=some (.ref C)) (hb:pr X.K fd ps ds) (hd:Yc C5 ds) (hx:qR CX X E)
  (hmr:∀vs H Q,mr vs H Q->∀x dx,H x=none->H dx=none->dx≠x->sp (.ref x ::(vs++C5)) (upd (upd H dx (.own x)) x (.ins C dx [])) (fun v H2=>v=.non/\Q (.ref x) H2) E)
  (ha:PA X (e ::es) t) (L1:(x ==("__debug__" :kR))=false:=by left) (he:starEach (e ::es) X.env=(false,eval e X.env) ::starEach es X.env:=by rfl) (g8:(backTo pos (starEach es X.env)).any (·.1)=false:=by rfl) :
  PE X (.Call (.Name x p) (e ::es) [] pos) (xj mr t):=by
 intro a9 s σ H Q I h;refine sX (uE I hg hm ?_ L1);refine xY (h₀:=X.lL) I.ok.mod.kin M.kp (ma (ha pos a9 s σ H _ I h) fun us s1 ⟨vs,H1,I1,r,q⟩=>⟨I1.kIn,?_⟩) he g8;exact Ph M F hr hb hd hx I1 r (hmr vs H1 Q q)
def PV(hu:X.A.units+1<cLine):mM X (compareOp .In) (fun y x H Q=>∃a o,x=.ref a/\Xq H a y o/\Q (.bl o.isSome) H):=by
 intro a9 s σ H y x v u Q I ry rx h;obtain ⟨a,ov,rfl,g,q⟩:=h;cases rx;exact UN hu I g ry fun s3 I3=>⟨.bl ov.isSome,H,I3,rfl,q⟩
def WP(hu:X.A.units+1<cLine):mM X (compareOp .NotIn) (fun y x H Q=>∃a o,x=.ref a/\Xq H a y o/\Q (.bl (!o.isSome)) H):=by
 intro a9 s σ H y x v u Q I ry rx h;obtain ⟨a,ov,rfl,g,q⟩:=h;cases rx;exact Sn hu I g ry fun s3 I3=>⟨.bl (!ov.isSome),H,I3,rfl,q⟩
def Wz:mM X (binaryOp .Add) (fun x y H Q=>uF (fun i j=>.int (i+j)) x y H Q\/(∃i j,x=.str i/\y=.str j/\i.length+j.length<=sizeLine/\Q (.str (i++j)) H)\/KZ x y H Q):=NW.or (TL.or UW)
def sz(h:n<=1000):n<=sizeLine:=tT (Zp h)
structure vp(K:Frag)(x qual:Str)(st:Stmt)(dV:Value)(f:Addr)(fd:FuncData):Prop where
 ex:∃(oc:Value) (od:Option Addr) (kV w5 pm:Value) (an:Option Addr) (c6 ct:Value) (E4:Array (Option Value)),
  fd=fnOf x qual (Wu st) (Y4 st) (Zj st) dV kV w5 pm an c6 ct/\K.lookup f=some ⟨oc,od,.func fd,E4⟩/\codeIn K c6 qual=true
 kp:keepIn K (.ref f)=true
section
variable {P:lq} {w:lh} {K:kX} {mg:kR->kW kT} {lL:kZ}
def vp.ok{x qual:kR}{st:kY}{dV:kT}{f:kS}{fd:lv}{N ps:kQ kR}{k:Nat}{sp:Sp}(F:vp K x qual st dV f fd)(S:Zw N ps (Zj st))(len:∀vs H Q E,sp vs H Q E->vs.length=ps.length)
  (m6:∀(c6:kT) (A:lu) (lJ:kQ Env) (s:kU) (H:Hp) (vs:kQ V) (Q:VK) (E:XK),Y5 k (A.deeper (envOfC qual (Zj st) s.heap.objs.size f c6))->sp vs H Q E ->
   WSs (nK nH P w K mg lL N qual (Zj st) f c6 A lJ s H E).nox (Y4 st) { nx:=fun _ H'=>Q .non H',rt:=Q } (start N vs) H):Xe P w K mg lL nH (k+1) f fd ps sp:=by
 obtain ⟨oc,od,kV,w5,pm,an,c6,ct,E4,rfl,lk,B3⟩:=F.ex;refine AV lk B3 S len fun A lJ s H vs Q E hr M6=>?_
 exact ⟨_,qd.nox Zn,m6 c6 A lJ s H vs Q E hr M6⟩
def pQ.okW{x qual:kR}{st:kY}{f:kS}{fd:lv}{N ps:kQ kR}{k:Nat}{sp:Sp}(F:pQ K x qual st f fd)(S:Zw N ps (Zj st))
  (m6:∀(c6:kT) (A:lu) (lJ:kQ Env) (s:kU) (H:Hp) (vs:kQ V) (Q:VK) (E:XK),Y5 k (A.deeper (envOfC qual (Zj st) s.heap.objs.size f c6))->sp vs H Q E ->
   let X:=(nK nH P w K mg lL N qual (Zj st) f c6 A lJ s H E).nox;let D:oV:={ nx:=fun _ H'=>Q .non H',rt:=Q };WSs X (Y4 st) D (start N vs) H) (len:∀vs H Q E,sp vs H Q E->vs.length=ps.length:=by rintro _ _ _ _ ⟨⟩;subst_vars;rfl):Xe P w K mg lL nH (k+1) f fd ps sp :=
 F.ok S len fun c6 A lJ s H vs Q E hr h=>⟨_,Zn,m6 c6 A lJ s H vs Q E hr h⟩
def pQ.okA{x qual:kR}{st:kY}{f:kS}{fd:lv}{ps:kQ kR}{k:Nat}{sp:Sp}(F:pQ K x qual st f fd)
  (m6:∀(c6:kT) (A:lu) (lJ:kQ Env) (s:kU) (H:Hp) (vs:kQ V) (Q:VK) (E:XK),Y5 k (A.deeper (envOfC qual (Zj st) s.heap.objs.size f c6))->sp vs H Q E ->
   let X:=(nK nH P w K mg lL ps qual (Zj st) f c6 A lJ s H E).nox;let D:oV:={ nx:=fun _ H'=>Q .non H',rt:=Q };WSs X (Y4 st) D (start ps vs) H) (len:∀vs H Q E,sp vs H Q E->vs.length=ps.length:=by rintro _ _ _ _ ⟨⟩;subst_vars;rfl) (S:Zw ps ps (Zj st):=by exact {}):Xe P w K mg lL nH (k+1) f fd ps sp:=F.okW S m6 len
def IJ{x qual:kR}{st:kY}{f:kS}{oc dV:kT}{od an:kW kS}{E4:Array (kW kT)}{kV w5 pm c6 ct:kT}(l:K.lookup f=some ⟨oc,od,.func (fnOf x qual (Wu st) (Y4 st) (Zj st) dV kV w5 pm an c6 ct),E4⟩)
  (c:codeIn K c6 qual=true) (k:keepIn K (.ref f)=true):vp K x qual st dV f (fnOf x qual (Wu st) (Y4 st) (Zj st) dV kV w5 pm an c6 ct):=⟨⟨oc,od,kV,w5,pm,an,c6,ct,E4,rfl,l,c⟩,k⟩
end
structure Dn(K:Frag)(x qual:Str)(st:Stmt)(ps:List Str) where
 f:Addr
 fd:FuncData
 F:pQ K x qual st f fd
 b:pr K fd ps []
def Co{α:Type}{l:kQ α}{a:α}(h:l[i]? =some a):l.drop i=a ::l.drop (i+1):=by
 have hi:i<l.length:=by
  rcases xM i l.length with z|z
  ·exact z
  ·rw [uc z] at h;cases h
 rw [EJ hi];rw [oh hi] at h;rw [mW h]
theorem X5:∀l:kQ kR,(l.map V.str).all qQ=true
 | []=>rfl
 | _ ::l=>by rw [mH,Ek,X5 l];rfl
theorem Wo(x:kR):∀l:kQ kR,oo (.str x) (l.map V.str)=decide (x∈l)
 | []=>by simp [oo]
 | y ::l=>by
  have ih:=Wo x l;unfold oo at ih ⊢;rw [mH,vf,ih,qH];simp only [qc,zK,qo,vY,mI]
  constructor
  ·rintro (h|h)
   ·exact .inl h.symm
   ·exact .inr h
  ·rintro (h|h)
   ·exact .inl h.symm
   ·exact .inr h
end L2
end
section
namespace NM
end NM
namespace NM
open PySem L2
def pF:kQ Nat:=[97,98,99,100,101,102,103,104,105,106,107,108,109,110,111,112,113,114,115,116,117,118,119,120,121,122]
def zo:("abcdefghijklmnopqrstuvwxyz" :kR).cps.toList=pF:=by trivial
def Bo:("abcdefghijklmnopqrstuvwxyz" :kR).length=26:=by trivial
end NM
end
section
namespace L2
open PySem PySem.Spec PyProof.Rows
def Vf:HO->Bool
 | .dK _=>true
 | .dT _=>true
 | _=>false
variable {X:Cx}
def mT.retold(x:mT P w H h)(hd:H d=some v)(no:∀y,v ≠ .own y)(nt:∀xs,v ≠ .tup xs)(nz:∀o y,v ≠ .frz o (.own y))(nb:∀ps,v ≠ .tbl ps)(new:Z5 P w (upd H d v') h d v'):mT P w (upd H d v') h:=fun b q e=>by
 by_cases hb:b=d
 ·subst hb;rw [Zc] at e;cases e;exact new
 ·rw [Zd hb] at e;refine (x b q e).stay (fun _ _ _ z=>z) (fun c z=>?_) (fun c xs z=>?_) (fun c ob z=>?_) (fun c ps z=>?_)
  ·rw [Zd (fun y=>by subst y;rw [hd] at z;exact no _ (mW z))];exact z
  ·rw [Zd (fun y=>by subst y;rw [hd] at z;exact nt _ (mW z))];exact z
  ·rw [Zd (fun y=>by subst y;rw [hd] at z;exact nz _ _ (mW z))];exact z
  ·rw [Zd (fun y=>by subst y;rw [hd] at z;exact nb _ (mW z))];exact z
def Jd(hd:H d=some v)(no:∀y,v ≠ .own y)(nt:∀xs,v ≠ .tup xs)(nz:∀o y,v ≠ .frz o (.own y))(nb:∀ps,v ≠ .tbl ps)(x:Z5 P w H h d u):Z5 P w (upd H d v') h d u :=
 x.stay (fun _ _ _ z=>z) (fun c z=>by rw [Zd (fun y=>by subst y;rw [hd] at z;exact no _ (mW z))];exact z) (fun c xs z=>by rw [Zd (fun y=>by subst y;rw [hd] at z;exact nt _ (mW z))];exact z) (fun c ob z=>by rw [Zd (fun y=>by subst y;rw [hd] at z;exact nz _ _ (mW z))];exact z) (fun c ps z=>by rw [Zd (fun y=>by subst y;rw [hd] at z;exact nb _ (mW z))];exact z)
def lQ.retell(I:lQ X a9 σ H s)(hd:H d=some v)(no:∀y,v ≠ .own y)(nt:∀xs,v ≠ .tup xs)(nz:∀o y,v ≠ .frz o (.own y))(nb:∀ps,v ≠ .tbl ps)(nf:∀o u,X.lB d≠some (.frz o u))(new:Z5 X.prog X.w (upd H d v') s.heap d v') :
  lQ X a9 σ (upd H d v') s:=by
 have nd:∀b,H b=none->b≠d:=fun b n z=>by subst z;rw [n] at hd;cases hd
 refine ⟨I.ok,I.os,I.bare,?_,I.loc,I.cell,?_,fun x c e=>?_,fun p hp=>?_,I.hok.retold hd no nt nz nb new,I.len⟩
 ·have b:=I.lL;refine ⟨b.keep,b.slot,fun c q e n hx=>?_,b.there,fun c xs e=>?_,fun c ob q e=>?_,fun c ps e=>?_⟩
  ·have z:=b.free c q e n hx;rw [Zd (nd c z)];exact z
  ·have z:=b.tups c xs e;rw [Zd (fun y=>by subst y;rw [hd] at z;exact nt _ (mW z))];exact z
  ·have z:=b.frzs c ob q e;rw [Zd (fun y=>by subst y;exact nf _ _ e)];exact z
  ·obtain ⟨m,z⟩:=b.tbls c ps e;exact ⟨m,by rw [Zd (fun y=>by subst y;rw [hd] at z;exact nb _ (mW z))];exact z⟩
 ·rw [Zd (nd _ I.free)];exact I.free
 ·rw [Zd (nd _ (I.freeC x c e))];exact I.freeC x c e
 ·obtain ⟨p1,p2,p3⟩:=I.pin p hp;exact ⟨p1,by rw [Zd (nd _ p2)];exact p2,p3⟩
def lQ.notFrz(I:lQ X a9 σ H s)(hd:H d=some v)(n:∀o u,v ≠ .frz o u):∀o u,X.lB d≠some (.frz o u):=fun o u z=>by
 have:=I.lL.frzs d o u z;rw [hd] at this;exact n _ _ (mW this)
def lQ.freeze(I:lQ X a9 σ H s)(hd:H d=some u)(hu:Vf u=true)(ho:s.heap.get? d=some o):lQ X a9 σ (upd H d (.frz o u)) s:=by
 have n1:∀y,u ≠ .own y:=fun y z=>by subst z;cases hu
 have n2:∀xs,u ≠ .tup xs:=fun y z=>by subst z;cases hu
 have n3:∀o y,u ≠ .frz o (.own y):=fun o y z=>by subst z;cases hu
 refine I.retell hd n1 n2 n3 (fun y z=>by subst z;cases hu) (I.notFrz hd fun _ _ z=>by subst z;cases hu) ⟨ho,Jd hd n1 n2 n3 (fun y z=>by subst z;cases hu) (I.hok d u hd)⟩
def lQ.thaw(I:lQ X a9 σ H s)(hd:H d=some (.frz o u))(nf:∀o u,X.lB d≠some (.frz o u))(nu:∀y,u ≠ .own y:=by exact fun _ z=>nomatch z):lQ X a9 σ (upd H d u) s:=by
 obtain ⟨_,q⟩:=I.hok d _ hd;have n3:∀o' y,HO.frz o u ≠ .frz o' (.own y):=fun o' y z=>nu y (HO.frz.inj z).2
 exact I.retell hd (fun _ z=>nomatch z) (fun _ z=>nomatch z) n3 (fun _ z=>nomatch z) nf (Jd hd (fun _ z=>nomatch z) (fun _ z=>nomatch z) n3 (fun _ z=>nomatch z) q)
def lK.thaw(hd:H d=some u)(h:lK (upd H d (.frz o u)) H'):lK H (upd H' d u):=fun b q e=>by
 by_cases hb:b=d
 ·subst hb;rw [hd] at e;cases e;exact Zc
 ·rw [Zd hb];exact h b q (by rw [Zd hb];exact e)
def lK.rd(e:lK H H')(h:Rd H a u):Rd H' a u:=by
 rcases h with h|⟨o,h⟩
 ·exact .inl (e _ _ h)
 ·exact .inr ⟨o,e _ _ h⟩
def wy(d:kS)(o:Obj)(kvs:kQ (md×V)):It :=
 ⟨fun i H=>H d=some (.frz o (.dK kvs))/\i<kvs.length,fun i H x H'=>H'=H/\∃kv,kvs[i]? =some kv/\x=kV kv.1,fun i H=>H d=some (.frz o (.dK kvs))/\kvs.length<=i⟩
def Ce(h:(Zu P w).is k u=true):Yd (kV k) u:=by
 rcases Yp (show tM k u=true from h) with ⟨i,t,rfl,rfl⟩|⟨x,t,rfl,rfl⟩
 ·exact ⟨t,rfl⟩
 ·exact ⟨t,rfl⟩
def KV.get{kvs:kQ (md×V)}{vs:kQ (md×kT)}{i:Nat}{kv:md×V}(r:KV kvs vs)(h:kvs[i]? =some kv):∃u,vs[i]? =some (kv.1,u)/\Yd kv.2 u:=by
 obtain ⟨q,h1,h2,h3⟩:=Paired.get r h;exact ⟨q.2,by rw [h1,h2],h3⟩
def SS{P:lq}{w:lh}{K:kX}{tg:li}{d:kS}{o:Obj}{kvs:kQ (md×V)}{vs:kQ (md×kT)}{ep:Nat}(it:kS)(hk:KV kvs vs)
  (hD:∀h:kZ,h.get? d=some o->h.DictAt (Zu P w) d vs ep):uK P w K tg (wy d o kvs) [it] it (fun i h=>h.IsKeyIter it d i vs.length ep) where
 mem:=by simp
 obj:=fun i h st b hb=>by
  have e:b=it:=by simpa using hb
  subst e;obtain ⟨ob,e,c,dd⟩:=st;exact ⟨ob,e,fun v z=>by rw [dd] at z;cases z⟩
 keep:=fun i h h' st k=>st.at fun ob e=>k it (by simp) ob e
 item:=by
  intro X hP hw hK hc i a9 s σ H E I hf st hg;subst hP hw hK;obtain ⟨hq,c8⟩:=hg;obtain ⟨f0,f1,f2,f3,f4,f5⟩:=hf it (by simp);have hdo:s.heap.get? d=some o:=(I.hok d _ hq).1;obtain ⟨u,hu,_⟩:=hk.get (i:=i) (kv:=kvs[i]) (by simp [c8]);refine wpAny_pyNext_dict_item (knd:=Zu X.prog X.w) st (hD _ hdo) hu fun key h' K1 u5 sb=>?_
  have I1:lQ X a9 σ H { s with heap:=h' }:=I.turned (t':=s.toks) (fun b o hb e=>(sb.2 b hb).trans e) f0 f1 f3 f4 f5;obtain ⟨ob,e,c,dd⟩:=id u5;exact ⟨key,rfl,xZ (s:={ s with heap:=h' }) e c dd (by left) ⟨kV kvs[i].1,H,I1,Ce K1,⟨rfl,kvs[i],by simp [c8],rfl⟩,u5,fun b hb=>(hf b hb).1⟩⟩
 done:=by
  intro X hP hw hK hc i a9 s σ H E I hf st hg;subst hP hw hK;obtain ⟨hq,D9⟩:=hg;obtain ⟨f0,f1,f2,f3,f4,f5⟩:=hf it (by simp);have hdo:s.heap.get? d=some o:=(I.hok d _ hq).1;have hl:=KV.length hk;exact wpAny_pyNext_dict_end (knd:=Zu X.prog X.w) (I.ok.hd hc) st (hD _ hdo) (uc (by lia)) fun h' eb=>⟨rfl,I.turned (t':=s.toks) (fun b o hb e=>eb b o hb e) f0 f1 f3 f4 f5⟩
 self:=fun _ _ _ _ _ st h=>wpAny_pyIter_keyiter st h
def NF(X:Cx)(d:kS)(u:HO):Prop:=(∀o u,X.lB d≠some (.frz o u))/\∀y,u ≠ .own y
def ve(X:Cx)(Q:Hp->Prop)(H:Hp):Prop:=∃d o u,H d=some (.frz o u)/\NF X d u/\Q (upd H d u)
def ve.run{Q:Hp->Prop}(I:lQ X a9 σ H s)(h:ve X Q H):∃H',lQ X a9 σ H' s/\Q H':=by
 obtain ⟨d,o,u,hd,nf,q⟩:=h;exact ⟨_,I.thaw hd nf.1 nf.2,q⟩
def Vm(X:Cx)(tl:TE):TI:=fun σ H R=>tl σ H fun x H1=>∃d kvs,x=.ref d/\H1 d=some (.dK kvs)/\∀o,NF X d (.dK kvs)->R (wy d o kvs) (upd H1 d (.frz o (.dK kvs)))
def DT{P:lq}{w:lh}{h:kZ}{d:kS}{o:Obj}{vs:kQ (md×kT)}(x:h.DictOf (Zu P w) d vs)(ho:h.get? d=some o):∃ep,∀h':kZ,h'.get? d=some o->h'.DictAt (Zu P w) d vs ep:=by
 obtain ⟨o',es,ep,e,r⟩:=x;rw [ho] at e;cases e;exact ⟨ep,fun h' e'=>⟨o,es,e',r⟩⟩
def Lu{X:Cx}{tg l:li}{tl:TE}(hl:PE X l tl):PI X tg l (Vm X tl):=by
 intro a9 s σ H R I h;refine ma (hl a9 s σ H _ I h) fun v s1 ⟨y,H1,I1,r1,q1⟩=>?_
 obtain ⟨d,kvs,rfl,hd,q⟩:=q1;cases r1;obtain ⟨hz,hs,vs,kv,dd⟩:=uJ I1.hok hd;obtain ⟨o,_,_,ho,_⟩:=id dd;obtain ⟨ep,hD⟩:=DT dd ho;have I2:=I1.freeze hd rfl ho;refine wpAny_pyIter_dict (knd:=Zu X.prog X.w) hs (hD _ ho) ?_;have I3:lQ X a9 σ (upd H1 d (.frz o (.dK kvs))) { s1 with heap:=s1.heap.push { cls:=.type "dict_keyiterator",data:=.fields #[.ref d,.int 0 0,.int vs.length 0,.int ep 0] } }:=I2.kept (t':=s1.toks) fun b o e=>my _ e
 refine ⟨s1.heap.objs.size,[s1.heap.objs.size],_,_,_,rfl,I3,SS _ kv hD,⟨_,nG _ rfl,rfl,rfl⟩,fun b hb=>?_,q o ⟨I1.notFrz hd (fun _ _ z=>nomatch z),fun _ z=>nomatch z⟩⟩;have e:b=s1.heap.objs.size:=by simpa using hb
 subst e;exact I2.fpOk (mn _) (I2.hok.fresh (mn _))
def Sa(X:Cx)(t:TS):TS:=fun D σ H=>t { nx:=fun σ'=>ve X (D.nx σ'),rt:=fun v=>ve X (D.rt v),bk:=fun σ'=>ve X (D.bk σ'),ct:=fun σ'=>ve X (D.ct σ') } σ H
def xU{X:Cx}{st:kY}{t:TS}(h:PS X st t):PS X st (Sa X t):=by
 intro a9 s σ H D I hq;refine ma (h a9 s σ H _ I hq) fun f s' z=>?_
 cases f with
 | next=>obtain ⟨σ',H',I',q⟩:=z;obtain ⟨H2,I2,q2⟩:=q.run I';exact ⟨σ',H2,I2,q2⟩
 | brk=>obtain ⟨σ',H',I',q⟩:=z;obtain ⟨H2,I2,q2⟩:=q.run I';exact ⟨σ',H2,I2,q2⟩
 | cont=>obtain ⟨σ',H',I',q⟩:=z;obtain ⟨H2,I2,q2⟩:=q.run I';exact ⟨σ',H2,I2,q2⟩
 | ret u=>obtain ⟨v,σ',H',I',r,q⟩:=z;obtain ⟨H2,I2,q2⟩:=q.run I';exact ⟨v,σ',H2,I2,r,q2⟩
def Rv(X:Cx)(t:TE):TE:=fun σ H Q=>t σ H fun v=>ve X (Q v)
def AT(h:PE X e t):PE X e (Rv X t):=by
 intro a9 s σ H Q I hq;refine ma (h a9 s σ H _ I hq) fun u s' ⟨v,H',I',r,q⟩=>?_
 obtain ⟨H2,I2,q2⟩:=q.run I';exact ⟨v,H2,I2,r,q2⟩
def Qt{d:kS}{o:Obj}{kvs:kQ (md×V)}{g:TG}{tb:TS}{D:oV}{σ:St}{H:Hp}(Pv:Nat->St->Hp->Prop)(h0:Pv 0 σ H)(hl:∀i σ H,i<=kvs.length->Pv i σ H->H d=some (.frz o (.dK kvs)))
  (hs:∀i kv σ H,kvs[i]? =some kv->Pv i σ H->g (kV kv.1) σ H fun σ2 H2=>tb { D with nx:=Pv (i+1),ct:=Pv (i+1),bk:=D.nx } σ2 H2) (hd:∀σ H,Pv kvs.length σ H->D.nx σ H) :
  ∃W:Nat->Nat->St->Hp->Prop,(∃m,W 0 m σ H)/\∀i m σ H,W i m σ H ->
   ((wy d o kvs).stop i H/\D.nx σ H)\/((wy d o kvs).go i H/\∃N:St->Hp->Prop,(∀σ' H',N σ' H'->∃m',m'<m/\W (i+1) m' σ' H')/\∀x H',(wy d o kvs).yld i H x H'->g x σ H' fun σ2 H2=>tb { D with nx:=N,ct:=N,bk:=D.nx } σ2 H2):=by
 refine ⟨fun i m σ H=>m=kvs.length-i/\i<=kvs.length/\Pv i σ H,⟨kvs.length,by simp,oJ _,h0⟩,?_⟩;rintro i m σ H ⟨rfl,hi,p⟩;have q:=hl i σ H hi p
 by_cases c8:i<kvs.length
 ·refine .inr ⟨⟨q,c8⟩,Pv (i+1),fun σ' H' p'=>⟨kvs.length-(i+1),by lia,rfl,c8,p'⟩,fun x H' y=>?_⟩;obtain ⟨e,kv,A0,ex⟩:=y;subst e ex;exact hs i kv σ _ A0 p
 ·have e:i=kvs.length:=by lia
  subst e;exact .inl ⟨⟨q,mn _⟩,hd σ H p⟩
def lQ.turnedNew{ch:kQ kS}{o:HO}{h':kZ}{t':Nat}(I:lQ X a9 σ H s)(hf:∀b∈ch,rA X a9 H b)(k:∀b u,b∉ch->s.heap.get? b=some u->h'.get? b=some u)
  (new:Z5 X.prog X.w (upd H s.heap.objs.size o) h' s.heap.objs.size o):lQ X a9 σ (upd H s.heap.objs.size o) { s with heap:=h',toks:=t' }:=by
 have hn:H s.heap.objs.size=none:=I.fresh;have old:∀b u,s.heap.get? b=some u->b≠s.heap.objs.size:=fun b u e=>mC (mo e)
 have sw:∀b u,H b=some u->b∉ch:=fun b u e z=>by rw [(hf b z).1] at e;cases e
 refine I.step (g':=s.gens) (d':=s.drawn) (ch:=ch) (fun b hb=>?_) (fun b o _ _ hc e _=>k b o hc e) (fun b o _ _ hc e _=>⟨o.slots,k b o hc e⟩) (fun b o _ e n=>by rw [Zd (old b o e)];exact n)
  (fun b o hc e=>⟨o,k b o hc e⟩) (fun b xs e=>by rw [Zd (Zg e hn)];exact e) (fun b ob u e=>by rw [Zd (Zg e hn)];exact e) (fun b ps e=>⟨#[],by rw [Zd (Zg e hn),e];simp⟩) (fun m hm=>?_) (fun b u e=>?_) I.bare
 ·obtain ⟨f0,f1,f2,f3,f4,f5⟩:=hf b hb;exact ⟨f3,f1,f4,f5⟩
 ·obtain ⟨ob,es,ep,ho,r⟩:=hm;exact ⟨ob,es,ep,k _ ob (fun z=>(hf _ z).2.1 rfl) ho,r⟩
 ·by_cases hb:b=s.heap.objs.size
  ·subst hb;rw [Zc] at e;cases e;exact new
  ·rw [Zd hb] at e;refine (I.hok b u e).stay (fun c v hc q=>k c v ?_ q) (fun c q=>by rw [Zd (Zg q hn)];exact q) fun c xs q=>by rw [Zd (Zg q hn)];exact q
   rcases hc with z|z
   ·rw [z];exact sw b u e
   ·exact sw c _ z
def wb(K:kX)(l:kS):It :=
 ⟨fun i H=>∃xs x,SqL K H l xs/\xs[i]? =some x,fun i H x H'=>∃p y,x=.ref p/\H p=none/\H'=upd H p (.tup [.int (i:Nat),y])/\∀xs,SqL K H l xs->xs[i]? =some y,fun i H=>∃xs,SqL K H l xs/\xs.length<=i⟩
def Th{P:lq}{w:lh}{K:kX}{L3:kQ li}{x1:Nat}{pos:Pos}{l:kS}(e it:kS)(p0:e≠it) :
  uK P w K (.Tuple L3 x1 pos) (wb K l) [e,it] e (fun i h=>(∃old,IsEnum h e it (i:Nat) old)/\h.IsListIter it l i) where
 mem:=by simp
 obj:=fun i h st b hb=>by
  obtain ⟨⟨old,he⟩,hi⟩:=st;rcases mI.mp hb with rfl|hb
  ·exact ⟨_,he,fun v z=>nomatch z⟩
  ·have q:b=it:=by simpa using hb
   subst q;obtain ⟨o,e,c,d⟩:=hi;exact ⟨o,e,fun v z=>by rw [d] at z;cases z⟩
 keep:=fun i h h' st k=>by
  obtain ⟨⟨old,he⟩,hi⟩:=st;exact ⟨⟨old,k e (by simp) _ he⟩,hi.at fun o q=>k it (by simp) o q⟩
 item:=by
  intro X hP hw hK hc i a9 s σ H E I hf st hg;subst hP hw hK;obtain ⟨⟨old,he⟩,hi⟩:=st;obtain ⟨xs,x,hq,hx⟩:=hg;obtain ⟨b9,rv,p,hz⟩:=I.list hq;obtain ⟨u,hu,ru⟩:=rv.get hx;refine wpAny_pyNext_enum_item he hi p.isList (x:=u) (by simpa using hu) p0 fun h' ho hi' ht hsz kk=>?_
  refine ⟨_,rfl,wpAny_letOwnedTupleGo_enum ho fun h2 he2 sb=>?_⟩;have Q7:e<s.heap.objs.size:=mo he;have F8:it<s.heap.objs.size:=let ⟨o,q,_⟩:=hi;mo q;have k2:∀b v,b∉[e,it]->s.heap.get? b=some v->h2.get? b=some v:=fun b v hb q=>by
   have b1:b≠e:=fun z=>hb (by simp [z])
   have b2:b≠it:=fun z=>hb (by simp [z])
   exact (sb.2 b b1).trans (kk b v b1 b2 q)
  have htup:h2.get? s.heap.objs.size=some { cls:=.type "tuple",data:=.seq #[.int i s.toks,u] }:=(sb.2 _ (uV Q7)).trans ht;have new:Z5 X.prog X.w (upd H s.heap.objs.size (.tup [.int (i:Nat),x])) h2 s.heap.objs.size (.tup [.int (i:Nat),x]) :=
   ⟨sz (by simp),[.int i s.toks,u],.cons ⟨_,rfl⟩ (.cons ru .nil),⟨_,htup,rfl,_,rfl⟩⟩
  refine ⟨.ref s.heap.objs.size,_,I.turnedNew (t':=s.toks+1) hf k2 new,rfl,⟨_,x,rfl,I.fresh,rfl,fun ys hy=>by rw [I.list_inj hy hq];exact hx⟩,⟨⟨_,he2⟩,?_⟩,fun b hb=>?_⟩
  ·exact hi'.at fun o q=>(sb.2 it p0.symm).trans q
  ·rw [Zd ?_]
   ·exact (hf b hb).1
   ·rcases mI.mp hb with rfl|hb
    ·exact mC Q7
    ·have q:b=it:=by simpa using hb
     subst q;exact mC F8
 done:=by
  intro X hP hw hK hc i a9 s σ H E I hf st hg;subst hP hw hK;obtain ⟨⟨old,he⟩,hi⟩:=st;obtain ⟨xs,hq,hx⟩:=hg;obtain ⟨b9,rv,p,hz⟩:=I.list hq;obtain ⟨f0,f1,f2,f3,f4,f5⟩:=hf it (by simp);have hl:=rv.length;exact wpAny_pyNext_enum_end (I.ok.hd hc) he hi p.isList (by simp;lia) fun h' eb=>⟨rfl,I.turned (t':=s.toks) (fun b o hb e=>eb b o hb e) f0 f1 f3 f4 f5⟩
 self:=fun _ _ _ _ _ st h=>by
  obtain ⟨⟨old,he⟩,_⟩:=st;exact wpAny_pyIter_enum he h
inductive IS(K:Frag)(R:It->Hp->Prop)(H:Hp):List V->Prop
 | mk {l xs}:SqL K H l xs->R (wb K l) H->IS K R H [.ref l]
def Nd(K:kX)(ta:TA):TI:=fun σ H R=>ta σ H fun vs H1=>IS K R H1 vs
def xc{X:Cx}{L3:kQ li}{x1:Nat}{tpos:Pos}{a:li}{ta:TA}{p pos:Pos} (hg:Gl X "enumerate") (hm:X.mg "enumerate" =none) (ha:PA X [a] ta) (hs:starEach [a] X.env=[(false,eval a X.env)]:=by rfl) :
  PI X (.Tuple L3 x1 tpos) (.Call (.Name "enumerate" p) [a] [] pos) (Nd X.K ta):=by
 intro a9 s σ H R I h;refine Call_ (vo I hg hm boot_enumerate (xR (ma (ha pos a9 s σ H _ I h) fun us s1 ⟨vs,H1,I1,r1,q1⟩=>?_) hs rfl));obtain @⟨l,xs,hq,q⟩:=q1;obtain ⟨u,rfl,ru⟩:=W0 r1;cases ru;obtain ⟨b9,rv,pl,hz⟩:=I1.list hq;refine call_enumerate_list pl.isList fun h' he hi hsz kk=>wpAny_pyIter_enum he ?_
 have I2:lQ X a9 σ H1 { s1 with heap:=h' }:=I1.kept (t':=s1.toks) kk;refine ⟨s1.heap.objs.size+1,[s1.heap.objs.size+1,s1.heap.objs.size],_,_,H1,rfl,I2,Th _ _ (Nat.succ_ne_self _),⟨⟨_,he⟩,hi⟩,fun b hb=>?_,q⟩;rcases mI.mp hb with rfl|hb
 ·exact I1.fpOk (rR _) (I1.hok.fresh (rR _))
 ·have e:b=s1.heap.objs.size:=by simpa using hb
  subst e;exact I1.fpOk (mn _) (I1.hok.fresh (mn _))
def xN{K:kX}{l:kS}{xs:kQ V}{g:TG}{tb:TS}{D:oV}{σ:St}{H:Hp}(Pv:Nat->St->Hp->Prop)(h0:Pv 0 σ H)(hl:∀i σ H,i<=xs.length->Pv i σ H->SqL K H l xs)
  (hs:∀i x σ H,xs[i]? =some x->Pv i σ H->∀p H1,lK H H1->H p=none->H1 p=some (.tup [.int (i:Nat),x])->g (.ref p) σ H1 fun σ2 H2=>tb { D with nx:=Pv (i+1),ct:=Pv (i+1),bk:=D.nx } σ2 H2) (hd:∀σ H,Pv xs.length σ H->D.nx σ H) :
  ∃W:Nat->Nat->St->Hp->Prop,(∃m,W 0 m σ H)/\∀i m σ H,W i m σ H ->
   ((wb K l).stop i H/\D.nx σ H)\/((wb K l).go i H/\∃N:St->Hp->Prop,(∀σ' H',N σ' H'->∃m',m'<m/\W (i+1) m' σ' H')/\∀x H',(wb K l).yld i H x H'->g x σ H' fun σ2 H2=>tb { D with nx:=N,ct:=N,bk:=D.nx } σ2 H2):=by
 refine ⟨fun i m σ H=>m=xs.length-i/\i<=xs.length/\Pv i σ H,⟨xs.length,by simp,oJ _,h0⟩,?_⟩;rintro i m σ H ⟨rfl,hi,p⟩;have q:=hl i σ H hi p
 by_cases c8:i<xs.length
 ·refine .inr ⟨⟨xs,xs[i],q,by simp [c8]⟩,Pv (i+1),fun σ' H' p'=>⟨xs.length-(i+1),by lia,rfl,c8,p'⟩,fun x H' y=>?_⟩;obtain ⟨a,y,e,hn,e2,hy⟩:=y;subst e e2;exact hs i y σ H (hy xs q) p a _ (lK.new hn) hn Zc
 ·have e:i=xs.length:=by lia
  subst e;exact .inl ⟨⟨xs,q,mn _⟩,hd σ H p⟩
def Pi{K:kX}{l:kS}{xs:kQ V}{fr:St->St}{g:TG}{tf:TT}{te:TE}{Q:VK}{σ:St}{H1:Hp}{D:kS}(Pv:Nat->kQ V->Hp->Prop)(h0:Pv 0 [] (upd H1 D (.lst [])))(hl:∀i ys H,i<=xs.length->Pv i ys H->SqL K H l xs)
  (hs:∀i x ys H,xs[i]? =some x->Pv i ys H->∀p H2,lK H H2->H p=none->H2 p=some (.tup [.int (i:Nat),x])->Wi fr g tf te σ D (.ref p) ys H2 (Pv (i+1))) (hd:∀ys H,Pv xs.length ys H->Q (.ref D) H):pS (wb K l) fr g tf te Q σ H1 D:=by
 refine ⟨fun i m ys H=>m=xs.length-i/\i<=xs.length/\Pv i ys H,⟨xs.length,by simp,oJ _,h0⟩,?_⟩;rintro i m ys H ⟨rfl,hi,p⟩;have q:=hl i ys H hi p
 by_cases c8:i<xs.length
 ·refine .inr ⟨⟨xs,xs[i],q,by simp [c8]⟩,Pv (i+1),fun V3 H' p'=>⟨xs.length-(i+1),by lia,rfl,c8,p'⟩,fun x H' y=>?_⟩;obtain ⟨a,y,e,hn,e2,hy⟩:=y;subst e e2;exact hs i y ys H (hy xs q) p a _ (lK.new hn) hn Zc
 ·have e:i=xs.length:=by lia
  subst e;exact .inl ⟨⟨xs,q,mn _⟩,hd ys H p⟩
def wt(d:kS)(o:Obj)(kvs:kQ (md×V)):It :=
 ⟨fun i H=>H d=some (.frz o (.dK kvs))/\i<kvs.length,fun i H x H'=>∃p kv,x=.ref p/\H p=none/\kvs[i]? =some kv/\H'=upd H p (.tup [kV kv.1,kv.2]),fun i H=>H d=some (.frz o (.dK kvs))/\kvs.length<=i⟩
def VQ{P:lq}{w:lh}{K:kX}{L3:kQ li}{x1:Nat}{pos:Pos}{d:kS}{o:Obj}{kvs:kQ (md×V)}{vs:kQ (md×kT)}{ep:Nat}(it:kS)(hk:KV kvs vs)
  (hD:∀h:kZ,h.get? d=some o->h.DictAt (Zu P w) d vs ep):uK P w K (.Tuple L3 x1 pos) (wt d o kvs) [it] it (fun i h=>∃ok ov,IsItemIter h it d i vs.length ep ok ov) where
 mem:=by simp
 obj:=fun i h st b hb=>by
  have e:b=it:=by simpa using hb
  subst e;obtain ⟨ok,ov,e⟩:=st;exact ⟨_,e,fun v z=>nomatch z⟩
 keep:=fun i h h' st k=>by
  obtain ⟨ok,ov,e⟩:=st;exact ⟨ok,ov,k it (by simp) _ e⟩
 item:=by
  intro X hP hw hK hc i a9 s σ H E I hf st hg;subst hP hw hK;obtain ⟨ok,ov,hi⟩:=st;obtain ⟨hq,c8⟩:=hg;have hdo:s.heap.get? d=some o:=(I.hok d _ hq).1;obtain ⟨u,hu,ru⟩:=hk.get (i:=i) (kv:=kvs[i]) (by simp [c8]);refine wpAny_pyNext_items_item (knd:=Zu X.prog X.w) hi (hD _ hdo) hu fun key h' K1 ho ht hsz kk=>?_
  refine ⟨_,rfl,wpAny_letOwnedTupleGo_items ho fun h2 he2 sb=>?_⟩;have Q7:it<s.heap.objs.size:=mo hi;have k2:∀b v,b∉[it]->s.heap.get? b=some v->h2.get? b=some v:=fun b v hb q=>by
   have b1:b≠it:=fun z=>hb (by simp [z])
   exact (sb.2 b b1).trans (kk b v b1 q)
  have htup:h2.get? s.heap.objs.size=some { cls:=.type "tuple",data:=.seq #[key,u] }:=(sb.2 _ (uV Q7)).trans ht;have new:Z5 X.prog X.w (upd H s.heap.objs.size (.tup [kV kvs[i].1,kvs[i].2])) h2 s.heap.objs.size (.tup [kV kvs[i].1,kvs[i].2]) :=
   ⟨sz (by simp),[key,u],.cons (Ce K1) (.cons ru .nil),⟨_,htup,rfl,_,rfl⟩⟩
  refine ⟨.ref s.heap.objs.size,_,I.turnedNew (t':=s.toks) hf k2 new,rfl,⟨_,kvs[i],rfl,I.fresh,by simp [c8],rfl⟩,⟨_,_,he2⟩,fun b hb=>?_⟩;have e:b=it:=by simpa using hb
  subst e;rw [Zd (mC Q7)];exact (hf _ hb).1
 done:=by
  intro X hP hw hK hc i a9 s σ H E I hf st hg;subst hP hw hK;obtain ⟨ok,ov,hi⟩:=st;obtain ⟨hq,D9⟩:=hg;obtain ⟨f0,f1,f2,f3,f4,f5⟩:=hf it (by simp);have hdo:s.heap.get? d=some o:=(I.hok d _ hq).1;have hl:=KV.length hk;exact wpAny_pyNext_items_end (knd:=Zu X.prog X.w) (I.ok.hd hc) hi (hD _ hdo) (uc (by lia)) fun h' eb=>⟨rfl,I.turned (t':=s.toks) (fun b o hb e=>eb b o hb e) f0 f1 f3 f4 f5⟩
 self:=fun _ _ _ _ _ st h=>by
  obtain ⟨ok,ov,hi⟩:=st;exact PySem.W.kcp_self hi h
def Pm(X:Cx)(tl:TE):TI:=fun σ H R=>tl σ H fun x H1=>∃d kvs,x=.ref d/\H1 d=some (.dK kvs)/\∀o,NF X d (.dK kvs)->R (wt d o kvs) (upd H1 d (.frz o (.dK kvs)))
def vG{X:Cx}{L3:kQ li}{x1:Nat}{tpos g7 d6:Pos}{o:li}{to:TE}(ho:PE X o to) (y9:attributeBase o "items" X.env (eval o X.env)=eval o X.env:=by rfl) (B9:(g7.endLine ==d6.line)=true:=by rfl) :
  PI X (.Tuple L3 x1 tpos) (.Call (.Attribute o "items" g7) [] [] d6) (Pm X to):=by
 intro a9 s σ H R I h;refine wpAny_Call_method0_late y9 B9 (ma (ho a9 s σ H _ I h) fun v s1 ⟨y,H1,I1,r1,q1⟩=>?_);obtain ⟨d,kvs,rfl,hd,q⟩:=q1;cases r1;obtain ⟨hz,hs,vs,kv,dd⟩:=uJ I1.hok hd;obtain ⟨ob,_,_,C1,O4,_⟩:=id dd;obtain ⟨ep,hD⟩:=DT dd C1;refine ⟨"dict", "dict.items",ye,Hg,PySem.F.type_dict_items,dd.typeIs,fun a e=>?_,wc rfl (LF ?_)⟩
 ·cases e;exact ⟨ob,C1,O4.2.1⟩
 refine uT Hg dd.typeIs PySem.F.entry_dict_items (PySem.F.args_dict_items_1 _) (meets_dict_items (Zu X.prog X.w) d hs) ⟨⟨vs,dd⟩,?_⟩;have I2:=I1.freeze hd rfl C1;have I3:lQ X a9 σ (upd H1 d (.frz ob (.dK kvs))) { s1 with heap:=s1.heap.push { cls:=.type "dict_items",data:=.fields #[.ref d] } }:=I2.kept (t':=s1.toks) fun b o e=>my _ e
 refine wpAny_pyIter_items (knd:=Zu X.prog X.w) (d:=d) ⟨_,nG _ rfl,rfl,rfl⟩ (hD _ (my _ C1)) ?_;refine ⟨_,[_],_,_,_,rfl,I3.kept (t':=s1.toks) fun b o e=>my _ e,VQ _ kv hD,⟨_,_,nG _ rfl⟩,fun b hb=>?_,q ob ⟨I1.notFrz hd (fun _ _ z=>nomatch z),fun _ z=>nomatch z⟩⟩;have e:=nW.mp hb;subst e;exact I3.fpOk (mn _) (I3.hok.fresh (mn _))
def AS{d:kS}{o:Obj}{kvs:kQ (md×V)}{g:TG}{tb:TS}{D:oV}{σ:St}{H:Hp}(Pv:Nat->St->Hp->Prop)(h0:Pv 0 σ H)(hl:∀i σ H,i<=kvs.length->Pv i σ H->H d=some (.frz o (.dK kvs)))
  (hs:∀i kv σ H,kvs[i]? =some kv->Pv i σ H->∀p H1,lK H H1->H p=none->H1 p=some (.tup [kV kv.1,kv.2])->g (.ref p) σ H1 fun σ2 H2=>tb { D with nx:=Pv (i+1),ct:=Pv (i+1),bk:=D.nx } σ2 H2) (hd:∀σ H,Pv kvs.length σ H->D.nx σ H) :
  ∃W:Nat->Nat->St->Hp->Prop,(∃m,W 0 m σ H)/\∀i m σ H,W i m σ H ->
   ((wt d o kvs).stop i H/\D.nx σ H)\/((wt d o kvs).go i H/\∃N:St->Hp->Prop,(∀σ' H',N σ' H'->∃m',m'<m/\W (i+1) m' σ' H')/\∀x H',(wt d o kvs).yld i H x H'->g x σ H' fun σ2 H2=>tb { D with nx:=N,ct:=N,bk:=D.nx } σ2 H2):=by
 refine ⟨fun i m σ H=>m=kvs.length-i/\i<=kvs.length/\Pv i σ H,⟨kvs.length,by simp,oJ _,h0⟩,?_⟩;rintro i m σ H ⟨rfl,hi,p⟩;have q:=hl i σ H hi p
 by_cases c8:i<kvs.length
 ·refine .inr ⟨⟨q,c8⟩,Pv (i+1),fun σ' H' p'=>⟨kvs.length-(i+1),by lia,rfl,c8,p'⟩,fun x H' y=>?_⟩;obtain ⟨a,kv,e,hn,A0,e2⟩:=y;subst e e2;exact hs i kv σ H A0 p a _ (lK.new hn) hn Zc
 ·have e:i=kvs.length:=by lia
  subst e;exact .inl ⟨⟨q,mn _⟩,hd σ H p⟩
def vT(K:kX)(H:Hp)(x y:V):Prop:=(qQ x=true/\qQ y=true/\qc x y=true)\/∃n t,n<=60/\Im K H n t x/\Im K H n t y
def vT.eqAt(I:lQ X a9 σ H s)(h:vT X.K H x y)(rx:Yd x u)(ry:Yd y v)(hu:A.units+60<cLine):SeqAt.EqAt A s u v true:=by
 rcases h with ⟨f1,f2,e⟩|⟨n,t,hn,i1,i2⟩
 ·exact Ye (za rx ry f1 f2) e
 ·exact Ye (Im.eqAt I n A i1 i2 rx ry (by lia)) (mB rfl)
def Ia(K:kX):R2:=fun x y H Q=>∃a b ka kb,x=.ref a/\y=.ref b/\Rd H a (.dK ka)/\Rd H b (.dK kb)/\ka.length=kb.length/\(∀kv∈ka,∃v,Y2 kb kv.1=some v/\vT K H kv.2 v)/\Q (.bl true) H
def VI(hu:X.A.units+64<cLine):mM X (compareOp .Eq) (Ia X.K):=by
 intro a9 s σ H x y v u Q I rx ry h;obtain ⟨a,b,ka,kb,rfl,rfl,ha,hb,hl,j7,q⟩:=h;cases rx;cases ry;obtain ⟨_,sa,va,ra,da⟩:=qe I.hok ha;obtain ⟨_,sb,vb,rb,db⟩:=qe I.hok hb;have la:=KV.length ra;have lb:=KV.length rb;have N0:∀{ka':kQ (md×V)} {va':kQ (md×kT)},KV ka' va'->(∀kv∈ka',∃v,Y2 kb kv.1=some v/\vT X.K H kv.2 v)->PySem.W.KeqHits X.A.in1 s vb va' true:=by
  intro ka' va' r
  induction r with
  | nil=>intro _;exact .nil
  | cons r t ih =>
   rename_i p q l m;intro hv;obtain ⟨e1,r2⟩:=r;obtain ⟨v,hv1,V9⟩:=hv p mV;have Q8:=KV.val rb p.1;rw [hv1] at Q8;obtain ⟨y,hy,ry⟩:=oW.some_of Q8;rw [e1] at hy;have:=Mp (k:=q.1) (v:=q.2) hy (V9.eqAt (A:=X.A.in1) I r2 ry (by rw [Wv];lia)) (ih fun kv A0=>hv kv (nJ _ A0));simpa using this
 refine PySem.W.keq_eq (knd:=Zu X.prog X.w) sa sb da db (by lia) (fun _=>N0 ra j7) ⟨.bl true,H,I,?_,q⟩;rw [show (va.length ==vb.length)=true by rw [<-la,<-lb,hl];simp]
 rfl
def zw(K:kX):R2:=fun x y H Q=>JV x y H Q\/AZ K false x y H Q\/Ia K x y H Q
def Li(K:kX):kQ V->Hp->VK->Prop:=fun xs H Q=>(∃p ys,xs=[.ref p]/\(SqL K H p ys\/SqT K H p ys)/\Q (.int ys.length) H)\/(∃z,xs=[.str z]/\z.length<=sizeLine/\Q (.int z.length) H)\/∃a kvs,xs=[V.ref a]/\H a=some (.dK kvs)/\Q (.int kvs.length) H
def qL(K:kX):V->kW Int->kW Int->Hp->VK->Prop:=fun x lo hi H Q=>Lo K x lo hi H Q\/MW K x lo hi H Q\/Io x lo hi H Q
def Df(hr:Y5 k X.A):mM X (compareOp .Eq) (zw X.K):=Kg.or ((UU hr.units).or (VI hr.units))
def TY:Xc X (.builtin "len") (Li X.K):=WM.or (Qs.or Ui)
def qU:qM X (qL X.K):=Qv.or (UG.or Rs)
def yk(K:kX):kQ V->Hp->VK->Prop:=fun xs H Q=>∃p ys,xs=[.ref p]/\(SqL K H p ys\/SqT K H p ys)/\pb H (.lst ys) Q
def Bh:Xc X (.type "list") (yk X.K):=RF.imp fun xs H Q ⟨p,ys,h1,h2,h3⟩=>⟨p,ys,h1,h2,fun l hl=>h3.at l hl⟩
def Ef:kQ V->Hp->VK->Prop:=fun xs H Q=>∃p kvs,xs=[.ref p]/\Rd H p (.dK kvs)/\pb H (.dK kvs) Q
def MD:Xc X (.type "dict") Ef:=by
 intro a9 s σ H xs us Q I r h;obtain ⟨p,kvs,rfl,hd,q⟩:=h;obtain ⟨u,rfl,ru⟩:=W0 r;cases ru;exact VF I hd fun a s' hn I'=>⟨.ref a,_,I',rfl,q.at a hn⟩
def Sv:TE:=fun _ H Q=>pb H (.dK []) Q
def Xh:PE X (.Dict [] [] pos) Sv:=fun a9 s σ H Q I h=>TB a9 s σ H Q I fun p hp=>h.at p hp
def Vt:TE:=fun _ H Q=>pb H (.dT []) Q
def Ls:PE X (.Dict [] [] pos) Vt:=fun a9 s σ H Q I h=>Sx a9 s σ H Q I fun p hp=>h.at p hp
def Ic(K:kX):kQ V->Hp->VK->Prop:=fun xs H Q=>∃(p:kS) (bs:kQ Bool),xs=[.ref p]/\SqL K H p (bs.map V.bl)/\Q (.bl (bs.all id)) H
def Py(hc:X.calm=true):Xc X (.builtin "all") (Ic X.K):=UH hc
def wF(K:kX):kQ V->Hp->VK->Prop:=fun xs H Q=>∃x c b t,xs=[x,c]/\Xl K H x t/\((∃n,c=.ty n/\kitOne K t (.type n)=some b)\/∃a,c=.ref a/\kitOne K t (.ref a)=some b)/\Q (.bl b) H
def zy:Xc X (.builtin "isinstance") (wF X.K):=Vh
def Vc{fr:St->St}
  (hN:X.N.Nodup) (hi':X.N[i]? =some y) (hy:tW X.env.scope y) (hc:X.calm=true) (S:Wf X scope cl N' fr) (hi:PI X tg i9 wi) (hg:∀s H C ex,PG (Y0 X scope cl N' s H C ex) tg g) (hf:∀s H C ex,PF (Y0 X scope cl N' s H C ex) C8 tf)
  (he:∀s H C ex,PE (Y0 X scope cl N' s H C ex) E5 te) (hs:∀x,foldedSetIterable i9 X.env x=pure x:=by intro _;rfl)
  (hsw:swapsWith (.ListComp E5 [⟨tg,i9,C8,0⟩] scope pos) (some (.Name y py)) spos.line X.env=pure true:=by rfl) (D8:X.fn y=true\/X.env.scope.names.lookup y=some .local:=by first | exact .inl rfl | exact .inr rfl | assumption) :
  PS X (.Assign [.Name y py] (.ListComp E5 [⟨tg,i9,C8,0⟩] scope pos) spos) (yN (zJ wi fr g tf te) (pZ i)):=by
 intro a9 s σ H D I h;rw [exec_Assign_Name_used _ _ _ _ hsw];refine lT (xO (lT ?_));show wpAny _ X.A (do let _ <-comprehension (.ListComp E5 [⟨tg,i9,C8,0⟩] scope pos) scope X.env _ (newList []) false (eval i9 X.env) (some (assign (.Name y py) X.env))) _ _ s;refine lT (oQ (Fl (use:=some (assign (.Name y py) X.env)) (Q:=fun _ s'=>∃σ' H',lQ X a9 σ' H' s'/\D.nx σ' H') rfl hs S.clos S.kind S.names (ma (hi a9 s σ H _ I h) fun v s1 h1=>ma h1 fun itv s2 h2=>?_)) (fun _ s' hq=>mi (mi hq)) fun _ _ e=>e);obtain ⟨it,fp,tn,J,H2,e,I2,T,st2,f2,q⟩:=h2;subst e;refine tI (Bc S.cell (by intro y hy;simp at hy) (fun h₁ K0 B2=>?_) S.kind);dsimp only at K0 B2 ⊢;generalize hP:s2.heap.push { cls:=.type "list",dict:=none,data:=.seq ([]:kQ kT).toArray }=P at K0 B2 ⊢;have hPz:P.objs.size=s2.heap.objs.size+1:=by rw [<-hP,se]
 have U0:s2.heap.objs.size<P.objs.size:=by rw [hPz];exact yg _
 have V8:∀b∈fp,∃o,s2.heap.get? b=some o:=fun b hb=>let ⟨o,e,_⟩:=T.obj _ _ st2 b hb;⟨o,e⟩
 have E6:∀b,b<s2.heap.objs.size->b≠P.objs.size:=fun b hb=>mC (pV hb U0)
 have old:∀b o,s2.heap.get? b=some o->h₁.get? b=some o:=fun b o e=>B2.extBut b o (E6 b (mo e)) (my _ (hP ▸ my _ e))
 have A6:h₁.get? s2.heap.objs.size=some { cls:=.type "list",data:=.seq ([]:kQ kT).toArray 0 }:=B2.extBut _ _ (mC U0) (my _ (hP ▸ nG _ rfl));have fD:H2 s2.heap.objs.size=none:=I2.hok.fresh (mn _);obtain ⟨W,⟨m0,w0⟩,K4⟩:=q s2.heap.objs.size fD;have hz:h₁.objs.size<=P.objs.size+1:=by
  have e:=B2.1;rw [se] at e;exact vI e
 have st1:tn 0 h₁:=T.keep _ _ _ st2 fun b hb o e=>old b o e
 have B5:∀{p8:kQ (kS×Obj)} {H':Hp},(∀p∈p8,p.1∉fp)->(∀b∈fp,H' b=none)->∀b∈fp,rA (Y0 X scope cl N' s2 H2 P.objs.size fp) p8 H' b:=fun {p8 H'} hp hn b hb=>by
  obtain ⟨o,e⟩:=V8 b hb;obtain ⟨_,f1,f2',f3,f4,f5⟩:=f2 b hb;refine ⟨hn b hb,E6 b (mo e),fun z=>?_,.inl hb,fun x c h=>f4 x c (S.sub x c h),fun p hp' z=>?_⟩
  ·rcases mI.mp (I2.stkSub b z) with q|q
   ·exact f1 q
   ·exact f2' q
  ·have hp2:p∈p8:=by simpa [Y0] using hp'
   exact hp p hp2 (by rw [z];exact hb)
 have loop:∀s3:kU,s3={ s2 with heap:=h₁,toks:=s2.toks+([]:kQ (kR×kT)).length } ->
   codeAny (model X.prog X.w) X.A (.compLoop (.ListComp E5 [⟨tg,i9,C8,0⟩] scope pos) 0 (.ref it) (.ref s2.heap.objs.size) (compEnvC scope cl P.objs.size X.env)) (compPost (model X.prog X.w) X.A X.xe (some (assign (.Name y py) X.env)) (fun _ s'=>∃σ' H',lQ X a9 σ' H' s'/\D.nx σ' H') (.ref s2.heap.objs.size) P.objs.size) s3:=by
  rintro s3 rfl;have I3:lQ (Y0 X scope cl N' s2 H2 P.objs.size fp) [] (fr σ) (upd H2 s2.heap.objs.size (.lst [])) { s2 with heap:=h₁,toks:=s2.toks+([]:kQ (kR×kT)).length }:=Ij I2 S U0 rfl f2 V8 old A6 K0 hz;refine Gw (fun n s'=>∃i ys H',lQ (Y0 X scope cl N' s2 H2 P.objs.size fp) [] (fr σ) H' s'/\tn i s'.heap/\(∀b∈fp,H' b=none)/\W i n ys H') ?_ m0 ⟨0,[],_,I3,st1,fun b hb=>?_,w0⟩
  ·rintro n s3 ⟨i,ys,H3,I3,st3,fr3,w3⟩;rcases K4 i n ys H3 w3 with ⟨stop,qn⟩|⟨go,N,hN,step⟩
   ·refine ma (T.done (Y0 X scope cl N' s2 H2 P.objs.size fp) rfl rfl rfl hc i [] s3 (fr σ) H3 _ I3 (B5 (by simp) fr3) st3 stop) fun r s4 ⟨hr,I4⟩=>?_
    subst hr;obtain ⟨m4,hn4,_⟩:=I4.loc;obtain ⟨oC,esC,epC,hoC,hrC⟩:=id hn4;have J0:lQ X a9 σ H3 s4:=IW I2 U0 f2 I4 (h':=s4.heap) ⟨rfl,fun _ _=>rfl⟩;have big:s2.heap.objs.size<=P.objs.size:=tT U0;have fC:H3 P.objs.size=none:=I4.free;have okC:=I2.fpOk big fC;have J1:lQ X (a9++[(P.objs.size,oC)]) σ H3 s4:=J0.pins_of fun p hp=>by
     rcases mZ.mp hp with hp|hp
     ·exact J0.pin p (pq _ hp)
     ·have e:p=(P.objs.size,oC):=by simpa using hp
      subst e;exact ⟨hoC,fC,okC.2.1,okC.2.2.1,fun v z=>by rw [hrC.1] at z;cases z⟩
    refine ma (CP hN hi' hy D8 (X:=X) (pos:=py) _ s4 σ H3 (.ref s2.heap.objs.size) (.ref s2.heap.objs.size) _ J1 rfl qn) fun _ s5 ⟨σ5,H5,I5,q5⟩=>?_
    obtain ⟨p1,p2,p3,p4,p5⟩:=I5.pin (P.objs.size,oC) (pq _ (pq _ (by simp)));exact ⟨m4,⟨oC,esC,epC,p1,hrC⟩,fun h' O0=>⟨σ5,H5,(I5.unpinned).turned (t':=s5.toks) (it:=P.objs.size) (fun b o hb e=>(O0.2 b hb).trans e) p2 p3 okC.2.2.2.1 okC.2.2.2.2.1 okC.2.2.2.2.2,q5⟩⟩
   ·refine ma (T.item (Y0 X scope cl N' s2 H2 P.objs.size fp) rfl rfl rfl hc i [] s3 (fr σ) H3 _ I3 (B5 (by simp) fr3) st3 go) fun r s4 ⟨u,hr,h4⟩=>?_
    subst hr;refine ma h4 fun _ s5 h9=>?_
    obtain ⟨x,H5,I5,r5,y5,Q5,fr5⟩:=h9;have I5':=I5.pinned (B5 (by simp) fr5) (T.obj _ _ Q5);refine ma (hg s2 H2 P.objs.size fp _ s5 (fr σ) H5 x u _ I5' r5 (step x H5 y5)) fun _ s6 ⟨σ6,H6,I6,kp,q6⟩=>?_
    refine ma (hf s2 H2 P.objs.size fp _ s6 σ6 H6 _ I6 q6) fun ok s7 ⟨H7,I7,q7⟩=>?_
    have A4:∀{σ8:St} {H8:Hp} {s8:kU} {ys8:kQ V},X8 (fr σ) σ8->lQ (Y0 X scope cl N' s2 H2 P.objs.size fp) ([]++xw fp s5.heap) σ8 H8 s8->N ys8 H8 ->
      ∃m,m<n/\∃i ys H',lQ (Y0 X scope cl N' s2 H2 P.objs.size fp) [] (fr σ) H' s8/\tn i s8.heap/\(∀b∈fp,H' b=none)/\W i m ys H':=fun {σ8 H8 s8 ys8} kp8 I8 n8=>by
     obtain ⟨m',hm,w8⟩:=hN ys8 H8 n8;refine ⟨m',hm,i+1,ys8,H8,(I8.unpinned).weak (by rw [I8.len];exact S.len σ I2.len) kp8,T.keep _ _ _ Q5 fun b hb o e=>(I8.pin (b,o) (pq _ (pq _ (wf hb e)))).1,fun b hb=>?_,w8⟩;obtain ⟨o,e,d⟩:=T.obj _ _ Q5 b hb;exact (I8.pin (b,o) (pq _ (pq _ (wf hb e)))).2.1
    cases ok with
    | false=>exact A4 kp I7 q7
    | true =>
     refine ma (he s2 H2 P.objs.size fp _ s7 σ6 H7 _ I7 q7) fun uy s8 h9=>?_
     obtain ⟨y,H8,I8,r8,hD8,hz8,q8⟩:=h9;exact ma (EU _ s8 σ6 H8 (.ref s2.heap.objs.size) [y] (.ref s2.heap.objs.size) [uy] (fun _ H9=>N (ys++[y]) H9) I8 rfl (.cons r8 .nil) ⟨_,ys,y,rfl,rfl,hD8,hz8,q8⟩) fun _ s9 ⟨v9,H9,I9,_,q9⟩=>A4 kp I9 q9
  ·show upd H2 s2.heap.objs.size (.lst []) b=none;obtain ⟨o,e⟩:=V8 b hb;rw [Zd (mC (mo e))];exact (f2 b hb).1
 exact codeAny_compStart_list (loop _ rfl) (T.self X.A 0 _ _ _ st1 (loop _ rfl))
def ux{X:Cx}{K:kX}{es:kQ li}{k:Nat}{pos:Pos}{t:vB}{n:Nat}(hK:X.K=K)(hc:X.calm=true)(h:wN X es t)
  (hn:(assignEach es X.env).length=n:=by rfl) (z6:(assignEach es X.env).findIdx? (·.1)=none:=by rfl):PG X (.Tuple es k pos) (EZ K n t):=hK ▸ qG hc h hn z6
def IZ:kQ V->Hp->VK->Prop:=fun xs H Q=>∃p kvs,xs=[.ref p]/\Rd H p (.dK kvs)/\pb H (.lst (kvs.map fun kv=>kV kv.1)) Q
theorem Cz  :∀{kvs:kQ (md×V)} {va:kQ (md×kT)} {vs:kQ kT},KV kvs va->vs.length=va.length->(∀(j:Nat) (v:kT),vs[j]? =some v->∃(k:md) (x:kT),va[j]? =some (k,x)/\(Zu P w).is k v=true)->Yc (kvs.map fun kv=>kV kv.1) vs
 | [],_,[],.nil,_,_=>.nil
 | [],_,_ ::_,.nil,h,_=>by simp at h
 | p ::kvs,q ::va,[],.cons r t,h,_=>by simp at h
 | p ::kvs,q ::va,v ::vs,.cons r t,h,hv=>by
  obtain ⟨k,x,e,hk⟩:=hv 0 v rfl;simp only [List.getElem?_cons_zero,Option.some.injEq] at e;subst e;rw [mH];refine .cons ?_ (Cz (P:=P) (w:=w) t (by simpa using h) fun j u hu=>by simpa using hv (j+1) u (by simpa using hu));rw [r.1];exact Ce hk
def WZ(hc:X.calm=true):Xc X (.type "list") IZ:=by
 intro a9 s σ H xs us Q I r h;obtain ⟨p,kvs,rfl,hd,q⟩:=h;obtain ⟨u,rfl,rx⟩:=W0 r;cases rx;obtain ⟨hz,lo,va,kv,da⟩:=qe I.hok hd;obtain ⟨ep,A5⟩:=da.dictAt;have hl:=KV.length kv;refine PySem.W.kdl_call (PySem.W.kdl_dict (knd:=Zu X.prog X.w) (kvs:=va) (ep:=ep) lo) (I.ok.hd hc) A5 (by lia) fun h' tk K2 c' hk hD A6=>?_
 have hv:Yc (kvs.map fun kv=>kV kv.1) K2.toList:=Cz (P:=X.prog) (w:=X.w) kv (by rw [sM];exact A6.1) fun j v e=>A6.2 j v (by rw [<-zU];exact e)
 exact ⟨.ref s.heap.objs.size,_,I.laid (o:=.lst (kvs.map fun kv=>kV kv.1)) (t':=tk) hk (mn _) (show Z5 X.prog X.w _ h' _ (.lst _) from ⟨by rw [lV];exact hz,K2.toList,c',hv,by rw [hD]⟩),rfl,q.at _ (I.hok.fresh (mn _))⟩
def Mw(K:kX):R2:=fun x y H Q=>∃a b ka kb,x=.ref a/\y=.ref b/\Rd H a (.dK ka)/\Rd H b (.dK kb)/\ka.length=kb.length/\(∀kv∈ka,∃v,Y2 kb kv.1=some v/\vT K H kv.2 v)/\Q (.bl false) H
def Po(hu:X.A.units+64<cLine):mM X (compareOp .NotEq) (Mw X.K):=by
 intro a9 s σ H x y v u Q I rx ry h;obtain ⟨a,b,ka,kb,rfl,rfl,ha,hb,hl,j7,q⟩:=h;cases rx;cases ry;obtain ⟨_,sa,va,ra,da⟩:=qe I.hok ha;obtain ⟨_,sb,vb,rb,db⟩:=qe I.hok hb;have la:=KV.length ra;have lb:=KV.length rb;have N0:∀{ka':kQ (md×V)} {va':kQ (md×kT)},KV ka' va'->(∀kv∈ka',∃v,Y2 kb kv.1=some v/\vT X.K H kv.2 v)->PySem.W.KeqHits X.A.in1 s vb va' true:=by
  intro ka' va' r
  induction r with
  | nil=>intro _;exact .nil
  | cons r t ih =>
   rename_i p q l m;intro hv;obtain ⟨e1,r2⟩:=r;obtain ⟨v,hv1,V9⟩:=hv p mV;have Q8:=KV.val rb p.1;rw [hv1] at Q8;obtain ⟨y,hy,ry⟩:=oW.some_of Q8;rw [e1] at hy;have:=Mp (k:=q.1) (v:=q.2) hy (V9.eqAt (A:=X.A.in1) I r2 ry (by rw [Wv];lia)) (ih fun kv A0=>hv kv (nJ _ A0));simpa using this
 refine PySem.W.keq_ne (knd:=Zu X.prog X.w) sa sb da db (by lia) (fun _=>N0 ra j7) ⟨.bl false,H,I,?_,q⟩;rw [show (va.length ==vb.length)=true by rw [<-la,<-lb,hl];simp]
 rfl
def Au(K:kX)(neg:Bool):R2:=fun x y H Q=>∃(p:kS) (n:Nat) (t:Tr) (ts:kQ Tr) (as:kQ kS),y=.ref p/\SqL K H p (as.map V.ref)/\n<=60/\Im K H n t x/\Paired (Im K H n) ts (as.map V.ref)/\Q (.bl (if neg then !decide (t∈ts) else decide (t∈ts))) H
def tD (K:kX) (H:Hp) (n:Nat) (t:Tr) (u:kT):Bool:=match u with
 | .ref a=>@decide (Im K H n t (.ref a)) (Classical.propDecidable _)
 | _=>false
theorem Fa(I:lQ X a9 σ H s)  :∀{ts:kQ Tr} {as:kQ kS} {us:kQ kT},Paired (Im X.K H n) ts (as.map V.ref)->Yc (as.map V.ref) us->us.any (tD X.K H n t)=decide (t∈ts)
 | [],[],_,_,v=>by rw [sQ] at v;cases v;simp
 | [],a ::as,_,p,_=>by rw [mH] at p;cases p
 | t' ::ts,[],_,p,_=>by rw [sQ] at p;cases p
 | t' ::ts,a ::as,us,p,v=>by
  rw [mH] at p v;cases p with
  | cons i p =>
   cases v with
   | cons r v =>
    cases r;rw [vf,Fa I p v,qH,zK];simp only [tD,vY,mI]
    constructor
    ·rintro (z|z)
     ·exact .inl (Im.inj I z i)
     ·exact .inr z
    ·rintro (z|z)
     ·exact .inl (z ▸ i)
     ·exact .inr z
theorem EK(I:lQ X a9 σ H s)(hu:A.units+n<cLine)(hx:Im X.K H n t x)(rx:Yd x vx) :
  ∀{ts:kQ Tr} {as:kQ kS} {us:kQ kT},Paired (Im X.K H n) ts (as.map V.ref)->Yc (as.map V.ref) us->∀u∈us,SeqAt.EqAt A s u vx (tD X.K H n t u)
 | [],[],_,_,v=>by rw [sQ] at v;cases v;simp
 | [],a ::as,_,p,_=>by rw [mH] at p;cases p
 | t' ::ts,[],_,p,_=>by rw [sQ] at p;cases p
 | t' ::ts,a ::as,us,p,v=>by
  rw [mH] at p v;cases p with
  | cons i p =>
   cases v with
   | cons r v =>
    cases r;intro u hm;rcases mI.mp hm with e|e
    ·subst e;refine Ye (Im.eqAt I n A i hx rfl rx hu) ?_;simp only [tD,Fg];exact ⟨fun z=>z ▸ i,fun z=>(Im.inj I z i).symm⟩
    ·exact EK I hu hx rx p v u e
def NN(hu:X.A.units+64<cLine):mM X (compareOp .In) (Au X.K false):=by
 intro a9 s σ H x y v u Q I rx ry h;obtain ⟨p,n,t,ts,as,rfl,hq,hn,hx,hp,q⟩:=h;cases ry;obtain ⟨b9,r,pl,hz⟩:=I.list hq;refine SeqAt.in_listAt (tD X.K H n t) pl.isList (fun w hw=>EK I (by rw [Wv];lia) hx rx hp r w (by simpa using hw)) ⟨.bl _,H,I,rfl,?_⟩;rw [show b9.toArray.any (tD X.K H n t)=b9.any (tD X.K H n t) by simp,Fa I hp r];exact q
def RT(hu:X.A.units+64<cLine):mM X (compareOp .NotIn) (Au X.K true):=by
 intro a9 s σ H x y v u Q I rx ry h;obtain ⟨p,n,t,ts,as,rfl,hq,hn,hx,hp,q⟩:=h;cases ry;obtain ⟨b9,r,pl,hz⟩:=I.list hq;refine SeqAt.notIn_listAt (tD X.K H n t) pl.isList (fun w hw=>EK I (by rw [Wv];lia) hx rx hp r w (by simpa using hw)) ⟨.bl _,H,I,rfl,?_⟩;rw [show b9.toArray.any (tD X.K H n t)=b9.any (tD X.K H n t) by simp,Fa I hp r];exact q
def ro(K:kX):R2:=fun x y H Q=>Ht x y H Q\/AZ K true x y H Q\/Mw K x y H Q
def uQ(hr:Y5 k X.A):mM X (compareOp .NotEq) (ro X.K):=UA.or ((Sy hr.units).or (Po hr.units))
def xL(K:kX):R2:=fun x y H Q=>yC K false x y H Q\/(∃a o,y=.ref a/\Xq H a x o/\Q (.bl o.isSome) H)\/(∃i j,x=.str i/\y=.str j/\Q (.bl (!(Builtin.Str.occurrences j i 0 j.length 1).isEmpty)) H)\/Au K false x y H Q
def As(hr:Y5 k X.A):mM X (compareOp .In) (xL X.K):=Iz.or ((PV (Xi hr)).or (Qf.or (NN hr.units)))
def Cw(K:kX):R2:=fun x y H Q=>yC K true x y H Q\/(∃a o,y=.ref a/\Xq H a x o/\Q (.bl (!o.isSome)) H)\/Au K true x y H Q
def Gh(hr:Y5 k X.A):mM X (compareOp .NotIn) (Cw X.K):=RI.or ((WP (Xi hr)).or (RT hr.units))
end L2
end
section
namespace L2
open PySem
def VE(h lL:kZ)(e:kS)(cls a0:kT)(dx:kW kS)(fl:kT):Prop :=
 ∃oe vs T oT ts,h.get? e=some oe/\oe.cls=cls/\oe.dict=dx/\oe.data=.fields vs/\(vs[0]? =some a0/\vs[2]? =some .none)/\vs[1]? =some (.ref T)/\lL.get? T=none/\T≠e/\h.get? T=some oT/\oT.data=.fields ts/\ts[3]? =some fl
def oU(lL:kZ)(l:kQ Env)(e:kS)(cls a0:kT)(dx:kW kS)(fl:kT)(h:kZ):Prop:=lL.StaysIn h/\lL.get? e=none/\h.FunFrames lL l/\VE h lL e cls a0 dx fl
def Tg(f:Array kT->Array kT)(o:Obj):(Obj.mapFields f o).dict=o.dict:=by
 obtain ⟨c,d,dt,sl⟩:=o;cases dt <;>rfl
def oU.there(x:oU lL l e cls a0 dx fl h):∃ob,h.get? e=some ob/\ob.cls=cls/\ob.dict=dx/\∃vs,ob.data=.fields vs:=by
 obtain ⟨_,_,_,oe,vs,_,_,_,he,hc,hx,hd,_⟩:=x;exact ⟨oe,he,hc,hx,vs,hd⟩
def oU.ctx(x:oU lL l e cls a0 dx fl h):∃ob vs,h.get? e=some ob/\ob.data=.fields vs/\vs[2]? =some .none:=by
 obtain ⟨_,_,_,oe,vs,_,_,_,he,hc,hx,hd,h0,_⟩:=x;exact ⟨oe,vs,he,hd,h0.2⟩
section
variable {M:Model} {A:lu} {E:kT->kU->Prop} {s:kU} {lL:kZ} {env:Env} {lJ l:kQ Env} {L e:kS} {oe:Obj} {vs:Array kT} {head a0 cls fl:kT} {dx:kW kS} {Q:Unit->kU->Prop}
def Gk(p7:A.frames=some (env ::lJ))(hl:s.heap.FunFrames lL (env ::lJ))(hf:env.frame=some L)(he:s.heap.get? e=some oe)(hkb:lL.StaysIn s.heap)(M0:lL.get? e=none)(hd:oe.data=.fields vs)(hsz:1<vs.size)
  (h0:vs[0]? =some a0/\vs[2]? =some .none) (h:∀h',oU lL (env ::lJ) e oe.cls a0 oe.dict (rawInt L) h'->s.heap.UpToSlots h'->Q () { s with heap:=h' }) :
  wpAny M A (do let a <-frameOf env;let pl <-entryPlaceOf L hadNext;let b <-EntryCells.newEntry head a .none (rawInt L) .none pl;setField (.ref e) 1 b) Q E s:=by
 have off:e∉(env ::lJ).filterMap (·.frame):=fun z=>by
  obtain ⟨_,o,q,nf⟩:=hl.mem z;rw [he] at q;cases q;exact nf vs hd
 refine lT (wpAny_frameOf_fun p7 hl hf fun g so=>lT (wpAny_entryPlaceOf fun pl g8=>?_));unfold EntryCells.newEntry newFields;refine lT (tI ?_ (g8.sizeOk5 _ _ _ _ _));have e1:g.get? e=some oe:=by rw [so.2.1 e off];exact he
 have k1:lL.StaysIn g:=fun b o q=>by
  rw [so.2.1 b fun z=>by rw [(hl.mem z).1] at q;cases q];exact hkb b o q
 generalize hT:({ cls:=.type "traceback",dict:=none,data:=.fields ([head,.ref L,.none,rawInt L,.none]++(if pl.isEmpty then List.replicate 6 Value.none else pl)).toArray }:Obj)=oT;have e2:(g.push oT).get? e=some oe:=my _ e1;have nT:g.objs.size≠e:=uV (mo e1);have t2:(g.push oT).get? g.objs.size=some oT:=nG g (by rw [<-hT];rfl);refine CY e2 hd hsz (h _ ?_ ?_)
 ·have d3:=AD hd (·.setIfInBounds 1 (Value.ref g.objs.size));have e3:=zC (Obj.mapFields (·.setIfInBounds 1 (Value.ref g.objs.size))) e2 (Bg d3);have t3:((g.push oT).update e (Obj.mapFields (·.setIfInBounds 1 (Value.ref g.objs.size)))).get? g.objs.size=some oT:=by rw [rK _ _ nT.symm];exact t2
  have old:∀b o,b≠e->g.get? b=some o->((g.push oT).update e (Obj.mapFields (·.setIfInBounds 1 (Value.ref g.objs.size)))).get? b=some o:=fun b o nb q=>by
   rw [rK _ _ nb.symm];exact my _ q
  refine ⟨fun b o q=>old b o (fun z=>by rw [z,M0] at q;cases q) (k1 b o q),M0,hl.of_keeps fun b o q nf=>?_,?_⟩
  ·obtain ⟨sl,z⟩:=so.2.2 b o q;refine ⟨_,old b _ (fun y=>?_) z,rfl⟩;rw [y,he] at q;cases q;exact nf vs hd
  ·refine ⟨_,_,g.objs.size,oT,_,e3,Obj.cls_mapFields _ _,Tg _ _,d3,?_,by simp [hsz],k1.fresh,nT,t3,by rw [<-hT],?_⟩
   ·exact ⟨by rw [Ip (by left)];exact h0.1,by rw [Ip (by left)];exact h0.2⟩
   ·rcases g8 with rfl|⟨_,_,_,_,_,_,_,rfl⟩ <;>simp
 ·intro b o q nf;obtain ⟨sl,z⟩:=so.2.2 b o q;refine ⟨sl,?_⟩;show ((g.push oT).update e (Obj.mapFields (·.setIfInBounds 1 (Value.ref g.objs.size)))).get? b=_;rw [rK _ _ fun y=>by rw [<-y,he] at q;cases q;exact nf vs hd];exact my _ z
def PP(p7:A.frames=some (env ::lJ))(hl:s.heap.FunFrames lL (env ::lJ))(hf:env.frame=some L)(he:s.heap.get? e=some oe)(hkb:lL.StaysIn s.heap)(M0:lL.get? e=none)(hd:oe.data=.fields vs)
  (h1:vs[1]? =some .none) (h0:vs[0]? =some a0/\vs[2]? =some .none) (h:∀h',oU lL (env ::lJ) e oe.cls a0 oe.dict (rawInt L) h'->s.heap.UpToSlots h'->Q () { s with heap:=h' }):wpAny M A (noteFrame (.ref e) env) Q E s:=by
 unfold noteFrame;simp only [hf];refine lT (vN he hd h1 ?_);rw [lY (by left)];exact Gk p7 hl hf he hkb M0 hd (Ai.mp h1).1 h0 h
def Kf(p7:A.frames=some (env ::lJ))(hf:env.frame=some L)(x:oU lL (env ::lJ) e cls a0 dx .none s.heap)
  (h:∀h',oU lL (env ::lJ) e cls a0 dx (rawInt L) h'->s.heap.UpToSlots h'->Q () { s with heap:=h' }):wpAny M A (noteFrame (.ref e) env) Q E s:=by
 obtain ⟨hkb,M0,hl,oe,vs,T,oT,ts,he,hc,hx,hd,h0,h1,nT,Te,hT,dT,h3⟩:=x;subst hc hx;unfold noteFrame;simp only [hf];refine lT (vN he hd h1 ?_);rw [lZ (by simp)];refine lT (vN hT dT h3 ?_);rw [lY (by simp [rawInt])];refine lT (CY hT dT (Ai.mp h3).1 ?_);have oth:∀b,b≠T->(s.heap.update T (Obj.mapFields (·.setIfInBounds 3 Value.none))).get? b=s.heap.get? b:=fun b nb=>rK _ _ nb.symm
 have nr:∀b o,s.heap.get? b=some o->(∀vs,o.data ≠ .fields vs)->b≠T:=fun b o q nf z=>by
  rw [z,hT] at q;cases q;exact nf ts dT
 refine Gk p7 (hl.of_keeps fun b o q nf=>⟨o,by rw [oth b (nr b o q nf)];exact q,rfl⟩) hf (by rw [oth e Te.symm];exact he) (fun b o q=>?_) M0 hd (Ai.mp h1).1 h0 fun h' f' u'=>h h' f' fun b o q nf=>u' b o (by
  show (s.heap.update T _).get? b=_;rw [oth b (nr b o q nf)];exact q) nf
 show (s.heap.update T _).get? b=_;rw [oth b fun z=>by rw [z,nT] at q;cases q];exact hkb b o q
def Bb(x:oU lL l e cls a0 dx fl s.heap)(h:∀h',oU lL l e cls a0 dx .none h'->s.heap.UpToSlots h'->Q () { s with heap:=h' }):wpAny M A (setFlight (.ref e) none) Q E s:=by
 obtain ⟨hkb,M0,hl,oe,vs,T,oT,ts,he,hc,hx,hd,h0,h1,nT,Te,hT,dT,h3⟩:=x;have h3':3<ts.size:=(Ai.mp h3).1;have oth:∀b,b≠T->(s.heap.update T (Obj.mapFields (·.setIfInBounds 3 ((none:kW kS).elim Value.none fun f=>rawInt f)))).get? b=s.heap.get? b:=fun b nb=>rK _ _ nb.symm
 have nr:∀b o,s.heap.get? b=some o->(∀vs,o.data ≠ .fields vs)->b≠T:=fun b o q nf z=>by
  rw [z,hT] at q;cases q;exact nf ts dT
 unfold setFlight;refine lT (vN he hd h1 ?_);rw [lZ (by simp)];refine CY hT dT h3' (h _ ⟨fun b o q=>?_,M0,hl.of_keeps fun b o q nf=>⟨o,?_,rfl⟩,oe,vs,T,_,_,?_,hc,hx,hd,h0,h1,nT,Te,zC _ hT (Bg (AD dT _)),AD dT _,by simp [h3']⟩ fun b o q nf=>⟨o.slots,?_⟩)
 ·rw [oth b fun z=>by rw [z,nT] at q;cases q];exact hkb b o q
 ·rw [oth b (nr b o q nf)];exact q
 ·rw [oth e Te.symm];exact he
 ·show (s.heap.update T _).get? b=_;rw [oth b (nr b o q nf)];exact q
def oU.out(x:oU lL (env ::lJ) e cls a0 dx fl s.heap):oU lL lJ e cls a0 dx fl s.heap:=by
 obtain ⟨a,b,⟨_,_,c⟩,d⟩:=x;exact ⟨a,b,c,d⟩
def Mx(p7:A.frames=some (env ::lJ))(hf:env.frame=some L)(x:oU lL (env ::lJ) e cls a0 dx .none s.heap)(h:∀h',oU lL lJ e cls a0 dx .none h'->s.heap.UpToSlots h'->Q () { s with heap:=h' }) :
  wpAny M A (leaving env (.ref e)) Q E s:=by
 unfold leaving;refine lT (Kf p7 hf x fun h1 x1 u1=>Bb (s:={ s with heap:=h1 }) x1 fun h2 x2 u2=>h h2 ?_ (u1.trans u2));exact oU.out (s:={ s with heap:=h2 }) x2
def LO(p7:A.frames=some (env ::lJ))(hl:s.heap.FunFrames lL (env ::lJ))(hf:env.frame=some L)(he:s.heap.get? e=some oe)(hkb:lL.StaysIn s.heap)(M0:lL.get? e=none)(hd:oe.data=.fields vs)
  (h1:vs[1]? =some .none) (h0:vs[0]? =some a0/\vs[2]? =some .none) (h:∀h',oU lL lJ e oe.cls a0 oe.dict .none h'->s.heap.UpToSlots h'->Q () { s with heap:=h' }):wpAny M A (leaving env (.ref e)) Q E s:=by
 unfold leaving;refine lT (PP p7 hl hf he hkb M0 hd h1 h0 fun h1 x1 u1=>Bb (s:={ s with heap:=h1 }) x1 fun h2 x2 u2=>h h2 ?_ (u1.trans u2));exact oU.out (s:={ s with heap:=h2 }) x2
end
end L2
end
section
namespace L2
open PySem PySem.Spec PyProof.Rows
def AM(K:kX)(mg:kR->kW kT)(x:kR)(C:kS)(bm:kQ kT)(newId:String):Prop:=∀h:kZ,K.In h->OwnCls x C bm newId mg h
def rQ{K:kX}{mg:kR->kW kT}{x:kR}{C:kS}{bmB:kQ kT}{newId:String}(m:mg x=some (.ref C))(q:PySem.W.excIn K C bmB newId=true):AM K mg x C bmB newId:=by
 intro h X;refine ⟨m,?_⟩;unfold PySem.W.excIn at q;split at q
 case h_2=>cases q
 case h_1 dd cd sl ho =>
  split at q
  case h_2=>cases q
  case h_1 C' tl k0 k1 k2 k3 n k5 hm hs =>
   rw [pD,pD,pD,pD,pD] at q;obtain ⟨⟨⟨⟨⟨q1,q2⟩,q3⟩,q4⟩,q5⟩,q6⟩:=q;have e1:C'=C:=qo.mp q1;have e2:n=newId:=qo.mp q2;have e6:nsIn K cd.ns "__init__" =some none:=qo.mp q6;have e3:cd.hasDel=false:=by simpa using q3
   subst e1 e2;have Q9:sl=#[k0,k1,k2,k3,some (.builtin n),k5]:=Array.toList_inj.mp hs;obtain ⟨nm,bs,mro,ns,qn,hdct,sn,sub,ab,col,oR⟩:=cd;dsimp only at hm e3 q5 e6;subst hm e3 Q9;exact ⟨tl,ns,nm,qn,bs,hdct,sn,sub,ab,col,dd,k0,k1,k2,k3,k5,_,X _ _ ho,.of_isNs (PySem.W.isNs_of_in X q5),PySem.W.nsMap_none_of_in X q5 e6,PySem.W.tail_of_in X q4⟩
def Ru(lJ:kQ Env)(cls:kT)(dx:kW kS)(H':Hp)(g:kZ)(ea:kS)(h:kZ):Prop :=
 ∃a0 B,oU B lJ ea cls a0 dx .none h/\∀b o,h.get? b=some o->((∃o',g.get? b=some o')\/H' b≠none)->b∉mJ lJ->B.get? b=some o
def mK(P:lq)(w:lh):ue:=fun lJ H s E e s'=>∃ea cls dx H',e=.ref ea/\s'.os=s.os/\AllBare s'.gens/\Un (mJ lJ) [] H H' s.heap s'.heap/\mT P w H' s'.heap/\Ru lJ cls dx H' s.heap ea s'.heap/\E cls dx H'
def Z5.there(x:Z5 P w H h a o):∃ob,h.get? a=some ob:=by
 cases o with
 | lst xs=>obtain ⟨_,_,_,_,e⟩:=x;exact ⟨_,e⟩
 | tup xs=>obtain ⟨_,_,_,_,e,_⟩:=x;exact ⟨_,e⟩
 | dK kvs=>obtain ⟨_,_,_,_,o,_,_,e,_⟩:=x;exact ⟨_,e⟩
 | dT kvs=>obtain ⟨_,_,_,_,o,_,_,e,_⟩:=x;exact ⟨_,e⟩
 | set S n=>obtain ⟨o,_,_,_,e,_⟩:=x;exact ⟨_,e⟩
 | ins C dx fs=>obtain ⟨_,_,_,e,_⟩:=x;exact ⟨_,e⟩
 | own y=>obtain ⟨_,e⟩:=x;exact ⟨_,e⟩
 | xd fs=>obtain ⟨_,⟨_,_,_,e,_⟩,_⟩:=x;exact ⟨_,e⟩
 | rng lo hi=>obtain ⟨_,_,_,e⟩:=x;exact ⟨_,e⟩
 | frz ob u=>obtain ⟨e,_⟩:=x;exact ⟨_,e⟩
 | tbl ps =>
  obtain ⟨_,e,_⟩:=x;exact ⟨_,e⟩
 | met f y=>exact ⟨_,show h.get? a=some _ from x⟩
 | ext φ=>obtain ⟨_,⟨_,e⟩,_⟩:=x;exact ⟨_,e⟩
section
variable {P:lq} {w:lh} {K:kX} {mg:kR->kW kT} {lL:kZ} {N:kQ kR} {qual:kR} {scope:Scope} {f:kS} {cd:kT} {A:lu} {lJ:kQ Env} {ly:kU} {lB:Hp} {E:XK}
def BS(I:lQ (nK CX P w K mg lL N qual scope f cd A lJ ly lB E) a9 σ H' s1)
  (fl:oU B lJ ea cls a0 dx .none h') (up:s1.heap.UpToSlots h') (pB:∀b o,s1.heap.get? b=some o->((∃o',ly.heap.get? b=some o')\/H' b≠none)->b∉mJ (envOfC qual scope ly.heap.objs.size f cd ::lJ)->B.get? b=some o)
  (hE:E cls dx H'):mK P w lJ lB ly E (.ref ea) { s1 with heap:=h' }:=by
 have stay:∀b o,s1.heap.get? b=some o->((∃o',ly.heap.get? b=some o')\/H' b≠none)->b∉mJ (envOfC qual scope ly.heap.objs.size f cd ::lJ)->h'.get? b=some o:=fun b o h1 h2 h3=>fl.1 b o (pB b o h1 h2 h3)
 have frL:mJ (envOfC qual scope ly.heap.objs.size f cd ::lJ)=ly.heap.objs.size ::mJ lJ:=rfl;have C9:∀b,((∃o',ly.heap.get? b=some o')\/H' b≠none)->b∉mJ lJ->b∉mJ (envOfC qual scope ly.heap.objs.size f cd ::lJ):=fun b h1 h2 h3=>by
  rw [frL] at h3;rcases mI.mp h3 with e|e
  ·rcases h1 with h1|h1
   ·obtain ⟨o',h1⟩:=h1;rw [e] at h1;exact absurd (mo h1) (pU _)
   ·have:H' ly.heap.objs.size=none:=I.free;rw [e] at h1;exact h1 this
  ·exact h2 e
 have sw:∀b,H' b≠none->b∉mJ lJ:=fun b h1 h2=>h1 (I.stkFree b (by show b∈mJ (envOfC qual scope ly.heap.objs.size f cd ::lJ);rw [frL];exact nJ _ h2))
 have fr1:∀b,b∈mJ lJ->∃o,s1.heap.get? b=some o/\∀vs,o.data ≠ .fields vs:=fun b hb=>by
  have h1:s1.heap.FunFrames lL (envOfC qual scope ly.heap.objs.size f cd ::lJ):=I.stack;exact (h1.mem (xl.mpr (by
   obtain ⟨env,he,hf⟩:=xl.mp hb;exact ⟨env,nJ _ he,hf⟩))).2
 have E7:Un (mJ lJ) [] lB H' ly.heap s1.heap:=I.lL;refine ⟨ea,cls,dx,H',rfl,I.os,I.bare,⟨fun b o h1 h2 h3 h4=>?_,fun b o h1 h2 h3 h4=>?_,E7.free,fun b o h1 h4=>?_,E7.tups,E7.frzs,E7.tbls⟩,fun a o ha=>?_,⟨a0,B,fl,fun b o h1 h2 h3=>?_⟩,hE⟩
 ·exact stay b o (E7.keep b o h1 h2 h3 h4) (.inl ⟨_,h1⟩) (C9 b (.inl ⟨_,h1⟩) h3)
 ·obtain ⟨sl,h5⟩:=E7.slot b o h1 h2 h3 h4;obtain ⟨o1,h6,h7⟩:=fr1 b h3;rw [h5] at h6;cases h6;obtain ⟨O1,h8⟩:=up b _ h5 h7;exact ⟨O1,h8⟩
 ·obtain ⟨o1,h5⟩:=E7.there b o h1 h4
  by_cases hb:b∈mJ lJ
  ·obtain ⟨o2,h6,h7⟩:=fr1 b hb;obtain ⟨O1,h8⟩:=up b _ h6 h7;exact ⟨_,h8⟩
  ·exact ⟨o1,stay b o1 h5 (.inl ⟨_,h1⟩) (C9 b (.inl ⟨_,h1⟩) hb)⟩
 ·refine (I.hok a o ha).stay (fun b u hb h1=>?_) (fun _ z=>z) (fun _ _ z=>z);have ht:H' b≠none:=by
   rcases hb with e|e
   ·rw [e,ha];exact vv _
   ·rw [e];exact vv _
  exact stay b u h1 (.inr ht) (C9 b (.inr ht) (sw b ht))
 ·have hs:∃o1,s1.heap.get? b=some o1:=by
   rcases h2 with ⟨o',h2⟩|h2
   ·exact E7.there b o' h2 (by simp)
   ·cases hq:H' b with
    | none=>exact absurd hq h2
    | some u=>exact (I.hok b u hq).there
  obtain ⟨o1,h4⟩:=hs;have h5:=pB b o1 h4 h2 (C9 b h2 h3);have h6:=fl.1 b o1 h5;have h7:h'.get? b=some o:=h1;rw [h6] at h7;cases h7;exact h5
def uI:qR (mK P w) (nK (mK P w) P w K mg lL N qual scope f cd A lJ ly lB E) E:=by
 intro a9 σ H s e s' I h;obtain ⟨ea,cls,dx,H',rfl,os,bare,un,hok,⟨a0,B,fl,pB⟩,hE⟩:=h;have I':=I.call' os un hok bare (fun b z=>absurd z (by simp));show wpAny _ _ (leaving _ (.ref ea)) _ _ s';refine Mx I'.ok.frames rfl fl fun h' fl' up=>?_
 exact BS I' fl' up (fun b o h1 h2 h3=>pB b o h1 (h2.imp_left fun ⟨o',z⟩=>I.lL.there b o' z (by show b∉([]:kQ kS);simp)) h3) hE
def XH(C:kS)(E:XK)(t:TA):TS:=fun _ σ H=>t σ H fun vs H1=>vs.length<=sizeLine/\E (.ref C) none H1
def W1{x:kR}{C:kS}{bm:kQ kT}{Bn newId D6:String}{np d6 pos:Pos}{lD:li}{Zz:kQ li}{t:TA}(OI:AM K mg x C bm newId)(FB:ExcBaseFacts Bn newId D6 bm)
  (hg:Gl (nK (mK P w) P w K mg lL N qual scope f cd A lJ ly lB E) x) (ha:PA (nK (mK P w) P w K mg lL N qual scope f cd A lJ ly lB E) (lD ::Zz) t)
  (he:starEach (lD ::Zz) (envOfC qual scope ly.heap.objs.size f cd)=(false,eval lD (envOfC qual scope ly.heap.objs.size f cd)) ::starEach Zz (envOfC qual scope ly.heap.objs.size f cd):=by rfl)
  (g8:(backTo d6 (starEach Zz (envOfC qual scope ly.heap.objs.size f cd))).any (·.1)=false:=by rfl) (hd:(x ==("__debug__" :kR))=false:=by left) :
  PS (nK (mK P w) P w K mg lL N qual scope f cd A lJ ly lB E) (.Raise (some (.Call (.Name x np) (lD ::Zz) [] d6)) none pos) (XH C E t):=by
 intro a9 s σ H D I h;have O:OwnCls x C bm newId mg lL:=OI lL I.ok.mod.kin;obtain ⟨tl,N',nm,q,bs,hdct,sn,sub,ab,col,dd,k0,k1,k2,k3,k5,mN,hC,hN,hni,T⟩:=O.obj;refine wpAny_Raise_call_subT (C:=C) (nm:=nm) (q:=q) (N:=N') (bs:=bs) (bm:=tl) (hdct:=hdct) (sn:=sn) (sub:=sub) (ab:=ab) (col:=col) (dd:=dd) (k0:=k0) (k1:=k1) (k2:=k2) (k3:=k3) (k5:=k5)
  FB (mN:=mN) (T.hasType FB.hasBase) (I.ok.hd rfl) (by show (backTo d6 (starEach (lD ::Zz) (envOfC qual scope ly.heap.objs.size f cd))).any (·.1)=false;rw [he];show (false || (backTo d6 (starEach Zz (envOfC qual scope ly.heap.objs.size f cd))).any (·.1))=false;rw [g8];rfl) hni (uE I hg O.bound ⟨rfl,?_⟩ hd)
 have hA:=ha d6 a9 s σ H _ I h;have T9:starEach (lD ::Zz) (nK (mK P w) P w K mg lL N qual scope f cd A lJ ly lB E).env=(false,eval lD (envOfC qual scope ly.heap.objs.size f cd)) ::starEach Zz (envOfC qual scope ly.heap.objs.size f cd):=he;rw [T9] at hA ⊢;refine yr (ma hA fun us s2 h9=>?_);obtain ⟨vs,H2,I2,r2,hl,hE⟩:=h9;have keep:∀b o,lL.get? b=some o->s2.heap.get? b=some o:=fun b o e=>(I2.bs b o e).1
 refine ⟨rfl,by rw [<-r2.length];exact hl,keep _ _ hC,hN.keeps keep,T.keeps keep,fun h' e hm=>?_⟩;show wpAny _ _ (leaving _ (.ref e)) _ _ _;obtain ⟨t,he3,_,_⟩:=hm.there;have N1:∀env∈(envOfC qual scope ly.heap.objs.size f cd ::lJ),∀b,env.frame=some b->b∈mJ (envOfC qual scope ly.heap.objs.size f cd ::lJ):=fun env he b hb=>xl.mpr ⟨env,he,hb⟩
 refine LO (lL:=PySem.W.hideAll s2.heap (mJ (envOfC qual scope ly.heap.objs.size f cd ::lJ))) I2.ok.frames ((LN I2.stack N1).of_keeps fun b o q _=>⟨o,hm.keeps b o q,rfl⟩) rfl he3 (fun b o q=>hm.keeps b o (zq _ q)) ?_ rfl rfl ⟨rfl,rfl⟩ fun h'' fl up=>?_
 ·cases q:(PySem.W.hideAll s2.heap (mJ (envOfC qual scope ly.heap.objs.size f cd ::lJ))).get? e with
  | none=>rfl
  | some o=>exact absurd (zq _ q) (by rw [hm.new];exact fun z=>nomatch z)
 ·have R:=BS I2 fl ((Heap.UpToSlots.of_keeps hm.keeps).trans up) (fun b o h1 _ h3=>Bs _ h1 h3) hE;exact R
end
def TZ{P:lq}{w:lh}{fs:kQ kS}{H H':Hp}{g h h' B:kZ}(un:Un fs [] H H' g h)(hok:mT P w H' h)(fr:∀b∈fs,H' b=none/\∃o,h.get? b=some o/\∀vs,o.data ≠ .fields vs)(st:B.StaysIn h')(up:h.UpToSlots h')
  (pB:∀b o,h.get? b=some o->((∃o',g.get? b=some o')\/H' b≠none)->b∉fs->B.get? b=some o):Un fs [] H H' g h'/\mT P w H' h':=by
 have stay:∀b o,h.get? b=some o->((∃o',g.get? b=some o')\/H' b≠none)->b∉fs->h'.get? b=some o:=fun b o h1 h2 h3=>st b o (pB b o h1 h2 h3)
 refine ⟨⟨fun b o h1 h2 h3 h4=>stay b o (un.keep b o h1 h2 h3 h4) (.inl ⟨_,h1⟩) h3,fun b o h1 h2 h3 h4=>?_,un.free,fun b o h1 h4=>?_,un.tups,un.frzs,un.tbls⟩,fun a o ha=>?_⟩
 ·obtain ⟨sl,h5⟩:=un.slot b o h1 h2 h3 h4;obtain ⟨_,o1,h6,h7⟩:=fr b h3;rw [h5] at h6;cases h6;obtain ⟨O1,h8⟩:=up b _ h5 h7;exact ⟨O1,h8⟩
 ·obtain ⟨o1,h5⟩:=un.there b o h1 h4
  by_cases hb:b∈fs
  ·obtain ⟨_,o2,h6,h7⟩:=fr b hb;obtain ⟨O1,h8⟩:=up b _ h6 h7;exact ⟨_,h8⟩
  ·exact ⟨o1,stay b o1 h5 (.inl ⟨_,h1⟩) hb⟩
 ·refine (hok a o ha).stay (fun b u hb h1=>?_) (fun _ z=>z) (fun _ _ z=>z);have ht:H' b≠none:=by
   rcases hb with e|e
   ·rw [e,ha];exact vv _
   ·rw [e];exact vv _
  exact stay b u h1 (.inr ht) fun z=>ht (fr b z).1
abbrev Cx.tried(X:Cx)(pn:kQ (kS×Obj))(E:kT->kU->Prop):Cx:={ X with pn:=pn,xe:=E }
abbrev Cx.caught(X:Cx)(ea:kS):Cx:={ X with A:=X.A.mark (some (.ref ea)),calm:=false,xe:=fun _ _=>False }
section
variable {X:Cx} {E:kT->kU->Prop}
def lQ.tryIn(I:lQ X a9 σ H s)(E:kT->kU->Prop):lQ (X.tried (X.pn++a9) E) [] σ H s :=
 ⟨⟨I.ok.mod,I.ok.kind,I.ok.glob,I.ok.blt,I.ok.above,I.ok.inj,I.ok.has,I.ok.cab,I.ok.hd,I.ok.frames,I.ok.stk,I.ok.exf,I.ok.bs,I.ok.bsz,I.ok.noex,I.ok.exfs,I.ok.funs,I.ok.frf⟩,I.os,I.bare,I.lL,I.loc,I.cell,I.free,I.freeC,fun p hp=>I.pin p (by simpa using hp),I.hok,I.len⟩
def lQ.tryOut(I:lQ (X.tried (X.pn++a9) E) p8 σ H s):lQ X a9 σ H s :=
 ⟨⟨I.ok.mod,I.ok.kind,I.ok.glob,I.ok.blt,I.ok.above,I.ok.inj,I.ok.has,I.ok.cab,I.ok.hd,I.ok.frames,I.ok.stk,I.ok.exf,I.ok.bs,I.ok.bsz,I.ok.noex,I.ok.exfs,I.ok.funs,I.ok.frf⟩,I.os,I.bare,I.lL,I.loc,I.cell,I.free,I.freeC,fun p hp=>I.pin p (xf _ hp),I.hok,I.len⟩
def lQ.catch(I:lQ X a9 σ H s)(ea:kS):lQ (X.caught ea) a9 σ H s :=
 ⟨⟨I.ok.mod,I.ok.kind,I.ok.glob,I.ok.blt,I.ok.above,I.ok.inj,I.ok.has,I.ok.cab,fun z=>absurd z mX,I.ok.frames,I.ok.stk,I.ok.exf,I.ok.bs,I.ok.bsz,I.ok.noex,I.ok.exfs,I.ok.funs,I.ok.frf⟩,I.os,I.bare,I.lL,I.loc,I.cell,I.free,I.freeC,I.pin,I.hok,I.len⟩
def lQ.uncatch(hX:X.A.handled=none)(I:lQ (X.caught ea) a9 σ H s):lQ X a9 σ H s :=
 ⟨⟨I.ok.mod,I.ok.kind,I.ok.glob,I.ok.blt,I.ok.above,I.ok.inj,I.ok.has,I.ok.cab,fun _=>hX,I.ok.frames,I.ok.stk,I.ok.exf,I.ok.bs,I.ok.bsz,I.ok.noex,I.ok.exfs,I.ok.funs,I.ok.frf⟩,I.os,I.bare,I.lL,I.loc,I.cell,I.free,I.freeC,I.pin,I.hok,I.len⟩
end
section
variable {P:lq} {w:lh} {K:kX} {mg:kR->kW kT} {lL:kZ}
def pQ.okX{x qual:kR}{st:kY}{f:kS}{fd:lv}{N ps:kQ kR}{k:Nat}{sp:Sp}(F:pQ K x qual st f fd)(S:Zw N ps (Zj st))
  (m6:∀(c6:kT) (A:lu) (lJ:kQ Env) (s:kU) (H:Hp) (vs:kQ V) (Q:VK) (E:XK),Y5 k (A.deeper (envOfC qual (Zj st) s.heap.objs.size f c6))->sp vs H Q E ->
   let X:=(nK (mK P w) P w K mg lL N qual (Zj st) f c6 A lJ s H E);let D:oV:={ nx:=fun _ H'=>Q .non H',rt:=Q };WSs X (Y4 st) D (start N vs) H) (len:∀vs H Q E,sp vs H Q E->vs.length=ps.length:=by rintro _ _ _ _ ⟨⟩;subst_vars;rfl):Xe P w K mg lL (mK P w) (k+1) f fd ps sp:=by
 obtain ⟨oc,od,kV,w5,pm,an,c6,ct,E4,rfl,lk,B3⟩:=F.ex;exact AV lk B3 S len fun A lJ s H vs Q E hr M6=>⟨_,Zn,m6 c6 A lJ s H vs Q E hr M6⟩
end
theorem Fb:∀{ss:kQ kR} {us:kQ kT},Yc (ss.map V.str) us->StrsAre us ss
 | [],_,r=>by rw [sQ] at r;cases r;exact .nil
 | x ::ss,_,r=>by
  rw [mH] at r;cases r with
  | cons r t =>
   obtain ⟨tk,rfl⟩:=r;exact .cons _ _ (Fb t)
theorem DC:∀{ss:kQ kR} {us:kQ kT},StrsAre us ss->Yc (ss.map V.str) us
 | [],_,r=>by cases r;exact .nil
 | x ::ss,_,r=>by
  cases r with
  | cons _ _ t=>exact .cons ⟨_,rfl⟩ (DC t)
def Kn(K:kX):kQ V->Hp->VK->Prop:=fun xs H Q=>∃(p:kS) (ss:kQ kR),xs=[.ref p]/\SqL K H p (ss.map V.str)/\ss.length<64/\∀M7:kQ kR,M7.Perm ss->sortedS M7=true->pb H (.lst (M7.map V.str)) Q
def Uk:Xc X (.builtin "sorted") (Kn X.K):=by
 intro a9 s σ H xs us Q I r h;obtain ⟨p,ss,rfl,hq,hl,q⟩:=h;obtain ⟨u,rfl,rx⟩:=W0 r;cases rx;obtain ⟨b9,rv,pl,hz⟩:=I.list hq;have d7:b9.length=ss.length:=by have:=rv.length;rw [lV] at this;exact this.symm
 refine sorted_strs pl.isList (Fb rv) (by lia) fun out M7 a1 a2 a3=>?_
 obtain ⟨e,he⟩:=sortedAll_at s.heap b9 out;have hp:=a2.length_eq;have hn:H (s.heap.objs.size+1)=none:=I.hok.fresh (rR _);exact ⟨.ref (s.heap.objs.size+1),_,I.laid (a:=s.heap.objs.size+1) (o:=.lst (M7.map V.str)) (t':=s.toks) (fun b o h=>sortedAll_old h) (rR _) (show Z5 X.prog X.w _ _ _ (.lst _) from ⟨by rw [lV];exact sz (by lia),out.toList,e,DC a1,by rw [he]⟩),rfl,(q M7 a2 a3).at _ hn⟩
def lQ.laidAt(I:lQ X a9 σ H s)(k:∀b u,s.heap.get? b=some u->h'.get? b=some u)(hn:s.heap.get? a=none)(new:Z5 X.prog X.w (upd H a o) h' a o) :
  H a=none/\lQ X a9 σ (upd H a o) { s with heap:=h',toks:=t' }:=by
 have hH:H a=none:=by
  cases e:H a with
  | none=>rfl
  | some u =>
   obtain ⟨ob,z⟩:=(I.hok a u e).there;rw [hn] at z;cases z
 have ne:∀b u,s.heap.get? b=some u->b≠a:=fun b u e z=>by rw [z,hn] at e;cases e
 refine ⟨hH,I.call' (s':={ s with heap:=h',toks:=t' }) rfl ⟨fun b u e _ _ _=>k b u e,fun b u e _ _ _=>⟨u.slots,k b u e⟩,fun b u e n _=>by rw [Zd (ne b u e)];exact n,fun b u e _=>⟨u,k b u e⟩,fun b xs e=>?_,fun b q u e=>?_,fun b ps e=>⟨#[],?_⟩⟩ (fun b u e=>?_) I.bare (fun b z=>absurd z uX)⟩
 ·rw [Zd (Zg e hH)];exact e
 ·rw [Zd (Zg e hH)];exact e
 ·rw [Zd (Zg e hH)];simpa using e
 ·by_cases z:b=a
  ·rw [z,Zc] at e;cases e;rw [z];exact new
  ·rw [Zd z] at e;exact (I.hok b u e).stay (fun c v _ h=>k c v h) (fun c h=>by rw [Zd (Zg h hH)];exact h) (fun c ys h=>by rw [Zd (Zg h hH)];exact h)
def ul:kQ V->Hp->VK->Prop:=fun xs H Q=>∃(p:kS) (kvs:kQ (md×V)) (ss:kQ kR),xs=[.ref p]/\Rd H p (.dK kvs)/\kvs.map (fun kv=>kV kv.1)=ss.map V.str/\ss.length<64/\∀M7:kQ kR,M7.Perm ss->sortedS M7=true->pb H (.lst (M7.map V.str)) Q
def wU(hc:X.calm=true):Xc X (.builtin "sorted") ul:=by
 intro a9 s σ H xs us Q I r h;obtain ⟨p,kvs,ss,rfl,hd,hk,hl,q⟩:=h;obtain ⟨u,rfl,rx⟩:=W0 r;cases rx;obtain ⟨hz,lo,va,kv,da⟩:=qe I.hok hd;obtain ⟨ep,A5⟩:=da.dictAt;have hlv:=KV.length kv;refine Ee kind_sorted plain_sorted entry_sorted (args_sorted1 _) ?_;unfold Builtin.«sorted»;refine lT (m:=checkCount "sorted" 1 1 _) (mi ?_);refine lT (PySem.W.kdu_collect (A:=X.A.in1) (PySem.W.kdl_dict (knd:=Zu X.prog X.w) (kvs:=va) (ep:=ep) lo) (I.ok.hd hc) A5 (by lia) fun h' tk P4 hkp A6=>?_);have hv:Yc (kvs.map fun kv=>kV kv.1) P4.toList:=Cz (P:=X.prog) (w:=X.w) kv (by rw [sM];exact A6.1) fun j v e=>A6.2 j v (by rw [<-zU];exact e)
 rw [hk] at hv;have hS:=Fb hv;have d7:P4.toList.length=ss.length:=by have:=hv.length;rw [lV] at this;exact this.symm
 refine lT (wpAny_newList ?_ (by rw [d7];exact sz (by lia)));have hoL:(h'.push (seqObj "list" P4.toList.toArray 0)).get? h'.objs.size=some (seqObj "list" P4.toList.toArray 0):=nG _ rfl;refine lT (pL (Aw slot_list_sort ⟨_,hoL,rfl⟩ entry_list_sort (list_sort_treeK strKind_oneLt hoL hS.keysOf (fun v₁ v₂ Zz e=>keyKind_strs (by rw [<-e];exact hS)) (by lia) fun u5 a1 a2=>⟨_,rfl,?_⟩) (args_list_sort _)));obtain ⟨M7,b1,b2,b3⟩:=sorted_out_str hS a1 a2;obtain ⟨e,he⟩:=sortedHeap_at (out:=(arrOf u5).map (·.2)) hoL;have hp:=b2.length_eq;have hnone:s.heap.get? h'.objs.size=none:=by
  cases z:s.heap.get? h'.objs.size with
  | none=>rfl
  | some o=>exact absurd (mo (hkp _ _ z)) (pU _)
 obtain ⟨hn,J⟩:=I.laidAt (h':=sortedHeap (h'.push (seqObj "list" P4.toList.toArray 0)) h'.objs.size P4.toList ((arrOf u5).map (·.2))) (t':=tk) (a:=h'.objs.size) (o:=.lst (M7.map V.str)) (fun b o hb=>by
  have O5:=hkp b o hb;rw [sortedHeap_old (mC (mo O5)) (oN (mo O5) (by rw [se];exact rR _))];exact my _ O5) hnone (show Z5 X.prog X.w _ _ _ (.lst _) from ⟨by rw [lV];exact sz (by lia),((arrOf u5).map (·.2)).toList,e,DC b1,by rw [he]⟩)
 exact mi ⟨_,rfl,.ref h'.objs.size,_,J,rfl,(q M7 b2 b3).at _ hn⟩
def Sh(tl:TE):TE:=fun σ H Q=>tl σ H fun x H1=>∃d kvs,x=.ref d/\Rd H1 d (.dK kvs)/\pb H1 (.lst (kvs.map fun kv=>kv.2)) Q
def ON{kvs:kQ (md×V)}{va:kQ (md×kT)}(h:KV kvs va):Yc (kvs.map fun kv=>kv.2) (va.map fun kv=>kv.2):=by
 induction h with
 | nil=>exact .nil
 | cons r t ih=>exact .cons r.2 ih
def Ol(hc:X.calm=true) (hgl:Gl X "list") (hml:X.mg "list" =none) (ho:PE X o to) (y9:attributeBase o "values" X.env (eval o X.env)=eval o X.env:=by rfl) (B9:(g7.endLine ==d6.line)=true:=by rfl) :
  PE X (.Call (.Name "list" p') [.Call (.Attribute o "values" g7) [] [] d6] [] A8) (Sh to):=by
 intro a9 s σ H Q I h;refine sX (vo I hgl hml wR ?_);refine xR ?_ rfl rfl;refine wZ ?_;refine wpAny_Call_method0_late y9 B9 (ma (ho a9 s σ H _ I h) fun v s1 ⟨y,H1,I1,r1,q1⟩=>?_);obtain ⟨d,kvs,rfl,hd,q⟩:=q1;cases r1;obtain ⟨hz,hs,vs,kv,dd⟩:=qe I1.hok hd;obtain ⟨ob,_,_,C1,O4,_⟩:=id dd;obtain ⟨ep,hD⟩:=DT dd C1;refine ⟨"dict", "dict.values",ye,JW,PySem.F.type_dict_values,dd.typeIs,fun a e=>?_,wc rfl (LF ?_)⟩
 ·cases e;exact ⟨ob,C1,O4.2.1⟩
 refine uT JW dd.typeIs PySem.F.entry_dict_values (PySem.F.args_dict_values_1 _) (meets_dict_values (Zu X.prog X.w) d hs) ⟨⟨vs,dd⟩,?_⟩;refine xG ?_;have I2:lQ X a9 σ H1 { s1 with heap:=s1.heap.push { cls:=.type "dict_values",data:=.fields #[.ref d] } }:=I1.kept (t':=s1.toks) fun b o e=>my _ e
 have hl:=KV.length kv;refine PySem.W.kdl_call (PySem.W.kdl_values (knd:=Zu X.prog X.w) (r:=s1.heap.objs.size) (d:=d) (kvs:=vs) (ep:=ep)) (I2.ok.hd hc) ⟨⟨_,nG _ rfl,rfl,rfl⟩,hD _ (my _ C1)⟩ (by lia) fun h' tk K2 c' hk v6 A6=>?_
 have e1:K2.toList=vs.map (·.2):=PySem.W.kdl_vals_eq K2.toList (by rw [sM];exact A6.1) fun j v e=>A6.2 j v (by rw [<-zU];exact e)
 have hv:Yc (kvs.map fun kv=>kv.2) K2.toList:=by rw [e1];exact ON kv
 exact ⟨.ref _,_,I2.laid (o:=.lst _) (t':=tk) hk (mn _) (show Z5 X.prog X.w _ h' _ (.lst _) from ⟨by rw [lV];exact hz,K2.toList,c',hv,by rw [v6]⟩),rfl,q.at _ (I2.hok.fresh (mn _))⟩
end L2
end
section
namespace L2
open PySem PySem.Spec PyProof.Rows Builtin Builtin.ObjectAttr
abbrev uO:kQ kT:=[.type "ValueError",.type "Exception",.type "BaseException",.type "object"]
def sH(C t:kS)(dx:kW kS):Obj:={ cls:=.ref C,dict:=dx,data:=.fields #[.ref t,.none,.none,.none,.bool false,.none] }
def oA(e C t:kS)(dx:kW kS):HO:=.ext fun h=>h.get? e=some (sH C t dx)
def pK(e C:kS)(dx:kW kS):HO:=.ext fun h=>∃o vs,h.get? e=some o/\o.cls=.ref C/\o.dict=dx/\o.data=.fields vs/\vs[2]? =some .none
section
def oA.ok(x:h.get? e=some (sH C t dx)):Z5 P w H h e (oA e C t dx):=⟨x,⟨_,x⟩,fun _ _ p k=>k _ p⟩
def pK.ok{o:Obj}{vs:Array kT}(x:h.get? e=some o)(a:o.cls=.ref C)(b:o.dict=dx)(c:o.data=.fields vs)(d:vs[2]? =some .none):Z5 P w H h e (pK e C dx):=⟨⟨o,vs,x,a,b,c,d⟩,⟨_,x⟩,fun _ _ ⟨o,vs,x,r⟩ k=>⟨o,vs,k _ x,r⟩⟩
def oA.at(k:mT P w H h)(q:H e=some (oA e C t dx)):h.get? e=some (sH C t dx):=(k e _ q).1
def pK.at(k:mT P w H h)(q:H e=some (pK e C dx)):∃o vs,h.get? e=some o/\o.cls=.ref C/\o.dict=dx/\o.data=.fields vs:=let ⟨o,vs,a,b,c,d,_⟩:=(k e _ q).1;⟨o,vs,a,b,c,d⟩
end
variable {X:Cx}
def lQ.track{a:kS}{o:HO}(I:lQ X a9 σ H s)(hn:H a=none)(h0:X.ly.heap.get? a=none)(hl:a≠X.env.locals)(hc:∀x c,X.env.cells.lookup x=some c->c≠a)(hp:∀p∈X.pn++a9,p.1≠a)
  (new:Z5 X.prog X.w (upd H a o) s.heap a o):lQ X a9 σ (upd H a o) s:=by
 refine ⟨I.ok,I.os,I.bare,⟨I.lL.keep,I.lL.slot,fun b u z n hx=>?_,I.lL.there,fun b xs z=>?_,fun b ob u z=>?_,fun b ps z=>?_⟩,I.loc,I.cell,?_,fun x c z=>?_,fun p z=>?_,fun b u z=>?_,I.len⟩
 ·rw [Zd fun y=>by rw [y,h0] at z;cases z];exact I.lL.free b u z n hx
 ·have q:=I.lL.tups b xs z;rw [Zd (Zg q hn)];exact q
 ·have q:=I.lL.frzs b ob u z;rw [Zd (Zg q hn)];exact q
 ·obtain ⟨more,q⟩:=I.lL.tbls b ps z;exact ⟨more,by rw [Zd (Zg q hn)];exact q⟩
 ·rw [Zd hl.symm];exact I.free
 ·rw [Zd (hc x c z)];exact I.freeC x c z
 ·obtain ⟨q1,q2,q3⟩:=I.pin p z;exact ⟨q1,by rw [Zd (hp p z)];exact q2,q3⟩
 ·by_cases y:b=a
  ·subst y;rw [Zc] at z;cases z;exact new
  ·rw [Zd y] at z;exact (I.hok b u z).stay (fun _ _ _ q=>q) (fun c q=>by rw [Zd (Zg q hn)];exact q) fun c xs q=>by rw [Zd (Zg q hn)];exact q
def wH(H:Hp)(a:kS):Hp:=fun b=>if b=a then none else H b
def zM{a b:kS}(h:b≠a):wH H a b=H b:=lY h
def DU{a:kS}:wH H a a=none:=lZ rfl
def lQ.drop{a:kS}{φ:kZ->Prop}(I:lQ X a9 σ H s)(ha:H a=some (.ext φ)):lQ X a9 σ (wH H a) s:=by
 have off:∀{b:kS} {u:HO},H b=some u->u ≠ .ext φ->wH H a b=some u:=fun {b u} q n=>by
  rw [zM fun y=>by rw [y,ha] at q;exact n (mW q).symm];exact q
 have non:∀{b:kS},H b=none->wH H a b=none:=fun {b} q=>by
  by_cases y:b=a
  ·rw [y];exact DU
  ·rw [zM y];exact q
 refine ⟨I.ok,I.os,I.bare,⟨I.lL.keep,I.lL.slot,fun b u z n hx=>non (I.lL.free b u z n hx),I.lL.there,fun b xs z=>off (I.lL.tups b xs z) (fun y=>nomatch y),fun b ob u z=>off (I.lL.frzs b ob u z) (fun y=>nomatch y),fun b ps z=>?_⟩,I.loc,I.cell,non I.free,fun x c z=>non (I.freeC x c z),fun p z=>?_,fun b u z=>?_,I.len⟩
 ·obtain ⟨more,q⟩:=I.lL.tbls b ps z;exact ⟨more,off q fun y=>nomatch y⟩
 ·obtain ⟨q1,q2,q3⟩:=I.pin p z;exact ⟨q1,non q2,q3⟩
 ·have y:b≠a:=fun y=>by rw [y,DU] at z;cases z
  rw [zM y] at z;exact (I.hok b u z).stay (fun _ _ _ q=>q) (fun c q=>off q fun y=>nomatch y) (fun c xs q=>off q fun y=>nomatch y) (fun c o q=>off q fun y=>nomatch y) (fun c o q=>off q fun y=>nomatch y)
def lQ.forget{h':kZ}{m':kR->kW kT}{t':Nat}(I:lQ X a9 σ H s)(hn:h'.Ns X.env.locals m')(hs:Heap.SameBut X.env.locals s.heap h'):lQ X a9 (List.replicate X.N.length none) H { s with heap:=h',toks:=t' }:=by
 have old:∀b o,X.ly.heap.get? b=some o->b≠X.env.locals:=fun b o q=>mC (oN (mo q) I.ok.above)
 refine ⟨I.ok,I.os,I.bare,⟨fun b o z n hb hx=>?_,fun b o z n hb hx=>?_,I.lL.free,fun b o z hx=>?_,I.lL.tups,I.lL.frzs,I.lL.tbls⟩,⟨m',hn,fun i x v _ z _=>?_⟩,fun x c z=>?_,I.free,I.freeC,fun p z=>?_,fun b u z=>?_,by simp⟩
 ·rw [hs.2 b (old b o z)];exact I.lL.keep b o z n hb hx
 ·obtain ⟨sl,q⟩:=I.lL.slot b o z n hb hx;exact ⟨sl,by rw [hs.2 b (old b o z)];exact q⟩
 ·obtain ⟨o',q⟩:=I.lL.there b o z hx;exact ⟨o',by rw [hs.2 b (old b o z)];exact q⟩
 ·rw [EQ] at z;split at z <;>cases z
 ·obtain ⟨v,q⟩:=I.cell x c z;exact ⟨v,q.sameBut hs (I.cne x c z)⟩
 ·obtain ⟨q1,q2,q3,q4⟩:=I.pin p z;exact ⟨by rw [hs.2 p.1 q3];exact q1,q2,q3,q4⟩
 ·refine (I.hok b u z).stay (fun c v y q=>?_) (fun _ q=>q) fun _ _ q=>q
  rw [hs.2 c ?_]
  ·exact q
  rintro rfl;have fr:H X.env.locals=none:=I.free;rcases y with rfl|y
  ·rw [fr] at z;cases z
  ·rw [fr] at y;cases y
def ui(K:kX)(C Y:kS):Prop:=∃nm q N bs sn sub ab col dd k0 k1 k2 k3 k5,K.lookup C=some (excClassObj nm q C N bs (.ref Y ::uO) true sn sub ab col dd k0 k1 k2 k3 k5 "ValueError.__new__")
def ui.cls{K:kX}{C Y:kS}(c:ui K C Y):∃cd,PySem.W.clsIn K C=some cd/\cd.mro=.ref C ::.ref Y ::uO/\cd.hasDict=true:=by
 obtain ⟨nm,q,N,bs,sn,sub,ab,col,dd,k0,k1,k2,k3,k5,h⟩:=c;refine ⟨{ name:=nm,bases:=bs,mro:=.ref C ::.ref Y ::uO,ns:=N,qualname:=q,hasDict:=true,slotNames:=sn,subclasses:=sub,abstract:=ab,collection:=col,hasDel:=false },?_,rfl,rfl⟩;unfold PySem.W.clsIn;rw [h]
def ui.hd{K:kX}{C Y:kS}(c:ui K C Y):PySem.W.hasDictIn K C=true:=by
 obtain ⟨cd,h,_,hd⟩:=c.cls;unfold PySem.W.hasDictIn;rw [h];exact hd
section
variable {E:kT->kU->Prop}
def Vn{y:V}{u:kT}{Q:Unit->kU->Prop}(I:lQ X a9 σ H s)(q:H e=some (oA e C t none))(c:ui X.K C Y) (sa:findIn X.K (.ref C) "__setattr__" =some (some (.builtin "object.__setattr__"))) (na:findIn X.K (.ref C) f=some none) (ry:Yd y u)
  (h:∀dx s',H dx=none->dx≠e->lQ X a9 σ (upd (upd H e (oA e C t (some dx))) dx (.xd [(f,y)])) s'->Q () s'):wpAny (model X.prog X.w) A (setAttr (.ref e) f u) Q E s:=by
 obtain ⟨cd,hc,hmro,hdct⟩:=c.cls;have he:=oA.at I.hok q;have J:PySem.W.InstAt s.heap e (sH C t none) C none:=⟨he,rfl,rfl,trivial⟩
 have SF:=PySem.F.store_object;have ty:PySem.W.Looks (model X.prog X.w) s.heap (typeOf (.ref e)) (.ref C):=J.type;have lm:PySem.W.Looks (model X.prog X.w) s.heap (mroOf (.ref C)) cd.mro:=(Do I.kIn hc).andThen .now;have sub:PySem.W.Looks (model X.prog X.w) s.heap (isInstance (.ref e) (.type "object")) true:=ty.andThen (JH I.kIn (by unfold PySem.W.mroIn;rw [hc,Option.bind_some,hmro];rfl));refine PySem.W.set_plain I.kIn J sa ?_;refine zt SF.slot.plain SF.entry (@Ll (model X.prog X.w) _ _ { s with toks:=s.toks+1 } "object.__setattr__" "object" "__setattr__" (.ref e) [.str f s.toks,u] [] _ SF.kind SF.split sub (SF.args (.ref e) (.str f s.toks) u) ?_);rw [PySem.W.osa_eq,refuse_eq];refine lT (lT (ty.here (s:={ s with toks:=s.toks+1 }) (lT (lm.here (s:={ s with toks:=s.toks+1 }) ?_))));rw [hmro,refuseLoop_ref,refuseLoop_ref,PySem.F.store_ValueError.passes];refine mi (lT (ty.here (s:={ s with toks:=s.toks+1 }) (lT ((yp I.kIn na).here (s:={ s with toks:=s.toks+1 }) (lT (mi ?_))))));have m9:e≠s.heap.objs.size:=mC (mo he);have h1:(s.heap.push PySem.W.emptyDict).get? e=some (sH C t none):=my _ he;have h2:((s.heap.push PySem.W.emptyDict).update e fun o=>{ o with dict:=some s.heap.objs.size }).get? e=some (sH C t (some s.heap.objs.size)):=zC _ h1 rfl;have d2:((s.heap.push PySem.W.emptyDict).update e fun o=>{ o with dict:=some s.heap.objs.size }).get? s.heap.objs.size=some PySem.W.emptyDict:=by
  rw [rK _ _ m9];exact nG s.heap rfl
 have n2:((s.heap.push PySem.W.emptyDict).update e fun o=>{ o with dict:=some s.heap.objs.size }).Ns s.heap.objs.size (fun _=>none):=⟨_,#[],_,d2,rfl,fun z hz=>absurd hz (by simp),fun _=>rfl⟩
 show wpAny _ _ (storeInOwnDict (.ref e) (.ref C) (.str f s.toks) f u _) _ _ _;unfold storeInOwnDict;refine lT (mi ?_);rw [lY (by simp)];refine lT ?_;show wpAny _ _ (instanceDict e true) _ _ _;unfold instanceDict;refine lT (Dp he ?_);dsimp only [sH];refine lT ((Do I.kIn hc).here (s:={ s with toks:=s.toks+1 }) ?_);rw [hdct,lY (by simp),lY (by simp [typeHasDict])];refine lT (wpAny_alloc' (lT (wpAny_update' h1 ?_)));refine mi ?_;show wpAny _ _ (storeInDict s.heap.objs.size (.str f s.toks) f u) _ _ _;unfold storeInDict newKeyGuard;refine lT (mi (lT (wpAny_nsSet1 (Heap.Ns1.of_empty n2) fun h3 hn3 hs3=>?_)));obtain ⟨oD,esD,epD,hoD,hdD,hcD⟩:=hn3.count (PySem.Within.cons f u PySem.Within.nil);refine lT (wpAny_lookBehind hoD (by rw [hdD];exact pastItsLine_dict (nj hcD (by rw [ou,wL,qT];lia))) ?_);refine mi ?_;have e3:h3.get? e=some (sH C t (some s.heap.objs.size)):=by rw [hs3.2 e m9];exact h2
 have k3:∀b o,b≠e->s.heap.get? b=some o->h3.get? b=some o:=fun b o nb z=>by
  rw [hs3.2 b (mC (mo z))];show ((s.heap.push PySem.W.emptyDict).update e fun o=>{ o with dict:=some s.heap.objs.size }).get? b=_;rw [rK _ _ nb.symm];exact my _ z
 have p7:H s.heap.objs.size=none:=I.fresh;refine h s.heap.objs.size _ p7 m9.symm ?_;have I3:=I.write (x:=e) (e:=e) (o:=oA e C t (some s.heap.objs.size)) (h':=h3) (t':=s.toks+1+1) (by rw [q];exact pI) (.inl rfl) k3 ⟨_,e3⟩ (oA.ok e3);refine I3.track ?_ ?_ ?_ (fun x c' z=>?_) (fun p z=>?_) ?_
 ·rw [Zd m9.symm];exact p7
 ·exact xv I.sz
 ·exact uV I.lt
 ·obtain ⟨v,o,z2,_⟩:=I.cell x c' z;exact mC (mo z2)
 ·exact mC (mo (I.pin p z).1)
 ·refine ⟨_,hn3,fun g=>?_⟩
  by_cases z:g=f
  ·subst z;simp only [List.lookup,yc,rW];exact ry
  ·have zb:(g ==f)=false:=qX.mpr z;simp only [List.lookup,zb,lY z];exact pI
def PX(K:kX)(ta tv:TE)(f:kR):TS:=fun D σ H=>tv σ H fun y H1=>ta σ H1 fun x H2=>∃e C Y t,x=.ref e/\H2 e=some (oA e C t none)/\ui K C Y/\findIn K (.ref C) "__setattr__" =some (some (.builtin "object.__setattr__"))/\findIn K (.ref C) f=some none /\
 ∀dx,H2 dx=none->dx≠e->D.nx σ (upd (upd H2 e (oA e C t (some dx))) dx (.xd [(f,y)]))
def Hy{o value:li}{pos A8:Pos}{ta tv:TE}(ha:PE X o ta)(hv:PE X value tv)(hs:swapsWith value (some (.Attribute o f A8)) pos.line X.env=pure false):PS X (.Assign [.Attribute o f A8] value pos) (PX X.K ta tv f):=by
 intro a9 s σ H D I h;refine Jn (ma (hv a9 s σ H _ I h) fun u s1 ⟨y,H1,I1,ry,q⟩=>ma (ha a9 s1 σ H1 _ I1 q) fun ov s2 h9=>?_) hs;obtain ⟨x,H2,I2,rx,e,C,Y,t,ex,he,c,sa,na,q2⟩:=h9;subst ex;obtain rfl:ov=Value.ref e:=rx;exact Vn I2 he c sa na ry fun dx s3 hn p0 I3=>⟨σ,_,I3,q2 dx hn p0⟩
structure XA(K:Frag)(C:Addr):Prop where
 ga:findIn K (.ref C) "__getattribute__" =some (some (.builtin "BaseException.__getattribute__"))
 gt:findIn K (.ref C) "__getattr__" =some none
 be:PySem.W.mroIn K C (.type "BaseException")=some true
end
section
variable {prog:lq} {w:lh} {A:lu} {E:kT->kU->Prop} {s:kU} {K:kX} {x C:kS} {ox:Obj} {od:kW Obj} {name:kR} {tk:Tok}
def Oh:builtinKind "BaseException.__getattribute__" =some .slot:=by trivial
def Vd:splitId "BaseException.__getattribute__" =some ("BaseException", "__getattribute__"):=by trivial
def Lg{v:kT}{R:Result->kU->Prop}(X:K.In s.heap)(I:PySem.W.InstAt s.heap x ox C od)(xa:XA K C){fd:Found}(hf:PySem.W.findObj K C od name=some fd)
  (h:match fd with | .value v=>R (.ok (.ret v)) s | .bind g a=>wpAny (model prog w) A.in1 (call g [a,.ref x,.ref C]) (fun v s'=>R (.ok (.ret v)) s') (fun e s'=>R (.error e) s') s | .missing=>False) :
  codeAny (model prog w) A (.call (.builtin "BaseException.__getattribute__") ⟨[.ref x,.str name tk],[]⟩) R s:=by
 have ty:=I.type (M:=model prog w);have sub:PySem.W.Looks (model prog w) s.heap (isInstance (.ref x) (.type "BaseException")) true:=ty.andThen (JH X xa.be);have fn:=PySem.W.looks_find (M:=model prog w) X I hf;refine zt GU.ga.plain PySem.F.entry_bexc_ga (@Ll (model prog w) _ _ s "BaseException.__getattribute__" "BaseException" "__getattribute__" (.ref x) [.str name tk] [] _ Oh Vd sub (PySem.F.args_bexc_ga _ _) ?_);refine lT (mi (lT (mi (lT (ty.here (lT (fn.here ?_)))))));cases fd with
 | value v=>exact mi h
 | bind g a =>
  show wpAny _ _ (holding [a] (call g [a,.ref x,.ref C]) >>=ret) _ _ _;exact lT (pL (oQ h (fun v s' z=>mi z) fun _ _ z=>z))
 | missing=>exact h.elim
def JA{fill expr:Bool}{Q:kT->kU->Prop}(X:K.In s.heap)(I:PySem.W.InstAt s.heap x ox C od)(xa:XA K C)
  (h:codeAny (model prog w) A (.call (.builtin "BaseException.__getattribute__") ⟨[.ref x,.str name tk],[]⟩) (fun r s'=>match r with | .ok (.ret v)=>wpAny (model prog w) A (handedOut v) Q E s' | _=>False) s) :
  wpAny (model prog w) A (getAttrBy (.ref x) (.str name tk) fill expr) Q E s:=by
 have ty:=I.type (M:=model prog w);have lg:=yp (M:=model prog w) X xa.ga;have lt:=yp (M:=model prog w) X xa.gt;unfold getAttrBy;refine pL (lT (ty.here (lT (lg.here ?_))));show wpAny _ _ (getAttrByItsOwn (.ref x) (.str name tk) (.ref C) (.builtin "BaseException.__getattribute__") fill expr) _ _ _;unfold getAttrByItsOwn;refine lT (lt.here (lT (wpAny_attempt (pL ?_))));have he:(expr && onTheHeap (Value.builtin "BaseException.__getattribute__"))=false:=by cases expr <;>rfl
 unfold callGetattribute;rw [he];simp only [vF,rX];unfold boundAndCalled;rw [GU.ga.bind];refine lT (mi (sU (ud h fun r s' z=>?_)));rcases r with e|(v|_|_|_) <;>first|exact z|exact z.elim
def Om{v:kT}{expr:Bool}{Q:kT->kU->Prop}(X:K.In s.heap)(I:PySem.W.InstAt s.heap x ox C od)(xa:XA K C)(hf:PySem.W.findObj K C od name=some (.value v))(hh:PySem.W.handedIn v=true)(h:Q v { s with toks:=s.toks+1 }) :
  wpAny (model prog w) A (getAttr (.ref x) name expr) Q E s:=by
 unfold getAttr;refine lT (wpAny_mkText (JA (s:={ s with toks:=s.toks+1 }) X I xa (Lg (s:={ s with toks:=s.toks+1 }) (fd:=.value v) (v:=v) X I xa hf ?_)));show wpAny _ _ (handedOut v) _ _ _;rw [PySem.W.handedOut_of hh];exact mi h
def Ie(xa:XA K C)(hc:(PySem.W.clsIn K C).isSome=true) (ha:findIn K (.ref C) "__class__" =some (some (.builtin "object.__class__"))) (hn:PySem.W.specialIn K (.builtin "object.__class__") "__get__" =some (some (.builtin "getset_descriptor.__get__")))
  (htk:PySem.W.takesIn K (.builtin "object.__class__")=some true) (hm:PySem.W.mroIn K C (.type "object")=some true):PySem.W.KitX K (.ref x) (.ref C) (fun h=>PySem.W.InstAt h x ox C od) where
 ty:=fun _ _ _ I=>I.type
 it:=fun _ _ X _=>by
  unfold PySem.W.clsIn at hc;split at hc
  ·rename_i c' d' cd' O1 ho;intro A' Q' E' s' k q;unfold isType loadHead;exact lT (Dp (k _ _ (X _ _ ho)) (mi q))
  ·cases hc
 ne:=fun h tp dd b9 n sl X V4=>by
  refine Bool.eq_false_iff.mpr fun q=>?_
  have e:C=tp:=Value.ref.inj (qo.mp q);subst e;unfold PySem.W.clsIn at hc;split at hc
  ·rename_i c' d' cd' O1 ho;have z:=(X _ _ ho).symm.trans V4;cases z
  ·cases hc
 ca:=fun {prog w A E Q s} X I k=>by
  have hf:PySem.W.findObj K C od "__class__" =some (.bind (.builtin "getset_descriptor.__get__") (.builtin "object.__class__")):=by
   obtain ⟨cd,B3⟩:=Dt.mp hc;unfold PySem.W.findObj;rw [B3,Option.bind_some,ha];simp [hn,htk]
  unfold getAttr? getAttrBy?;refine lT (wpAny_mkText (lT (wpAny_attempt (JA (s:={ s with toks:=s.toks+1 }) X I xa (Lg (s:={ s with toks:=s.toks+1 }) (v:=.none) X I xa hf ?_)))));exact sU (PySem.W.class_get (s:={ s with toks:=s.toks+1 }) (ox:=ox) (od:=od) X I hm (mi (mi k)))
end
def OP(K:kX)(ta:TE)(f:kR):TE:=fun σ H Q=>ta σ H fun x H1=>∃e C Y dx fs v,x=.ref e/\H1 e=some (pK e C (some dx))/\H1 dx=some (.xd fs)/\ui K C Y/\XA K C/\findIn K (.ref C) f=some none/\fs.lookup f=some v/\Q v H1
def Nz{e':li}{pos:Pos}{ta:TE}(he:PE X e' ta)(hb:attributeBase e' f X.env (eval e' X.env)=eval e' X.env):PE X (.Attribute e' f pos) (OP X.K ta f):=by
 intro a9 s σ H Q I h;refine Ml hb (ma (he a9 s σ H _ I h) fun u s1 h9=>?_);obtain ⟨x,H1,I1,rx,e,C,Y,dx,fs,v,ex,hx,hd,c,xa,na,l,q⟩:=h9;subst ex;obtain rfl:u=Value.ref e:=rx;obtain ⟨o,vs,ho,oc,od,odt⟩:=pK.at I1.hok hx;obtain ⟨mA,n,r⟩:=(show Z5 X.prog X.w H1 s1.heap dx (.xd fs) from I1.hok dx _ hd)
 obtain ⟨od',hod,hl⟩:=DA n;obtain ⟨u',hu,ru⟩:=oW.some_of (v:=v) (o:=mA f) (by rw [<-l];exact r f);have J:PySem.W.InstAt s1.heap e o C (some od'):=⟨ho,oc,by unfold PySem.W.notCls;rw [odt],by rw [od];exact hod⟩
 exact Om I1.kIn J xa (JS c.hd na rfl (by rw [hl,hu])) (MZ ru) ⟨v,H1,I1.tok _,ru,q⟩
end L2
end
section
namespace L2
open PySem PySem.Spec PyProof.Rows
section
variable {prog:lq} {w:lh} {A:lu} {E:kT->kU->Prop} {h:kZ} {g:Array GenState} {d:Drawn} {tk:Nat} {os:OsState} {nm qn:kR} {C N:kS} {bs bm bmB:kQ kT} {hdct:Bool} {sn:kQ kR} {sub:kQ kT} {ab:Bool} {col:kW Bool} {dd:kW kS} {k0 k1 k2 k3 k5:kW kT} {B newId D6:String}
 {Zz:kQ kT} {fI:kS} {oI:Obj}
def Rg{Q:Fin->kU->Prop}(FB:ExcBaseFacts B newId D6 bmB)(T:OwnTail h bmB bm)(hC:h.get? C=some (excClassObj nm qn C N bs bm hdct sn sub ab col dd k0 k1 k2 k3 k5 newId)) (LI:PySem.W.Looks (model prog w) h (typeLookup (.ref C) "__init__") (some (.ref fI)))
  (hfI:h.get? fI=some oI) (hfc:oI.cls=.type "function") (T3:Zz.length<=sizeLine)
  (hq:∀h' e,Heap.MadeExcOf h h' e (.ref C) Zz->wpAny (model prog w) A (call (.ref fI) (.ref e ::Zz)) (fun r s'=>r=.none/\Q (.done (.ret (.ref e))) s') E ⟨h',g,d,tk,os⟩) :
  wpAny (model prog w) A (Builtin.«type.__call__» ⟨.ref C ::Zz,[]⟩) Q E ⟨h,g,d,tk,os⟩:=by
 repeat (first | with_reducible refine wpAny_madeBy_exc hC ?_ | with_reducible refine yY hC ?_ | wp_step)
 refine codeAny_call_builtin_code (vn _ FB.quiet) (wpAny_check_new_subT FB T hC (codeAny_exc_new_subT FB T hC ?_ T3));show wpAny _ _ _ _ _ _;generalize hT:({ cls:=.type "tuple",data:=.seq Zz.toArray }:Obj)=oT;generalize hX:({ cls:=.ref C,data:=.fields #[.ref h.objs.size,.none,.none,.none,.bool false,.none] }:Obj)=oX;have keep:∀b o,h.get? b=some o->((h.push oT).push oX).get? b=some o:=fun b o z=>my _ (my _ z)
 have eX:((h.push oT).push oX).get? (h.objs.size+1)=some oX:=Heap.get?_push_at (by rw [se]) (by rw [<-hX];rfl);have eT:((h.push oT).push oX).get? h.objs.size=some oT:=my _ (nG h (by rw [<-hT];rfl));have eC:=keep _ _ hC;have cX:oX.cls=.ref C:=by rw [<-hX]
 have same:(Value.ref C ::bm).contains (.ref C)=true:=by simp
 unfold isInstance
 repeat (first | (with_reducible refine yY eX ?_;rw [cX]) | (with_reducible refine wpAny_isSubtype_exc eC ?_;rw [same]) | wp_step)
 show wpAny _ _ (typeLookup (.ref C) _) _ _ _;refine LI A _ E _ keep (pL (lT ?_));unfold bindSpecial;refine lT (uq (T := "function") ⟨_,keep _ _ hfI,hfc⟩ ?_);rw [lZ (by left)];refine mi (lT (oQ (hq _ (h.objs.size+1) ⟨keep,xv (rR _),h.objs.size,by rw [eX,hX],xv (mn _),by rw [eT,hT]⟩) (fun r s' hr=>?_) fun _ _ x=>x));obtain ⟨rfl,hQ⟩:=hr
 wp_walk
 exact hQ
def Vy{Q:kT->kU->Prop}(FB:ExcBaseFacts B newId D6 bmB)(T:OwnTail h bmB bm)(hC:h.get? C=some (excClassObj nm qn C N bs bm hdct sn sub ab col dd k0 k1 k2 k3 k5 newId)) (LI:PySem.W.Looks (model prog w) h (typeLookup (.ref C) "__init__") (some (.ref fI)))
  (hfI:h.get? fI=some oI) (hfc:oI.cls=.type "function") (T3:Zz.length<=sizeLine)
  (hq:∀h' e,Heap.MadeExcOf h h' e (.ref C) Zz->wpAny (model prog w) (A.under (.builtin "type.__call__" ⟨.ref C ::Zz,[]⟩)) (call (.ref fI) (.ref e ::Zz)) (fun r s'=>r=.none/\Q (.ref e) s') E ⟨h',g,d,tk,os⟩) :
  wpAny (model prog w) A (call (.ref C) Zz) Q E ⟨h,g,d,tk,os⟩:=by
 have f1:=tc_lookup;have f2:=tc_bind (.ref C);have ty:(⟨h,g,d,tk,os⟩:kU).TypeIs (.ref C) "type" :=⟨_,hC,rfl⟩
 refine sU (codeAny_of_tree ?_);show wpAny _ _ (callAny (.ref C) _) _ _ _
 repeat (any_goals (first | assumption | with_reducible refine yY hC ?_ | wp_step))
 refine ⟨rfl,codeAny_call_builtin_at (vn _ (by trivial)) entry_typeCall (wpAny_check_type_call_sub hC (Rg FB T hC LI hfI hfc T3 fun h' e hm=>hq h' e hm))⟩
end
section
variable {E:kT->kU->Prop}
def VC{ce:li}{pos:Pos}{Q:Flow->kU->Prop} (y9:bm.contains (.type "BaseException")=true) (hh:A.handled=none)
  (h:wpAny M A (eval ce env) (fun v lz=>∃e t dx,v=.ref e/\lz.heap.get? C=some (excClassObj nm qn C N bs bm hdct sn sub ab col dd k0 k1 k2 k3 k5 newId)/\lz.heap.get? e=some (sH C t dx)/\E (.ref e) lz) E s) :
  wpAny M A (exec (.Raise (some ce) none pos) env) Q E s:=by
 have hcB:(Value.ref C ::bm).contains (.type "BaseException")=true:=by rw [List.contains_cons,y9];exact Bool.or_true _
 show wpAny M A (do standAt pos;raiseStmt env (some (do let v <-eval ce env;standAt pos;pure v)) none) Q E s;refine lT (xO ?_);unfold raiseStmt;dsimp only;refine lT (lT (oQ h (fun v lz ⟨e,t,dx,ev,hC,he,hE⟩=>lT (xO (mi ?_))) fun _ _ x=>x));subst ev;unfold sH at he;obtain ⟨hp,g,d,tk,os⟩:=lz
 repeat (first | with_reducible refine yY he ?_ | with_reducible refine yY hC ?_ | (with_reducible refine wpAny_isSubtype_exc hC ?_;rw [hcB]) | wp_step)
 exact wpAny_raiseNew_none hh hE
end
inductive wM(C:kS)(f:kR):Sp
 | mk (e t v):vs=[.ref e,v]->H e=some (oA e C t none)->(∀dx,H dx=none->dx≠e->Q .non (upd (upd H e (oA e C t (some dx))) dx (.xd [(f,v)])))->wM C f vs H Q E
structure XI(K:Frag)(C Y fI:Addr)(f:Str):Prop where
 cls:ui K C Y
 kp:keepIn K (.ref C)=true
 init:findIn K (.ref C) "__init__" =some (some (.ref fI))
 fn:PySem.W.typeIn K (.ref fI)=some (.type "function")
 sa:findIn K (.ref C) "__setattr__" =some (some (.builtin "object.__setattr__"))
 xa:XA K C
 na:findIn K (.ref C) f=some none
def Pj(C:kS)(f:kR)(E:XK)(t:TA):TS:=fun _ σ H=>t σ H fun vs H1=>∃v,vs=[v]/\∀dx,H1 dx=none->E (.ref C) (some dx) (upd H1 dx (.xd [(f,v)]))
section
variable {P:lq} {w:lh} {K:kX} {mg:kR->kW kT} {lL:kZ} {N:kQ kR} {qual:kR} {scope:Scope} {f:kS} {cd:kT} {A:lu} {lJ:kQ Env} {ly:kU} {lB:Hp} {E:XK}
def Aj{x y:kR}{C Y fI:kS}{fd:lv}{ps:kQ kR}{k:Nat}{fn:kR}{np d6 pos:Pos}{lD:li}{Zz:kQ li}{t:TA}(xi:XI K C Y fI fn) (OY:AM K mg y Y uO "ValueError.__new__") (Fn:Xe P w K mg lL nH k fI fd ps (wM C fn)) (hb:pr K fd ps [])
  (hr:Y5 (k+1) (nK (mK P w) P w K mg lL N qual scope f cd A lJ ly lB E).A) (hg:Gl (nK (mK P w) P w K mg lL N qual scope f cd A lJ ly lB E) x) (hm:mg x=some (.ref C)) (ha:PA (nK (mK P w) P w K mg lL N qual scope f cd A lJ ly lB E) (lD ::Zz) t)
  (L1:(x ==("__debug__" :kR))=false:=by left) (he:starEach (lD ::Zz) (nK (mK P w) P w K mg lL N qual scope f cd A lJ ly lB E).env=(false,eval lD (nK (mK P w) P w K mg lL N qual scope f cd A lJ ly lB E).env) ::starEach Zz (nK (mK P w) P w K mg lL N qual scope f cd A lJ ly lB E).env:=by rfl)
  (g8:(backTo d6 (starEach Zz (nK (mK P w) P w K mg lL N qual scope f cd A lJ ly lB E).env)).any (·.1)=false:=by rfl) :
  PS (nK (mK P w) P w K mg lL N qual scope f cd A lJ ly lB E) (.Raise (some (.Call (.Name x np) (lD ::Zz) [] d6)) none pos) (Pj C fn E t):=by
 intro a9 s σ H D I h;obtain ⟨nm,qn,N',bs,sn,sub,ab,col,dd,k0,k1,k2,k3,k5,hK⟩:=xi.cls;refine VC (C:=C) (nm:=nm) (qn:=qn) (N:=N') (bs:=bs) (bm:=.ref Y ::uO) (hdct:=true) (sn:=sn) (sub:=sub) (ab:=ab) (col:=col) (dd:=dd) (k0:=k0) (k1:=k1) (k2:=k2) (k3:=k3) (k5:=k5) (newId := "ValueError.__new__") (by simp) (I.ok.hd rfl) ?_;refine sX (uE I hg hm ?_ L1);refine xY (h₀:=lL) I.ok.mod.kin xi.kp (ma (ha d6 a9 s σ H _ I h) fun us s2 ⟨vs,H2,I2,r2,v,ev,hE⟩=>⟨I2.kIn,?_⟩) he g8;subst ev;obtain ⟨u,rfl,ru⟩:=W0 r2;have hC:=I2.kIn _ _ hK;obtain ⟨tl,NY,tJ,qY,bsY,hdY,snY,subY,abY,colY,ddY,j0,j1,j2,j3,j5,mN,hY,hN,hni,_⟩:=(OY s2.heap I2.kIn).obj;have T:OwnTail s2.heap uO (.ref Y ::uO):=.own hY hN hni .base;have LI:PySem.W.Looks (model P w) s2.heap (typeLookup (.ref C) "__init__") (some (.ref fI)):=yp I2.kIn xi.init;have tf:s2.TypeIs (.ref fI) "function" :=by
  obtain ⟨o,ho,hc⟩:=mS.mp xi.fn;exact ⟨o,I2.kIn _ _ ho,hc⟩
 obtain ⟨oI,hoI,hcI⟩:=tf;obtain ⟨hp2,g2,d2,tk2,os2⟩:=s2;refine Vy rT T hC LI hoI hcI (by rw [qT];show 1<=16777216;decide) fun h' e hm=>?_
 obtain ⟨tu,heX,_,_⟩:=hm.there;obtain ⟨p0,J⟩:=I2.laidAt (h':=h') (t':=tk2) (a:=e) (o:=oA e C tu none) hm.keeps hm.new (oA.ok heX);have hl:ps.length=2:=by
  have:=Fn.len [.ref e,v] (upd H2 e (oA e C tu none)) (fun r _=>True) E0 ⟨e,tu,v,rfl,Zc,fun _ _ _=>trivial⟩;exact this.symm
 refine sU (ud (Fn.run _ (nK (mK P w) P w K mg lL N qual scope f cd A lJ ly lB E).stack _ _ ⟨[.ref e,u],[]⟩ [.ref e,u] [.ref e,v] (fun r H3=>r=.non/\∃dx,H2 dx=none/\dx≠e/\H3=upd (upd (upd H2 e (oA e C tu none)) e (oA e C tu (some dx))) dx (.xd [(fn,v)])) E0
  (hr.make C [u] []) (J.env0.make C [u] []) (hb _ [.ref e,u] J.kIn (by rw [pz,hl];rfl)) (.cons rfl (.cons ru .nil)) ⟨e,tu,v,rfl,Zc,fun dx hn hd=>⟨rfl,dx,by rw [Zd hd] at hn;exact hn,hd,rfl⟩⟩) fun r s' hq=>?_)
 cases r with
 | error z=>exact False.elim hq
 | ok fl =>
  cases fl with
  | next=>exact False.elim hq
  | brk=>exact False.elim hq
  | cont=>exact False.elim hq
  | ret u' =>
   obtain ⟨v',H3,os,bare,un,hok,rv,rfl,dx,hn,hd,rfl⟩:=hq;cases rv;have I3:=J.call' os un hok bare (fun b z=>absurd z (by simp));have q3:(upd (upd (upd H2 e (oA e C tu none)) e (oA e C tu (some dx))) dx (.xd [(fn,v)])) e=some (oA e C tu (some dx)):=by rw [Zd hd.symm,Zc]
   have he3:=oA.at I3.hok q3;have I4:=I3.drop q3;have hH:wH (upd (upd (upd H2 e (oA e C tu none)) e (oA e C tu (some dx))) dx (.xd [(fn,v)])) e=upd H2 dx (.xd [(fn,v)]):=by
    funext b
    by_cases y:b=e
    ·rw [y,DU,Zd hd.symm,p0]
    ·rw [zM y]
     by_cases z:b=dx
     ·rw [z,Zc,Zc]
     ·rw [Zd z,Zd y,Zd y,Zd z]
   rw [hH] at I4;refine ⟨rfl,e,tu,some dx,rfl,?_,he3,?_⟩
   ·exact I3.kIn _ _ hK
   show wpAny _ _ (leaving _ (.ref e)) _ _ s';have N1:∀env∈(envOfC qual scope ly.heap.objs.size f cd ::lJ),∀b,env.frame=some b->b∈e ::mJ (envOfC qual scope ly.heap.objs.size f cd ::lJ):=fun env he b hb=>nJ _ (xl.mpr ⟨env,he,hb⟩)
   refine LO (lL:=PySem.W.hideAll s'.heap (e ::mJ (envOfC qual scope ly.heap.objs.size f cd ::lJ))) I4.ok.frames (LN I4.stack N1) rfl he3 (fun b o q=>zq _ q) (GJ _ mV) rfl rfl ⟨rfl,rfl⟩ fun h'' fl up=>?_
   refine BS I4 fl up (fun b o h1 h2 h3=>Bs _ h1 fun z=>?_) (hE dx hn);rcases mI.mp z with y|y
   ·subst y;rcases h2 with ⟨o',h2⟩|h2
    ·obtain ⟨o2,h4⟩:=I2.lL.there b o' h2 (by show b∉([]:kQ kS);simp);have:=hm.new;rw [h4] at this;cases this
    ·rw [Zd hd.symm] at h2;exact h2 p0
   ·exact h3 y
end
section
variable {K:kX} {M:Model} {A:lu} {E:kT->kU->Prop} {s:kU} {e C B:kS} {o:Obj} {r:Bool}
def Rw{Q:Bool->kU->Prop}(X:K.In s.heap)(he:s.heap.get? e=some o)(hc:o.cls=.ref C) (kB:PySem.W.kitCls K (.ref B) (.type "BaseException")=some true) (kC:PySem.W.kitCls K (.ref C) (.ref B)=some r) (hq:Q r s) :
  wpAny M A (excMatches (.ref e) (.ref B)) Q E s:=by
 obtain ⟨tB,iB,sB⟩:=PySem.W.kit_cls (M:=M) X kC;obtain ⟨_,_,bB⟩:=PySem.W.kit_cls (M:=M) X kB;have ty:PySem.W.Looks M s.heap (typeOf (.ref e)) (.ref C):=hc ▸ (PySem.W.Looks.ld he).andThen .now;have f:=tc_notTuple;unfold excMatches isExcClass
 repeat (first | with_reducible refine ty.here ?_ | with_reducible refine tB.here ?_ | with_reducible refine iB.here ?_ | with_reducible refine sB.here ?_ | with_reducible refine bB.here ?_ | wp_step)
 cases r with
 | true=>repeat (first | exact hq | wp_step)
 | false=>repeat (first | exact hq | wp_step)
end
def oV.blur(D:oV)(n:Nat):oV:={ nx:=fun _ H=>D.nx (List.replicate n none) H,rt:=D.rt,bk:=fun _ H=>D.bk (List.replicate n none) H,ct:=fun _ H=>D.ct (List.replicate n none) H }
variable {X:Cx}
def WS.tryAs{x n:kR}{B:kS}{i:Nat}{np hpos pos:Pos}{body T4:kQ kY}{b₀:kY}{D:oV}{Ex:XK}{R:kS->kW kS->Hp->Prop}(hm:X.mg x=some (.ref B)) (kB:PySem.W.kitCls X.K (.ref B) (.type "BaseException")=some true) (hg:Gl X x) (hN:X.N.Nodup) (hi:X.N[i]? =some n) (hlo:X.env.kindOf n=some .local) (hsc:X.env.scope.names.lookup n=some .local)
  (z6:X.stack=X.env ::X.lJ) (hfm:X.env.frame=some X.env.locals) (hcm:X.calm=true) (O4:X.ex=[]) (hE:∀cls dx H',Ex cls dx H'->∃C,cls=.ref C/\PySem.W.kitCls X.K (.ref C) (.ref B)=some true/\R C dx H')
  (hb:∀pn xe,qR (mK X.prog X.w) (X.tried pn xe) Ex->WSs (X.tried pn xe) body D σ H) (hh:∀(ea C:kS) (dx:kW kS) (σ':St) (H':Hp),σ'.length=X.N.length->R C dx H'->H' ea=none->WSs (X.caught ea) (b₀ ::T4) (D.blur X.N.length) (σ'.set i (some (.ref ea))) (upd H' ea (pK ea C dx))) (hd:(x ==("__debug__" :kR))=false:=by left) :
  WS X (.Try body [.ExceptHandler (some (.Name x np)) (some n) (b₀ ::T4) hpos] [] [] pos) D σ H:=by
 refine ⟨fun a9 s I=>?_⟩;refine wpAny_Try_except ?_;have pass:qR (mK X.prog X.w) (X.tried (X.pn++a9) fun e lz=>wpAny (model X.prog X.w) X.A (noteFrame e X.env) (fun _ lC=>wpAny (model X.prog X.w) X.A (setFlight e none) (fun _ lE=>wpAny (model X.prog X.w) X.A (handleBy e X.env [.ExceptHandler (some (.Name x np)) (some n) (b₀ ::T4) hpos]) (SP X a9 D) X.xe lE) X.xe lC) X.xe lz) Ex:=by
  intro p8 σ' H1 s1 e s2 I1 hc;obtain ⟨ea,cls,dx,H2,rfl,os,bare,un,hok,⟨a0,B0,fl,pB⟩,hEx⟩:=hc;obtain ⟨C,rfl,kC,hR⟩:=hE _ _ _ hEx;have IX:lQ X a9 σ' H1 s1:=I1.tryOut;have I2:lQ X a9 σ' H2 s2:=IX.call' os un hok bare (fun b z=>absurd z (by simp));have fr:∀b∈mJ X.stack,H2 b=none/\∃o,s2.heap.get? b=some o/\∀vs,o.data ≠ .fields vs:=fun b hb=>⟨I2.stkFree b hb,(I2.stack.mem hb).2⟩
  have step:∀h',B0.StaysIn h'->s2.heap.UpToSlots h'->lQ X a9 σ' H2 { s2 with heap:=h' }:=fun h' st up =>
   let ⟨u,k⟩:=TZ un hok fr st up pB
   IX.call' (s':={ s2 with heap:=h' }) os u k bare (fun b z=>absurd z (by simp))
  have new:∀b o,s1.heap.get? b=some o->b≠ea:=fun b o q z=>by
   subst z;obtain ⟨ob,C1,_,_,vs,hvs⟩:=fl.there
   by_cases hf:b∈mJ X.stack
   ·obtain ⟨_,o2,h2,h3⟩:=fr b hf;rw [C1] at h2;cases h2;exact h3 vs hvs
   ·have:=pB b ob C1 (.inl ⟨o,q⟩) hf;rw [fl.2.1] at this;cases this
  have non:H2 ea=none:=by
   cases q:H2 ea with
   | none=>rfl
   | some u =>
    obtain ⟨ob,C1,_⟩:=fl.there;have:=pB ea ob C1 (.inr (by rw [q];exact vv _)) (fun z=>by have:=(fr ea z).1;rw [q] at this;cases this);rw [fl.2.1] at this;cases this
  have fl:oU B0 (X.env ::X.lJ) ea (.ref C) a0 dx .none s2.heap:=by rw [<-z6];exact fl
  have p7:X.A.frames=some (X.env ::X.lJ):=by rw [<-z6];exact I2.ok.frames
  show wpAny (model X.prog X.w) X.A (noteFrame (.ref ea) X.env) _ _ s2;refine Kf p7 hfm fl fun h₄ held₄ sm₄=>Bb (s:={ s2 with heap:=h₄ }) held₄ fun lG fl₅ sm₅=>?_
  have sm25:s2.heap.UpToSlots lG:=sm₄.trans sm₅;have I5:=(step lG fl₅.1 sm25).catch ea;refine wpAny_handleBy_cons (codeAny_handlers_test (uE I5 hg hm ?_ hd)) (by intro q;cases q);obtain ⟨ob,C1,hobc,_⟩:=fl₅.there;refine Rw I5.kIn C1 hobc kB kC (codeAny_handlers_suite_as ?_);refine Bb (s:={ s2 with heap:=lG }) fl₅ fun h₆ fl₆ sm₆=>?_
  have I6:=step h₆ fl₆.1 (sm25.trans sm₆);obtain ⟨o6,ho6,oc6,od6,vs6,ov6⟩:=fl₆.there;have oc2:vs6[2]? =some .none:=by
   obtain ⟨ob,vs,q1,q2,q3⟩:=fl₆.ctx;rw [ho6] at q1;cases q1;rw [ov6] at q2;cases q2;exact q3
  have I7:lQ X a9 σ' (upd H2 ea (pK ea C dx)) { s2 with heap:=h₆ }:=I6.track non
   (by
    cases q:X.ly.heap.get? ea with
    | none=>rfl
    | some o =>
     obtain ⟨o',q'⟩:=IX.lL.there ea o q (by rw [O4];simp);exact absurd rfl (new ea o' q'))
   (fun z=>by
    obtain ⟨m,⟨o,_,_,q,_⟩,_⟩:=IX.loc;exact new _ o q z.symm)
   (fun y c q=>by
    obtain ⟨v,o,q',_⟩:=IX.cell y c q;exact new c o q')
   (fun p q=>new p.1 p.2 (IX.pin p q).1) (pK.ok ho6 oc6 od6 ov6 oc2)
  refine EN (X:=X.caught ea) (s:={ s2 with heap:=h₆ }) (I7.catch ea) hN hi (.inl hsc) (v:=.ref ea) rfl (fun s8 I8=>?_) (.inr hsc);refine oQ ((hh ea C dx σ' H2 IX.len hR non).run a9 _ I8) (fun f lE q=>?_) fun _ _ z=>False.elim z
  have hX:=I.ok.hd hcm;have yx:∀{σ'':St} {w9:Hp} {s3:kU} {Q:Unit->kU->Prop},lQ (X.caught ea) a9 σ'' w9 s3->(∀s4,lQ X a9 (List.replicate X.N.length none) w9 s4->Q () s4)->wpAny (model X.prog X.w) X.A (do bindName X.env n .none;unbindBehindTheSuite X.env n hpos) Q X.xe s3:=by
   intro σ'' w9 s3 Q J k;obtain ⟨m,hn,_⟩:=J.loc;refine wpAny_nameGoes hlo hn (by rw [J.ok.kind];rfl) fun h' m' V1 O0=>k _ ?_
   exact (J.uncatch hX).forget V1 O0
  cases f with
  | next=>obtain ⟨σ'',w9,J,q⟩:=q;exact yx J fun s4 J4=>⟨_,w9,J4,q⟩
  | brk=>obtain ⟨σ'',w9,J,q⟩:=q;exact yx J fun s4 J4=>⟨_,w9,J4,q⟩
  | cont=>obtain ⟨σ'',w9,J,q⟩:=q;exact yx J fun s4 J4=>⟨_,w9,J4,q⟩
  | ret u=>obtain ⟨v,σ'',w9,J,r,q⟩:=q;exact yx J fun s4 J4=>⟨v,_,w9,J4,r,q⟩
 refine oQ ((hb _ _ pass).run [] s (I.tryIn _)) (fun f lz q=>?_) fun e lz z=>z
 cases f with
 | next =>
  obtain ⟨σ',H',J,q⟩:=q;exact zx ⟨σ',H',J.tryOut,q⟩
 | brk=>obtain ⟨σ',H',J,q⟩:=q;exact ⟨σ',H',J.tryOut,q⟩
 | cont=>obtain ⟨σ',H',J,q⟩:=q;exact ⟨σ',H',J.tryOut,q⟩
 | ret u=>obtain ⟨v,σ',H',J,r,q⟩:=q;exact ⟨v,σ',H',J.tryOut,r,q⟩
structure XG(K:Frag)(C:Addr):Prop where
 xa:XA K C
 hc:(PySem.W.clsIn K C).isSome=true
 cl:findIn K (.ref C) "__class__" =some (some (.builtin "object.__class__"))
 cg:PySem.W.specialIn K (.builtin "object.__class__") "__get__" =some (some (.builtin "getset_descriptor.__get__"))
 ct:PySem.W.takesIn K (.builtin "object.__class__")=some true
 ob:PySem.W.mroIn K C (.type "object")=some true
def Oq(K:kX):kQ V->Hp->VK->Prop:=fun xs H Q=>∃e C dx fs c b,xs=[.ref e,c]/\H e=some (pK e C (some dx))/\H dx=some (.xd fs)/\XG K C/\((∃n,c=.ty n/\kitOne K (.ref C) (.type n)=some b)\/(∃a,c=.ref a/\kitOne K (.ref C) (.ref a)=some b) \/
 ∃(a:kS) (cs:kQ kS),c=.ref a/\H a=some (.tup (cs.map V.ref))/\PySem.W.kitAny K (.ref C) (cs.map Value.ref)=some b)/\Q (.bl b) H
theorem xk:∀{cs:kQ kS} {b9:kQ kT},Yc (cs.map V.ref) b9->b9=cs.map Value.ref
 | [],_,.nil=>rfl
 | c ::cs,_,.cons r t=>by
  rw [xk t];cases r
  rfl
def NX{X:Cx}:Xc X (.builtin "isinstance") (Oq X.K):=by
 intro a9 s σ H xs us Q I r h;obtain ⟨e,C,dx,fs,c,b,rfl,he,hx,g,k,q⟩:=h;obtain ⟨u,w',rfl,rx,z7⟩:=uP r;obtain rfl:u=Value.ref e:=rx;obtain ⟨o,vs,ho,oc,od,odt⟩:=pK.at I.hok he;obtain ⟨mA,n,_⟩:=(show Z5 X.prog X.w H s.heap dx (.xd fs) from I.hok dx _ hx)
 obtain ⟨od',hod,_⟩:=DA n;have J:PySem.W.InstAt s.heap e o C (some od'):=⟨ho,oc,by unfold PySem.W.notCls;rw [odt],by rw [od];exact hod⟩
 have Z:PySem.W.KitX X.K (.ref e) (.ref C) (fun h=>PySem.W.InstAt h e o C (some od')):=Ie g.xa g.hc g.cl g.cg g.ct g.ob;rcases k with ⟨n',rfl,k⟩|⟨a,rfl,k⟩|⟨a,cs,rfl,ha,k⟩
 ·cases z7;exact qt Z I.kIn J k (fun z=>nomatch z) fun tk=>⟨.bl b,H,I.tok tk,rfl,q⟩
 ·cases z7;exact qt Z I.kIn J k (fun z=>nomatch z) fun tk=>⟨.bl b,H,I.tok tk,rfl,q⟩
 ·cases z7;obtain ⟨_,b9,rv,ob,C1,hc,n2,U2⟩:=(show Z5 X.prog X.w H s.heap a (.tup (cs.map V.ref)) from I.hok a _ ha)
  rw [xk rv] at U2;obtain ⟨c1,c2,c3,c4⟩:=ob;dsimp only at hc U2;subst hc U2;exact PySem.W.kia_tup Z I.kIn J C1 k (fun z=>nomatch z) fun tk=>⟨.bl b,H,I.tok tk,rfl,q⟩
def NV:typeLookup (.type "list") "keys" =pure none:=by rw [typeLookup_type,builtinLookup_eq_fast];kernel_rfl
def NE:typeLookup (.type "list") "__getattr__" =pure none:=by rw [typeLookup_type,builtinLookup_eq_fast];kernel_rfl
def CU:isSubtype (.type "AttributeError") (.type "AttributeError")=pure true:=by rw [isSubtype_type];kernel_rfl
section
variable {prog:lq} {w:lh} {A:lu} {E:kT->kU->Prop} {h:kZ} {g:Array GenState} {d:Drawn} {t:Nat} {os:OsState} {a:kS} {vs:Array kT} {n:Nat}
def Oj{β:Type}{Q:β->kU->Prop}(hh:A.handled=none)(hm:msg.length<=sizeLine)
  (hq:∀h' e w6,(∀b u,h.get? b=some u->h'.get? b=some u)->(∃oe,h'.get? e=some oe/\oe.cls=.type "AttributeError")->E (.ref e) ⟨h',g,d,w6,os⟩) :
  wpAny (model prog w) A (raiseAttrError (.ref a) "keys" msg:Sem β) Q E ⟨h,g,d,t,os⟩:=by
 have f5:=CU;have hm':¬msg.length >sizeLine:=by lia
 unfold raiseAttrError newExc
 repeat (any_goals (first | assumption | rw [lY hm'] | wp_step))
 generalize hoX:({ cls:=Value.type "AttributeError",data:=Data.fields (#[Value.ref h.objs.size,Value.none,Value.none,Value.none,Value.bool false,if ((Manifest.find? "AttributeError").elim false fun t=>t.mro.contains "StopIteration" || t.mro.contains "SystemExit")=true then [Value.str msg t].headD Value.none else Value.none]++ownMembersOf (Value.type "AttributeError") [Value.str msg t]) }:Obj)=oX;have hcX:oX.cls=.type "AttributeError" :=by rw [<-hoX]
 have hdX:∃ws,oX.data=.fields ws:=⟨_,by rw [<-hoX]⟩
 obtain ⟨ws,hdX⟩:=hdX;have hX:((h.push { cls:=Value.type "tuple",data:=Data.seq #[Value.str msg t] }).push oX).get? (h.push { cls:=Value.type "tuple",data:=Data.seq #[Value.str msg t] }).objs.size=some oX:=nG _ (Bg hdX);refine wpAny_raiseNew_none hh (hq _ _ _ (fun b u hb=>?_) ⟨_,zC _ hX (Bg (AD hdX _)),by rw [Obj.cls_mapFields];exact hcX⟩);rw [rK _ _ (by rw [se];exact uV (xu (mo hb)))];exact my _ (my _ hb)
def Ub{Q:Fin->kU->Prop}(hh:A.handled=none) (hx:h.get? a=some { cls:=.type "list",data:=.seq vs n })
  (hq:∀h' e w6,(∀b u,h.get? b=some u->h'.get? b=some u)->(∃oe,h'.get? e=some oe/\oe.cls=.type "AttributeError")->E (.ref e) ⟨h',g,d,w6,os⟩) :
  wpAny (model prog w) A (Builtin.«object.__getattribute__» ⟨[.ref a,.str "keys" tk],[]⟩) Q E ⟨h,g,d,t,os⟩:=by
 have hT:(⟨h,g,d,t,os⟩:kU).TypeIs (.ref a) "list" :=⟨_,hx,rfl⟩
 have f4:=NV;have f5:=CU
 repeat (any_goals (first | assumption | wp_step))
 exact Oj hh (by trivial) hq
def DZ{Q:kW kT->kU->Prop}(hh:A.handled=none) (hx:h.get? a=some { cls:=.type "list",data:=.seq vs n })
  (hq:∀h' w6,(∀b u,h.get? b=some u->h'.get? b=some u)->Q none ⟨h',g,d,w6,os⟩):wpAny (model prog w) A (getAttr? (.ref a) "keys") Q E ⟨h,g,d,t,os⟩:=by
 have hT:(⟨h,g,d,t,os⟩:kU).TypeIs (.ref a) "list" :=⟨_,hx,rfl⟩
 have f2:=AX.lookup;have f3:=AX.bind (.ref a);have f5:=CU;have f6:=NE;unfold getAttr? getAttrBy?
 repeat (any_goals (first | assumption | wp_step))
 refine zt AX.plain F.entry_list_ga (AX.check _ _ _ _ _ _ _ _ (show (⟨h,g,d,t+1,os⟩:kU).TypeIs (.ref a) "list" from ⟨_,hx,rfl⟩) (F.args_list_getattribute_2 _ _) (Ub hh hx fun h' e w6 kp ⟨oe,he,hc⟩=>?_));have hTe:(⟨h',g,d,w6,os⟩:kU).TypeIs (.ref e) "AttributeError" :=⟨_,he,hc⟩
 have hq':=hq h' w6 kp;unfold getattributeRaised
 repeat (any_goals (first | assumption | wp_step))
 all_goals trace_state
end
def Br:entryFor table "dict.update.loop" =some Builtin.«dict.update.loop» :=entryFor_of_tree (by kernel_rfl)
section
variable {prog:lq} {w:lh} {KT:Type} [DecidableEq KT] {knd:KeyKind prog w KT} {A:lu} {R:Result->kU->Prop} {l d it:kS} {tps:kQ kS} {prs D0:kQ (KT×kT)} {h₀:kZ}
def yL(knd:KeyKind prog w KT)(h:kZ)(tps:kQ kS)(prs:kQ (KT×kT)):Prop:=Paired (fun p (q:KT×kT)=>∃key o n,knd.is q.1 key=true/\h.get? p=some o/\o.cls=.type "tuple" /\o.data=.seq #[key,q.2] n) tps prs
def Kl(hh:A.handled=none)(hdi:d≠it)(hl:h₀.IsList l (tps.map Value.ref).toArray)(hld:l≠d)(hli:l≠it)(hp:yL knd h₀ tps prs)(hsz:D0.length+prs.length<=sizeLine)(hpd:∀p∈tps,p≠d/\p≠it) :
  ∀(n i:Nat) (s:kU) (j:Int) (tk:Tok),i+n=prs.length->s.heap.IsListIter it l i->s.heap.DictOf knd d (merged D0 (prs.take i))->(∀b o,b≠d->b≠it->h₀.get? b=some o->s.heap.get? b=some o) ->
   (∀h' w6,h'.DictOf knd d (merged D0 prs)->(∀b o,b≠d->b≠it->h₀.get? b=some o->h'.get? b=some o)->R (.ok (.ret .none)) { s with heap:=h',toks:=w6 }) ->
   codeAny (model prog w) A (.builtin "dict.update.loop" ⟨[.ref d,.ref it,.int j tk,.none],[]⟩) R s:=by
 have d7:tps.length=prs.length:=mv hp;intro n
 induction n with
 | zero =>
  intro i s j tk hi hit hD keep hq;have L9:s.heap.IsList l (tps.map Value.ref).toArray:=by
   obtain ⟨o,ho,r⟩:=hl;exact ⟨o,keep _ _ hld hli ho,r⟩
  refine Ay Br ?_;unfold Builtin.«dict.update.loop»;dsimp only;refine lT (BH hh hit L9 (by rw [AK,mG,uc (by lia)];rfl) fun h' eb=>?_);dsimp only;refine lT (mi (mi ?_));refine hq h' s.toks ?_ ?_
  ·rw [show prs.take i=prs from uU (by lia)] at hD;obtain ⟨o,es,ep,ho,r⟩:=hD;exact ⟨o,es,ep,eb d o hdi ho,r⟩
  ·exact fun b o h1 h2 h3=>eb b o h2 (keep b o h1 h2 h3)
 | succ n ih =>
  intro i s j tk hi hit hD keep hq;have L9:s.heap.IsList l (tps.map Value.ref).toArray:=by
   obtain ⟨o,ho,r⟩:=hl;exact ⟨o,keep _ _ hld hli ho,r⟩
  have K6:i<tps.length:=by lia
  obtain ⟨q,hqi,key,ot,nt,hk,P6,hct,E2⟩:=Paired.get hp (i:=i) (a:=tps[i]) (oh K6);obtain ⟨nd,ni⟩:=hpd tps[i] (EI K6);refine Ay Br ?_;unfold Builtin.«dict.update.loop»;dsimp only;refine lT (DX hit L9 (x:=.ref tps[i]) (by rw [AK,mG,oh K6];rfl) fun h1 it1 sb1=>?_);have R0:h1.get? tps[i]=some ot:=by rw [sb1.2 _ ni];exact keep _ _ nd ni P6
  have hT:({ s with heap:=h1 }:kU).TypeIs (.ref tps[i]) "tuple" :=⟨_,R0,hct⟩
  have N2:h1.DictOf knd d (merged D0 (prs.take i)):=by
   obtain ⟨o,es,ep,ho,r⟩:=hD;exact ⟨o,es,ep,by rw [sb1.2 _ hdi];exact ho,r⟩
  refine lT (pL (lT (wpAny_tryCatch ?_)));unfold Builtin.Dict.pairItems;refine lT (uq hT ?_);rw [lZ (by left)];refine lT (wpAny_seqItems (s:={ s with heap:=h1 }) R0 E2 (mi ?_));refine pL (wpAny_dictSet_pairs hk N2 (fun h2 w4 sb2=>?_) ?_)
  ·refine mi ⟨vn _ (by trivial),?_⟩;have z6:stored (merged D0 (prs.take i)) q.1 q.2=merged D0 (prs.take (i+1)):=(merged_take_succ D0 prs i q hqi).symm;rw [z6] at w4;refine ih (i+1) { s with heap:=h2,toks:=s.toks+1 } (j+1) _ (by lia) ?_ w4 (fun b o n1 n2 z=>?_) fun h' w6=>hq h' w6
   ·exact it1.at fun o z=>by rw [sb2.2 _ hdi.symm];exact z
   ·rw [sb2.2 _ n1,sb1.2 _ n2];exact keep b o n1 n2 z
  ·have:=merged_length_le (K:=KT) D0 (prs.take i);rw [nI] at this;lia
def Ud{Q:kT->kU->Prop}{E:kT->kU->Prop}(hh:A.handled=none) (hx:s.heap.get? l=some { cls:=.type "list",data:=.seq (tps.map Value.ref).toArray n }) (hp:yL knd s.heap tps prs) (hsz:prs.length<=sizeLine)
  (h:∀h' w6 dd,h'.DictOf knd dd (merged [] prs)->dd=s.heap.objs.size->s.heap.get? dd=none->(∀b o,s.heap.get? b=some o->h'.get? b=some o)->Q (.ref dd) { s with heap:=h',toks:=w6 }) :
  wpAny (model prog w) A (call (.type "dict") [.ref l]) Q E s:=by
 refine callType_codes (Q₁:=fun obj lz=>obj=.ref s.heap.objs.size/\lz={ s with heap:=s.heap.push { cls:=.type "dict",data:=.dict #[] } }) F.kt_called_dict (F.kt_typeCall_dict_1 _) F.entry_dict_init (kt_code_dict_new _ ⟨rfl,rfl⟩) ?_;rintro obj lz ⟨rfl,rfl⟩;have k8:(s.heap.push { cls:=.type "dict",data:=.dict #[] }).DictOf knd s.heap.objs.size []:=Heap.DictOf.new s.heap;have hx1:(s.heap.push { cls:=.type "dict",data:=.dict #[] }).get? l=some { cls:=.type "list",data:=.seq (tps.map Value.ref).toArray n }:=my _ hx;refine ⟨k8.typeIs,F.args_dict_init_2 _ _,?_⟩;unfold Builtin.«dict.__init__»;refine lT ?_;unfold Builtin.Dict.selfAndRest;refine lT (BO k8.typeIs ?_);show wpAny _ _ (pure (s.heap.objs.size,[Value.ref l])) _ _ _;refine mi ?_;show wpAny _ _ (Builtin.Dict.updateFrom "dict.__init__" s.heap.objs.size (.ref l) [] .none) _ _ _;unfold Builtin.Dict.updateFrom;refine lT (uq (T := "list") ⟨_,hx1,rfl⟩ ?_);rw [lZ (by left)];obtain ⟨h0,g0,d0,t0,os0⟩:=s;dsimp only at *;refine lT (DZ hh hx1 fun h1 T6 k1=>?_);simp only [EC,rW];have U3:=k1 _ _ hx1;have O2:h1.IsList l (tps.map Value.ref).toArray:=⟨_,U3,rfl,n,rfl⟩
 refine lT (Bj (lT (vA (s:=⟨h1,g0,d0,T6,os0⟩) O2 (mi ⟨vn _ (by trivial),?_⟩))));have k2:∀b o,h0.get? b=some o->(h1.push { cls:=.type "list_iterator",data:=.fields #[.ref l,.int 0 0] }).get? b=some o:=fun b o z=>my _ (k1 _ _ (my _ z))
 have hd1:h1.get? h0.objs.size=some { cls:=.type "dict",data:=.dict #[] }:=k1 _ _ (nG h0 rfl);have N3:h0.objs.size<h1.objs.size:=mo hd1;have hll:l<h0.objs.size:=mo hx;refine Kl (A:=A.in1) (knd:=knd) (h₀:=h1.push { cls:=.type "list_iterator",data:=.fields #[.ref l,.int 0 0] }) (l:=l) (tps:=tps) (prs:=prs) (D0:=[]) hh (mC N3) ?_ (mC hll) (mC (pV hll N3)) ?_ (by simpa using hsz) (fun p z=>?_) prs.length 0 ⟨h1.push { cls:=.type "list_iterator",data:=.fields #[.ref l,.int 0 0] },g0,d0,T6,os0⟩ 0 0 (by lia) ?_ ?_ (fun _ _ _ _ z=>z) fun h' w6 hD kp=>?_
 ·exact ⟨_,k2 _ _ hx,rfl,n,rfl⟩
 ·exact Paired.mapP hp fun p q ⟨key,o,m,z1,z2,z3⟩=>⟨key,o,m,z1,k2 _ _ z2,z3⟩
 ·obtain ⟨i,hi,rfl⟩:=sv z;obtain ⟨q,_,key,o,m,_,z2,_⟩:=Paired.get hp (i:=i) (a:=tps[i]) (oh hi);have:=mo z2;exact ⟨mC this,mC (pV this N3)⟩
 ·exact ⟨_,nG h1 rfl,rfl,rfl⟩
 ·obtain ⟨o,es,ep,ho,r⟩:=k8;exact ⟨o,es,ep,my _ (k1 _ _ ho),r⟩
 ·refine ⟨rfl,h h' w6 h0.objs.size hD rfl (xv (mn _)) fun b o z=>kp b o ?_ ?_ (k2 b o z)⟩
  ·exact mC (mo z)
  ·exact mC (pV (mo z) N3)
end
def zf:kQ V->Hp->VK->Prop:=fun xs H Q=>∃(l:kS) (tps:kQ kS) (kvs:kQ (md×V)),xs=[.ref l]/\H l=some (.lst (tps.map V.ref))/\Paired (fun t (q:md×V)=>H t=some (.tup [kV q.1,q.2])) tps kvs/\(kvs.map Prod.fst).Nodup/\pb H (.dK kvs) Q
def Fe(hc:X.calm=true):Xc X (.type "dict") zf:=by
 intro a9 s σ H xs us Q I r h;obtain ⟨l,tps,kvs,rfl,hl,hp,hn,q⟩:=h;obtain ⟨u,rfl,ru⟩:=W0 r;cases ru;obtain ⟨hz,b9,n,rv,hg⟩:=(show Z5 X.prog X.w H s.heap l (.lst (tps.map V.ref)) from I.hok l _ hl)
 rw [xk rv] at hg;have key:∀{tps:kQ kS} {kvs:kQ (md×V)},Paired (fun t (q:md×V)=>H t=some (.tup [kV q.1,q.2])) tps kvs->∃prs:kQ (md×kT),KV kvs prs/\yL (Zu X.prog X.w) s.heap tps prs:=by
  intro tps kvs hp
  induction hp with
  | nil=>exact ⟨[],.nil,.nil⟩
  | cons r t ih =>
   rename_i p q _ _;obtain ⟨prs,h1,h2⟩:=ih;obtain ⟨_,b9,rv,o,ho,u9,m,hd⟩:=(show Z5 X.prog X.w H s.heap p (.tup [kV q.1,q.2]) from I.hok p _ r)
   obtain ⟨k,v,rfl,rk,rv2⟩:=uP rv;exact ⟨(q.1,v) ::prs,.cons ⟨rfl,rv2⟩ h1,.cons ⟨k,o,m,rO rk,ho,u9,hd⟩ h2⟩
 obtain ⟨prs,A0,M8⟩:=key hp;have D9:kvs.length<=sizeLine:=by
  have:=mv hp;rw [lV] at hz;lia
 have C2:(prs.map Prod.fst).Nodup:=by
  have:∀{kvs:kQ (md×V)} {prs:kQ (md×kT)},KV kvs prs->prs.map Prod.fst=kvs.map Prod.fst:=by
   intro kvs prs z
   induction z with
   | nil=>rfl
   | cons r t ih=>rw [mH,mH,ih,r.1]
  rw [this A0];exact hn
 refine Ud (I.ok.hd hc) hg M8 (by rw [<-KV.length A0];exact D9) fun h' w6 dd hD hdd V1 k=>?_
 rw [merged_nil_of_nodup prs C2] at hD;have hsm:dd≠sysModules:=fun z=>by
  have hb:=I.big;rw [<-hdd,z] at hb;exact pU _ hb
 obtain ⟨hH,J⟩:=I.laidAt (t':=w6) (o:=.dK kvs) k V1 (vU D9 (qX.mpr hsm) A0 hD);exact ⟨.ref dd,_,J,rfl,q.at dd hH⟩
def Sk:bootBuiltins "ValueError" =some (.type "ValueError"):=by trivial
def Bz{fr:St->St}(Pv:Nat->kQ V->Hp->Prop)(h0:Pv 0 [] (upd H1 D (.lst [])))(hl:∀i ys H,i<=kvs.length->Pv i ys H->H d=some (.frz o (.dK kvs)))
  (hs:∀i kv ys H,kvs[i]? =some kv->Pv i ys H->∀p H2,lK H H2->H p=none->H2 p=some (.tup [kV kv.1,kv.2])->Wi fr g tf te σ D (.ref p) ys H2 (Pv (i+1))) (hd:∀ys H,Pv kvs.length ys H->Q (.ref D) H):pS (wt d o kvs) fr g tf te Q σ H1 D:=by
 refine ⟨fun i m ys H=>m=kvs.length-i/\i<=kvs.length/\Pv i ys H,⟨kvs.length,by simp,oJ _,h0⟩,?_⟩;rintro i m ys H ⟨rfl,hi,p⟩;have q:=hl i ys H hi p
 by_cases c8:i<kvs.length
 ·refine .inr ⟨⟨q,c8⟩,Pv (i+1),fun V3 H' p'=>⟨kvs.length-(i+1),by lia,rfl,c8,p'⟩,fun x H' y=>?_⟩;obtain ⟨a,kv,e,hn,A0,e2⟩:=y;subst e e2;exact hs i kv ys H A0 p a _ (lK.new hn) hn Zc
 ·have e:i=kvs.length:=by lia
  subst e;exact .inl ⟨⟨q,mn _⟩,hd ys H p⟩
def UB{K:kX}{t c:kT}{b:Bool}(h:kitOne K t c=some b)(n:(t ==c)=false):PySem.W.kitCls K t c=some b:=by
 unfold kitOne at h;rw [lY (by rw [n];exact mX)] at h;exact h
end L2
end
section
namespace L2
open PySem
end L2
end
section
namespace L2
open PySem PySem.Spec PyProof.Rows
section
variable {prog:lq} {w:lh} {KT:Type} [DecidableEq KT] {knd:KeyKind prog w KT} {A:lu} {l d:kS} {tps:kQ kS} {prs D0:kQ (KT×kT)} {s:kU} {Q:kT->kU->Prop} {E:kT->kU->Prop} {n:Nat}
def RU(hh:A.handled=none)(hD:s.heap.DictOf knd d D0) (hx:s.heap.get? l=some { cls:=.type "list",data:=.seq (tps.map Value.ref).toArray n }) (hp:yL knd s.heap tps prs) (hsz:D0.length+prs.length<=sizeLine) (hld:l≠d) (hpd:∀p∈tps,p≠d)
  (h:∀h' w6,h'.DictOf knd d (merged D0 prs)->(∀b o,b≠d->s.heap.get? b=some o->h'.get? b=some o)->Q .none { s with heap:=h',toks:=w6 }):wpAny (model prog w) A (call (.builtin "dict.update") [.ref d,.ref l]) Q E s:=by
 refine sU (zt BI.plain F.entry_dict_update (BI.check _ _ _ _ _ _ _ _ hD.typeIs (F.args_dict_update_2 _ _) ?_));unfold Builtin.«dict.update»;refine lT ?_;unfold Builtin.Dict.selfAndRest;refine lT (BO hD.typeIs ?_);show wpAny _ _ (pure (d,[Value.ref l])) _ _ _;refine mi ?_;show wpAny _ _ (Builtin.Dict.updateFrom "dict.update" d (.ref l) [] .none) _ _ _;unfold Builtin.Dict.updateFrom;refine lT (uq (T := "list") ⟨_,hx,rfl⟩ ?_);rw [lZ (by left)];obtain ⟨h0,g0,d0,t0,os0⟩:=s;dsimp only at *;refine lT (DZ hh hx fun h1 T6 k1=>?_);simp only [EC,rW];have U3:=k1 _ _ hx;have O2:h1.IsList l (tps.map Value.ref).toArray:=⟨_,U3,rfl,n,rfl⟩
 refine lT (Bj (lT (vA (s:=⟨h1,g0,d0,T6,os0⟩) O2 (mi ⟨vn _ (by trivial),?_⟩))));have k2:∀b o,h0.get? b=some o->(h1.push { cls:=.type "list_iterator",data:=.fields #[.ref l,.int 0 0] }).get? b=some o:=fun b o z=>my _ (k1 _ _ z)
 obtain ⟨od,esd,epd,hod,rd⟩:=hD;have N3:∀b o,h0.get? b=some o->b≠h1.objs.size:=fun b o z=>mC (mo (k1 b o z))
 refine Kl (A:=A) (knd:=knd) (h₀:=h1.push { cls:=.type "list_iterator",data:=.fields #[.ref l,.int 0 0] }) (l:=l) (d:=d) (it:=h1.objs.size) (tps:=tps) (prs:=prs) (D0:=D0) hh (N3 _ _ hod) ?_ hld (N3 _ _ hx) ?_ hsz (fun p z=>?_) prs.length 0 ⟨h1.push { cls:=.type "list_iterator",data:=.fields #[.ref l,.int 0 0] },g0,d0,T6,os0⟩ 0 _ (Nat.zero_add _) ?_ ?_ (fun b o _ _ z=>z) fun h' w6 v6 kp=>?_
 ·exact ⟨_,k2 _ _ hx,rfl,n,rfl⟩
 ·exact Paired.mapP hp fun p q ⟨key,o,m,z1,z2,z3⟩=>⟨key,o,m,z1,k2 _ _ z2,z3⟩
 ·obtain ⟨i,hi,rfl⟩:=sv z;obtain ⟨q,_,key,o,m,_,z2,_⟩:=Paired.get hp (i:=i) (a:=tps[i]) (oh hi);exact ⟨hpd _ z,N3 _ _ z2⟩
 ·exact ⟨_,nG h1 rfl,rfl,rfl⟩
 ·exact ⟨od,esd,epd,k2 _ _ hod,rd⟩
 ·exact h h' w6 v6 fun b o n1 z=>kp b o n1 (N3 _ _ z) (k2 b o z)
end
def Se(td ty:TE):TE:=fun σ H Q=>td σ H fun x H1=>∃a,x=.ref a/\AB H1 a/\ty σ H1 fun y H2=>∃(l:kS) (tps:kQ kS) (kvs more:kQ (md×V)),y=.ref l/\H2 a=some (.dK kvs)/\H2 l=some (.lst (tps.map V.ref))/\Paired (fun t (q:md×V)=>H2 t=some (.tup [kV q.1,q.2])) tps more/\kvs.length+more.length<=sizeLine/\Q .non (upd H2 a (.dK (wz kvs more)))
section
variable {X:Cx} {o e:li} {g7 d6:Pos} {td ty:TE}
def QZ(hc:X.calm=true)(ho:PE X o td)(he:PE X e ty) (m:M1 X o "update" g7 e d6):PE X (.Call (.Attribute o "update" g7) [e] [] d6) (Se td ty):=by
 intro a9 s σ H Q I h;refine EF m.lL m.few m.line ye BI PySem.F.type_dict_update (ma (ho a9 s σ H _ I h) fun u s1 h9=>?_);obtain ⟨x,H1,I1,rx,a,ex,d,q1⟩:=h9;subst ex;obtain rfl:u=Value.ref a:=rx;obtain ⟨t1,t2,_⟩:=CS I1 d;refine ⟨t1,t2,?_⟩;rw [m.trees];refine wc rfl (yr (wZ (ma (he a9 s1 σ H1 _ I1 q1) fun iv s2 ⟨y,H2,I2,ry,l,tps,kvs,more,ey,ha,hl,hp,hz,q2⟩=>xG ?_)));subst ey;obtain rfl:iv=Value.ref l:=ry;obtain ⟨hzl,b9,n,rv,hg⟩:=(show Z5 X.prog X.w H2 s2.heap l (.lst (tps.map V.ref)) from I2.hok l _ hl)
 rw [xk rv] at hg;obtain ⟨hza,hda,vs,m8,dd⟩:=uJ I2.hok ha;have key:∀{tps:kQ kS} {kvs:kQ (md×V)},Paired (fun t (q:md×V)=>H2 t=some (.tup [kV q.1,q.2])) tps kvs->∃prs:kQ (md×kT),KV kvs prs/\yL (Zu X.prog X.w) s2.heap tps prs:=by
  intro tps kvs hp
  induction hp with
  | nil=>exact ⟨[],.nil,.nil⟩
  | cons r t ih =>
   rename_i p q _ _;obtain ⟨prs,h1,h2⟩:=ih;obtain ⟨_,b9,rv,o,ho,u9,m,hd⟩:=(show Z5 X.prog X.w H2 s2.heap p (.tup [kV q.1,q.2]) from I2.hok p _ r)
   obtain ⟨k,v,rfl,rk,rv2⟩:=uP rv;exact ⟨(q.1,v) ::prs,.cons ⟨rfl,rv2⟩ h1,.cons ⟨k,o,m,rO rk,ho,u9,hd⟩ h2⟩
 obtain ⟨prs,A0,M8⟩:=key hp;refine RU (I2.ok.hd hc) dd hg M8 (by rw [<-m8.length,<-KV.length A0];exact hz) (fun z=>by rw [z,ha] at hl;cases hl) (fun p hpm z=>?_) fun h' w6 v6 kp=>?_
 ·obtain ⟨i,hi,e⟩:=sv hpm;obtain ⟨q,_,hq⟩:=Paired.get hp (i:=i) (a:=p) (by rw [oh hi,e]);rw [z,ha] at hq;cases hq
 ·obtain ⟨o',es',ep',Q4,r'⟩:=id v6;exact ⟨.non,_,I2.write (x:=a) (e:=a) (t':=w6) (by rw [ha];exact pI) (.inl rfl) (fun b u n z=>kp b u n z) ⟨_,Q4⟩ (vU (by have:=Dk more kvs;lia) hda (A0.merge m8) v6),rfl,q2⟩
end
abbrev uW(pos:Pos)(q:kR):Array kT:=Xj [(pos.line,pos.col,q)]
abbrev Fz(o:Obj):HO:=.frz o (.frz o (.own 0))
def qr(H:Hp)(Pt fl:kS)(q:kR)(la:Arguments)(lb:li)(ls:Scope)(clos:kQ (kR×kS)):Prop :=
 ∃(pm y7:kT) (c:kS) (oc:Obj) (vs:Array kT) (tt:Nat) (Pn:kS),H fl=some (Fz (PySem.W.kla_obj "<lambda>" q la lb ls clos pm c y7))/\H c=some (.frz oc (.own Pt))/\oc.data=.fields vs/\vs[1]? =some (.str q tt)/\H Pn=some (.tbl #[.none])/\Ed oc c Pn
def qr.mono(e:lK H H')(h:qr H Pt fl q la lb ls clos):qr H' Pt fl q la lb ls clos:=by
 obtain ⟨pm,y7,c,oc,vs,tt,Pn,h1,h2,h3,h4,h5,h6⟩:=h;exact ⟨pm,y7,c,oc,vs,tt,Pn,e _ _ h1,e _ _ h2,h3,h4,e _ _ h5,h6⟩
def rD(H:Hp)(c:kS)(v:V):Prop:=∃o u,H c=some (Fz o)/\o.data=.cell (some u)/\Yd v u
def rD.mono(e:lK H H')(h:rD H c v):rD H' c v:=by
 obtain ⟨o,u,h1,h2⟩:=h;exact ⟨o,u,e _ _ h1,h2⟩
def Rc(C:PySem.W.CodeHd h c Pn)(e:h.get? c=some oc):Pn≠c/\Ed oc c Pn:=by
 obtain ⟨o,vs,f1,f2,f3,f4,f5,f6,f7,z,r1,r2,r3,r4,r5,r6,r7,r8,ne⟩:=C;rw [e] at z;cases z;exact ⟨ne.symm,fun g z=>⟨_,vs,f1,f2,f3,f4,f5,f6,f7,z,r1,r2,r3,r4,r5,r6,r7,r8,ne⟩⟩
def XU{E:kT->kU->Prop}{mg:kR->kW kT}{Q:kT->kU->Prop}(u9:closureFor sc env=pure clos)(hg0:env.globals=mainGlobals)(hg:s.heap.Ns mainGlobals mg)(hc:env.code=.ref c)(C:PySem.W.CodeHd s.heap c Pt)
  (hP:s.heap.get? Pt=some { cls:=.none,data:=.fields ps }) (ht:TriplesOk ps.toList) (hn:codeAmong pos ps.toList=none) (hgP:mainGlobals≠Pt) (hb:s.heap.BuiltinsAt mg Pt)
  (h:∀c' Pn y7 h' tk,Heap.ExtBut Pt s.heap h'->s.heap.objs.size<=c'->c'<h'.objs.size->s.heap.objs.size<=Pn->h'.CodeRec (.ref c') ql->PySem.W.CodeHd h' c' Pn->h'.get? Pn=some { cls:=.none,data:=.fields #[] }->h'.get? Pt=some { cls:=.none,data:=.fields (ps ++ #[rawInt pos.line,rawInt pos.col,.ref c']) } ->
   Q (.ref h'.objs.size) { s with heap:=h'.push (PySem.W.kla_obj nm ql la lb sc clos ((mg "__name__").getD .none) c' y7),toks:=tk }):wpAny M A (makeFunction nm ql la (.expr lb) sc env [] [] [] pos fst) Q E s:=by
 obtain ⟨bm,ob,b1,b2,_,b4,b5,b6,b7,b8⟩:=hb;rw [makeFunction_eq];simp only [List.zip_nil_right,List.filterMap_nil,List.isEmpty_nil,rW,pure_bind];unfold makeTail;rw [u9,hg0];refine lT (mi ?_);have go:∀g:kZ,(∀b o,s.heap.get? b=some o->g.get? b=some o)->s.heap.objs.size<=g.objs.size->∀{R:kT->kU->Prop},(∀c' h' tk,Heap.ExtBut Pt s.heap h'->s.heap.objs.size<=c'->h'.Ns mainGlobals mg->h'.get? bm=some ob->(∀y7,Q (.ref h'.objs.size) { s with heap:=h'.push (PySem.W.kla_obj nm ql la lb sc clos ((mg "__name__").getD .none) c' y7),toks:=tk })->R (.ref c') { s with heap:=h',toks:=tk })->wpAny M A (functionCode env pos fst nm ql la sc (.expr lb)) R E { s with heap:=g }:=fun g kp sz R r=>by
  have CG:=C.keeps kp;refine wpAny_functionCodeX hc (CG.code (kp _ _ hP) ht) (CG.tab (kp _ _ hP)) hn fun c' h' tk x1 x2 x3 _ x4 x5 x6=>?_
  obtain ⟨Pn,y1,y2,y3⟩:=x6;have xs:Heap.ExtBut Pt s.heap h':=fun b o n e=>x1 b o n (kp b o e)
  have nC:=PySem.W.CodeHd.of y2 y3;exact r c' h' tk xs (nj sz x2) (hg.extBut xs hgP) (xs _ _ b4 b5) fun y7=>(h c' Pn y7 h' tk xs (nj sz x2) x3 (nj sz y1) x4 nC y3.2 x5.2)
 cases clos with
 | nil =>
  simp only [List.isEmpty_nil,rW];refine lT (mi (lT (go s.heap (fun _ _ e=>e) (mn _) fun c' h' tk _ _ g1 g2 q=>?_)));exact lT (wpAny_builtinsFor g1 b1 b2 g2 b6 b7 b8 (lT (wpAny_nsGet g1 (lT (mi (tI (q _) (by size_fits)))))))
 | cons p r =>
  simp only [List.isEmpty_cons,vF,rX];refine lT (wpAny_newTextTuple (lT (go _ (fun b o e=>my _ e) (by rw [se];lia) fun c' h' tk _ _ g1 g2 q=>?_)));exact lT (wpAny_builtinsFor g1 b1 b2 g2 b6 b7 b8 (lT (wpAny_nsGet g1 (lT (mi (tI (q _) (by size_fits)))))))
def VY{l:kQ (Nat×Nat×kR)}{a b:Nat}{q r:kR}(nd:(l.map fun p=>(p.1,p.2.1)).Nodup)(h1:(a,b,q)∈l)(h2:(a,b,r)∈l):q=r:=by
 induction l with
 | nil=>cases h1
 | cons p l ih =>
  rw [mH,pj] at nd;rcases mI.mp h1 with z1|z1 <;>rcases mI.mp h2 with z2|z2
  ·have:=z1.trans z2.symm;simpa using this
  ·exact absurd (mh.mpr ⟨_,z2,by rw [<-z1]⟩) nd.1
  ·exact absurd (mh.mpr ⟨_,z1,by rw [<-z2]⟩) nd.1
  ·exact ih nd.2 z1 z2
section
variable {X:Cx} {Q:kT->kU->Prop}
def Lq{ls0:kQ (Nat×Nat×kR)}(I:lQ X a9 σ H s)(R3:defaultsOf la X.env=([],[]))(C7:X.env.code=.ref c)(C:PySem.W.CodeHd X.lL c Pt)(hH:H Pt=some (.tbl (Xj ls0))) (hmem:(lp.line,lp.col,X.env.qual ++ "<lambda>")∈ls0) (u9:closureFor ls X.env=pure clos)
  (h:∀fl H' s',lQ X a9 σ H' s'->lK H H'->H fl=none->qr H' Pt fl (X.env.qual ++ "<lambda>") la lb ls clos->Q (.ref fl) s'):wpAny (model X.prog X.w) X.A (eval (.Lambda la lb ls lp) X.env) Q X.xe s:=by
 refine PySem.W.kla_eval R3 ?_;obtain ⟨qs,hT,e | ⟨ls',fs,e1,nd,rfl,hfs⟩⟩:=(show Z5 X.prog X.w H s.heap Pt (.tbl (Xj ls0)) from I.hok Pt _ hH)
 ·exact absurd e.1 Ps
 have e1:=Td e1;subst e1;have hg:s.heap.Ns mainGlobals X.mg:=I.mod.glob.keeps I.bk;have CH:PySem.W.CodeHd s.heap c Pt:=C.keeps I.bk;have nP:∀b,H b=none->b≠Pt:=fun b n z=>by rw [z,hH] at n;cases n
 have hB:s.heap.BuiltinsAt X.mg Pt:=by
  obtain ⟨bm,ob,b1,b2,b3,b4,b5,b6⟩:=I.mod.bm;obtain ⟨b3',hn⟩:=I.bs _ _ b3;refine ⟨bm,ob,b1,b2,fun z=>?_,nP bm hn,b3',b4,b5,b6⟩;obtain ⟨o,es,ep,e,d,_⟩:=hg;rw [<-z,b3'] at e;cases e;rw [b6] at d;cases d
 have hgP:mainGlobals≠Pt:=by
  obtain ⟨o,es,ep,e,d,_⟩:=I.mod.glob;exact nP _ (I.bs _ _ e).2
 cases hca:codeAmong lp (qk fs).toList with
 | none =>
  refine XU (ps:=qk fs) u9 I.ok.glob hg C7 CH hT (DV fs) hca hgP hB fun c' Pn y7 h' tk hx hge c8 hpn hrec B3 P6 htb=>?_
  obtain ⟨c2,oc,vs,tt,e,hoc,hd,hv⟩:=hrec;cases e;generalize C1:PySem.W.kla_obj "<lambda>" (X.env.qual ++ "<lambda>") la lb ls clos ((X.mg "__name__").getD .none) c' y7=ob;have p7:ob.isFreed=false:=by rw [<-C1];rfl
  have R1:H h'.objs.size=none:=I.hok.fresh (nj hge (tT c8));have hcn:H c'=none:=I.hok.fresh hge;have hpN:H Pn=none:=I.hok.fresh hpn;have ncf:c'≠h'.objs.size:=mC c8;have npf:Pn≠h'.objs.size:=mC (mo P6);obtain ⟨npc,hco⟩:=Rc B3 hoc;have old:∀b o,s.heap.get? b=some o->b≠Pn/\b≠c'/\b≠h'.objs.size:=fun b o e=>by
   have:=mo e;exact ⟨mC (oN this hpn),mC (oN this hge),mC (pV (oN this hge) c8)⟩
  have kp:∀b o,b≠Pt->s.heap.get? b=some o->(h'.push ob).get? b=some o:=fun b o n e=>my _ (hx b o n e)
  have tr:∀b o,H b=some o->b≠Pn/\b≠c'/\b≠h'.objs.size:=fun b o e=>⟨Zg e hpN,Zg e hcn,Zg e R1⟩
  have A5:∀{b:kS},(b≠Pn/\b≠c'/\b≠h'.objs.size)->upd (upd (upd H Pn (.tbl #[.none])) c' (.frz oc (.own Pt))) h'.objs.size (Fz ob) b=H b:=fun n=>by rw [Zd n.2.2,Zd n.2.1,Zd n.1]
  have aC:upd (upd (upd H Pn (.tbl #[.none])) c' (.frz oc (.own Pt))) h'.objs.size (Fz ob) c'=some (.frz oc (.own Pt)):=by rw [Zd ncf,Zc]
  have aP:upd (upd (upd H Pn (.tbl #[.none])) c' (.frz oc (.own Pt))) h'.objs.size (Fz ob) Pn=some (.tbl #[.none]):=by rw [Zd npf,Zd npc,Zc]
  refine h h'.objs.size (upd (upd (upd H Pn (.tbl #[.none])) c' (.frz oc (.own Pt))) h'.objs.size (Fz ob)) _ (I.step (g':=s.gens) (d':=s.drawn) (ch:=[]) (fun _ z=>nomatch z) (fun b o _ _ _ e n=>kp b o (nP b n) e) (fun b o _ _ _ e n=>⟨o.slots,kp b o (nP b n) e⟩) (fun b o _ e n=>by rw [A5 (old b o e)];exact n) (fun b o _ e=>?_)
   (fun b xs e=>by rw [A5 (tr _ _ e)];exact e) (fun b o u e=>by rw [A5 (tr _ _ e)];exact e) (fun b ps e=>⟨#[],by rw [A5 (tr _ _ e),e];simp⟩) (fun m hm=>?_) (fun b u e=>?_) I.bare)
   (fun b o e=>by rw [A5 (tr _ _ e)];exact e) R1 ⟨_,y7,c',oc,vs,tt,Pn,by rw [Zc,C1],aC,hd,hv,aP,hco⟩
  ·by_cases hb:b=Pt
   ·exact ⟨_,by rw [hb];exact my _ htb⟩
   ·exact ⟨o,kp b o hb e⟩
  ·obtain ⟨o,es,ep,e,r⟩:=hm;exact ⟨o,es,ep,kp _ o (nP _ I.free) e,r⟩
  ·by_cases h1:b=h'.objs.size
   ·subst h1;rw [Zc] at e;cases e;have:=nG h' p7;exact ⟨this,this,_,this⟩
   by_cases h2:b=c'
   ·subst h2;rw [aC] at e;cases e;exact ⟨my _ hoc,_,my _ hoc⟩
   by_cases h0:b=Pn
   ·subst h0;rw [aP] at e;cases e;exact ⟨#[],my _ P6,.inl ⟨rfl,trivial⟩⟩
   rw [A5 ⟨h0,h2,h1⟩] at e
   by_cases h3:b=Pt
   ·subst h3;rw [hH] at e;cases e;refine ⟨_,my _ htb,.inr ⟨ls0,fs++[(lp.line,lp.col,X.env.qual ++ "<lambda>",c')],rfl,nd,by rw [NI],fun f hf=>?_⟩⟩;rcases mZ.mp hf with z|z
    ·obtain ⟨z1,oc1,vs1,tt1,P1,f1,f2,f3,f4,f5⟩:=hfs f z;exact ⟨z1,oc1,vs1,tt1,P1,by rw [A5 (tr _ _ f1)];exact f1,f2,f3,by rw [A5 (tr _ _ f4)];exact f4,f5⟩
    ·rw [nW.mp z];exact ⟨hmem,oc,vs,tt,Pn,aC,hd,hv,aP,hco⟩
   ·refine (I.hok b u e).stay (fun d v hd q=>kp d v ?_ q) (fun d q=>by rw [A5 (tr _ _ q)];exact q) (fun d xs q=>by rw [A5 (tr _ _ q)];exact q) (fun d o q=>by rw [A5 (tr _ _ q)];exact q) (fun d o q=>by rw [A5 (tr _ _ q)];exact q);rcases hd with z|z
    ·rw [z];exact h3
    ·exact fun y=>by rw [y,hH] at z;cases z
 | some cv =>
  obtain ⟨f,hf,rfl,hl,hc⟩:=JY hca;obtain ⟨z1,oc,vs,tt,Pn,f1,f2,f3,f4,f5⟩:=hfs f hf;obtain ⟨fl,fc,fq,c'⟩:=f;have hl:fl=lp.line:=hl;have hc:fc=lp.col:=hc;subst hl hc;have eq:fq=X.env.qual ++ "<lambda>" :=VY nd z1 hmem;subst eq;refine PySem.W.kla_makeFunctionHit (ps:=qk fs) (cv:=.ref c') u9 I.ok.glob hg C7 CH hT (DV fs) hca hB fun y7 h' tk hk hsz=>?_
  ·have R1:H h'.objs.size=none:=I.hok.fresh hsz;have:=nG h' (o:=PySem.W.kla_obj "<lambda>" (X.env.qual ++ "<lambda>") la lb ls clos ((X.mg "__name__").getD .none) c' y7) rfl;exact h _ _ _ (I.laid (a:=h'.objs.size) (o:=Fz (PySem.W.kla_obj "<lambda>" (X.env.qual ++ "<lambda>") la lb ls clos ((X.mg "__name__").getD .none) c' y7)) (t':=tk) (fun b u e=>my _ (hk b u e)) hsz ⟨this,this,_,this⟩) (lK.new R1) R1
    ⟨_,y7,c',oc,vs,tt,Pn,Zc,by rw [Zd (Zg f1 R1)];exact f1,f2,f3,by rw [Zd (Zg f4 R1)];exact f4,f5⟩
end
open Classical in
def pX (cells:kQ (kR×kS)) (H:Hp) (h:kZ):Hp:=fun b=>if ∃x,cells.lookup x=some b then (h.get? b).map Fz else H b
section
variable {X:Cx} {a9:kQ (kS×Obj)} {σ:St} {H:Hp} {s:kU} {Q:VK}
def Xg(I:lQ X a9 σ H s)(e:H b=some o):pX X.env.cells H s.heap b=some o:=by
 unfold pX;rw [lY]
 ·exact e
 ·rintro ⟨x,z⟩;rw [I.freeC x b z] at e;cases e
def xh(n:∀x,X.env.cells.lookup x≠some b):pX X.env.cells H s.heap b=H b:=by
 unfold pX;rw [lY];rintro ⟨x,z⟩;exact n x z
def Ej(I:lQ X a9 σ H s){i:Nat}{x:kR}{v:V}{c:kS}(hi:X.N[i]? =some x)(hs:σ[i]? =some (some v))(hk:X.env.scope.names.lookup x=some .cell)(hc:X.env.cells.lookup x=some c):H c=none/\rD (pX X.env.cells H s.heap) c v:=by
 obtain ⟨m,hn,hl⟩:=I.loc;obtain ⟨u,r,l⟩:=hl i x v hi hs (.inr (.inl hk));refine ⟨I.freeC x c hc,?_⟩;rcases l with ⟨k,_⟩|⟨_,c',J8,o,ho,hd⟩
 ·have k:X.env.scope.names.lookup x=some .local:=k;rw [hk] at k;cases k
 ·rw [hc] at J8;cases J8;refine ⟨o,u,?_,hd,r⟩;unfold pX;rw [lZ ⟨x,hc⟩,ho]
  rfl
def lQ.shut(I:lQ X a9 σ H s)(O4:X.ex=[])(D8:∀x,X.fn x=true)(rv:Yd v u)(q:Q v (pX X.env.cells H s.heap)):CE X.lJ X.prog X.w X.lB X.ly Q u s:=by
 have J:=I.lL;have nc:∀b o,X.ly.heap.get? b=some o->∀x,X.env.cells.lookup x≠some b:=fun b o e x z=>absurd (oN (mo e) (I.ok.cab x b (D8 x) z)) (pU _)
 refine ⟨v,pX X.env.cells H s.heap,I.os,I.bare,⟨fun b o h1 h2 h3 _=>J.keep b o h1 h2 h3 (by rw [O4];simp),fun b o h1 h2 h3 _=>J.slot b o h1 h2 h3 (by rw [O4];simp),fun b o h1 h2 _=>?_,fun b o h1 _=>J.there b o h1 (by rw [O4];simp),fun b xs e=>Xg I (J.tups b xs e),fun b o x e=>Xg I (J.frzs b o x e),fun b ps e=>?_⟩,fun b o e=>?_,rv,q⟩
 ·rw [xh (nc b o h1)];exact J.free b o h1 h2 (by rw [O4];simp)
 ·obtain ⟨m,z⟩:=J.tbls b ps e;exact ⟨m,Xg I z⟩
 ·by_cases hb:∃x,X.env.cells.lookup x=some b
  ·obtain ⟨x,z⟩:=hb;obtain ⟨w,o',ho,hd⟩:=I.cell x b z;unfold pX at e;rw [lZ ⟨x,z⟩,ho] at e;cases e;exact ⟨ho,ho,_,ho⟩
  ·have e':=e;rw [xh fun x z=>hb ⟨x,z⟩] at e';exact (I.hok b o e').stay (fun _ _ _ q=>q) (fun c q=>Xg I q) (fun c xs q=>Xg I q) (fun c o q=>Xg I q) (fun c o q=>Xg I q)
end
def VD(X:Cx)(Pt:kS)(Q:VK)(la:Arguments)(lb:li)(ls:Scope)(lp:Pos)(σ:St)(H:Hp):Prop :=
 defaultsOf la X.env=([],[])/\H Pt=some (.tbl (uW lp (X.env.qual ++ "<lambda>")))/\∃clos,closureFor ls X.env=pure clos /\
 ∀fl H',lK H H'->H fl=none->qr H' Pt fl (X.env.qual ++ "<lambda>") la lb ls clos->(∀(i:Nat) (x:kR) (v:V) (c:kS),X.N[i]? =some x->σ[i]? =some (some v)->X.env.scope.names.lookup x=some .cell->X.env.cells.lookup x=some c->H c=none/\rD H' c v)->Q (.ref fl) H'
inductive vW(X:Cx)(Pt:Addr)(Q:VK):List Stmt->St->Hp->Prop
 | last {la lb ls lp rp σ H Zz}:VD X Pt Q la lb ls lp σ H->vW X Pt Q (.Return (some (.Lambda la lb ls lp)) rp ::Zz) σ H
 | step {st Zz σ H} (M:St->Hp->Prop):WS X st { nx:=M,rt:=fun _ _=>False } σ H->(∀σ' H',M σ' H'->vW X Pt Q Zz σ' H')->vW X Pt Q (st ::Zz) σ H
def PM{X:Cx}{Pt c:kS}{Q:VK}(C7:X.env.code=.ref c)(C:PySem.W.CodeHd X.lL c Pt){b:kQ kY}{σ:St}{H:Hp}(m:vW X Pt Q b σ H):∀{s:kU},lQ X [] σ H s ->
  wpAny (model X.prog X.w) X.A (execs b X.env) (fun f s'=>∃fl σ' H',f=.ret (.ref fl)/\lQ X [] σ' H' s'/\Q (.ref fl) (pX X.env.cells H' s'.heap)) X.xe s:=by
 induction m with
 | last h =>
  intro s I;obtain ⟨R3,hH,clos,u9,k⟩:=h;refine zl (wpAny_Return_some (Lq I R3 C7 C hH (List.mem_singleton_self _) u9 fun fl H' s' I' sm hn cl=>?_));refine ⟨fl,_,H',rfl,I',k fl _ (sm.trans fun b o e=>Xg I' e) hn (cl.mono fun b o e=>Xg I' e) fun i x v c h1 h2 h3 h4=>⟨sm.free (Ej I' h1 h2 h3 h4).1,(Ej I' h1 h2 h3 h4).2⟩⟩
 | step M h _ ih =>
  intro s I;refine zl (ma (h.run [] s I) fun f s1 q=>?_);cases f with
  | next =>
   obtain ⟨σ',H',I',q⟩:=q;exact ih σ' H' q I'
  | ret v=>obtain ⟨_,_,_,_,_,z⟩:=q;exact z.elim
  | brk=>obtain ⟨_,_,_,z⟩:=q;exact z.elim
  | cont=>obtain ⟨_,_,_,z⟩:=q;exact z.elim
def tH(K:kX)(fd:lv)(Pt:kS):Prop:=∃c,fd.code=.ref c/\PySem.W.codeHdIn K c Pt=true
section
variable {P:lq} {w:lh} {K:kX} {mg:kR->kW kT} {lL:kZ}
def pQ.okM{x qual:kR}{st:kY}{f Pt:kS}{fd:lv}{N ps:kQ kR}{k:Nat}{sp:Sp}(F:pQ K x qual st f fd)(L:tH K fd Pt)(S:Zw N ps (Zj st))(len:∀vs H Q E,sp vs H Q E->vs.length=ps.length)
  (m6:∀(c6:kT) (A:lu) (lJ:kQ Env) (s:kU) (H:Hp) (vs:kQ V) (Q:VK) (E:XK),Y5 k (A.deeper (envOfC qual (Zj st) s.heap.objs.size f c6))->sp vs H Q E ->
   vW (nK nH P w K mg lL N qual (Zj st) f c6 A lJ s H E).nox Pt Q (Y4 st) (start N vs) H):Xe P w K mg lL nH (k+1) f fd ps sp:=by
 obtain ⟨oc,od,kV,w5,pm,an,c6,ct,E4,rfl,lk,B3⟩:=F.ex;obtain ⟨c,hc,hL⟩:=L;have hc:c6=.ref c:=hc;subst hc;refine ⟨len,fun A lJ s H args us vs Q E hr e0 hb r M6=>?_⟩;have hl:=len _ _ _ _ M6;have KX:K.In s.heap:=e0.mod.kin.keeps fun b o e=>(e0.bs b o e).1
 have lim:s.heap.NoLimit:=e0.mod.nolimit.keeps fun b o e=>(e0.bs b o e).1
 have Q6:∀y∈ps.zip us,(Zj st).names.lookup y.1=some .local\/((Zj st).names.lookup y.1=some .cell/\((cellsFrom (s.heap.objs.size+1) (Zj st).names []).lookup y.1).isSome=true):=fun ⟨n,v⟩ hy=>by
  rcases S.par n (xD hy).1 with q|q
  ·exact .inl q
  ·exact .inr ⟨q,Ew _ _ _ (.inl q)⟩
 refine codeAny_call_function hr.depth (KX _ _ lk) rfl S.co S.gen rfl (Jz KX B3) (hb _ _ _ _ ?_);refine IL S.kind Q6 fun env he s1 x=>?_
 subst he;refine ⟨lim.keeps x.toInCall.keep,codeAny_func ?_⟩;have I0:lQ (nK nH P w K mg lL N qual (Zj st) f (.ref c) A lJ s H E) [] (start N vs) H s1:=MI S hr.hd e0 hl r x;have I:lQ (nK nH P w K mg lL N qual (Zj st) f (.ref c) A lJ s H E).nox [] (start N vs) H s1:=⟨⟨I0.ok.mod,I0.ok.kind,I0.ok.glob,I0.ok.blt,I0.ok.above,I0.ok.inj,I0.ok.has,I0.ok.cab,I0.ok.hd,I0.ok.frames,I0.ok.stk,I0.ok.exf,I0.ok.bs,I0.ok.bsz,I0.ok.noex,I0.ok.exfs,I0.ok.funs,I0.ok.frf⟩,I0.os,I0.bare,I0.lL,I0.loc,I0.cell,I0.free,I0.freeC,I0.pin,I0.hok,I0.len⟩
 refine oQ (PM (c:=c) rfl (EO e0.mod.kin hL) (m6 (.ref c) A lJ s H vs Q E (hr.deeper _) M6) I) (fun fl s' hs=>?_) fun e s' hs=>hs.elim
 obtain ⟨v,σ',H',rfl,J,q⟩:=hs;show CE lJ P w H s Q (.ref v) s';exact J.shut (v:=.ref v) rfl (fun _=>rfl) rfl q
end
def Fi(P:lq)(w:lh)(K:kX)(mg:kR->kW kT)(lL:kZ)(k:Nat)(f:kS)(H:Hp)(vs:kQ V)(Q:VK):Prop :=
 ∀(A:lu) (lJ:kQ Env) (s:kU) (us:kQ kT),Y5 k A->sO P w K mg lL A lJ s H->Yc vs us->codeAny (model P w) A (.call (.ref f) ⟨us,[]⟩) (CR nH lJ P w H s Q E0) s
def uC(H:Hp)(f:kS):Prop:=∃oc od fd sl u,H f=some (.frz ⟨oc,od,.func fd,sl⟩ u)
def uC.at(I:lQ X a9 σ H s)(h:uC H f):PySem.W.FnAt f s.heap:=by
 obtain ⟨oc,od,fd,sl,u,e⟩:=h;exact ⟨oc,od,fd,sl,(I.hok f _ e).1⟩
def qr.fn(h:qr H Pt fl q la lb ls clos):uC H fl:=by
 obtain ⟨pm,y7,c,oc,vs,tt,_,h1,_⟩:=h;exact ⟨_,_,_,_,_,h1⟩
def UV(P:lq)(w:lh)(K:kX)(mg:kR->kW kT)(lL:kZ)(k:Nat)(te:TE)(t:TA):TE:=fun σ H Q=>te σ H fun x H1=>∃f,x=.ref f/\uC H1 f/\t σ H1 fun vs H2=>uC H2 f/\Fi P w K mg lL k f H2 vs Q
def WR(hr:Y5 k X.A)(hv:PE X (.Name x p) te)(ha:PA X (e ::es) t)
  (he:starEach (e ::es) X.env=(false,eval e X.env) ::starEach es X.env:=by rfl) (g8:(backTo pos (starEach es X.env)).any (·.1)=false:=by rfl):PE X (.Call (.Name x p) (e ::es) [] pos) (UV X.prog X.w X.K X.mg X.lL k te t):=by
 intro a9 s σ H Q I h;refine sX (ma (hv a9 s σ H _ I h) fun u s1 h9=>?_);obtain ⟨y,H1,I1,ry,f,ey,hf,q1⟩:=h9;subst ey;obtain rfl:u=Value.ref f:=ry;refine PySem.W.callWith_F (hf.at I1) (ma (ha pos a9 s1 σ H1 _ I1 q1) fun us s2 ⟨vs,H2,I2,r,hf2,q2⟩=>⟨hf2.at I2,?_⟩) he g8;refine sU (ud (q2 X.A X.stack s2 us hr I2.env0 r) fun r s' hq=>?_);cases r with
 | error e=>exact False.elim hq
 | ok fl =>
  cases fl with
  | ret u=>exact I2.after hq
  | next=>exact False.elim hq
  | brk=>exact False.elim hq
  | cont=>exact False.elim hq
def Ag(P:lq)(w:lh)(K:kX)(mg:kR->kW kT)(lL:kZ)(N:kQ kR)(q:kR)(scope:Scope)(f:kS)(cd:kT)(cells:kQ (kR×kS))(A:lu)(lJ:kQ Env)(s:kU)(H:Hp):Cx where
 prog:=P
 w:=w
 K:=K
 mg:=mg
 lL:=lL
 A:=A.deeper (PySem.W.envX q scope s.heap.objs.size f cd cells)
 N:=N
 ly:=s
 lB:=H
 env:=PySem.W.envX q scope s.heap.objs.size f cd cells
 lJ:=lJ
 stack:=PySem.W.envX q scope s.heap.objs.size f cd cells ::lJ
 ex:=[]
 calm:=true
 fn:=fun _=>false
 pn:=[]
 xe:=fun _ _=>False
def offL(H:Hp)(cells:kQ (kR×kS)):Hp:=fun b=>if b∈cells.map Prod.snd then none else H b
def rZ(h:b∉cells.map Prod.snd):offL H cells b=H b:=lY h
def uw(h:b∈cells.map Prod.snd):offL H cells b=none:=lZ h
theorem Ea:∀{l:kQ (kR×kS)} {x y:kR} {a:kS},(l.map Prod.snd).Nodup->(x,a)∈l->(y,a)∈l->x=y
 | [],_,_,_,_,h,_=>by cases h
 | p ::r,x,y,a,nd,h1,h2=>by
  have nd:(p.2 ::r.map Prod.snd).Nodup:=nd;obtain ⟨n1,n2⟩:=pj.mp nd;rcases mI.mp h1 with e1|e1
  ·rcases mI.mp h2 with e2|e2
   ·rw [<-e1] at e2;cases e2;rfl
   ·exact absurd (mh.mpr ⟨_,e2,by rw [<-e1]⟩) n1
  ·rcases mI.mp h2 with e2|e2
   ·exact absurd (mh.mpr ⟨_,e1,by rw [<-e2]⟩) n1
   ·exact Ea n2 e1 e2
def Am:HO->Prop
 | .frz _ _=>False
 | _=>True
structure ua(H:Hp)(ls:Scope)(clos:List (Str×Addr))(fs:List Str)(fvs:List V):Prop where
 cells:Paired (fun x v=>ls.names.lookup x=some .free/\∃c,clos.lookup x=some c/\rD H c v) fs fvs
 all:∀p∈clos,p.1∈fs
 one:(clos.map Prod.fst).Nodup
 apart:(clos.map Prod.snd).Nodup
theorem AA{β:Type}:∀{l:kQ (kR×β)} {p:kR×β},(l.map Prod.fst).Nodup->p∈l->l.lookup p.1=some p.2
 | [],_,_,h=>by cases h
 | q ::r,p,nd,h=>by
  have nd:(q.1 ::r.map Prod.fst).Nodup:=nd;obtain ⟨n1,n2⟩:=pj.mp nd;rw [qB];rcases mI.mp h with e|e
  ·rw [e,yc]
  ·have:(p.1 ==q.1)=false:=by rw [qX];exact fun z=>n1 (mh.mpr ⟨p,e,z⟩)
   rw [this];exact AA n2 e
def ua.cell(L:ua H ls clos fs fvs)(hp:p∈clos):∃v,rD H p.2 v:=by
 obtain ⟨i,hi,e⟩:=sv (L.all p hp);obtain ⟨v,_,_,c,h1,h2⟩:=Paired.get L.cells (i:=i) (a:=p.1) (by rw [oh hi,e]);rw [AA L.one hp] at h1;cases h1;exact ⟨v,h2⟩
def ua.soft(L:ua H ls clos fs fvs)(h:H b=some o)(n:Am o):offL H clos b=some o:=by
 rw [rZ]
 ·exact h
 ·intro z;obtain ⟨p,hp,e⟩:=mh.mp z;obtain ⟨v,ob,u,h1,_⟩:=L.cell hp;rw [e,h] at h1;cases h1;exact n
def FA  :lK (offL H cells) H:=fun b o e=>by
 by_cases z:b∈cells.map Prod.snd
 ·rw [uw z] at e;cases e
 ·rw [rZ z] at e;exact e
open Classical in
def W6 (H H':Hp) (cells:kQ (kR×kS)):Hp:=fun b=>if b∈cells.map Prod.snd then H b else H' b
section
variable {P:lq} {w:lh} {K:kX} {mg:kR->kW kT} {lL:kZ}
def FZ(C:qr H Pt fl q la lb ls clos)(L:ua H ls clos fs fvs)
  (hb:∀(pm c6 y7 u:kT),bindArgs (PySem.W.kla_fn "<lambda>" q la lb ls clos pm c6 y7) ⟨[u],[]⟩=pure [(g,u)]) (hg:ls.names.lookup g=some .local) (hgf:g∉fs) (p7:∀y∈ls.names,y.2=.free->y.1∈fs) (hnc:∀y∈ls.names,y.2 ≠ .cell)
  (hk:ls.kind=.function) (hco:ls.isCoroutine=false) (T5:ls.isGenerator=false)
  (body:∀(c6:kT) (A:lu) (lJ:kQ Env) (s:kU),Y5 k (A.deeper (PySem.W.envX q ls s.heap.objs.size fl c6 clos)) ->
   WE (Ag P w K mg lL (g ::fs) q ls fl c6 clos A lJ s (offL H clos)) lb (some gv ::fvs.map some) (offL H clos) (fun v H'=>lK (offL H clos) H'/\∀w9,lK H' w9->lK H w9->Q v w9)):Fi P w K mg lL (k+1) fl H [gv] Q:=by
 intro A lJ s us hr e0 rv;obtain ⟨u,rfl,ru⟩:=W0 rv;obtain ⟨pm,y7,c,oc,vs,tt,_,h1,h2,h3,h4,_⟩:=C;have o1:s.heap.get? fl=some (PySem.W.kla_obj "<lambda>" q la lb ls clos pm c y7):=(e0.hok fl _ h1).1;have o2:s.heap.get? c=some oc:=(e0.hok c _ h2).1;have lim:s.heap.NoLimit:=e0.mod.nolimit.keeps fun b o e=>(e0.bs b o e).1
 refine Ln hr.depth o1 rfl hco T5 rfl ⟨c,oc,vs,tt,rfl,o2,h3,h4⟩ ?_;rw [hb];refine mi (Bc hnc (fun y hy=>?_) (fun h₁ Q0 hsb=>⟨lim.fresh _ hsb,?_⟩) hk)
 ·obtain rfl:y=(g,u):=nW.mp hy;exact hg
 show codeAny _ _ (.expr lb (PySem.W.envX q ls s.heap.objs.size fl (.ref c) clos)) _ _;have lF:∀b o,s.heap.get? b=some o->h₁.get? b=some o:=fun b o e=>hsb.extBut b o (mC (mo e)) (my _ e)
 have x9:∀{x:kR} {a:kS},clos.lookup x=some a->(x,a)∈clos:=fun h=>qm h
 have inC:∀{x:kR} {a:kS},clos.lookup x=some a->a∈clos.map Prod.snd:=fun h=>mh.mpr ⟨_,x9 h,rfl⟩
 have N4:∀{b:kS},b∈clos.map Prod.snd->∃o u,H b=some (Fz o)/\o.data=.cell (some u):=fun {b} z=>by
  obtain ⟨p,hp,e⟩:=mh.mp z;obtain ⟨v,o,u,z1,z2,_⟩:=L.cell hp;exact ⟨o,u,e ▸ z1,z2⟩
 have hok0:mT P w (offL H clos) s.heap:=fun b o e=>by
  have e':=FA b o e;refine (e0.hok b o e').stay (fun _ _ _ z=>z) (fun d z=>L.soft z trivial) (fun d xs z=>L.soft z trivial) (fun d ob z=>?_) (fun d ps z=>L.soft z trivial);rw [rZ]
  ·exact z
  ·intro y;obtain ⟨o3,u3,y1,_⟩:=N4 y;rw [z] at y1;cases y1
 have z8:∀{b:kS},H b=none->offL H clos b=none:=fun {b} n=>by
  by_cases z:b∈clos.map Prod.snd
  ·exact uw z
  ·rw [rZ z];exact n
 have nA:∀b:kS,b∉(Ag P w K mg lL (g ::fs) q ls fl (.ref c) clos A lJ s (offL H clos)).ex:=fun b z=>absurd (show b∈([]:kQ kS) from z) (by simp)
 have I:lQ (Ag P w K mg lL (g ::fs) q ls fl (.ref c) clos A lJ s (offL H clos)) [] (some gv ::fvs.map some) (offL H clos) { s with heap:=h₁,toks:=s.toks+[(g,u)].length }:=by
  refine ⟨⟨e0.mod,hk,rfl,rfl,mn _,fun y z a h1 h2=>?_,fun y hy=>?_,fun y a z _=>(mX z).elim,fun _=>hr.hd,DF e0.frames,.inr ⟨rfl,rfl⟩,fun b z=>absurd z (nA b),fun b o e=>⟨(e0.bs b o e).1,z8 (e0.bs b o e).2⟩,e0.bsz,fun b _ _=>nA b,fun b z=>absurd z (nA b),e0.funs,fun b z=>z8 (e0.frf b z)⟩,
   rfl,e0.bare,Un.kept lF,⟨_,Q0,fun i y v h1 h2 h3=>?_⟩,fun y a z=>?_,z8 (e0.hok.fresh (mn _)),fun y a z=>uw (inC z),fun p hp=>absurd (show p∈([]:kQ (kS×Obj)) from hp) (by simp),hok0.kept lF,?_⟩
  ·exact Ea L.apart (x9 h1) (x9 h2)
  ·have hy:ls.names.lookup y=some .cell\/ls.names.lookup y=some .free:=hy;rcases hy with hy|hy
   ·exact absurd rfl (hnc _ (qm hy))
   ·obtain ⟨i,hi,e⟩:=sv (p7 _ (qm hy) rfl);obtain ⟨v,_,_,a,z1,_⟩:=Paired.get L.cells (i:=i) (a:=y) (by rw [oh hi,e]);exact ⟨a,z1⟩
  ·cases i with
   | zero =>
    have h1:g=y:=mW h1;have h2:gv=v:=mW (mW h2);subst h1 h2;exact ⟨u,ru,.inl ⟨hg,by simp⟩⟩
   | succ i =>
    have h1:fs[i]? =some y:=h1;have h2:(fvs.map some)[i]? =some (some v):=h2;rw [mG] at h2;obtain ⟨v',h5,h6⟩:=mS.mp h2;cases h6;obtain ⟨v2,z0,z1,a,z2,o,uu,z3,z4,z5⟩:=Paired.get L.cells h1;rw [h5] at z0;cases z0;exact ⟨uu,z5,.inr ⟨.inr z1,a,z2,o,lF _ _ (e0.hok a _ z3).1,z4⟩⟩
  ·obtain ⟨o,uu,z1,z2⟩:=N4 (inC z);exact ⟨_,o,lF _ _ (e0.hok a _ z1).1,z2⟩
  ·show (some gv ::fvs.map some).length=(g ::fs).length;rw [ou,lV,ou,mv L.cells]
 refine JE (oQ ((body (.ref c) A lJ s (hr.deeper _)).run [] _ I) (fun v s' hs=>?_) fun _ _ z=>z.elim);obtain ⟨v',H',J,F4,sm,qq⟩:=hs;have JB:Un (mJ lJ) [] (offL H clos) H' s.heap s'.heap:=J.lL;have R6:∀{b:kS},b∈clos.map Prod.snd->H' b=none:=fun {b} z=>by
  obtain ⟨p,hp,e⟩:=mh.mp z;exact J.freeC p.1 b (by rw [<-e];exact AA L.one hp)
 have nin:∀{b:kS} {o:HO},H' b=some o->b∉clos.map Prod.snd:=fun {b o} e z=>by rw [R6 z] at e;cases e
 have bk:∀{b:kS} {o:HO},H' b=some o->W6 H H' clos b=some o:=fun {b o} e=>by unfold W6;rw [lY (nin e)];exact e
 have nofs:∀{b:kS},b∈clos.map Prod.snd->b∉mJ lJ:=fun {b} z y=>by
  obtain ⟨o,uu,z1,_⟩:=N4 z;rw [e0.frf b y] at z1;cases z1
 refine ⟨v',W6 H H' clos,J.os,J.bare,⟨fun b o h1 n hb _=>JB.keep b o h1 (z8 n) hb (by simp),fun b o h1 n hb _=>JB.slot b o h1 (z8 n) hb (by simp),fun b o h1 n _=>?_,fun b o h1 _=>JB.there b o h1 (by simp),fun b xs e=>bk (JB.tups b xs (L.soft e trivial)),fun b ob x e=>?_,fun b ps e=>?_⟩,fun b o e=>?_,F4,qq _ (fun b o e=>bk e) fun b o e=>?_⟩
 ·unfold W6;rw [lY fun z=>by obtain ⟨o,uu,z1,_⟩:=N4 z;rw [n] at z1;cases z1];exact JB.free b o h1 (z8 n) (by simp)
 ·by_cases z:b∈clos.map Prod.snd
  ·unfold W6;rw [lZ z];exact e
  ·exact bk (JB.frzs b ob x (by rw [rZ z];exact e))
 ·obtain ⟨m,z⟩:=JB.tbls b ps (L.soft e trivial);exact ⟨m,bk z⟩
 ·by_cases z:b∈clos.map Prod.snd
  ·unfold W6 at e;rw [lZ z] at e;obtain ⟨o3,uu,z1,z2⟩:=N4 z;rw [e] at z1;cases z1;have z3:=(e0.hok b _ e).1;have z4:=JB.keep b o3 z3 (uw z) (nofs z) (by simp);exact ⟨z4,z4,_,z4⟩
  ·have e':=e;unfold W6 at e';rw [lY z] at e';exact (J.hok b o e').stay (fun _ _ _ y=>y) (fun d y=>bk y) (fun d xs y=>bk y) (fun d ob y=>bk y) (fun d ob y=>bk y)
 ·by_cases z:b∈clos.map Prod.snd
  ·unfold W6;rw [lZ z];exact e
  ·exact bk (sm b o (by rw [rZ z];exact e))
end
def qw(s:kY):li:=match (Y4 s).getLast? with
 | some (.Return (some e) _)=>e
 | _=>.Constant .none 0 ⟨0,0,0,0⟩
def JT:li->Arguments
 | .Lambda a _ _ _=>a
 | _=>{ posonlyargs:=[],args:=[],vararg:=none,kwonlyargs:=[],kw_defaults:=[],kwarg:=none,defaults:=[] }
def Jq:li->li
 | .Lambda _ b _ _=>b
 | e=>e
def AO:li->Scope
 | .Lambda _ _ s _=>s
 | _=>{ kind:=.function,names:=[],isGenerator:=false,isCoroutine:=false }
def xx:li->Pos
 | .Lambda _ _ _ p=>p
 | _=>⟨0,0,0,0⟩
structure Ac(K:Frag)(h:Heap)(tabs:List (Addr×Array Value)):Prop where
 cod:∀p∈tabs,∃c,PySem.W.codeHdIn K c p.1=true
 emp:∀p∈tabs,h.get? p.1=some (PySem.W.tabObj #[])
 shape:∀p∈tabs,∃ls,p.2=Xj ls/\(ls.map fun p=>(p.1,p.2.1)).Nodup
 nd:(tabs.map Prod.fst).Nodup
 nt:PySem.W.noTabs K=true
inductive xq(K:kX)(tabs:kQ (kS×Array kT)):Sp
 | mk (a) (ns:kQ Int):vs=[.ref a]->SqL K H a (ns.map V.int)->ns.length<=63->(∀p∈tabs,H p.1=some (.tbl p.2))->(∀H',Q (.bl true) H')->xq K tabs vs H Q E
theorem Da{β:Type}:∀{l:kQ (kS×β)} {p:kS×β},(l.map Prod.fst).Nodup->p∈l->l.lookup p.1=some p.2
 | [],_,_,h=>by cases h
 | q ::r,p,nd,h=>by
  have nd:(q.1 ::r.map Prod.fst).Nodup:=nd;obtain ⟨n1,n2⟩:=pj.mp nd;rw [qB];rcases mI.mp h with e|e
  ·rw [e,yc]
  ·have:(p.1 ==q.1)=false:=by rw [qX];exact fun z=>n1 (mh.mpr ⟨p,e,z⟩)
   rw [this];exact Da n2 e
theorem Ap{β:Type}:∀{l:kQ (kS×β)} {a:kS} {v:β},l.lookup a=some v->(a,v)∈l
 | [],_,_,e=>by cases e
 | (b,x) ::r,a,v,e=>by
  rw [qB] at e;cases hb:a ==b with
  | true=>rw [hb] at e;cases e;rw [eq_of_beq hb];exact .head _
  | false=>rw [hb] at e;exact .tail _ (Ap e)
variable {X:Cx}
def Nt(K:kX):kQ V->Hp->VK->Prop:=fun xs H Q=>∃e C c b,xs=[.ref e,c]/\H e=some (pK e C none)/\XG K C/\((∃n,c=.ty n/\kitOne K (.ref C) (.type n)=some b)\/(∃a,c=.ref a/\kitOne K (.ref C) (.ref a)=some b))/\Q (.bl b) H
def XT:Xc X (.builtin "isinstance") (Nt X.K):=by
 intro a9 s σ H xs us Q I r h;obtain ⟨e,C,c,b,rfl,he,g,k,q⟩:=h;obtain ⟨u,w',rfl,rx,z7⟩:=uP r;obtain rfl:u=Value.ref e:=rx;obtain ⟨o,vs,ho,oc,od,odt⟩:=pK.at I.hok he;have J:PySem.W.InstAt s.heap e o C none:=⟨ho,oc,by unfold PySem.W.notCls;rw [odt],by rw [od];trivial⟩
 have Z:PySem.W.KitX X.K (.ref e) (.ref C) (fun h=>PySem.W.InstAt h e o C none):=Ie g.xa g.hc g.cl g.cg g.ct g.ob;rcases k with ⟨n',rfl,k⟩|⟨a,rfl,k⟩
 ·cases z7;exact qt Z I.kIn J k (fun z=>nomatch z) fun tk=>⟨.bl b,H,I.tok tk,rfl,q⟩
 ·cases z7;exact qt Z I.kIn J k (fun z=>nomatch z) fun tk=>⟨.bl b,H,I.tok tk,rfl,q⟩
def Nu:V->kQ V->Hp->VK->Prop:=fun x vs H Q=>∃(l:kS) (bs:kQ Bool) (b:Bool),x=.ref l/\vs=[.bl b]/\H l=some (.lst (bs.map V.bl))/\Q (.int (bs.countP (fun c=>c ==b):Nat)) H
theorem Dw:∀{bs:kQ Bool} {us:kQ kT},Yc (bs.map V.bl) us->us=bs.map Value.bool
 | [],_,.nil=>rfl
 | b ::bs,_,.cons r t=>by
  rw [Dw t];cases r
  rfl
def yy(b:Bool):kT->Bool
 | .bool c=>c ==b
 | _=>false
def XD:Bp X "list.count" Nu:=by
 intro a9 s σ H x vs v us Q I rx rv h;obtain ⟨l,bs,b,rfl,rfl,hH,q⟩:=h;cases rx;obtain ⟨u,rfl,ru⟩:=rv.one;cases ru;obtain ⟨z,b9,n,r,hl,e⟩:=I.lstM hH;obtain rfl:=Dw r;refine ya F.slot_list_count ⟨_,e,rfl⟩ F.entry_list_count (F.args_list_count_2 _ _) (SeqAt.list_countAt l _ n _ _ (.bool b) (yy b)) ⟨e,fun y hy=>?_,?_⟩
 ·have hy:y∈bs.map Value.bool:=by simpa using hy
  obtain ⟨c,_,rfl⟩:=mh.mp hy;exact Eg c b
 ·refine ⟨.int _,H,I.tok _,⟨_,rfl⟩,?_⟩;have:List.countP (yy b) (bs.map Value.bool).toArray.toList=bs.countP (fun c=>c ==b):=by
   rw [List.toList_toArray,List.countP_map]
   rfl
  rw [this];exact q
def Er(hg:Gl X x)(h:∃tk,X.mg x=some (.str v tk)) (hd:(x ==("__debug__" :kR))=false:=by left):PE X (.Name x pos) (tC (.str v)):=by
 obtain ⟨tk,h⟩:=h;exact Wa hg h ⟨tk,rfl⟩ hd
theorem CL:∀{p:kR} {l:kQ kR},risingS p l=true->(p ::l).Pairwise (fun a b=>ltCps b.cps.toList a.cps.toList=false)
 | p,[],_=>by simp
 | p,x ::r,h=>by
  rw [show risingS p (x ::r)=(!ltCps x.cps.toList p.cps.toList && risingS x r) from rfl,pD,Bool.not_eq_true'] at h;have ih:=CL h.2;refine List.pairwise_cons.mpr ⟨fun b hb=>?_,ih⟩;rcases mI.mp hb with z|z
  ·rw [z];exact h.1
  ·have h2:=List.rel_of_pairwise_cons ih z;have h1:=h.1;rw [ltCps_eq,IK] at h1 h2 ⊢;exact yj.mpr (List.le_trans (yj.mp h1) (yj.mp h2))
def Aa(h:sortedS l=true)(h':sortedS l'=true)(p:l.Perm l'):l=l':=by
 have pw:∀{l:kQ kR},sortedS l=true->l.Pairwise (fun a b=>ltCps b.cps.toList a.cps.toList=false):=fun {l} h=>by
  cases l with
  | nil=>exact .nil
  | cons x r=>exact CL h
 refine p.eq_of_pairwise (fun a b _ _ h1 h2=>?_) (pw h) (pw h');rw [ltCps_eq,IK] at h1 h2;have e:=List.le_antisymm (yj.mp h1) (yj.mp h2);cases a;cases b;simpa using Array.toList_inj.mp e
end L2
end
section
namespace L2
open PySem PyProof.Rows
theorem Lc{E:kT->kU->Prop}(hh:A.handled=none)(p0:l≠it):∀(n i:Nat) (s:kU) (Q:kQ kT->kU->Prop),(s.heap.IsListIter it l i/\s.heap.IsList l b9)->i+n<=b9.size ->
  (∀h' tk,(h'.IsListIter it l (i+n)/\h'.IsList l b9)->(∀b o,b∉[it]->s.heap.get? b=some o->h'.get? b=some o)->Q ((b9.toList.drop i).take n) { s with heap:=h',toks:=tk })->wpAny (model P w) A (draw (.ref it) n) Q E s
 | 0,i,s,Q,z6,_,hQ=>by
  show wpAny _ _ (pure []) Q E s;exact mi (by simpa using hQ s.heap s.toks z6 fun _ _ _ e=>e)
 | n+1,i,s,Q,z6,D9,hQ=>by
  have c8:i<b9.size:=by lia
  show wpAny _ _ (pyNext (.ref it) >>=_) Q E s;refine lT ((Ae (prog:=P) (w:=w) hh it l p0 b9).item i s _ _ c8 z6 fun v h1 T6 hv V5 V6=>?_);refine lT (pL (Lc hh p0 n (i+1) _ _ V5 (by lia) fun h2 tk2 hst2 hk2=>mi ?_));have hd:b9.toList.drop i=b9[i] ::b9.toList.drop (i+1):=by simp [EJ,c8]
  have ev:v=b9[i]:=by rw [Array.getElem?_eq_getElem c8] at hv;exact (mW hv).symm
  have:=hQ h2 tk2 (by rw [show i+(n+1)=i+1+n by lia];exact hst2) fun b o hb e=>hk2 b o hb (V6 b o hb e)
  rw [hd,HJ,<-ev] at this;exact this
def NH{E:kT->kU->Prop}{B1:kQ (Bool×(kT->Sem Unit))}{Q:Unit->kU->Prop}(hh:A.handled=none)(hl:s.heap.IsList l b9)
  (hn:B1.length=b9.size) (hstar:B1.findIdx? (·.1)=none)
  (h:∀h' tk,(∀b o,s.heap.get? b=some o->h'.get? b=some o)->wpAny (model P w) A (assignInOrder (B1.map (·.2)) b9.toList) Q E { s with heap:=h',toks:=tk }) :
  wpAny (model P w) A (unpack (.ref l) B1) Q E s:=by
 have c8:l<s.heap.objs.size:=by obtain ⟨o,ho,_⟩:=hl;exact mo ho
 have ty:s.TypeIs (.ref l) "list" :=by obtain ⟨o,ho,hc,_⟩:=hl;exact ⟨o,ho,hc⟩
 unfold unpack;rw [hn,hstar];refine lT (pL ?_);unfold unpackItems;refine lT ?_;unfold notIterableAtAll;refine lT (AI ty F.slot_list_iter.lookup ?_);refine mi ?_;simp only [vF,rX];refine lT (pL (vA hl ?_));have p0:l≠s.heap.objs.size:=mC c8;refine lT (pL (Lc hh p0 b9.size 0 _ _ ⟨⟨_,nG _ rfl,rfl,rfl⟩,hl.push _⟩ (by lia) fun h1 T6 V5 V6=>?_));have j7:List.take b9.size (List.drop 0 b9.toList)=b9.toList:=by
  rw [List.drop_zero];exact uU (by simp)
 rw [j7];rw [lY (by simp)];rw [Nat.zero_add] at V5;refine lT (pL ((Ae (prog:=P) (w:=w) hh s.heap.objs.size l p0 b9).done _ _ _ V5 fun h2 tk2 hk2=>?_));simp only [Option.isSome_none,vF,rX];refine mi (h h2 tk2 fun b o e=>?_);have hb:b∉[s.heap.objs.size]:=fun z=>by
  have z':b=s.heap.objs.size:=by simpa using z
  rw [z'] at e;exact pU _ (mo e)
 exact hk2 b o hb (V6 b o hb (my _ e))
def Qg(K:kX)(n:Nat)(t:vB):TG:=fun v σ H Q=>∃a xs,v=.ref a/\SqL K H a xs/\xs.length=n/\t xs σ H Q
def SA(hc:X.calm=true)(h:wN X es t)
  (hn:(assignEach es X.env).length=n:=by rfl) (z6:(assignEach es X.env).findIdx? (·.1)=none:=by rfl):PG X (.Tuple es k pos) (Qg X.K n t):=by
 intro a9 s σ H v u Q I r hw;obtain ⟨a,xs,e1,hq,hl,hw⟩:=hw;subst e1;cases r;obtain ⟨b9,rv,ht,hz⟩:=I.list hq;rw [assign_Tuple];refine lT (xO (NH (I.ok.hd hc) ht.isList (by simp [hn,<-hl,rv.length]) z6 fun h' tk hx=>?_));have I1:lQ X a9 σ H { s with heap:=h',toks:=tk }:=I.kept (t':=tk) fun b o e=>hx b o e
 exact h a9 _ σ H xs _ Q I1 (by simpa using rv) hw
def yz(ns:kQ Int):Int:=ns.foldl (· + ·) 0
theorem HP(ns:kQ Int):∀j,preSum (fun i=>ns.getD i 0) j=yz (ns.take j)\/ns.length<j
 | 0=>.inl rfl
 | j+1=>by
  by_cases h:ns.length<j+1
  ·exact .inr h
  ·refine .inl ?_;rcases HP ns j with e|e
   ·have hj:j<ns.length:=by lia
    rw [preSum,e,nq,oh hj];unfold yz;rw [wG,rn,oh hj]
    rfl
   ·lia
def Vo(hc:X.calm=true):Xc X (.builtin "sum") (fun xs H Q=>∃(p:kS) (ns:kQ Int),xs=[.ref p]/\SqL X.K H p (ns.map V.int)/\Q (.int (yz ns)) H):=by
 intro a9 s σ H xs us Q I r h;obtain ⟨p,ns,rfl,hq,q⟩:=h;obtain ⟨u,rfl,ru⟩:=W0 r;cases ru;obtain ⟨b9,rv,pl,hz⟩:=I.list hq;have c8:p<s.heap.objs.size:=by obtain ⟨_,_,e,_⟩:=pl;exact mo e
 refine call_sum_walkG (vA pl.isList ?_);refine ⟨s.heap.objs.size,_,_,b9.toArray.size,_,_,fun i=>ns.getD i 0,rfl,Ae (A:=X.A.in1) (show X.A.in1.handled=none from I.ok.hd hc) s.heap.objs.size p (mC c8) b9.toArray,⟨⟨_,nG _ rfl,rfl,rfl⟩,pl.isList.push _⟩,?_,?_,fun h' tk t' k=>?_⟩
 ·intro b hb;have:=se s.heap { cls:=.type "list_iterator",data:=.fields #[.ref p,.int 0 0] };have O5:b=s.heap.objs.size\/b=p:=by simpa using hb
  show b<(s.heap.push _).objs.size;rw [this];rcases O5 with rfl|rfl
  ·exact yg _
  ·exact xu c8
 ·intro i v hv;obtain ⟨x,hx,rx⟩:=Paired.get' rv (i:=i) (b:=v) (by simpa using hv);rw [mG] at hx;obtain ⟨n,hn,rfl⟩:=mS.mp hx;obtain ⟨t,rfl⟩:=rx;exact ⟨t,by show Value.int n t=Value.int (ns.getD i 0) t;rw [rn,hn];rfl⟩
 ·have hl:=rv.length;rw [lV] at hl;refine ⟨.int (yz ns),H,?_,?_,q⟩
  ·refine I.kept (t':=tk) fun b o e=>k b o ?_ (my _ e)
   have:=mo e;intro z;have z':b=s.heap.objs.size:=by simpa using z
   rw [z'] at this;exact pU _ this
  ·refine ⟨t',?_⟩;rw [ny,<-hl];rcases HP ns ns.length with e|e
   ·rw [e,ow]
   ·lia
def qz(x:kR)(n:Nat):kR:=⟨(List.replicate n x.cps).foldl (· ++ ·) #[]⟩
def Ot:R2:=fun x y H Q=>∃(z:kR) (n:Nat),x=.str z/\y=.int n/\z.length * n<=1000/\n<=1000/\Q (.str (qz z n)) H
def Lj:mM X (binaryOp .Mult) Ot:=by
 intro a9 s σ H x y v u Q I rx ry h;obtain ⟨z,n,rfl,rfl,hz,hn,q⟩:=h;obtain ⟨t,rfl⟩:=rx;obtain ⟨t',rfl⟩:=ry;refine PySem.P.mul_str ?_ ?_ ?_ ?_
 ·rw [mO (by lia),mO (by lia)];rfl
 ·intro h1 h2 h3;have:((2:Int) ^ 63-1) / (n:Int) ≥ 1000:=by
   rw [ge_iff_le,Int.le_ediv_iff_mul_le (by lia)];lia
  have hz1:z.length<=z.length * n:=Nat.le_mul_of_pos_right _ (by lia);lia
 ·intro h1 h2;show decide (z.length * (n:Int).toNat >sizeLine)=false;rw [mO];have:=sz (n:=z.length * n) hz;rw [yZ];lia
 ·by_cases h0:n=0
  ·subst h0;rw [lZ (by left)];exact ⟨by left,.str (qz z 0),H,I.kept fun b o e=>e,⟨_,rfl⟩,q⟩
  ·rw [lY (by lia)]
   by_cases h1:((n:Int) ==1 || z.length ==0)=true
   ·rw [lZ h1];refine ⟨.str (qz z n),H,I,⟨t,?_⟩,q⟩;have:qz z n=z:=by
     rw [zK,qo,qo] at h1;rcases h1 with e|e
     ·have e:n=1:=by lia
      subst e;unfold qz;simp
     ·have e:z.cps=#[]:=Array.eq_empty_of_size_eq_zero e;have:∀m,(List.replicate m (#[]:Array Nat)).foldl (· ++ ·) #[]=#[]:=fun m=>by
       induction m with
       | zero=>rfl
       | succ m ih=>rw [List.replicate_succ,List.foldl_cons];simpa using ih
      unfold qz;rw [e,this n];cases z;simp at e;rw [e]
    rw [this]
   ·rw [lY h1,yZ];refine ⟨?_,.str (qz z n),H,I.kept fun b o e=>e,⟨_,rfl⟩,q⟩;exact fits_reps (by show decide (_ >sizeLine)=false;rw [mO];have:=sz (n:=z.length * n) hz;lia)
def Sf(K:kX)(te:TE)(ts:TO):TE:=fun σ H Q=>te σ H fun x H1=>ts σ H1 fun k H2=>∃a xs,k=some (-1)/\x=.ref a/\SqL K H2 a xs/\pb H2 (.lst xs.reverse) Q
def Yc.rev(h:Yc xs us):Yc xs.reverse us.reverse:=by
 induction h with
 | nil=>exact .nil
 | cons r _ ih=>rw [AQ,AQ];exact Paired.append ih (.cons r .nil)
def Ut{X:Cx}{e st:li}{te:TE}{ts:TO}{p2 pos:Pos}{ops:kT->kT->kQ kT}(he:PE X e te)(z6:PO X (some st) ts)(hs:∀l r,subscripted (.Slice none none (some st) p2) false l r=operate (ops l r) (getItem l r)):PE X (.Subscript e (.Slice none none (some st) p2) pos) (Sf X.K te ts):=by
 intro a9 s σ H Q I h;refine Subscript_ (ma (he a9 s σ H _ I h) fun v s1 ⟨x,H1,I1,r1,q1⟩=>?_);refine wpAny_Slice ?_;rw [evalPart_none];refine mi ?_;refine mi ?_;refine ma (z6 a9 s1 σ H1 _ I1 q1) fun vk s3 h9=>?_
 obtain ⟨k,H3,I3,pk,a,xs,hk,hx,hq,q⟩:=h9;subst hk hx;cases r1;have I4:lQ X a9 σ H3 { s3 with heap:=s3.heap.push { cls:=.type "slice",data:=.fields #[.none,.none,vk] } }:=I3.kept (t':=s3.toks) fun b ob q=>my _ q
 obtain ⟨b9,r,ht,hz⟩:=I4.list hq;show wpAny (model X.prog X.w) X.A (subscriptTail e (.Slice none none (some st) p2) (.ref a) (.ref s3.heap.objs.size)) (EP X a9 σ Q) X.xe { s3 with heap:=s3.heap.push { cls:=.type "slice",data:=.fields #[.none,.none,vk] } };refine tail_any (ops:=ops (.ref a) (.ref s3.heap.objs.size)) ht.isList.typeIs BB.lookup ?_ (hs _ _);refine ME ht.isList (Heap.IsSliceOf.new ..) .none .none pk (by simp) ?_ (by rw [ny,<-r.length];exact hz);rw [PySem.W.krv_pick];refine ⟨.ref _,_,I4.laid (t':=s3.toks) (o:=.lst xs.reverse) (fun b ob q=>my _ q) (mn _) ?_,rfl,q.at _ (I4.hok.fresh (mn _))⟩;exact ⟨by rw [List.length_reverse];exact hz,_,0,Yc.rev r,nG _ rfl⟩
end L2
end
section
namespace L2
open PySem PySem.Spec PyProof.Rows
structure xz(K:Frag)(x qual:Str)(st:Stmt)(ps:List Str)(v:V) where
 f:Addr
 fd:FuncData
 dV:Value
 F:vp K x qual st dV f fd
 b:pr K fd ps []
 u:Value
 r:Yd v u
 b1:pr K fd ps [u]
def vp.okW{P:lq}{w:lh}{K:kX}{mg:kR->kW kT}{lL:kZ}{x qual:kR}{st:kY}{dV:kT}{f:kS}{fd:lv}{N ps:kQ kR}{k:Nat}{sp:Sp}(F:vp K x qual st dV f fd)(S:Zw N ps (Zj st))
  (m6:∀(c6:kT) (A:lu) (lJ:kQ Env) (s:kU) (H:Hp) (vs:kQ V) (Q:VK) (E:XK),Y5 k (A.deeper (envOfC qual (Zj st) s.heap.objs.size f c6))->sp vs H Q E ->
   let X:=(nK nH P w K mg lL N qual (Zj st) f c6 A lJ s H E).nox;let D:oV:={ nx:=fun _ H'=>Q .non H',rt:=Q };WSs X (Y4 st) D (start N vs) H) (len:∀vs H Q E,sp vs H Q E->vs.length=ps.length:=by rintro _ _ _ _ ⟨⟩;subst_vars;rfl):Xe P w K mg lL nH (k+1) f fd ps sp:=vp.ok F S len m6
def Ws(hg:Gl X x)(h:∃tk,X.mg x=some (.int v tk)) (hd:(x ==("__debug__" :kR))=false:=by left):PE X (.Name x pos) (tC (.int v)):=by
 obtain ⟨tk,h⟩:=h;exact Wa hg h ⟨tk,rfl⟩ hd
def wX{α:Type}{l:kQ α}{a:α}(nd:l.Nodup)(h:l[i]? =some a):a∉l.take i:=fun m=>by
 have e:l=l.take i++(a ::l.drop (i+1)):=by rw [<-Co h,AF]
 rw [e,pP] at nd;exact nd.2.2 a m a mV rfl
section
variable {prog:lq} {w:lh} {KT:Type} [DecidableEq KT] {knd:HeapKind prog w KT} {A:lu} {E:kT->kU->Prop} {s:kU}
def SJ(c:kS)(hc:(c ==sysModules)=false):MeetsIn prog w (Builtin.«dict.__len__» ⟨[.ref c],[]⟩) (fun _ R s=>∃ys,s.heap.DictOfH knd c ys/\R (.ok (.ret (.int ys.length s.toks))) { s with toks:=s.toks+1 }) :=
 .of_wp fun A R s ⟨ys,hm,h⟩=>by
  obtain ⟨ob,es,ep,C1,_,hda,M0,_,_⟩:=hm;show wpAny _ _ (dictSize c >>=_) _ _ s;unfold dictSize;refine lT (lT (wpAny_dictEntries C1 hda (mi ?_)));show wpAny _ _ (Builtin.Dict.pendingCount c >>=_) _ _ s;refine lT (wpAny_pendingCount_other hc (wpAny_ret_mkInt ?_));rw [Nat.add_zero,size_of_entries M0];exact h
def OQ{Q:kT->kU->Prop}(hc:(c ==sysModules)=false)(hm:s.heap.DictOfH knd c ys)(hf:(ys.length:Int)<2 ^ 63)
  (h:Q (.int ys.length (s.toks+1)) { s with toks:=s.toks+1+1 }):wpAny (model prog w) A (call (.builtin "len") [.ref c]) Q E s:=by
 refine Ee kind_len plain_len entry_len (args_len1 _) ?_;unfold Builtin.«len»;refine lT (m:=oneArg "len" _) (mi (lT (m:=callSpecial? (.ref c) (Str.ofString "__len__")) ?_));refine wpAny_callSpecial?_slot (name:=Str.ofString "__len__") hm.typeIs F.slot_dict_len (uT F.slot_dict_len hm.typeIs F.entry_dict_len (F.args_dict_len_1 _) (SJ (knd:=knd) c hc) ⟨ys,hm,?_⟩);show wpAny _ _ _ _ _ { s with toks:=s.toks+1 };refine lT (pL (mi (lT (wpAny_letGo ?_))));show wpAny _ _ (if ((ys.length:Nat):Int)<0 then _ else _) _ _ _;rw [lY (by lia)];show wpAny _ _ (if ((ys.length:Nat):Int) ≥ 2 ^ 63 then _ else _) _ _ _;rw [lY (by lia)];exact lT (wpAny_mkInt (mi ⟨_,rfl,h⟩))
end
def DJ:kQ V->Hp->VK->Prop:=fun xs H Q=>∃a kvs,xs=[V.ref a]/\H a=some (.dT kvs)/\Q (.int kvs.length) H
def Lh:Xc X (.builtin "len") DJ:=by
 intro a9 s σ H xs us Q I r h;obtain ⟨a,kvs,rfl,ha,q⟩:=h;obtain ⟨u,rfl,ru⟩:=W0 r;cases ru;obtain ⟨z,hd,ys,m8,dd⟩:=Gr I.hok ha;have hl:kvs.length=ys.length:=mv m8;refine OQ hd dd (by rw [<-hl];rw [qT] at z;lia) ?_;rw [<-hl];exact ⟨.int _,H,I.tok _,⟨_,rfl⟩,q⟩
section
variable {prog:lq} {w:lh} {KT:Type} [DecidableEq KT] {knd:HeapKind prog w KT} {A:lu} {R:Result->kU->Prop} {l d it:kS} {tps:kQ kS} {qs:kQ (KT×kS×kT)} {h₀:kZ}
def xy(knd:HeapKind prog w KT)(h:kZ)(tps:kQ kS)(qs:kQ (KT×kS×kT)):Prop :=
 Paired (fun p (q:KT×kS×kT)=>(∃o n,h.get? p=some o/\o.cls=.type "tuple" /\o.data=.seq #[.ref q.2.1,q.2.2] n)/\∃ok,h.get? q.2.1=some ok/\∀h':kZ,h'.get? q.2.1=some ok->knd.is h' q.1 q.2.1) tps qs
def xy.key(hp:xy knd h tps qs):∀q∈qs,∃ok,h.get? q.2.1=some ok/\∀h':kZ,h'.get? q.2.1=some ok->knd.is h' q.1 q.2.1:=by
 unfold xy at hp
 induction hp with
 | nil=>intro q z;cases z
 | cons r _ ih =>
  intro q z;rcases mI.mp z with rfl|z
  ·exact r.2
  ·exact ih q z
def EH{h h':kZ}{ys:kQ (KT×kS×kT)}(hD:h.DictOfH knd d ys)(hd:∀o,h.get? d=some o->h'.get? d=some o)(hk:∀y∈ys,knd.is h' y.1 y.2.1):h'.DictOfH knd d ys:=by
 obtain ⟨o,es,ep,ho,r1,r2,r3,_,r5⟩:=hD;exact ⟨o,es,ep,hd o ho,r1,r2,r3,hk,r5⟩
def Us(hh:A.handled=none)(hu:knd.room A.in1)(hdi:d≠it)(hl:h₀.IsList l (tps.map Value.ref).toArray)(hld:l≠d)(hli:l≠it)(hp:xy knd h₀ tps qs)(C2:(qs.map (·.1)).Nodup)(hsz:qs.length<=sizeLine)
  (hpd:∀p∈tps,p≠d/\p≠it) (hqd:∀q∈qs,q.2.1≠d/\q.2.1≠it) :
  ∀(n i:Nat) (s:kU) (j:Int) (tk:Tok),i+n=qs.length->s.heap.IsListIter it l i->s.heap.DictOfH knd d (qs.take i)->(∀b o,b≠d->b≠it->h₀.get? b=some o->s.heap.get? b=some o) ->
   (∀h' w6,h'.DictOfH knd d qs->(∀b o,b≠d->b≠it->h₀.get? b=some o->h'.get? b=some o)->R (.ok (.ret .none)) { s with heap:=h',toks:=w6 }) ->
   codeAny (model prog w) A (.builtin "dict.update.loop" ⟨[.ref d,.ref it,.int j tk,.none],[]⟩) R s:=by
 have d7:tps.length=qs.length:=mv hp;have K1:=hp.key;have hu':∀args:Args,knd.room (A.under (.builtin "dict.update.loop" args)):=fun args=>by rw [Around.under_plainId (by trivial)];exact hu
 have is_:∀h':kZ,(∀b o,b≠d->b≠it->h₀.get? b=some o->h'.get? b=some o)->∀q∈qs,knd.is h' q.1 q.2.1:=fun h' kp q hq=>by
  obtain ⟨ok,h1,h2⟩:=K1 q hq;exact h2 h' (kp _ _ (hqd q hq).1 (hqd q hq).2 h1)
 intro n
 induction n with
 | zero =>
  intro i s j tk hi hit hD keep hq;have L9:s.heap.IsList l (tps.map Value.ref).toArray:=by
   obtain ⟨o,ho,r⟩:=hl;exact ⟨o,keep _ _ hld hli ho,r⟩
  refine Ay Br ?_;unfold Builtin.«dict.update.loop»;dsimp only;refine lT (BH hh hit L9 (by rw [AK,mG,uc (by lia)];rfl) fun h' eb=>?_);dsimp only;refine lT (mi (mi ?_));have kp:∀b o,b≠d->b≠it->h₀.get? b=some o->h'.get? b=some o:=fun b o h1 h2 h3=>eb b o h2 (keep b o h1 h2 h3)
  refine hq h' s.toks ?_ kp;rw [show qs.take i=qs from uU (by lia)] at hD;exact EH hD (fun o ho=>eb d o hdi ho) (is_ h' kp)
 | succ n ih =>
  intro i s j tk hi hit hD keep hq;have L9:s.heap.IsList l (tps.map Value.ref).toArray:=by
   obtain ⟨o,ho,r⟩:=hl;exact ⟨o,keep _ _ hld hli ho,r⟩
  have K6:i<tps.length:=by lia
  obtain ⟨q,hqi,⟨ot,nt,P6,hct,E2⟩,_⟩:=Paired.get hp (i:=i) (a:=tps[i]) (oh K6);obtain ⟨nd,ni⟩:=hpd tps[i] (EI K6);have hqm:q∈qs:=oE hqi;refine Ay Br ?_;unfold Builtin.«dict.update.loop»;dsimp only;refine lT (DX hit L9 (x:=.ref tps[i]) (by rw [AK,mG,oh K6];rfl) fun h1 it1 sb1=>?_);have R0:h1.get? tps[i]=some ot:=by rw [sb1.2 _ ni];exact keep _ _ nd ni P6
  have hT:({ s with heap:=h1 }:kU).TypeIs (.ref tps[i]) "tuple" :=⟨_,R0,hct⟩
  have kp1:∀b o,b≠d->b≠it->h₀.get? b=some o->h1.get? b=some o:=fun b o z1 z2 z3=>by rw [sb1.2 _ z2];exact keep b o z1 z2 z3
  have N2:h1.DictOfH knd d (qs.take i):=EH hD (fun o ho=>by rw [sb1.2 _ hdi];exact ho) fun y hy=>is_ h1 kp1 y (Eh hy)
  refine lT (pL (lT (wpAny_tryCatch ?_)));unfold Builtin.Dict.pairItems;refine lT (uq hT ?_);rw [lZ (by left)];refine lT (wpAny_seqItems (s:={ s with heap:=h1 }) R0 E2 (mi ?_));refine pL (wpAny_dictSet_heap (s:={ s with heap:=h1 }) (hu' _) (is_ h1 kp1 q hqm) N2 (fun h2 w4 sb2=>?_) ?_)
  ·refine mi ⟨vn _ (by trivial),?_⟩;have A7:atKey (qs.take i) q.1=none:=by
    cases e:atKey (qs.take i) q.1 with
    | none=>rfl
    | some z =>
     unfold atKey at e;obtain ⟨y,hy,_⟩:=mS.mp e;have y0:=List.find?_some hy;have y1:y.1=q.1:=nM y0;have m1:y.1∈(qs.map (·.1)).take i:=by rw [<-vq];exact mh.mpr ⟨y,List.mem_of_find?_eq_some hy,rfl⟩
     rw [y1] at m1;exact absurd m1 (wX C2 (by rw [mG,hqi];rfl))
   have z6:storedH (qs.take i) q.1 q.2.1 q.2.2=qs.take (i+1):=by rw [storedH_new A7,nq,hqi];rfl
   rw [z6] at w4;refine ih (i+1) { s with heap:=h2,toks:=_ } (j+1) _ (by lia) ?_ w4 (fun b o n1 n2 z=>?_) fun h' w6=>hq h' w6
   ·exact it1.at fun o z=>by rw [sb2.2 _ hdi.symm];exact z
   ·rw [sb2.2 _ n1];exact kp1 b o n1 n2 z
  ·rw [nI];lia
def Pg{Q:kT->kU->Prop}{E:kT->kU->Prop}(hh:A.handled=none)(hu:knd.room A.in1.in1) (hx:s.heap.get? l=some { cls:=.type "list",data:=.seq (tps.map Value.ref).toArray n }) (hp:xy knd s.heap tps qs) (C2:(qs.map (·.1)).Nodup) (hsz:qs.length<=sizeLine)
  (h:∀h' w6 dd,h'.DictOfH knd dd qs->dd=s.heap.objs.size->s.heap.get? dd=none->(∀b o,s.heap.get? b=some o->h'.get? b=some o)->Q (.ref dd) { s with heap:=h',toks:=w6 }) :
  wpAny (model prog w) A (call (.type "dict") [.ref l]) Q E s:=by
 refine callType_codes (Q₁:=fun obj lz=>obj=.ref s.heap.objs.size/\lz={ s with heap:=s.heap.push { cls:=.type "dict",data:=.dict #[] } }) F.kt_called_dict (F.kt_typeCall_dict_1 _) F.entry_dict_init (kt_code_dict_new _ ⟨rfl,rfl⟩) ?_;rintro obj lz ⟨rfl,rfl⟩;have k8:(s.heap.push { cls:=.type "dict",data:=.dict #[] }).DictOfH knd s.heap.objs.size []:=Heap.DictOfH.new s.heap;have hx1:(s.heap.push { cls:=.type "dict",data:=.dict #[] }).get? l=some { cls:=.type "list",data:=.seq (tps.map Value.ref).toArray n }:=my _ hx;refine ⟨k8.typeIs,F.args_dict_init_2 _ _,?_⟩;unfold Builtin.«dict.__init__»;refine lT ?_;unfold Builtin.Dict.selfAndRest;refine lT (BO k8.typeIs ?_);show wpAny _ _ (pure (s.heap.objs.size,[Value.ref l])) _ _ _;refine mi ?_;show wpAny _ _ (Builtin.Dict.updateFrom "dict.__init__" s.heap.objs.size (.ref l) [] .none) _ _ _;unfold Builtin.Dict.updateFrom;refine lT (uq (T := "list") ⟨_,hx1,rfl⟩ ?_);rw [lZ (by left)];obtain ⟨h0,g0,d0,t0,os0⟩:=s;dsimp only at *;refine lT (DZ hh hx1 fun h1 T6 k1=>?_);simp only [EC,rW];have U3:=k1 _ _ hx1;have O2:h1.IsList l (tps.map Value.ref).toArray:=⟨_,U3,rfl,n,rfl⟩
 refine lT (Bj (lT (vA (s:=⟨h1,g0,d0,T6,os0⟩) O2 (mi ⟨vn _ (by trivial),?_⟩))));have k2:∀b o,h0.get? b=some o->(h1.push { cls:=.type "list_iterator",data:=.fields #[.ref l,.int 0 0] }).get? b=some o:=fun b o z=>my _ (k1 _ _ (my _ z))
 have hd1:h1.get? h0.objs.size=some { cls:=.type "dict",data:=.dict #[] }:=k1 _ _ (nG h0 rfl);have N3:h0.objs.size<h1.objs.size:=mo hd1;have hll:l<h0.objs.size:=mo hx;have hfar:∀c o,h0.get? c=some o->c≠h0.objs.size/\c≠h1.objs.size:=fun c o z=>by
  have:=mo z;exact ⟨mC this,mC (pV this N3)⟩
 refine Us (A:=A.in1) (knd:=knd) (h₀:=h1.push { cls:=.type "list_iterator",data:=.fields #[.ref l,.int 0 0] }) (l:=l) (tps:=tps) (qs:=qs) hh hu (mC N3) ?_ (mC hll) (mC (pV hll N3)) ?_ C2 hsz (fun p z=>?_) (fun q z=>?_) qs.length 0 ⟨h1.push { cls:=.type "list_iterator",data:=.fields #[.ref l,.int 0 0] },g0,d0,T6,os0⟩ 0 0 (by lia) ?_ ?_ (fun _ _ _ _ z=>z) fun h' w6 hD kp=>?_
 ·exact ⟨_,k2 _ _ hx,rfl,n,rfl⟩
 ·exact Paired.mapP hp fun p q ⟨⟨o,m,z2,z3⟩,ok,z4,z5⟩=>⟨⟨o,m,k2 _ _ z2,z3⟩,ok,k2 _ _ z4,z5⟩
 ·obtain ⟨i,hi,rfl⟩:=sv z;obtain ⟨q,_,⟨o,m,z2,_⟩,_⟩:=Paired.get hp (i:=i) (a:=tps[i]) (oh hi);exact hfar _ _ z2
 ·obtain ⟨ok,z4,_⟩:=hp.key q z;exact hfar _ _ z4
 ·exact ⟨_,nG h1 rfl,rfl,rfl⟩
 ·exact EH k8 (fun o ho=>my _ (k1 _ _ ho)) fun y hy=>by cases hy
 ·refine ⟨rfl,h h' w6 h0.objs.size hD rfl (xv (mn _)) fun b o z=>kp b o ?_ ?_ (k2 b o z)⟩
  ·exact (hfar _ _ z).1
  ·exact (hfar _ _ z).2
end
def KS:kQ V->Hp->VK->Prop:=fun xs H Q=>∃(l:kS) (tps:kQ kS) (kvs:kQ (kQ md×V)),xs=[.ref l]/\H l=some (.lst (tps.map V.ref)) /\
 Paired (fun t (q:kQ md×V)=>∃a,H t=some (.tup [.ref a,q.2])/\H a=some (.tup (q.1.map kV))) tps kvs/\(kvs.map Prod.fst).Nodup/\pb H (.dT kvs) Q
def UO(hc:X.calm=true)(hu:X.A.units+64<cLine):Xc X (.type "dict") KS:=by
 intro a9 s σ H xs us Q I r h;obtain ⟨l,tps,kvs,rfl,hl,hp,hn,q⟩:=h;obtain ⟨u,rfl,ru⟩:=W0 r;cases ru;obtain ⟨hz,b9,n,rv,hg⟩:=(show Z5 X.prog X.w H s.heap l (.lst (tps.map V.ref)) from I.hok l _ hl)
 rw [xk rv] at hg;have key:∀{tps:kQ kS} {kvs:kQ (kQ md×V)},Paired (fun t (q:kQ md×V)=>∃a,H t=some (.tup [.ref a,q.2])/\H a=some (.tup (q.1.map kV))) tps kvs->∃qs,KT H kvs qs/\xy (tupleKind (Zu X.prog X.w)) s.heap tps qs:=by
  intro tps kvs hp
  induction hp with
  | nil=>exact ⟨[],.nil,.nil⟩
  | cons r t ih =>
   rename_i p q _ _;obtain ⟨qs,h1,h2⟩:=ih;obtain ⟨a,ra,rk⟩:=r;obtain ⟨_,b9,rv,o,ho,u9,m,hd⟩:=(show Z5 X.prog X.w H s.heap p (.tup [.ref a,q.2]) from I.hok p _ ra)
   obtain ⟨k,v,rfl,rk1,rv2⟩:=uP rv;cases (show k=Value.ref a from rk1);obtain ⟨_,E3,r2,o2,V8,hcl2,m2,U2⟩:=(show Z5 X.prog X.w H s.heap a (.tup (q.1.map kV)) from I.hok a _ rk)
   exact ⟨(q.1,a,v) ::qs,.cons ⟨rfl,rk,rv2⟩ h1,.cons ⟨⟨o,m,ho,u9,hd⟩,o2,V8,fun h' e=>⟨o2,_,m2,e,hcl2,U2,by simpa using BE r2⟩⟩ h2⟩
 obtain ⟨qs,A0,M8⟩:=key hp;have hql:kvs.length=qs.length:=mv A0;have D9:kvs.length<=sizeLine:=by
  have:=mv hp;rw [lV] at hz;lia
 have C2:(qs.map (·.1)).Nodup:=by
  have:∀{kvs:kQ (kQ md×V)} {qs:kQ (kQ md×kS×kT)},KT H kvs qs->qs.map (·.1)=kvs.map Prod.fst:=by
   intro kvs qs z
   induction z with
   | nil=>rfl
   | cons r t ih=>rw [mH,mH,ih,r.1]
  rw [this A0];exact hn
 refine Pg (knd:=tupleKind (Zu X.prog X.w)) (I.ok.hd hc) (wC (A:=X.A.in1) (by show X.A.units+1+1<cLine;lia)) hg M8 C2 (by rw [<-hql];exact D9) fun h' w6 dd hD hdd V1 k=>?_
 have hsm:dd≠sysModules:=fun z=>by
  have hb:=I.big;rw [<-hdd,z] at hb;exact pU _ hb
 have hH0:H dd=none:=by
  cases e:H dd with
  | none=>rfl
  | some u =>
   obtain ⟨ob,z⟩:=(I.hok dd u e).there;rw [V1] at z;cases z
 obtain ⟨o,es,ep,e1,e2,e3,e4,_,e5⟩:=hD;obtain ⟨hH,J⟩:=I.laidAt (t':=w6) (o:=.dT kvs) k V1 (show Z5 X.prog X.w (upd H dd (.dT kvs)) h' dd (.dT kvs) from ⟨D9,qX.mpr hsm,qs,A0.keeps fun b ys e=>by rw [Zd (Zg e hH0)];exact e,o,es,ep,e1,e2,e3,e4,e5⟩);exact ⟨.ref dd,_,J,rfl,q.at dd hH⟩
section
variable {E:kT->kU->Prop}
def IT{Q:kW kT->kU->Prop}(hx:s.heap.get? x=some ox) (cx:ox.cls=.type "tuple") (dx:ox.data=.seq (v ::xs).toArray m) (h:Q (some v) s):wpAny (model prog w) A (firstOfTuple' (.ref x)) Q E s:=by
 show wpAny _ _ (typeOf (.ref x) >>=fun ty=>_) Q E s;refine lT (uq (T := "tuple") ⟨_,hx,cx⟩ ?_);simp only [yT,vF,rX];exact lT (listItems_at hx dx (mi h))
def OM{Q:SortKind->kU->Prop}(hx:s.heap.get? x=some ox) (cx:ox.cls=.type "tuple") (dx:ox.data=.seq (.str n t ::xs).toArray m1)
  (hy:s.heap.get? y=some oy) (cy:oy.cls=.type "tuple") (dy:oy.data=.seq (.str n' u ::ys).toArray m2) (h:Q (tuples' true) s):wpAny (model prog w) A (keyKind' #[.ref x,.ref y]) Q E s:=by
 have tx:s.TypeIs (.ref x) "tuple" :=⟨_,hx,cx⟩
 have ty:s.TypeIs (.ref y) "tuple" :=⟨_,hy,cy⟩
 rw [keyKind'_eq,show (#[Value.ref x,.ref y]:Array kT)=[Value.ref x,.ref y].toArray from rfl,List.mapM_toArray,AH,AH,List.mapM_nil];simp only [map_bind,map_pure,bind_assoc,pure_bind];refine lT (IT hx cx dx (lT (IT hy cy dy ?_)));rw [lZ (by simp)];refine lT (Bj ?_);rw [show Array.filterMap id #[some (Value.str n t),some (.str n' u)]=[Value.str n t,.str n' u].toArray from rfl,oneTypeOnly'_eq,List.mapM_toArray,AH,AH,List.mapM_nil];refine mi ((nV (fun b=>Q (tuples' b) s) (?_:_=true)).mpr h);rw [lZ (by simp)]
 rfl
def WA{kd:SortKind}{st:SortSt}{Q:kW Nat->SortSt->Prop}(hk:kindOf st=kd)(ha:arrOf st=#[(x,x),(y,y)])(c8:∀(E':kT->kU->Prop) (Q':Bool->kU->Prop),Q' false s->wpAny (model prog w) A (keyLt' kd y x) Q' E' s)
  (h:Q (some 2) st):wpS (model prog w) A E s (countRun' 0 2) Q st:=by
 rw [countRun0_eq];unfold ascLoop;refine qC (wpS_forRange (I:=fun i c u5=>u5=st/\c=(none,i)) ?_ ?_ ⟨rfl,rfl⟩)
 ·rintro i c u5 h1 h2 ⟨rfl,rfl⟩;have:i=1:=by lia
  subst this;rw [ltAt'_eq];refine qC (qC (wpS_get ?_));show wpS _ _ _ _ (do let p <-elem' (arrOf u5) 1;let q <-elem' (arrOf u5) 0;lt' p q) _ u5;rw [ha,elem'_eq,elem'_eq];refine qC (uf (qC (uf ?_)));rw [lt'_eq];refine qC (wpS_get ?_);rw [hk];refine qC (wpS_lift (wpAny_attempt (c8 _ _ ⟨rfl,?_⟩)));exact uf (uf ⟨rfl,rfl⟩)
 ·rintro c u5 ⟨rfl,rfl⟩;exact uf h
def Os{kd:SortKind}{Q:Unit->SortSt->Prop}(c8:∀(E':kT->kU->Prop) (Q':Bool->kU->Prop),Q' false s->wpAny (model prog w) A (keyLt' kd y x) Q' E' s)
  (h:∀p,Q () (SortSt.mk' kd #[(x,x),(y,y)] p 7 none)):wpS (model prog w) A E s sortRuns' Q (SortSt.mk' kd #[(x,x),(y,y)] #[] 7 none):=by
 rw [sortRuns'_eq];refine qC (wpS_get ?_);dsimp only;refine qC (wpS_mono (wpS_forRange (I:=fun i c u5=>(i=0/\c=(none,0)/\u5=SortSt.mk' kd #[(x,x),(y,y)] #[] 7 none)\/(1<=i/\c=(none,2)/\u5=SortSt.mk' kd #[(x,x),(y,y)] #[(0,2,0)] 7 none))
  (Q:=fun c u5=>c=(none,2)/\u5=SortSt.mk' kd #[(x,x),(y,y)] #[(0,2,0)] 7 none) ?_ ?_ (.inl ⟨rfl,rfl,rfl⟩)) ?_)
 ·rintro i c u5 _ hi (⟨rfl,rfl,rfl⟩|⟨h1,rfl,rfl⟩)
  ·dsimp only;rw [lY (by show ¬(0:Nat) ≥ 2;decide)];refine qC (WA rfl rfl c8 ?_);dsimp only;rw [lY (by show ¬(2:Nat)<minRun' 2 2 0;decide)];refine qC (wpS_get ?_);exact qC (wpS_modify (uf (.inr ⟨by lia,rfl,rfl⟩)))
  ·dsimp only;rw [lZ (by show (2:Nat) ≥ 2;decide)];exact uf ⟨rfl,rfl⟩
 ·rintro c u5 (⟨z,_,_⟩|⟨_,h1,h2⟩)
  ·exact absurd z (by show ¬max 0 2=0;decide)
  ·exact ⟨h1,h2⟩
 ·rintro c u5 ⟨rfl,rfl⟩;dsimp only;refine qC (wpS_mono (wpS_forRange (I:=fun _ c u5=>c=(none,())/\u5=SortSt.mk' kd #[(x,x),(y,y)] #[(0,2,0)] 7 none) (Q:=fun c u5=>c=(none,())/\u5=SortSt.mk' kd #[(x,x),(y,y)] #[(0,2,0)] 7 none) ?_ (fun _ _ z=>z) ⟨rfl,rfl⟩) ?_)
  ·rintro i c u5 _ _ ⟨rfl,rfl⟩;refine qC (wpS_get ?_);rw [lZ (by show (1:Nat)<=1;decide)];exact uf ⟨rfl,rfl⟩
  ·rintro c u5 ⟨rfl,rfl⟩;exact uf (h _)
def MF(prog:lq)(w:lh)(A:lu)(s:kU)(a:kS)(vs:kQ kT):Prop:=vs.length<2\/∃x y kd,vs=[x,y]/\∀s':kU,(∀b o,b≠a->s.heap.get? b=some o->s'.heap.get? b=some o) ->
 (∀(E':kT->kU->Prop) (Q':SortKind->kU->Prop),Q' kd s'->wpAny (model prog w) A (keyKind' #[x,y]) Q' E' s')/\∀(E':kT->kU->Prop) (Q':Bool->kU->Prop),Q' false s'->wpAny (model prog w) A (keyLt' kd y x) Q' E' s'
def WD{vs:kQ kT}(hc:vs.length<2):(vs.toArray.zip vs.toArray).map (·.2)=vs.toArray:=by
 rcases vs with _|⟨a,_|⟨b,r⟩⟩
 ·simp
 ·simp
 ·exact absurd hc (Nat.not_lt.mpr (Nat.le_add_left 2 _))
def Pa{P:Fin->kU->Prop} (hl:s.heap.get? a=some (seqObj "list" vs.toArray n)) (hc:MF prog w A s a vs)
  (h:P (.done (.ret .none)) { s with heap:=sortedHeap s.heap a vs vs.toArray }):wpAny (model prog w) A (Builtin.«list.sort» ⟨[.ref a],[]⟩) P E s:=by
 rw [list_sort_plain];have c8:a<s.heap.objs.size:=mo hl;have N5:vs.length<=sizeLine:=by
  rw [qT];rcases hc with hc|⟨x,y,kd,rfl,_⟩
  ·lia
  ·show 2<=_;lia
 refine lT (listItems_at hl rfl (lT (listUpdate_at hl rfl ?_ (hsz:=by simpa using N5))));obtain ⟨e1,hl1⟩:∃e1,(s.heap.update a (Obj.mapSeq fun _=>#[])).get? a=some (seqObj "list" #[] e1):=⟨_,get?_update_seq hl _⟩
 refine lT (seqEpoch_at hl1 rfl (lT (wpAny_newTuple (hsz:=by simpa using N5) (lT (wpAny_newList (pL ?_))))));have O2:(((s.heap.update a (Obj.mapSeq fun _=>#[])).push (seqObj "tuple" vs.toArray 0)).push (seqObj "list" #[] 0)).get? a=some (seqObj "list" #[] e1):=by
  rw [yB _ _ _ (by rw [size_push',yU];exact mC (xu c8)),yB _ _ _ (by rw [yU];exact mC c8)];exact hl1
 have keep:∀b o,b≠a->s.heap.get? b=some o->(((s.heap.update a (Obj.mapSeq fun _=>#[])).push (seqObj "tuple" vs.toArray 0)).push (seqObj "list" #[] 0)).get? b=some o:=fun b o ne hb=>by
  have O5:=mo hb;rw [yB _ _ _ (by rw [size_push',yU];exact mC (xu O5)),yB _ _ _ (by rw [yU];exact mC O5),rK _ _ (nR ne)];exact hb
 show wpAny (model prog w) A _ P E { s with heap:=((s.heap.update a (Obj.mapSeq fun _=>#[])).push (seqObj "tuple" vs.toArray 0)).push (seqObj "list" #[] 0) };dsimp only;rcases hc with hc|⟨x,y,kd,rfl,hc⟩
 ·have h2:vs.toArray.size<2:=by simpa using hc
  rw [lZ h2,lZ h2];refine lT (mi ?_);rw [StateT.run_pure];refine lT (mi ?_);dsimp only;refine lT (seqEpoch_at O2 rfl (lT (listUpdate_at O2 rfl ?_ (hsz2:=by rw [Array.size_map];show (pairsOf vs).size<=_;rw [pairsOf_size,qT];lia))));simp only [yT,vF,rX];have:=WD hc;refine mi ?_;show P _ { s with heap:=(((s.heap.update a (Obj.mapSeq fun _=>#[])).push (seqObj "tuple" vs.toArray 0)).push (seqObj "list" #[] 0)).update a (Obj.mapSeq fun _=>(vs.toArray.zip vs.toArray).map (·.2)) };rw [this];exact h
 ·obtain ⟨c1,c2⟩:=hc { s with heap:=(((s.heap.update a (Obj.mapSeq fun _=>#[])).push (seqObj "tuple" [x,y].toArray 0)).push (seqObj "list" #[] 0)) } keep;rw [lY (by show ¬(2:Nat)<2;decide),lY (by show ¬(2:Nat)<2;decide)];refine lT (c1 _ _ ?_);rw [show [x,y].toArray.zip [x,y].toArray=#[(x,x),(y,y)] by simp];refine lT (oQ (Os (Q:=fun _ st=>∃p,st=SortSt.mk' kd #[(x,x),(y,y)] p 7 none) c2 fun p=>⟨p,rfl⟩) ?_ fun _ _ e=>e);rintro ⟨⟨⟩,u5⟩ s' ⟨rfl,p,rfl⟩;dsimp only;refine lT (seqEpoch_at O2 rfl (lT (listUpdate_at O2 rfl ?_ (hsz2:=by rw [Array.size_map];show (2:Nat)<=_;rw [qT];lia))));simp only [yT,vF,rX];refine mi ?_;show P _ { s with heap:=(((s.heap.update a (Obj.mapSeq fun _=>#[])).push (seqObj "tuple" [x,y].toArray 0)).push (seqObj "list" #[] 0)).update a (Obj.mapSeq fun _=>(#[(x,x),(y,y)]:Array (kT×kT)).map (·.2)) };rw [show (#[(x,x),(y,y)]:Array (kT×kT)).map (·.2)=[x,y].toArray by simp];exact h
def Vq{Q:kT->kU->Prop}(hl:s.heap.IsList l vs.toArray)(hz:vs.length<=sizeLine)
  (hc:∀s':kU,(∀b o,s.heap.get? b=some o->s'.heap.get? b=some o)->MF prog w A.in1.in1 s' (s.heap.objs.size+1) vs)
  (h:Q (.ref (s.heap.objs.size+1)) { s with heap:=sortedAll s.heap vs vs.toArray }):wpAny (model prog w) A (call (.builtin "sorted") [.ref l]) Q E s:=by
 refine Ee kind_sorted plain_sorted entry_sorted (args_sorted1 _) ?_;unfold Builtin.«sorted»;refine lT (m:=checkCount "sorted" 1 1 _) (mi (lT (collect_list hl (hsz:=hz) (lT (wpAny_newList (hsz:=hz) ?_)))));have hs:((s.heap.push (seqObj "list" #[] 0)).update s.heap.objs.size (Obj.mapSeq (· ++ vs.toArray))).objs.size=s.heap.objs.size+1:=by rw [yU,size_push']
 have hL:(((s.heap.push (seqObj "list" #[] 0)).update s.heap.objs.size (Obj.mapSeq (· ++ vs.toArray))).push (seqObj "list" vs.toArray 0)).get? (s.heap.objs.size+1)=some (seqObj "list" vs.toArray 0):=by
  rw [<-hs];exact nG _ rfl
 have kp:∀b o,s.heap.get? b=some o->(((s.heap.push (seqObj "list" #[] 0)).update s.heap.objs.size (Obj.mapSeq (· ++ vs.toArray))).push (seqObj "list" vs.toArray 0)).get? b=some o:=fun b o hb=>by
  have lt:=mo hb;rw [yB _ _ _ (by rw [hs];exact mC (xu lt)),rK _ _ (uV lt)];exact my _ hb
 show wpAny _ _ _ _ _ { s with heap:=((s.heap.push (seqObj "list" #[] 0)).update s.heap.objs.size (Obj.mapSeq (· ++ vs.toArray))).push (seqObj "list" vs.toArray 0) };rw [hs];refine lT (pL (Aw slot_list_sort ⟨_,hL,rfl⟩ entry_list_sort (Pa hL (hc _ kp) ⟨_,rfl,?_⟩) (args_list_sort _)));exact mi ⟨_,rfl,h⟩
end
section
variable {E:kT->kU->Prop} {κ:KeyKind} {kd:SortKind}
def Su(prog:lq)(w:lh)(A:lu)(s:kU)(κ:KeyKind)(kd:SortKind):Prop :=
 ∀(x y:kT) (a b:κ.α) (E':kT->kU->Prop) (Q':Bool->kU->Prop),κ.keyOf x=some a->κ.keyOf y=some b->a≠b->Q' (κ.blt a b) s->wpAny (model prog w) A (keyLt' kd x y) Q' E' s
def Vw(κ:KeyKind)(o:Array Keyed):Prop:=(o.toList.map fun p=>κ.keyOf p.1).Nodup
variable (hL:Su prog w A s κ kd) (k:KeysOf κ o) (d:Vw κ o)
include hL k d
end
section
variable {E:kT->kU->Prop}
def Va{Q:Bool->kU->Prop}(hx:s.heap.get? x=some ox)(dx:ox.data=.seq (.str p t ::xs).toArray m1)
  (hy:s.heap.get? y=some oy) (dy:oy.data=.seq (.str q u ::ys).toArray m2) (ne:p≠q) (h:Q (decide (p.cps.toList<q.cps.toList)) s):wpAny (model prog w) A (keyLt' (tuples' true) (.ref x) (.ref y)) Q E s:=by
 show wpAny _ _ (Builtin.List.listItems (.ref x) >>=fun xs=>_) Q E s;refine lT (listItems_at hx dx ?_);show wpAny _ _ (Builtin.List.listItems (.ref y) >>=fun ys=>_) Q E s;refine lT (listItems_at hy dy ?_);rw [show ((Value.str p t ::xs).toArray.toList.zip (Value.str q u ::ys).toArray.toList).zipIdx=((.str p t,.str q u),0) ::(xs.zip ys).zipIdx 1 from rfl,List.forIn_cons];refine lT (lT (lT (wpAny_eqBool_str ?_)));rw [mO ne];refine lT (oneLt_str ?_);exact mi (mi (mi h))
end
end L2
end
section
namespace L2
open PySem PyProof.Rows
section
variable {prog:lq} {w:lh} {A:lu} {E:kT->kU->Prop} {s:kU} {o:Array Keyed} {kd:SortKind} {p:Array (Nat×Nat×Nat)} {st:SortSt}
def WV(prog:lq)(w:lh)(A:lu)(s:kU)(kd:SortKind)(o:Array Keyed):Prop :=
 ∀x∈o,∀y∈o,∀(E':kT->kU->Prop) (Q':Bool->kU->Prop),(∀b,Q' b s)->wpAny (model prog w) A (keyLt' kd x.1 y.1) Q' E' s
variable (L:WV prog w A s kd o)
include L
omit L
variable {a b out:Array Keyed} {x y z:kQ Keyed} {v:Keyed}
omit L in
omit L in
section
variable {C D F:Type} {pd:Array Keyed->Nat->Nat->Prop} {fd:Array Keyed->Nat->Nat->D->C} {ls:kQ Keyed} {fu:Array Keyed->F->C} {G G1 G2:C->SortSt->Prop}
end
include L
omit L
include L
omit L in
end
end L2
end
section
namespace L2
open PySem PySem.Spec PyProof.Rows
section
variable {E:kT->kU->Prop}
end
open Classical in
def vi (cells:kQ (kR×kS)) (H:Hp):Hp:=fun b=>if ∃x,cells.lookup x=some b then none else H b
def Qn(h:cells.lookup x=some b):vi cells H b=none:=lZ ⟨x,h⟩
def vR(h:∀x,cells.lookup x≠some b):vi cells H b=H b:=lY fun ⟨x,z⟩=>h x z
def Hi  :lK (vi cells H) H:=fun b o e=>by
 unfold vi at e
 by_cases z:∃x,cells.lookup x=some b
 ·rw [lZ z] at e;cases e
 ·rw [lY z] at e;exact e
variable {X:Cx}
def zA(I:lQ X a9 σ H s)(h:X.env.cells.lookup x=some c):∃o v,pX X.env.cells H s.heap c=some (Fz o)/\s.heap.get? c=some o/\o.data=.cell v:=by
 obtain ⟨v,o,ho,hd⟩:=I.cell x c h;refine ⟨o,v,?_,ho,hd⟩;unfold pX;rw [lZ ⟨x,h⟩,ho];rfl
def lQ.noC(I:lQ X a9 σ H s)(D8:∀x,X.fn x=true)(h:X.ly.heap.get? b=some o)(x:kR):X.env.cells.lookup x≠some b:=fun z=>absurd (oN (mo h) (I.ok.cab x b (D8 x) z)) (pU _)
def lQ.env0C(I:lQ X a9 σ H s)(D8:∀x,X.fn x=true):sO X.prog X.w X.K X.mg X.lL X.A X.stack s (pX X.env.cells H s.heap):=by
 have E:=I.env0;refine ⟨E.frames,E.mod,fun b o e=>⟨(E.bs b o e).1,?_⟩,E.bsz,E.funs,fun b hb=>?_,fun b o e=>?_,E.bare⟩
 ·rw [xh fun x=>I.noC D8 (I.ok.bs b o e).1 x];exact (E.bs b o e).2
 ·rw [xh fun x z=>?_]
  ·exact E.frf b hb
  ·rcases mI.mp (I.stkSub b hb) with y|y
   ·exact I.cne x b z y
   ·obtain ⟨_,o,ho,_⟩:=I.ok.funs.mem y;exact I.noC D8 ho x z
 ·by_cases z:∃x,X.env.cells.lookup x=some b
  ·obtain ⟨x,z⟩:=z;obtain ⟨ob,v,h1,h2,h3⟩:=zA I z;rw [h1] at e;cases e;exact ⟨h2,h2,_,h2⟩
  ·rw [xh fun x y=>z ⟨x,y⟩] at e;exact (I.hok b o e).stay (fun _ _ _ q=>q) (fun c q=>Xg I q) (fun c xs q=>Xg I q) (fun c o q=>Xg I q) (fun c o q=>Xg I q)
def CE.lend(I:lQ X a9 σ H s)(h:CE X.stack X.prog X.w (pX X.env.cells H s.heap) s Q u s'):CE X.stack X.prog X.w H s (fun v H3=>∃H',H3=vi X.env.cells H'/\(∀x c o,X.env.cells.lookup x=some c->s.heap.get? c=some o->H' c=some (Fz o))/\Q v H') u s':=by
 obtain ⟨v,H',os,bare,un,hok,r,q⟩:=h;have frz:∀x c o,X.env.cells.lookup x=some c->s.heap.get? c=some o->H' c=some (Fz o):=fun x c o hc ho=>by
  obtain ⟨o2,w,h1,h2,_⟩:=zA I hc;rw [ho] at h2;cases h2;exact un.frzs c _ _ h1
 have nc:∀{b:kS} {o:HO},H b=some o->∀x,X.env.cells.lookup x≠some b:=fun e x z=>by rw [I.freeC x _ z] at e;cases e
 have ad:∀{b:kS},(∀x,X.env.cells.lookup x≠some b)->H b=none->pX X.env.cells H s.heap b=none:=fun z n=>by rw [xh z];exact n
 refine ⟨v,vi X.env.cells H',os,bare,⟨fun b o h1 h2 h3 h4=>?_,fun b o h1 h2 h3 h4=>?_,fun b o h1 h2 h4=>?_,un.there,fun b xs e=>?_,fun b o u e=>?_,fun b ps e=>?_⟩,fun b o e=>?_,r,H',rfl,frz,q⟩
 ·by_cases z:∃x,X.env.cells.lookup x=some b
  ·obtain ⟨x,z⟩:=z;exact (hok b _ (frz x b o z h1)).1
  ·exact un.keep b o h1 (ad (fun x y=>z ⟨x,y⟩) h2) h3 h4
 ·by_cases z:∃x,X.env.cells.lookup x=some b
  ·obtain ⟨x,z⟩:=z;exact ⟨o.slots,(hok b _ (frz x b o z h1)).1⟩
  ·exact un.slot b o h1 (ad (fun x y=>z ⟨x,y⟩) h2) h3 h4
 ·by_cases z:∃x,X.env.cells.lookup x=some b
  ·obtain ⟨x,z⟩:=z;exact Qn z
  ·rw [vR fun x y=>z ⟨x,y⟩];exact un.free b o h1 (ad (fun x y=>z ⟨x,y⟩) h2) h4
 ·rw [vR (nc e)];exact un.tups b xs (Xg I e)
 ·rw [vR (nc e)];exact un.frzs b o u (Xg I e)
 ·obtain ⟨m,z⟩:=un.tbls b ps (Xg I e);exact ⟨m,by rw [vR (nc e)];exact z⟩
 ·have soft:∀{c:kS} {o:HO},H' c=some o->(∀ob,o≠Fz ob)->vi X.env.cells H' c=some o:=fun {c o} z n=>by
   rw [vR]
   ·exact z
   ·intro x y;obtain ⟨_,w,_,h2,_⟩:=zA I y;rw [frz x c _ y h2] at z;cases z;exact n _ rfl
  exact (hok b o (Hi b o e)).stay (fun _ _ _ q=>q) (fun c q=>soft q fun _ z=>nomatch z) (fun c xs q=>soft q fun _ z=>nomatch z) (fun c o q=>soft q fun _ z=>nomatch z) (fun c o q=>soft q fun _ z=>nomatch z)
def Fh(X:Cx)(σ:St)(H:Hp)(S:Hp->VK->Prop)(Q:VK):Prop:=∀H2,lK H H2->(∀(i:Nat) (x:kR) (v:V) (c:kS),X.N[i]? =some x->σ[i]? =some (some v)->X.env.scope.names.lookup x=some .cell->X.env.cells.lookup x=some c->H c=none/\rD H2 c v) ->
 S H2 fun v H4=>∀H3,lK H3 H4->(∀b u o,H b=some u->H4 b=some o->H3 b=some o)->(∀b o,H4 b=some o->(∀ob,o≠Fz ob)->H3 b=some o)->Q v H3
def Ss(F:Xe X.prog X.w X.K X.mg X.lL nH k f fd ps sp)(hr:Y5 k X.A)(D8:∀x,X.fn x=true)(hb:pr X.K fd ps [])
  (I:lQ X a9 σ H s) (r:Yc vs us) (h:Fh X σ H (fun H2 Q2=>sp vs H2 Q2 E0) Q):wpAny (model X.prog X.w) X.A (call (.ref f) us) (EP X a9 σ Q) X.xe s:=by
 have h:=h (pX X.env.cells H s.heap) (fun b o e=>Xg I e) fun i x v c h1 h2 h3 h4=>Ej I h1 h2 h3 h4
 have hl:us.length=ps.length:=by rw [<-r.length];exact F.len _ _ _ _ h
 have b:=hb s us I.kIn (by rw [pz];exact hl);rw [pz] at b;refine sU (ud (F.run X.A X.stack s _ ⟨us,[]⟩ us vs _ E0 hr (I.env0C D8) b r h) fun r s' hq=>?_);cases r with
 | error e=>exact False.elim hq
 | ok fl =>
  cases fl with
  | ret u =>
   obtain ⟨v,H3,I3,rv,H',e3,frz,q⟩:=I.after (CE.lend I hq);subst e3;refine ⟨v,_,I3,rv,q _ Hi (fun b u o e e2=>?_) fun b o e n=>?_⟩
   ·rw [vR fun x z=>by rw [I.freeC x b z] at e;cases e];exact e2
   rw [vR]
   ·exact e
   ·intro x y;obtain ⟨_,w,_,h2,_⟩:=zA I y;rw [frz x b _ y h2] at e;cases e;exact n _ rfl
  | next=>exact False.elim hq
  | brk=>exact False.elim hq
  | cont=>exact False.elim hq
def Ts(X:Cx)(sp:Sp)(t:TA):TE:=fun σ H Q=>t σ H fun vs H1=>Fh X σ H1 (fun H2 Q2=>sp vs H2 Q2 E0) Q
def Wp(F:Xe X.prog X.w X.K X.mg X.lL nH k f fd ps sp)(hr:Y5 k X.A)(D8:∀x,X.fn x=true)(hg:Gl X x)(hm:X.mg x=some (.ref f))(hk:keepIn X.K (.ref f)=true)(hb:pr X.K fd ps [])
  (ha:PA X (e ::es) t) (L1:(x ==("__debug__" :kR))=false:=by left) (he:starEach (e ::es) X.env=(false,eval e X.env) ::starEach es X.env:=by rfl) (g8:(backTo pos (starEach es X.env)).any (·.1)=false:=by rfl) :
  PE X (.Call (.Name x p) (e ::es) [] pos) (Ts X sp t):=by
 intro a9 s σ H Q I h;refine sX (uE I hg hm ?_ L1);refine xY (h₀:=X.lL) I.ok.mod.kin hk (ma (ha pos a9 s σ H _ I h) fun us s1 ⟨vs,H1,I1,r,q⟩=>⟨I1.kIn,?_⟩) he g8;exact Ss F hr D8 hb I1 r q
def Qr(X:Cx)(Pt:kS)(la:Arguments)(lb:li)(ls:Scope)(lp:Pos)(clos:kQ (kR×kS)):TE:=fun _ H Q=>∃ls0,H Pt=some (.tbl (Xj ls0))/\(lp.line,lp.col,X.env.qual ++ "<lambda>")∈ls0/\∀fl H',lK H H'->H fl=none->qr H' Pt fl (X.env.qual ++ "<lambda>") la lb ls clos->Q (.ref fl) H'
def rS(C7:X.env.code=.ref c)(hL:PySem.W.codeHdIn X.K c Pt=true)(R3:defaultsOf la X.env=([],[]):=by rfl)(u9:closureFor ls X.env=pure clos:=by rfl):PE X (.Lambda la lb ls lp) (Qr X Pt la lb ls lp clos):=by
 intro a9 s σ H Q I h;obtain ⟨ls0,h1,h2,h3⟩:=h;exact Lq I R3 C7 (EO I.ok.mod.kin hL) h1 h2 u9 fun fl H' s' I' sm hn cl=>⟨.ref fl,H',I',rfl,h3 fl H' sm hn cl⟩
section
variable {P:lq} {w:lh} {K:kX} {mg:kR->kW kT} {lL:kZ}
def pQ.okL{x qual:kR}{st:kY}{f Pt:kS}{fd:lv}{N ps:kQ kR}{k:Nat}{sp:Sp}(F:pQ K x qual st f fd)(L:tH K fd Pt)(S:Zw N ps (Zj st))
  (m6:∀(c:kS) (A:lu) (lJ:kQ Env) (s:kU) (H:Hp) (vs:kQ V) (Q:VK) (E:XK),PySem.W.codeHdIn K c Pt=true->Y5 k (A.deeper (envOfC qual (Zj st) s.heap.objs.size f (.ref c)))->sp vs H Q E ->
   let X:=(nK nH P w K mg lL N qual (Zj st) f (.ref c) A lJ s H E).nox;let D:oV:={ nx:=fun _ H'=>Q .non H',rt:=Q };WSs X (Y4 st) D (start N vs) H) (len:∀vs H Q E,sp vs H Q E->vs.length=ps.length:=by rintro _ _ _ _ ⟨⟩;subst_vars;rfl):Xe P w K mg lL nH (k+1) f fd ps sp:=by
 obtain ⟨oc,od,kV,w5,pm,an,c6,ct,E4,rfl,lk,B3⟩:=F.ex;obtain ⟨c,hc,hL⟩:=L;have hc:c6=.ref c:=hc;subst hc;refine AV lk B3 S len fun A lJ s H vs Q E hr M6=>?_
 exact ⟨_,qd.nox Zn,m6 c A lJ s H vs Q E hL hr M6⟩
end
def kD:md->PyData
 | .inl i=>.int i
 | .inr x=>.str x
mutual
inductive Rp(H:Hp):PyData->V->Prop
 | str (x:Str):Rp H (.str x) (.str x)
 | bl (b:Bool):Rp H (.bool b) (.bl b)
 | lst {a:Addr} {xs:List V} {ds:List PyData}:H a=some (.lst xs)->pO H ds xs->Rp H (.list ds) (.ref a)
 | tup {a:Addr} {xs:List V} {ds:List PyData}:H a=some (.tup xs)->pO H ds xs->Rp H (.tuple ds) (.ref a)
 | dk {a:Addr} {kvs:List (md×V)} {ds:List PyData}:H a=some (.dK kvs)->pO H ds (kvs.map Prod.snd)->Rp H (.dict ((kvs.map fun p=>kD p.1).zip ds)) (.ref a)
inductive pO(H:Hp):List PyData->List V->Prop
 | nil:pO H [] []
 | cons {d:PyData} {v:V} {ds:List PyData} {vs:List V}:Rp H d v->pO H ds vs->pO H (d ::ds) (v ::vs)
end
theorem pO.length:∀{ds:kQ PyData} {vs:kQ V},pO H ds vs->ds.length=vs.length
 | _,_,.nil=>rfl
 | _,_,.cons _ h=>nV Nat.succ h.length
def VJ(e:tM k u=true):Reads h u (kD k) []:=by
 rcases Yp e with ⟨i,t,rfl,rfl⟩|⟨x,t,rfl,rfl⟩
 ·exact .int i t
 ·exact .str x t
theorem Fo  :∀{es:kQ DictEntry} {kvs:kQ (md×kT)},Pairs (Zu P w) es kvs->ReadsAll h (es.map (·.key)) (kvs.map fun p=>kD p.1) []
 | _,_,.nil=>.nil
 | _,_,.cons (e:=e) (kv:=kv) h1 h2 h3=>ReadsAll.cons (as:=[]) (bs:=[]) (VJ h1) (Fo h3)
theorem MT  :∀{es:kQ DictEntry} {kvs:kQ (md×kT)},Pairs (Zu P w) es kvs->es.map (·.val)=kvs.map Prod.snd
 | _,_,.nil=>rfl
 | _,_,.cons h1 h2 h3=>by rw [mH,mH,h2,MT h3]
def Ro(h:KV kvs vs):Yc (kvs.map Prod.snd) (vs.map Prod.snd)/\(vs.map fun p=>kD p.1)=kvs.map fun p=>kD p.1:=by
 induction h with
 | nil=>exact ⟨.nil,rfl⟩
 | cons r t ih=>exact ⟨.cons r.2 ih.1,by rw [mH,mH,ih.2,r.1]⟩
mutual
theorem Rp.reads(I:lQ X a9 σ H s):∀{d:PyData} {v:V} {u:kT},Rp H d v->Yd v u->∃as,Reads s.heap u d as/\∀a∈as,∃o,H a=some o
 | _,_,u,.str x,r=>by
  obtain ⟨t,rfl⟩:=(show ∃t,u=Value.str x t from r)
  exact ⟨[],.str x t,fun _ z=>nomatch z⟩
 | _,_,u,.bl b,r=>by
  obtain rfl:u=Value.bool b:=r;exact ⟨[],.bool b,fun _ z=>nomatch z⟩
 | _,_,u,.lst (a:=a) (xs:=xs) e h,r=>by
  obtain rfl:u=Value.ref a:=r;obtain ⟨_,b9,n,rv,ho⟩:=(show Z5 X.prog X.w H s.heap a (.lst xs) from I.hok a _ e)
  obtain ⟨as,h1,h2⟩:=pO.reads I h rv;exact ⟨a ::as,.list ho rfl rfl h1,fun b hb=>(mI.mp hb).elim (fun z=>⟨_,(nV H z).trans e⟩) (h2 b)⟩
 | _,_,u,.tup (a:=a) (xs:=xs) e h,r=>by
  obtain rfl:u=Value.ref a:=r;obtain ⟨_,b9,rv,o,ho,hc,m,hd⟩:=(show Z5 X.prog X.w H s.heap a (.tup xs) from I.hok a _ e)
  obtain ⟨as,h1,h2⟩:=pO.reads I h rv;exact ⟨as,.tuple ho hc hd h1,h2⟩
 | _,_,u,.dk (a:=a) (kvs:=kvs) (ds:=ds) e h,r=>by
  obtain rfl:u=Value.ref a:=r;obtain ⟨_,_,vs,m8,o,es,ep,ho,hx,hd,_,hp,_⟩:=(show Z5 X.prog X.w H s.heap a (.dK kvs) from I.hok a _ e)
  obtain ⟨hv,hk⟩:=Ro m8;obtain ⟨as,h1,h2⟩:=pO.reads I h hv;have hl:=h.length;rw [lV] at hl;have e1:((kvs.map fun p=>kD p.1).zip ds).map Prod.fst=kvs.map fun p=>kD p.1:=List.map_fst_zip (by rw [lV];lia)
  have e2:((kvs.map fun p=>kD p.1).zip ds).map Prod.snd=ds:=List.map_snd_zip (by rw [lV];lia);refine ⟨a ::[]++as,.dict ho hx.1 hd ?_ ?_,fun b hb=>?_⟩
  ·rw [e1,<-hk];exact Fo hp
  ·rw [e2,MT hp];exact h1
  ·rcases mI.mp hb with z|z
   ·exact ⟨_,(nV H z).trans e⟩
   ·exact h2 b z
theorem pO.reads(I:lQ X a9 σ H s):∀{ds:kQ PyData} {vs:kQ V} {us:kQ kT},pO H ds vs->Yc vs us->∃as,ReadsAll s.heap us ds as/\∀a∈as,∃o,H a=some o
 | _,_,_,.nil,r=>by
  cases r;exact ⟨[],.nil,fun _ z=>nomatch z⟩
 | _,_,_,.cons h t,r=>by
  cases r with
  | cons r rr =>
   obtain ⟨as,h1,h2⟩:=Rp.reads I h r;obtain ⟨bs,h3,h4⟩:=pO.reads I t rr;exact ⟨as++bs,.cons h1 h3,fun b hb=>(mZ.mp hb).elim (h2 b) (h4 b)⟩
end
def DM:kQ V->Hp->VK->Prop:=fun xs H Q=>∃(a:kS) (d:PyData),xs=[.ref a]/\Rp H d (.ref a)/\d.showable=true/\d.depth<=60/\d.shown.length<=sizeLine/\Q (.str d.shown) H
def LD(hk:∃mm,X.lL.Ns sysModules mm)(hg:X.A.guards=some [])(hu:X.A.units+64<cLine):Xc X (.builtin "repr") DM:=by
 intro a9 s σ H xs us Q I r h;obtain ⟨a,d,rfl,hp,hs,hd,hz,q⟩:=h;obtain ⟨u,rfl,rx⟩:=W0 r;cases rx;obtain ⟨as,h1,h2⟩:=hp.reads I (u:=.ref a) rfl;refine repr_of_reads' h1 hs (fun _ hm=>?_) hg (by lia) (fun _ _ e=>e) (fun h' u tk hk=>?_) hz
 ·obtain ⟨o,e⟩:=h2 _ hm;obtain ⟨mm,ob,es,ep,hk,_⟩:=hk;rw [(I.bs _ _ hk).2] at e;cases e
 ·exact ⟨.str _,H,I.un (h':=h') (t':=tk) (Un.kept hk) (I.hok.kept hk),⟨_,rfl⟩,q⟩
def VA{P:lq}{w:lh}{K:kX}{mg mb:kR->kW kT}{k:Nat}{fa a:kS}{fd:lv}{x:kR}{lz:kU}{vs:kQ kT}{ns:kQ Int}{tabs:kQ (kS×Array kT)}
  (KX:K.In lz.heap) (Q0:lz.heap.Ns mainGlobals mg) (hb:lz.heap.Ns builtinsNs mb) (hbb:∀x:kR,x ≠ "__name__" ->mb x=bootBuiltins x) (hlim:lz.heap.NoLimit) (hbm:JN mg lz.heap) (hg:lz.gens=#[])
  (ha:lz.heap.get? a=some { cls:=.type "list",data:=.seq vs.toArray }) (hi:IntsAre vs ns) (hl:ns.length<=63) (hr:Y5 k callerA) (TO:Ac K lz.heap tabs)
  (hsm:∃mm,lz.heap.Ns sysModules mm) (F:∀lL:kZ,K.In lL->lL.Ns mainGlobals mg->(∃mm,lL.Ns sysModules mm)->Xe P w K mg lL nH k fa fd [x] (xq K tabs)) (hbind:∀(s:kU) (u:kT),BindsTo s fd ⟨[u],[]⟩ [(x,u)]) :
  codeAny (model P w) callerA (.call (.ref fa) ⟨[.ref a],[]⟩) (fun r s'=>r=.ok (.ret (.bool true))/\OldK lz.heap s'.heap/\s'.os=lz.os/\AllBare s'.gens) lz:=by
 have rv:=LR hi;have lenV:=hi.length;have L9:ns.length<=sizeLine:=nj hl (by left);have tabT:∀{b:kS} {ps:Array kT},tabs.lookup b=some ps->lz.heap.get? b=some (PySem.W.tabObj #[]):=fun e=>TO.emp _ (Ap e)
 have core:∀H:Hp,SqL K H a (ns.map V.int)->mT P w H lz.heap->(∀b u,H b=some u->(b=a/\K.lookup a=none/\∃o xs,u=.frz o (.lst xs))\/∃ps,tabs.lookup b=some ps/\u=.tbl ps)->(∀p∈tabs,H p.1=some (.tbl p.2)) ->
   codeAny (model P w) callerA (.call (.ref fa) ⟨[.ref a],[]⟩) (fun r s'=>r=.ok (.ret (.bool true))/\OldK lz.heap s'.heap/\s'.os=lz.os/\AllBare s'.gens) lz:=by
  intro H hS hok hA hT;have D1:∀{b:kS} {o:Obj},lz.heap.get? b=some o->H b=none->(tN lz.heap H).get? b=some o:=fun e n=>Nl e n
  have noB:∀{b:kS} {o:Obj},lz.heap.get? b=some o->(∀vs n,o.data ≠ .seq vs n)->(∀vs,o.data ≠ .fields vs)->H b=none:=fun {b o} e d1 d2=>by
   cases q:H b with
   | none=>rfl
   | some u =>
    rcases hA b u q with ⟨e',_⟩|⟨ps,e',_⟩
    ·subst e';rw [ha] at e;cases e;exact absurd rfl (d1 _ _)
    ·rw [tabT e'] at e;cases e;exact absurd rfl (d2 _)
  have nsK:∀{b:kS} {m:kR->kW kT},lz.heap.Ns b m->(tN lz.heap H).Ns b m:=fun {b m} ⟨o,es,ep,e,d,r⟩=>⟨o,es,ep,D1 e (noB e (fun _ _ z=>by rw [d] at z;cases z) (fun _ z=>by rw [d] at z;cases z)),d,r⟩
  have hKb:K.In (tN lz.heap H):=fun b o e=>D1 (KX b o e) (by
   cases q:H b with
   | none=>rfl
   | some u =>
    rcases hA b u q with ⟨e',hK,_⟩|⟨ps,e',_⟩
    ·subst e';rw [hK] at e;cases e
    ·have h1:=KX b o e;rw [tabT e'] at h1;cases h1;have h2:=uj.mp TO.nt _ (PySem.W.mem_of_lookupK e);exact absurd (show false=true from h2) mX)
  have hM:Mod K mg (tN lz.heap H):=⟨hKb,nsK Q0,⟨mb,nsK hb,hbb⟩,let ⟨mc,h1,h2⟩:=hlim;⟨mc,nsK h1,h2⟩,by
   obtain ⟨bm,ob,b1,b2,b3,b4,b5,b6⟩:=hbm;exact ⟨bm,ob,b1,b2,D1 b3 (noB b3 (fun _ _ z=>by rw [b6] at z;cases z) (fun _ z=>by rw [b6] at z;cases z)),b4,b5,b6⟩⟩
  have e0:sO P w K mg (tN lz.heap H) callerA [] lz H:=⟨rfl,hM,fun b o e=>Pb e,vI (Sm _ _),trivial,fun b hb=>absurd (show b∈([]:kQ kS) from hb) (by simp),hok,.of_eq hg⟩
  refine ud ((F _ hKb (nsK Q0) (hsm.imp fun _ z=>nsK z)).run callerA [] lz H ⟨[.ref a],[]⟩ [.ref a] [.ref a] (fun v _=>v=.bl true) E0 hr e0 (hbind lz (.ref a)) (.cons rfl .nil) ⟨a,ns,rfl,hS,hl,hT,fun _=>rfl⟩) fun r s' h=>?_
  cases r with
  | error e=>exact False.elim h
  | ok fl =>
   cases fl with
   | next=>exact False.elim h
   | brk=>exact False.elim h
   | cont=>exact False.elim h
   | ret u =>
    obtain ⟨v,H',os,bare,un,E8,r',q⟩:=h;have q':v=.bl true:=q;subst q';obtain rfl:u=Value.bool true:=r';refine ⟨rfl,⟨fun b o e=>?_,fun b o e=>un.there b o e (by simp)⟩,os,bare⟩;cases q:H b with
    | none=>exact .inl (un.keep b o e q (by intro z;exact absurd (show b∈([]:kQ kS) from z) (by simp)) (by simp))
    | some u =>
     rcases hA b u q with ⟨_,_,ob,xs,z⟩|⟨ps,z,z2⟩
     ·subst z;have z2:=un.frzs b ob _ q;obtain ⟨e1,_⟩:=hok b _ q;obtain ⟨e2,_⟩:=E8 b _ z2;rw [e] at e1;cases e1;exact .inl e2
     ·subst z2;obtain ⟨more,y⟩:=un.tbls b ps q;have e':=tabT z;rw [e] at e';cases e';obtain ⟨c,hc⟩:=TO.cod _ (Ap z);obtain ⟨qs,y1,_⟩:=E8 b _ y;exact .inr (.inl ⟨((EO KX hc).tab e).isCodeTable,rfl,#[],qs,rfl,by rw [y1];simp⟩)
 have tabH:∀p∈tabs,p.1≠a:=fun p hp z=>by
  have:=TO.emp p hp;rw [z,ha] at this;cases this
 have tabO:∀{H:Hp} {b:kS} {ps:Array kT},tabs.lookup b=some ps->Z5 P w H lz.heap b (.tbl ps):=fun {H b ps} e=>by
  obtain ⟨ls,hq,nd⟩:=TO.shape _ (Ap e);have hq:ps=Xj ls:=hq;subst hq;exact ⟨_,tabT e,.inr ⟨ls,[],rfl,nd,rfl,fun _ z=>nomatch z⟩⟩
 cases hk:K.lookup a with
 | some o =>
  have e:=KX a o hk;rw [ha] at e;cases e;refine core (fun b=>(tabs.lookup b).map HO.tbl) (.inr ⟨_,vs.toArray,_,hk,rfl,rfl,rfl,by rw [ny,lenV];exact L9,by simpa using rv⟩) (fun b u z=>?_) (fun b u z=>?_) fun p hp=>?_
  ·obtain ⟨ps,h1,rfl⟩:=mS.mp z;exact tabO h1
  ·obtain ⟨ps,h1,rfl⟩:=mS.mp z;exact .inr ⟨ps,h1,rfl⟩
  ·show (tabs.lookup p.1).map HO.tbl=_;rw [Da TO.nd hp];rfl
 | none =>
  refine core (fun b=>if b=a then some (.frz { cls:=.type "list",data:=.seq vs.toArray } (.lst (ns.map V.int))) else (tabs.lookup b).map HO.tbl) (.inl (.inr ⟨{ cls:=.type "list",data:=.seq vs.toArray },lZ rfl⟩)) (fun b u z=>?_) (fun b u z=>?_) fun p hp=>?_
  ·by_cases hb:b=a
   ·have z':=(lZ hb).symm.trans z;cases z';subst hb;exact ⟨ha,by rw [lV];exact L9,vs,_,rv,ha⟩
   ·have z':=(lY hb).symm.trans z;obtain ⟨ps,h1,rfl⟩:=mS.mp z';exact tabO h1
  ·by_cases hb:b=a
   ·have z':=(lZ hb).symm.trans z;cases z';exact .inl ⟨hb,hk,_,_,rfl⟩
   ·have z':=(lY hb).symm.trans z;obtain ⟨ps,h1,rfl⟩:=mS.mp z';exact .inr ⟨ps,h1,rfl⟩
  ·show (if p.1=a then _ else _)=_;rw [lY (tabH p hp),Da TO.nd hp];rfl
def walk_ofS{l:PySem.W.OpenLaw}{k:Nat}{q:lq}{C6:kQ kR}{XP:(kR->kW kT)->kZ->Prop}{YP:lh->kZ->Prop}{d:DefRec}{K:Params->kX}{x:kR}
  (hn:l.most=some 63) (hdf:d.params.defaults=[]) (hr:Y5 k callerA) (hY:∀(w:lh) (h:kZ),YP w h->(K w.params).In h)
  (F:∀(w:lh) (mg:kR->kW kT) (fa:kS) (h:kZ),YP w h->(K w.params).In h->h.Ns mainGlobals mg->mg d.name=some (.ref fa) ->
   ∃(fd:lv) (tabs:kQ (kS×Array kT)),Ac (K w.params) h tabs/\(∀(s:kU) (u:kT),BindsTo s fd ⟨[u],[]⟩ [(x,u)]) /\
    ∀lL:kZ,(K w.params).In lL->lL.Ns mainGlobals mg->(∃mm,lL.Ns sysModules mm)->Xe l.prog w (K w.params) mg lL nH k fa fd [x] (xq (K w.params) tabs)) (hq:importsNone q=true) :
  PySem.W.WalkO q C6 XP YP l.row.toRowW d [] (fun f vs=>PySem.call f vs):=by
 refine Att.attach_call hn hdf fun w ly lz mg mb fa o pm cd w5 a vs ns G Y ho hd B3 hmg hobj Q1 d7 hg=>?_
 have KX:=hY w _ Y;obtain ⟨fd,tabs,TO,hb,hF⟩:=F w mg fa _ Y KX G.T.g hmg;exact VA KX G.T.g G.T.b G.T.builtins G.T.nolimit G.T.bmain hg hobj Q1 d7 hr TO ((G.T.seer hq).mods.imp fun _ z=>z.1) hF hb
def SR:V->kQ V->Hp->VK->Prop:=fun x vs H Q=>∃(l:kS) (bs:kQ Bool) (b:Bool) (j:Nat),x=.ref l/\vs=[.bl b]/\H l=some (.lst (bs.map V.bl))/\j<1000/\bs[j]? =some b/\(∀i,i<j->bs[i]? ≠ some b)/\Q (.int (j:Nat)) H
def OS:Bp X "list.index" SR:=by
 intro a9 s σ H x vs v us Q I rx rv h;obtain ⟨l,bs,b,j,rfl,rfl,hH,hj,h1,h2,q⟩:=h;cases rx;obtain ⟨u,rfl,ru⟩:=rv.one;cases ru;obtain ⟨z,b9,n,r,hl,e⟩:=I.lstM hH;obtain rfl:=Dw r;obtain ⟨u7,hjb⟩:=oj.mp h1;refine ya F.slot_list_index ⟨_,e,rfl⟩ F.entry_list_index (F.args_list_index_2 _ _) (SeqAt.list_indexAt l _ n _ _ (.bool b) (yy b) j (by simpa using u7) (by lia) ?_ fun m hm hmj=>?_) ⟨e,fun y hy=>?_,⟨.int _,H,I.tok _,⟨_,rfl⟩,q⟩⟩
 ·simp [yy,hjb]
 ·have hm:m<bs.length:=by simpa using hm
  have:=h2 m hmj;rw [oh hm] at this;simpa [yy] using this
 ·have hy:y∈bs.map Value.bool:=by simpa using hy
  obtain ⟨c,_,rfl⟩:=mh.mp hy;exact Eg c b
def BU(P:lq)(w:lh)(K:kX)(mg:kR->kW kT)(lL:kZ)(k:Nat)(f:kS)(H:Hp)(Q:VK)(E:XK):Prop :=
 ∀(A:lu) (lJ:kQ Env) (s:kU),Y5 k A->sO P w K mg lL A lJ s H->codeAny (model P w) A (.call (.ref f) ⟨[],[]⟩) (CR (mK P w) lJ P w H s Q E) s
def WF(P:lq)(w:lh)(K:kX)(mg:kR->kW kT)(lL:kZ)(k:Nat)(E:XK)(te:TE):TE:=fun σ H Q=>te σ H fun x H1=>∃f,x=.ref f/\uC H1 f/\BU P w K mg lL k f H1 Q E
def Tf(hr:Y5 k X.A)(hv:PE X (.Name x p) te)(hx:qR (mK X.prog X.w) X E):PE X (.Call (.Name x p) [] [] pos) (WF X.prog X.w X.K X.mg X.lL k E te):=by
 intro a9 s σ H Q I h;refine sX (ma (hv a9 s σ H _ I h) fun u s1 h9=>?_);obtain ⟨y,H1,I1,ry,f,ey,hf,q1⟩:=h9;subst ey;obtain rfl:u=Value.ref f:=ry;refine PySem.W.callWith_F0 (hf.at I1) (sU (ud (q1 X.A X.stack s1 hr I1.env0) fun r s' hq=>?_));cases r with
 | error e=>exact hx a9 σ H1 s1 e s' I1 hq
 | ok fl =>
  cases fl with
  | ret u=>exact I1.after hq
  | next=>exact False.elim hq
  | brk=>exact False.elim hq
  | cont=>exact False.elim hq
def Tv(frL:mJ X.stack=X.ly.heap.objs.size ::mJ X.lJ)(hl:X.env.locals=X.ly.heap.objs.size)(O4:X.ex=[])(I:lQ X a9 σ H' s1)
  (fl:oU B X.lJ ea cls a0 dx .none h') (up:s1.heap.UpToSlots h') (pB:∀b o,s1.heap.get? b=some o->((∃o',X.ly.heap.get? b=some o')\/H' b≠none)->b∉mJ X.stack->B.get? b=some o)
  (hE:E cls dx H'):mK X.prog X.w X.lJ X.lB X.ly E (.ref ea) { s1 with heap:=h' }:=by
 have stay:∀b o,s1.heap.get? b=some o->((∃o',X.ly.heap.get? b=some o')\/H' b≠none)->b∉mJ X.stack->h'.get? b=some o:=fun b o h1 h2 h3=>fl.1 b o (pB b o h1 h2 h3)
 have C9:∀b,((∃o',X.ly.heap.get? b=some o')\/H' b≠none)->b∉mJ X.lJ->b∉mJ X.stack:=fun b h1 h2 h3=>by
  rw [frL] at h3;rcases mI.mp h3 with e|e
  ·rcases h1 with ⟨o',h1⟩|h1
   ·rw [e] at h1;exact absurd (mo h1) (pU _)
   ·rw [e,<-hl] at h1;exact h1 I.free
  ·exact h2 e
 have sw:∀b,H' b≠none->b∉mJ X.lJ:=fun b h1 h2=>h1 (I.stkFree b (by rw [frL];exact nJ _ h2))
 have fr1:∀b,b∈mJ X.lJ->∃o,s1.heap.get? b=some o/\∀vs,o.data ≠ .fields vs:=fun b hb=>(I.stack.mem (by show b∈mJ X.stack;rw [frL];exact nJ _ hb)).2
 have E7:Un (mJ X.lJ) [] X.lB H' X.ly.heap s1.heap:=by have:=I.lL;rw [O4] at this;exact this
 refine ⟨ea,cls,dx,H',rfl,I.os,I.bare,⟨fun b o h1 h2 h3 h4=>?_,fun b o h1 h2 h3 h4=>?_,E7.free,fun b o h1 h4=>?_,E7.tups,E7.frzs,E7.tbls⟩,fun a o ha=>?_,⟨a0,B,fl,fun b o h1 h2 h3=>?_⟩,hE⟩
 ·exact stay b o (E7.keep b o h1 h2 h3 h4) (.inl ⟨_,h1⟩) (C9 b (.inl ⟨_,h1⟩) h3)
 ·obtain ⟨sl,h5⟩:=E7.slot b o h1 h2 h3 h4;obtain ⟨o1,h6,h7⟩:=fr1 b h3;rw [h5] at h6;cases h6;obtain ⟨O1,h8⟩:=up b _ h5 h7;exact ⟨O1,h8⟩
 ·obtain ⟨o1,h5⟩:=E7.there b o h1 h4
  by_cases hb:b∈mJ X.lJ
  ·obtain ⟨o2,h6,h7⟩:=fr1 b hb;obtain ⟨O1,h8⟩:=up b _ h6 h7;exact ⟨_,h8⟩
  ·exact ⟨o1,stay b o1 h5 (.inl ⟨_,h1⟩) (C9 b (.inl ⟨_,h1⟩) hb)⟩
 ·refine (I.hok a o ha).stay (fun b u hb h1=>?_) (fun _ z=>z) (fun _ _ z=>z);have ht:H' b≠none:=by
   rcases hb with e|e
   ·rw [e,ha];exact vv _
   ·rw [e];exact vv _
  exact stay b u h1 (.inr ht) (C9 b (.inr ht) (sw b ht))
 ·obtain ⟨o1,h4⟩:∃o1,s1.heap.get? b=some o1:=by
   rcases h2 with ⟨o',h2⟩|h2
   ·exact E7.there b o' h2 (by simp)
   ·cases hq:H' b with
    | none=>exact absurd hq h2
    | some u=>exact (I.hok b u hq).there
  have h5:=pB b o1 h4 h2 (C9 b h2 h3);have h7:h'.get? b=some o:=h1;rw [fl.1 b o1 h5] at h7;cases h7;exact h5
section
variable {P:lq} {w:lh} {K:kX} {mg:kR->kW kT} {lL:kZ}
def zd(P:lq)(w:lh)(K:kX)(mg:kR->kW kT)(lL:kZ)(N:kQ kR)(q:kR)(scope:Scope)(f:kS)(cd:kT)(cells:kQ (kR×kS))(A:lu)(lJ:kQ Env)(s:kU)(H:Hp)(E:XK):Cx :=
 { Ag P w K mg lL N q scope f cd cells A lJ s H with xe:=fun e s'=>wpAny (model P w) (A.deeper (PySem.W.envX q scope s.heap.objs.size f cd cells)) (leaving (PySem.W.envX q scope s.heap.objs.size f cd cells) e) (fun _ V2=>mK P w lJ H s E e V2) (fun e' V2=>mK P w lJ H s E e' V2) s' }
def wr      :qR (mK P w) (zd P w K mg lL N q scope f cd cells A lJ s H E) E:=by
 intro a9 σ H1 s1 e s' I h;obtain ⟨ea,cls,dx,H',rfl,os,bare,un,hok,⟨a0,B,fl,pB⟩,hE⟩:=h;have I':=I.call' os un hok bare (fun b z=>absurd z (by simp));show wpAny _ _ (leaving _ (.ref ea)) _ _ s';refine Mx I'.ok.frames rfl fl fun h' fl' up=>?_
 exact Tv (X:=zd P w K mg lL N q scope f cd cells A lJ s H E) rfl rfl rfl I' fl' up (fun b o h1 h2 h3=>pB b o h1 (h2.imp_left fun ⟨o',z⟩=>I.lL.there b o' z (by show b∉([]:kQ kS);simp)) h3) hE
def Vr(C:qr H Pt fl q la lb ls clos)(L:ua H ls clos fs fvs)
  (hb:∀(pm c6 y7:kT),bindArgs (PySem.W.kla_fn "<lambda>" q la lb ls clos pm c6 y7) ⟨[],[]⟩=pure []) (p7:∀y∈ls.names,y.2=.free->y.1∈fs) (hnc:∀y∈ls.names,y.2 ≠ .cell)
  (hk:ls.kind=.function) (hco:ls.isCoroutine=false) (T5:ls.isGenerator=false)
  (body:∀(c:kS) (A:lu) (lJ:kQ Env) (s:kU),Y5 k (A.deeper (PySem.W.envX q ls s.heap.objs.size fl (.ref c) clos)) ->
   WE (zd P w K mg lL fs q ls fl (.ref c) clos A lJ s (offL H clos) (fun cls dx H'=>∀w9,lK H' w9->(∀b∈clos.map Prod.snd,w9 b=H b)->E cls dx w9)) lb (fvs.map some) (offL H clos) (fun v H'=>∀w9,lK H' w9->(∀b∈clos.map Prod.snd,w9 b=H b)->Q v w9)):BU P w K mg lL (k+1) fl H Q E:=by
 intro A lJ s hr e0;obtain ⟨pm,y7,c,oc,vs,tt,Pn,h1,h2,h3,h4,h5,h6⟩:=C;have o1:s.heap.get? fl=some (PySem.W.kla_obj "<lambda>" q la lb ls clos pm c y7):=(e0.hok fl _ h1).1;have o2:s.heap.get? c=some oc:=(e0.hok c _ h2).1;have lim:s.heap.NoLimit:=e0.mod.nolimit.keeps fun b o e=>(e0.bs b o e).1
 refine Ln hr.depth o1 rfl hco T5 rfl ⟨c,oc,vs,tt,rfl,o2,h3,h4⟩ ?_;rw [hb];refine mi (Bc hnc (fun y hy=>nomatch hy) (fun h₁ Q0 hsb=>⟨lim.fresh _ hsb,?_⟩) hk);show codeAny _ _ (.expr lb (PySem.W.envX q ls s.heap.objs.size fl (.ref c) clos)) _ _;have lF:∀b o,s.heap.get? b=some o->h₁.get? b=some o:=fun b o e=>hsb.extBut b o (mC (mo e)) (my _ e)
 have x9:∀{x:kR} {a:kS},clos.lookup x=some a->(x,a)∈clos:=fun h=>qm h
 have inC:∀{x:kR} {a:kS},clos.lookup x=some a->a∈clos.map Prod.snd:=fun h=>mh.mpr ⟨_,x9 h,rfl⟩
 have N4:∀{b:kS},b∈clos.map Prod.snd->∃o u,H b=some (Fz o)/\o.data=.cell (some u):=fun {b} z=>by
  obtain ⟨p,hp,e⟩:=mh.mp z;obtain ⟨v,o,u,z1,z2,_⟩:=L.cell hp;exact ⟨o,u,e ▸ z1,z2⟩
 have offZ:∀{b:kS} {ob:Obj},H b=some (.frz ob (.own Pt))->offL H clos b=some (.frz ob (.own Pt)):=fun {b ob} z=>by
  rw [rZ]
  ·exact z
  ·intro y;obtain ⟨o3,u3,y1,_⟩:=N4 y;rw [z] at y1;cases y1
 have hok0:mT P w (offL H clos) s.heap:=fun b o e=>by
  have e':=FA b o e;refine (e0.hok b o e').stay (fun _ _ _ z=>z) (fun d z=>L.soft z trivial) (fun d xs z=>L.soft z trivial) (fun d ob z=>?_) (fun d ps z=>L.soft z trivial);rw [rZ]
  ·exact z
  ·intro y;obtain ⟨o3,u3,y1,_⟩:=N4 y;rw [z] at y1;cases y1
 have z8:∀{b:kS},H b=none->offL H clos b=none:=fun {b} n=>by
  by_cases z:b∈clos.map Prod.snd
  ·exact uw z
  ·rw [rZ z];exact n
 have nA:∀b:kS,b∉([]:kQ kS):=fun b z=>nomatch z
 have I:lQ (zd P w K mg lL fs q ls fl (.ref c) clos A lJ s (offL H clos) (fun cls dx H'=>∀w9,lK H' w9->(∀b∈clos.map Prod.snd,w9 b=H b)->E cls dx w9)) [] (fvs.map some) (offL H clos) { s with heap:=h₁,toks:=s.toks+([]:kQ (kR×kT)).length }:=by
  refine ⟨⟨e0.mod,hk,rfl,rfl,mn _,fun y z a h1 h2=>?_,fun y hy=>?_,fun y a z _=>(mX z).elim,fun _=>hr.hd,DF e0.frames,.inr ⟨rfl,rfl⟩,fun b z=>absurd z (nA b),fun b o e=>⟨(e0.bs b o e).1,z8 (e0.bs b o e).2⟩,e0.bsz,fun b _ _=>nA b,fun b z=>absurd z (nA b),e0.funs,fun b z=>z8 (e0.frf b z)⟩,
   rfl,e0.bare,Un.kept lF,⟨_,Q0,fun i y v h1 h2 h3=>?_⟩,fun y a z=>?_,z8 (e0.hok.fresh (mn _)),fun y a z=>uw (inC z),(fun p hp=>nomatch hp),hok0.kept lF,?_⟩
  ·exact Ea L.apart (x9 h1) (x9 h2)
  ·have hy:ls.names.lookup y=some .cell\/ls.names.lookup y=some .free:=hy;rcases hy with hy|hy
   ·exact absurd rfl (hnc _ (qm hy))
   ·obtain ⟨i,hi,e⟩:=sv (p7 _ (qm hy) rfl);obtain ⟨v,_,_,a,z1,_⟩:=Paired.get L.cells (i:=i) (a:=y) (by rw [oh hi,e]);exact ⟨a,z1⟩
  ·have h1:fs[i]? =some y:=h1;have h2:(fvs.map some)[i]? =some (some v):=h2;rw [mG] at h2;obtain ⟨v',h5,h6⟩:=mS.mp h2;cases h6;obtain ⟨v2,z0,z1,a,z2,o,uu,z3,z4,z5⟩:=Paired.get L.cells h1;rw [h5] at z0;cases z0;exact ⟨uu,z5,.inr ⟨.inr z1,a,z2,o,lF _ _ (e0.hok a _ z3).1,z4⟩⟩
  ·obtain ⟨o,uu,z1,z2⟩:=N4 (inC z);exact ⟨_,o,lF _ _ (e0.hok a _ z1).1,z2⟩
  ·show (fvs.map some).length=fs.length;rw [lV,mv L.cells]
 have there:∀{b:kS},b∈clos.map Prod.snd->∃o,s.heap.get? b=some o:=fun {b} z=>by
  obtain ⟨o,uu,z1,_⟩:=N4 z;exact ⟨_,(e0.hok b _ z1).1⟩
 have nofs:∀{b:kS},b∈clos.map Prod.snd->b∉mJ lJ:=fun {b} z y=>by
  obtain ⟨o,uu,z1,_⟩:=N4 z;rw [e0.frf b y] at z1;cases z1
 have back:∀{H':Hp} {h':kZ},Un (mJ lJ) [] (offL H clos) H' s.heap h'->mT P w H' h'->Un (mJ lJ) [] H (W6 H H' clos) s.heap h'/\mT P w (W6 H H' clos) h'/\lK H' (W6 H H' clos):=fun {H' h'} JB hok=>by
  have R6:∀{b:kS},b∈clos.map Prod.snd->H' b=none:=fun {b} z=>by
   obtain ⟨o,ho⟩:=there z;exact JB.free b o ho (uw z) (by simp)
  have nin:∀{b:kS} {o:HO},H' b=some o->b∉clos.map Prod.snd:=fun {b o} e z=>by rw [R6 z] at e;cases e
  have bk:∀{b:kS} {o:HO},H' b=some o->W6 H H' clos b=some o:=fun {b o} e=>by unfold W6;rw [lY (nin e)];exact e
  refine ⟨⟨fun b o h1 n hb _=>JB.keep b o h1 (z8 n) hb (by simp),fun b o h1 n hb _=>JB.slot b o h1 (z8 n) hb (by simp),fun b o h1 n _=>?_,fun b o h1 _=>JB.there b o h1 (by simp),fun b xs e=>bk (JB.tups b xs (L.soft e trivial)),fun b ob x e=>?_,fun b ps e=>?_⟩,fun b o e=>?_,fun b o e=>bk e⟩
  ·unfold W6;rw [lY fun z=>by obtain ⟨o,uu,z1,_⟩:=N4 z;rw [n] at z1;cases z1];exact JB.free b o h1 (z8 n) (by simp)
  ·by_cases z:b∈clos.map Prod.snd
   ·unfold W6;rw [lZ z];exact e
   ·exact bk (JB.frzs b ob x (by rw [rZ z];exact e))
  ·obtain ⟨m,z⟩:=JB.tbls b ps (L.soft e trivial);exact ⟨m,bk z⟩
  ·by_cases z:b∈clos.map Prod.snd
   ·unfold W6 at e;rw [lZ z] at e;obtain ⟨o3,uu,z1,z2⟩:=N4 z;rw [e] at z1;cases z1;have z3:=(e0.hok b _ e).1;have z4:=JB.keep b o3 z3 (uw z) (nofs z) (by simp);exact ⟨z4,z4,_,z4⟩
   ·have e':=e;unfold W6 at e';rw [lY z] at e';exact (hok b o e').stay (fun _ _ _ y=>y) (fun d y=>bk y) (fun d xs y=>bk y) (fun d ob y=>bk y) (fun d ob y=>bk y)
 have BQ:∀{H':Hp} {b:kS},b∈clos.map Prod.snd->W6 H H' clos b=H b:=fun {H' b} z=>by unfold W6;rw [lZ z]
 have conv:∀{e:kT} {s':kU},mK P w lJ (offL H clos) s (fun cls dx H'=>∀w9,lK H' w9->(∀b∈clos.map Prod.snd,w9 b=H b)->E cls dx w9) e s'->mK P w lJ H s E e s':=fun {e s'} ⟨ea,cls,dx,H',e1,os,bare,JB,hok,⟨a0,B,fl,pB⟩,e2⟩=>by
  obtain ⟨un,ok,sm⟩:=back JB hok;refine ⟨ea,cls,dx,W6 H H' clos,e1,os,bare,un,ok,⟨a0,B,fl,fun b o z1 z2 z3=>pB b o z1 ?_ z3⟩,e2 _ sm fun b z=>BQ z⟩
  by_cases y:b∈clos.map Prod.snd
  ·exact .inl (there y)
  ·refine z2.imp_right fun n=>?_
   unfold W6 at n;rw [lY y] at n;exact n
 refine JE (oQ ((body c A lJ s (hr.deeper _)).run [] _ I) (fun v s' hs=>?_) fun e s' hs=>oQ hs (fun _ V2 z=>conv z) fun e' V2 z=>conv z);obtain ⟨v',H',J,F4,qq⟩:=hs;obtain ⟨un,ok,sm⟩:=back (show Un (mJ lJ) [] (offL H clos) H' s.heap s'.heap from J.lL) J.hok;exact ⟨v',_,J.os,J.bare,un,ok,F4,qq _ sm fun b z=>BQ z⟩
end
def Tk{E:kT->kU->Prop}{Q:Int->kU->Prop}(h:Q 0xFCA86420 { s with toks:=s.toks+1 }):wpAny (model P w) A (pyHash .none) Q E s:=by
 unfold pyHash;have hv:[Value.none].any Value.onHeap=false:=rfl;refine lT ?_;rw [cRoomFor,lY (by rw [hv];exact mX)];refine mi ?_;refine lT (AI (show s.TypeIs .none "NoneType" from rfl) AN.lookup ?_);show wpAny _ _ (if (some (Value.builtin "NoneType.__hash__") ==some Value.none)=true then _ else _) Q E s;rw [lY (by rw [beq_builtin_none];exact mX)];refine lT (AI (show s.TypeIs .none "NoneType" from rfl) AN.lookup ?_);show wpAny _ _ (callSpecialIfBoundUnlessNone? .none "__hash__" _ >>=_) Q E s;refine lT (wpAny_callSpecialIfBoundUnlessNone?_slot (show s.TypeIs .none "NoneType" from rfl) AN
  (Aw AN (show s.TypeIs .none "NoneType" from rfl) F.entry_NoneType_hash
   (show wpAny _ _ (do ret (<-mkInt 0xFCA86420)) _ _ s from wpAny_ret_mkInt ?_) (F.args_NoneType_hash_1 _)))
 show wpAny _ _ (if (decide (-(2:Int) ^ 63<=0xFCA86420) && decide ((0xFCA86420:Int)<2 ^ 63))=true then _ else _) Q E _;rw [lZ (by trivial)];exact mi h
def HM:kW md->kT->Bool
 | none,.none=>true
 | none,_=>false
 | some k,v=>tM k v
def KP(P:lq)(w:lh):PySem.KeyKind P w (kW md) where
 is:=HM
 hash:=fun k=>match k with
  | none=>0xFCA86420
  | some k=>FT w k
 inj:=fun v a b ha hb=>by
  cases a with
  | none =>
   cases b with
   | none=>rfl
   | some b=>rcases Yp hb with ⟨_,_,_,rfl⟩|⟨_,_,_,rfl⟩ <;>cases ha
  | some a =>
   cases b with
   | none=>rcases Yp ha with ⟨_,_,_,rfl⟩|⟨_,_,_,rfl⟩ <;>cases hb
   | some b=>rw [(Zu P w).inj v a b ha hb]
 byValue:=fun k v h=>by
  cases k with
  | none=>cases v <;>first | rfl | cases h
  | some k=>exact (Zu P w).byValue k v h
 pyHash:=fun {A E s k v Q} hv h=>by
  cases k with
  | none=>cases v <;>first | exact Tk h | cases hv
  | some k=>exact (Zu P w).pyHash hv h
 eqBool:=fun {A E s a b u v Q} hu hv h=>by
  cases a with
  | none =>
   cases u <;>first | cases hu | skip
   cases b with
   | none =>
    cases v <;>first | cases hv | skip
    exact yH _ _ _ _ _ (by simpa using h)
   | some b =>
    have h:Q false s:=by simpa using h
    rcases Yp hv with ⟨i,t,_,rfl⟩|⟨x,t,_,rfl⟩
    ·exact EE i t _ _ _ _ h
    ·exact DL x t _ _ _ _ h
  | some a =>
   cases b with
   | none =>
    cases v <;>first | cases hv | skip
    have h:Q false s:=by simpa using h
    rcases Yp hu with ⟨i,t,_,rfl⟩|⟨x,t,_,rfl⟩
    ·exact SeqAt.EqAt.int_none i t _ _ _ _ h
    ·exact SeqAt.EqAt.str_none x t _ _ _ _ h
   | some b =>
    refine (Zu P w).eqBool hu hv ?_;have:decide (some a=some b)=decide (a=b):=by simp
    rw [<-this];exact h
 «strs» :=fun k x t v h=>by
  cases k with
  | none=>cases h
  | some k=>exact (Zu P w).strs k x t v h
def VX{P:lq}{w:lh}{h:kZ}{a:kS}{f:md->kW kT}(m:h.MapOf (Zu P w) a f):h.MapOf (KP P w) a (fun k=>k.bind f):=by
 obtain ⟨o,es,ep,h1,h2,h3,h4,h5⟩:=m;refine ⟨o,es,ep,h1,h2,h3,fun e he=>let ⟨k,z1,z2⟩:=h4 e he;⟨some k,z1,z2⟩,fun k=>?_⟩;cases k with
 | some k=>exact h5 k
 | none =>
  show ((es.find? fun e=>HM none e.key).map (·.val))=none;rw [Array.find?_eq_none.mpr]
  ·rfl
  ·intro e he;obtain ⟨k,z1,_⟩:=h4 e he;rcases Yp z1 with ⟨_,_,_,z⟩|⟨_,_,_,z⟩ <;>rw [z] <;>exact mX
def IG:R2:=fun y x H Q=>∃a kvs,y=.non/\x=.ref a/\H a=some (.dK kvs)/\Q (.bl false) H
def Qe{X:Cx}:mM X (compareOp .In) IG:=by
 rintro a9 s σ H y x v u Q I ry rx ⟨a,kvs,e1,e2,e,q⟩;subst e1;subst e2;cases rx;cases ry;obtain ⟨z,hd,vs,m8,dd⟩:=uJ I.hok e;exact wpAny_in_of (knd:=KP X.prog X.w) (k:=none) rfl hd (VX dd.mapOf) ⟨.bl false,H,I.tok _,rfl,q⟩
def vt(K:kX):R2:=fun x y H Q=>IG x y H Q\/xL K x y H Q
def xT(hr:Y5 k X.A):mM X (compareOp .In) (vt X.K):=Qe.or (As hr)
def Ar:kQ V->Hp->VK->Prop:=fun xs H Q=>∃(p:kS) (as:kQ kS),xs=[.ref p]/\H p=some (.lst (as.map V.ref)) /\
 (as.length<2\/∃(a b:kS) (x y:kR) (xs ys:kQ V),as=[a,b]/\H a=some (.tup (.str x ::xs))/\H b=some (.tup (.str y ::ys))/\y≠x/\¬y.cps.toList<x.cps.toList)/\pb H (.lst (as.map V.ref)) Q
def Je:Xc X (.builtin "sorted") Ar:=by
 intro a9 s σ H xs us Q I r h;obtain ⟨p,as,rfl,hp,hc,q⟩:=h;obtain ⟨u,rfl,rx⟩:=W0 r;cases rx;obtain ⟨hz,b9,n,rv,hg⟩:=(show Z5 X.prog X.w H s.heap p (.lst (as.map V.ref)) from I.hok p _ hp)
 have N0:=xk rv;rw [N0] at hg;rw [lV] at hz;refine Vq (vs:=as.map Value.ref) ⟨_,hg,rfl,n,rfl⟩ (by rw [lV];exact hz) (fun s' kp=>?_) ?_
 ·rcases hc with hc|⟨a,b,x,y,xs,ys,rfl,ha,hb,ne,c8⟩
  ·exact .inl (by rw [lV];exact hc)
  ·obtain ⟨_,ia,ra,oa,ga,ca,na,da⟩:=(show Z5 X.prog X.w H s.heap a (.tup (.str x ::xs)) from I.hok a _ ha)
   obtain ⟨_,ib,rb,ob,gb,cb,nb,db⟩:=(show Z5 X.prog X.w H s.heap b (.tup (.str y ::ys)) from I.hok b _ hb)
   refine .inr ⟨.ref a,.ref b,tuples' true,rfl,fun s2 k2=>?_⟩;have far:∀{c:kS} {o:Obj},s.heap.get? c=some o->c≠s.heap.objs.size+1:=fun {c o} z=>mC (xu (mo z))
   have ga2:=k2 a _ (far ga) (kp _ _ ga);have gb2:=k2 b _ (far gb) (kp _ _ gb);cases ra with
   | cons z1 _ =>
    cases rb with
    | cons z2 _ =>
     obtain ⟨t,rfl⟩:=z1;obtain ⟨u,rfl⟩:=z2;refine ⟨fun E' Q' h=>OM ga2 ca da gb2 cb db h,fun E' Q' h=>Va gb2 db ga2 da ne ?_⟩;rw [mO c8];exact h
 ·obtain ⟨e,he⟩:=sortedAll_at s.heap (as.map Value.ref) (as.map Value.ref).toArray;have hn:H (s.heap.objs.size+1)=none:=I.hok.fresh (rR _);exact ⟨.ref (s.heap.objs.size+1),_,I.laid (a:=s.heap.objs.size+1) (o:=.lst (as.map V.ref)) (t':=s.toks) (fun b o h=>sortedAll_old h) (rR _) (show Z5 X.prog X.w _ _ _ (.lst _) from ⟨by rw [lV];exact hz,as.map Value.ref,e,N0 ▸ rv,he⟩),rfl,q.at _ hn⟩
end L2
end
section
namespace YM
open PySem L2 NM
def rV(c k:Int):Int:=((c+7919 * k) * 48271%2147483647) * ((c+7919 * k) * 48271%2147483647+2 * k+1)%2147483629
def ND(c k:Int):0<=rV c k:=oY _ (by left)
def OG(c k:Int):rV c k<2147483629:=pc _ (by left)
def AY(ns:kQ Int)(k:Nat):Int:=match ns[k]? with
 | some c=>rV c k
 | none=>0
abbrev Zh:=kR×kR
def Yr(k:kR):kQ kR:=if k = "points" then ["stem", "left", "right"] else if k = "cross" then ["a", "b", "c", "d"] else if k = "plain" then ["a", "b"] else ["a"]
def rj(i:Int):Nat:=pF.getD i.toNat 0
def qV(k:Nat):kR:=toString (k:Int)
def Yt(kind:kR)(c:Int)(k:Nat):kR:=if c%3=0 then ⟨#[kind.cps.toList.getD 0 0]⟩++qV k else (⟨#[rj (c / 3%26)]⟩++⟨#[rj (c / 78%26)]⟩)++qz "0" (c / 2028%3).toNat++qV k
def AL:∀k,k<100->(qV k).length<=2:=by trivial
def CB{k:Nat}(h:k<100):(k:Int).natAbs.log2<1920:=by
 rw [Int.natAbs_natCast];refine En (Nat.log2_le_self k) (by lia)
def tE(a c:Nat):Nat:=if 48<=c/\c<=57 then a * 10+(c-48) else 0
def rF(s:kR):Nat:=s.cps.toList.foldl tE 0
def CD:∀k,k<100->rF (qV k)=k:=by trivial
def zW:∀k,k<100->0<(qV k).length:=by trivial
def QJ:∀m,m<3->(qz "0" m).cps.toList.foldl tE 0=0:=by trivial
def WK:∀m,m<3->(qz "0" m).length=m:=by trivial
def XB:∀i,i<26->97<=pF.getD i 0/\pF.getD i 0<=122:=by trivial
def Ji{i:Int}(h0:0<=i)(h1:i<26):97<=rj i/\rj i<=122:=XB i.toNat (by lia)
def tF(x y:kR):(x++y).cps.toList=x.cps.toList++y.cps.toList:=wn x y
def vJ{kind:kR}{c:Int}{k:Nat}(hk:57<kind.cps.toList.getD 0 0)(h:k<100):rF (Yt kind c k)=k:=by
 have hbig:∀a c,57<c->tE a c=0:=fun a c h=>by unfold tE;rw [lY (by lia)]
 unfold Yt;split
 ·unfold rF;rw [tF,wG];show List.foldl tE (tE 0 (kind.cps.toList.getD 0 0)) _=k;rw [hbig _ _ hk];exact CD k h
 ·have a0:=oY (c / 3) (show (26:Int)≠0 by left);have a1:=pc (c / 3) (show (0:Int)<26 by left);have b0:=oY (c / 78) (show (26:Int)≠0 by left);have b1:=pc (c / 78) (show (0:Int)<26 by left);have z0:=oY (c / 2028) (show (3:Int)≠0 by left);have z1:=pc (c / 2028) (show (0:Int)<3 by left);unfold rF;rw [tF,tF,tF,wG,wG,wG];show List.foldl tE (List.foldl tE (tE (tE 0 (rj (c / 3%26))) (rj (c / 78%26))) _) _=k;rw [hbig _ (rj (c / 78%26)) (by have:=Ji b0 b1;lia),QJ _ (by lia)];exact CD k h
def we{kind:kR}{c:Int}{k:Nat}(h:k<100):2<=(Yt kind c k).length:=by
 have:=zW k h;unfold Yt;split
 ·rw [oK];show 2<=1+_;lia
 ·rw [oK,oK,oK];show 2<=1+1+_+_;lia
def RZ{kind:kR}{c:Int}{k:Nat}(h:k<100):(Yt kind c k).length<=6:=by
 have:=AL k h;unfold Yt;split
 ·rw [oK];show 1+_<=6;lia
 ·have z0:=oY (c / 2028) (show (3:Int)≠0 by left);have z1:=pc (c / 2028) (show (0:Int)<3 by left);rw [oK,oK,oK,WK _ (by lia)];show 1+1+_+_<=6;lia
def Yz(ps:kQ Zh):kQ Zh:=ps.flatMap fun p=>(Yr p.1).map fun e=>(p.2,e)
def Xo(js:kQ (Zh×Zh)):kQ Zh:=js.flatMap fun j=>[j.1,j.2]
def EW(a b:kQ Zh):Yz (a++b)=Yz a++Yz b:=wB ..
def yF(a b:kQ (Zh×Zh)):Xo (a++b)=Xo a++Xo b:=wB ..
def pE:kQ kR:=["plain", "points", "cross", "gate", "stop"]
structure Net(ps:List Zh)(js:List (Zh×Zh))(opn:List Zh):Prop where
 perm:(Xo js++opn).Perm (Yz ps)
 nd:(ps.map Prod.snd).Nodup
 apart:∀j∈js,j.1.1≠j.2.1
 kind:∀p∈ps,p.1∈pE
inductive pA(n1 n2 n3 n4:Str):List Zh->List (Zh×Zh)->Zh->Zh->Prop
 | plain (a b:Str) (h:(a,b)∈[(("a" :Str),("b" :Str)),("b", "a")]):pA n1 n2 n3 n4 [("plain",n1)] [] (n1,a) (n1,b)
 | loop (a b:Str) (h:(a,b)∈[(("left" :Str),("right" :Str)),("right", "left")]):pA n1 n2 n3 n4 [("points",n1),("plain",n2),("plain",n3),("points",n4)] [((n1, "left"),(n2, "a")),((n1, "right"),(n3, "a")),((n2, "b"),(n4,a)),((n4,b),(n3, "b"))] (n1, "stem") (n4, "stem")
 | siding (x a b k:Str) (h:[x,a,b].Perm ["stem", "left", "right"]) (hk:k∈[("stop" :Str), "gate"]):pA n1 n2 n3 n4 [("points",n1),("plain",n2),(k,n3)] [((n1,x),(n2, "b")),((n2, "a"),(n3, "a"))] (n1,a) (n1,b)
 | cross (k:Str) (hk:k∈[("gate" :Str), "stop"]):pA n1 n2 n3 n4 [("cross",n1),("gate",n2),(k,n3)] [((n1, "c"),(n2, "a")),((n3, "a"),(n1, "d"))] (n1, "a") (n1, "b")
def AU{α:Type}{d:α}{l m:kQ α}(is:kQ Nat)(h:is.Perm (List.range m.length))(e:l=is.map fun i=>m.getD i d):l.Perm m:=by
 have h2:((List.range m.length).map fun i=>m.getD i d)=m:=by
  apply List.ext_getElem
  ·simp
  ·intro i h1 h3;simp [rn,h3]
 rw [e];exact (h.map _).trans (by rw [h2])
def pA.sub{n1 n2 n3 n4:kR}{ps:kQ Zh}{js:kQ (Zh×Zh)}{a b:Zh}(h:pA n1 n2 n3 n4 ps js a b):(ps.map Prod.snd).Sublist [n1,n2,n3,n4]:=by
 cases h with
 | plain=>exact .cons_cons _ (At _)
 | loop=>exact List.Sublist.refl _
 | siding=>exact .cons_cons _ (.cons_cons _ (.cons_cons _ (At _)))
 | cross=>exact .cons_cons _ (.cons_cons _ (.cons_cons _ (At _)))
def wI{k:kR} (hk:k = "gate" \/k = "stop"):Yr k=[("a" :kR)]:=by rcases hk with rfl|rfl <;>decide +kernel
def KL:Yr "points" =[("stem" :kR), "left", "right"]:=by trivial
def AC:Yr "plain" =[("a" :kR), "b"]:=by trivial
def QL:Yr "cross" =[("a" :kR), "b", "c", "d"]:=by trivial
def pA.perm{n1 n2 n3 n4:kR}{ps:kQ Zh}{js:kQ (Zh×Zh)}{a b:Zh}(h:pA n1 n2 n3 n4 ps js a b):(Xo js++[a,b]).Perm (Yz ps):=by
 cases h with
 | plain a b h =>
  simp only [mI,vK,sR,yI] at h;rcases h with ⟨rfl,rfl⟩|⟨rfl,rfl⟩
  ·simp [Xo,Yz,AC]
  ·simp only [Xo,Yz,AC,List.flatMap_nil,Dg,mH,sQ,List.nil_append,pz];exact yP _ _ _
 | loop a b h =>
  have he:Yz [("points",n1),("plain",n2),("plain",n3),("points",n4)]=([(n1, "stem"),(n1, "left"),(n1, "right"),(n2, "a"),(n2, "b"),(n3, "a"),(n3, "b"),(n4, "stem"),(n4, "left"),(n4, "right")]:kQ Zh):=by simp [Yz,KL,AC]
  rw [he];simp only [mI,vK,sR,yI] at h;rcases h with ⟨rfl,rfl⟩|⟨rfl,rfl⟩
  ·exact AU (d:=(n1,n1)) [1,3,2,5,4,8,9,6,0,7] (show List.Perm _ (List.range 10) by left) rfl
  ·exact AU (d:=(n1,n1)) [1,3,2,5,4,9,8,6,0,7] (show List.Perm _ (List.range 10) by left) rfl
 | siding x a b k h hk =>
  have hk':k = "gate" \/k = "stop" :=by
   simp only [mI,vK,sR] at hk;exact hk.symm
  have he:Yz [("points",n1),("plain",n2),(k,n3)]=([("stem" :kR), "left", "right"].map fun e=>(n1,e))++([(n2, "a"),(n2, "b"),(n3, "a")]:kQ Zh):=by simp [Yz,KL,AC,wI hk']
  rw [he];refine An ?_ (zu _ (h.map fun e=>(n1,e)));exact AU (d:=(n1,n1)) [0,4,3,5,1,2] (show List.Perm _ (List.range 6) by left) rfl
 | cross k hk =>
  have hk':k = "gate" \/k = "stop" :=by
   simp only [mI,vK,sR] at hk;exact hk
  have he:Yz [("cross",n1),("gate",n2),(k,n3)]=([(n1, "a"),(n1, "b"),(n1, "c"),(n1, "d"),(n2, "a"),(n3, "a")]:kQ Zh):=by simp [Yz,QL,wI hk',wI (k := "gate") (.inl rfl)]
  rw [he];exact AU (d:=(n1,n1)) [2,4,5,3,0,1] (show List.Perm _ (List.range 6) by left) rfl
def pA.kind{n1 n2 n3 n4:kR}{ps:kQ Zh}{js:kQ (Zh×Zh)}{a b:Zh}(h:pA n1 n2 n3 n4 ps js a b):∀p∈ps,p.1∈pE:=by
 cases h with
 | plain=>intro p hp;simp at hp;subst hp;simp [pE]
 | loop=>intro p hp;simp at hp;rcases hp with rfl|rfl|rfl|rfl <;>simp [pE]
 | siding x a b k h hk=>intro p hp;simp at hp hk;rcases hp with rfl|rfl|rfl <;>rcases hk with rfl|rfl <;>simp [pE]
 | cross k hk=>intro p hp;simp at hp hk;rcases hp with rfl|rfl|rfl <;>rcases hk with rfl|rfl <;>simp [pE]
def pA.apart{n1 n2 n3 n4:kR}{ps:kQ Zh}{js:kQ (Zh×Zh)}{a b:Zh}(h:pA n1 n2 n3 n4 ps js a b)(nd:[n1,n2,n3,n4].Nodup):∀j∈js,j.1.1≠j.2.1:=by
 simp only [pj,mI,vK,sR,not_or,uX,not_false_eq_true,su,and_true] at nd;obtain ⟨⟨a1,a2,a3⟩,⟨b1,b2⟩,c1⟩:=nd;cases h with
 | plain=>intro j hj;cases hj
 | loop=>intro j hj;simp at hj;rcases hj with rfl|rfl|rfl|rfl <;>first|assumption|exact nR (by assumption)
 | siding x a b k h hk=>intro j hj;simp at hj;rcases hj with rfl|rfl <;>first|assumption|exact nR (by assumption)
 | cross k hk=>intro j hj;simp at hj;rcases hj with rfl|rfl <;>first|assumption|exact nR (by assumption)
def pA.opens{n1 n2 n3 n4:kR}{ps:kQ Zh}{js:kQ (Zh×Zh)}{a b:Zh}(h:pA n1 n2 n3 n4 ps js a b):a.1∈ps.map Prod.snd/\b.1∈ps.map Prod.snd:=by
 cases h <;>simp
def ym{ps:kQ Zh}{e:Zh}(h:e∈Yz ps):e.1∈ps.map Prod.snd:=by
 obtain ⟨p,hp,he⟩:=uz.mp h;obtain ⟨x,_,rfl⟩:=mh.mp he;exact mh.mpr ⟨p,hp,rfl⟩
def Net.more{ps:kQ Zh}{js:kQ (Zh×Zh)}{e:Zh}{n1 n2 n3 n4:kR}{qs:kQ Zh}{ks:kQ (Zh×Zh)}{a b:Zh}(h:Net ps js [e])(B:pA n1 n2 n3 n4 qs ks a b)(nd:[n1,n2,n3,n4].Nodup)(new:∀n∈[n1,n2,n3,n4],n∉ps.map Prod.snd):Net (ps++qs) (js++ks++[(e,a)]) [b]:=by
 have he:e.1∈ps.map Prod.snd:=ym (h.perm.subset (by simp));have ha:a.1∉ps.map Prod.snd:=new _ (B.sub.subset B.opens.1);refine ⟨?_,?_,?_,?_⟩
 ·rw [yF,yF,EW];refine An ?_ (h.perm.append B.perm);show (Xo js++Xo ks++[e,a]++[b]).Perm ((Xo js++[e])++(Xo ks++[a,b]));rw [qu,qu,qu];refine Ks _ ?_;show (Xo ks++([e]++[a,b])).Perm ([e]++(Xo ks++[a,b]));rw [<-qu,<-qu];exact zu _ MA
 ·rw [mq,pP];exact ⟨h.nd,List.Pairwise.sublist B.sub nd,fun x hx y hy z=>new y (B.sub.subset hy) (z ▸ hx)⟩
 ·intro j hj;rw [mZ,mZ] at hj;rcases hj with (z|z)|z
  ·exact h.apart j z
  ·exact B.apart nd j z
  ·simp at z;subst z;exact fun y=>ha (y ▸ he)
 ·intro p hp;rcases mZ.mp hp with z|z
  ·exact h.kind p z
  ·exact B.kind p z
def uB(s:kR)(n:Nat):Prop:=∃kd c k,(96<kd.cps.toList.getD 0 0/\kd.cps.toList.getD 0 0<123)/\k<n/\s=Yt kd c k
def pA.len{n1 n2 n3 n4:kR}{ps:kQ Zh}{js:kQ (Zh×Zh)}{a b:Zh}(h:pA n1 n2 n3 n4 ps js a b):ps.length<=4/\js.length<=4:=by
 cases h <;>simp
structure tU(i:Nat)(ps:List Zh)(js:List (Zh×Zh))(K7:Zh):Prop where
 net:Net ps js [K7]
 pl:ps.length<=1+4 * i
 jl:js.length<=5 * i
 nm:∀p∈ps,p=((("gate" :Str),("g" :Str)):Zh)\/uB p.2 (4 * i)
def tU.start:tU 0 [("gate", "g")] [] ("g", "a"):=by
 refine ⟨⟨?_,by simp,by simp,by simp [pE]⟩,by simp,by simp,by simp⟩;simp [Xo,Yz,wI (k := "gate") (.inl rfl)]
def Mv{x s:kR}(hx:x.length=1)(h:2<=s.length):s≠x:=fun z=>by rw [z] at h;lia
def tU.more{i:Nat}{ps:kQ Zh}{js:kQ (Zh×Zh)}{K7:Zh}{k1 k2 k3 k4:kR}{c1 c2 c3 c4:Int}{qs:kQ Zh}{ks:kQ (Zh×Zh)}{a b:Zh}(h:tU i ps js K7)(hi:i<20)
  (g1:96<k1.cps.toList.getD 0 0/\k1.cps.toList.getD 0 0<123) (g2:96<k2.cps.toList.getD 0 0/\k2.cps.toList.getD 0 0<123) (g3:96<k3.cps.toList.getD 0 0/\k3.cps.toList.getD 0 0<123) (g4:96<k4.cps.toList.getD 0 0/\k4.cps.toList.getD 0 0<123)
  (B:pA (Yt k1 c1 (4 * i)) (Yt k2 c2 (4 * i+1)) (Yt k3 c3 (4 * i+2)) (Yt k4 c4 (4 * i+3)) qs ks a b):tU (i+1) (ps++qs) (js++ks++[(K7,a)]) b:=by
 have v1:=vJ (c:=c1) (pV (by left) g1.1) (show 4 * i<100 by lia);have v2:=vJ (c:=c2) (pV (by left) g2.1) (show 4 * i+1<100 by lia);have v3:=vJ (c:=c3) (pV (by left) g3.1) (show 4 * i+2<100 by lia);have v4:=vJ (c:=c4) (pV (by left) g4.1) (show 4 * i+3<100 by lia);have ne:∀{x y:kR} {m n:Nat},rF x=m->rF y=n->m≠n->x≠y:=fun hx hy hn z=>hn (by rw [<-hx,<-hy,z])
 have nd:[Yt k1 c1 (4 * i),Yt k2 c2 (4 * i+1),Yt k3 c3 (4 * i+2),Yt k4 c4 (4 * i+3)].Nodup:=by
  simp [ne v1 v2 (by lia),ne v1 v3 (by lia),ne v1 v4 (by lia),ne v2 v3 (by lia),ne v2 v4 (by lia),ne v3 v4 (by lia)]
 have all:∀n∈[Yt k1 c1 (4 * i),Yt k2 c2 (4 * i+1),Yt k3 c3 (4 * i+2),Yt k4 c4 (4 * i+3)],4 * i<=rF n/\2<=n.length/\uB n (4 * (i+1)):=by
  intro n hn;simp only [mI,vK,sR] at hn;rcases hn with rfl|rfl|rfl|rfl
  ·exact ⟨by lia,we (by lia),_,_,_,g1,by lia,rfl⟩
  ·exact ⟨by lia,we (by lia),_,_,_,g2,by lia,rfl⟩
  ·exact ⟨by lia,we (by lia),_,_,_,g3,by lia,rfl⟩
  ·exact ⟨by lia,we (by lia),_,_,_,g4,by lia,rfl⟩
 refine ⟨h.net.more B nd fun n hn hm=>?_,?_,?_,?_⟩
 ·obtain ⟨p,hp,rfl⟩:=mh.mp hm;obtain ⟨a1,a2,_⟩:=all _ hn;rcases h.nm p hp with z|⟨kd,c,k,hk,c8,e⟩
  ·exact Mv (x := "g") (by trivial) a2 (by rw [z])
  ·rw [e,vJ (pV (by left) hk.1) (by lia)] at a1;lia
 ·have:=B.len.1;have:=h.pl;rw [mY];lia
 ·have:=B.len.2;have:=h.jl;rw [mY,mY];show _+_+1<=_;lia
 ·intro p hp;rcases mZ.mp hp with z|z
  ·rcases h.nm p z with y|⟨kd,c,k,hk,c8,e⟩
   ·exact .inl y
   ·exact .inr ⟨kd,c,k,hk,by lia,e⟩
  ·exact .inr (all _ (B.sub.subset (mh.mpr ⟨p,z,rfl⟩))).2.2
def tU.done{i:Nat}{ps:kQ Zh}{js:kQ (Zh×Zh)}{K7:Zh}(h:tU i ps js K7)(hi:i<20):Net (ps++[(("gate" :kR),("h" :kR))]) (js++[(K7,(("h" :kR),("a" :kR)))]) []:=by
 have A7:("h" :kR)∉ps.map Prod.snd:=fun z=>by
  obtain ⟨p,hp,e⟩:=mh.mp z;rcases h.nm p hp with y|⟨kd,c,k,hk,c8,y⟩
  ·rw [y] at e;exact absurd e (by trivial)
  ·exact Mv (x := "h") (by trivial) (we (kind:=kd) (c:=c) (k:=k) (by lia)) (by rw [<-y];exact e)
 have hc:K7.1∈ps.map Prod.snd:=ym (h.net.perm.subset (by simp));refine ⟨?_,?_,?_,?_⟩
 ·rw [yF,EW,pz];have he:Yz [("gate", "h")]=([("h", "a")]:kQ Zh):=by simp [Yz,wI (k := "gate") (.inl rfl)]
  rw [he];show (Xo js++([K7]++[(("h" :kR),("a" :kR))])).Perm _;rw [<-qu];exact zu _ h.net.perm
 ·rw [mq,pP];exact ⟨h.net.nd,by simp,fun x hx y hy z=>by simp at hy;rw [z,hy] at hx;exact A7 hx⟩
 ·intro j hj;rcases mZ.mp hj with z|z
  ·exact h.net.apart j z
  ·simp at z;subst z;exact fun y=>A7 (by have y:K7.1=("h" :kR):=y;rw [<-y];exact hc)
 ·intro p hp;rcases mZ.mp hp with z|z
  ·exact h.net.kind p z
  ·simp at z;subst z;simp [pE]
def W5(j:Nat):kR := "e" ++ qV j
def vw(Zz:kQ Zh)(i:Nat)(A9:kQ Zh)(C0:kQ (Zh×Zh)):Prop:=∃ks:kQ kR,ks.length=i/\(∀k∈ks,k = "gate" \/k = "stop")/\A9=(List.range i).map (fun j=>(ks.getD j "gate",W5 j))/\C0=(List.range i).map (fun j=>(Zz.getD j ("", ""),(W5 j,("a" :kR))))
def vw.more{Zz:kQ Zh}{i:Nat}{A9:kQ Zh}{C0:kQ (Zh×Zh)}{k:kR}{q:Zh}(h:vw Zz i A9 C0) (hk:k = "gate" \/k = "stop") (hq:Zz[i]? =some q):vw Zz (i+1) (A9++[(k,W5 i)]) (C0++[(q,(W5 i,("a" :kR)))]):=by
 obtain ⟨ks,hl,hks,rfl,rfl⟩:=h;refine ⟨ks++[k],by rw [mY,hl];rfl,?_,?_,?_⟩
 ·intro x hx;rcases mZ.mp hx with z|z
  ·exact hks x z
  ·simp at z;rw [z];exact hk
 ·rw [AW,mq];congr 1
  ·refine Cf fun j hj=>?_
   have hj:=xE.mp hj;rw [rn,rn,Ez (by lia)]
  ·show [(k,W5 i)]=[((ks++[k]).getD i "gate",W5 i)];rw [rn,DY (by lia),hl,Nat.sub_self]
   rfl
 ·rw [AW,mq];congr 1;show [(q,(W5 i,("a" :kR)))]=[(Zz.getD i ("", ""),(W5 i,("a" :kR)))];rw [rn,hq]
  rfl
def QW(k:kR):(Yr k).Nodup:=by
 unfold Yr;split
 ·decide +kernel
 ·split
  ·decide +kernel
  ·split <;>decide +kernel
theorem wo:∀{ps:kQ Zh},(ps.map Prod.snd).Nodup->(Yz ps).Nodup
 | [],_=>su
 | p ::ps,h=>by
  rw [mH,pj] at h;rw [show Yz (p ::ps)=((Yr p.1).map fun e=>(p.2,e))++Yz ps from Dg ..,pP];refine ⟨?_,wo h.2,?_⟩
  ·refine Fc _ (fun a b z y=>z ?_) (QW p.1);exact (zN y).2
  ·intro x hx y hy z;obtain ⟨e,_,rfl⟩:=mh.mp hx;rw [<-z] at hy;exact h.1 (ym hy)
def Net.ond{ps:kQ Zh}{js:kQ (Zh×Zh)}{o:kQ Zh}(h:Net ps js o):o.Nodup:=by
 have:=(h.perm.nodup_iff).mpr (wo h.nd);exact (pP.mp this).2.1
def Net.add{ps:kQ Zh}{js:kQ (Zh×Zh)}{o:kQ Zh}{k n:kR}(h:Net ps js o)(hn:n∉ps.map Prod.snd)(hk:k∈pE):Net (ps++[(k,n)]) js (o++(Yr k).map fun e=>(n,e)):=by
 refine ⟨?_,?_,h.apart,?_⟩
 ·rw [EW,<-qu];have:Yz [(k,n)]=(Yr k).map fun e=>(n,e):=by simp [Yz]
  rw [this];exact zu _ h.perm
 ·rw [mq,pP];exact ⟨h.nd,by simp,fun x hx y hy z=>by simp at hy;rw [z,hy] at hx;exact hn hx⟩
 ·intro p hp;rcases mZ.mp hp with z|z
  ·exact h.kind p z
  ·simp at z;rw [z];exact hk
def Net.join{ps:kQ Zh}{js:kQ (Zh×Zh)}{o o':kQ Zh}{a b:Zh}(h:Net ps js o)(hp:(a ::b ::o').Perm o)(ne:a.1≠b.1):Net ps (js++[(a,b)]) o':=by
 refine ⟨?_,h.nd,?_,h.kind⟩
 ·rw [yF];refine An ?_ h.perm;show (Xo js++[a,b]++o').Perm _;rw [qu];exact Ks _ hp
 ·intro j hj;rcases mZ.mp hj with z|z
  ·exact h.apart j z
  ·simp at z;rw [z];exact ne
theorem EL{α:Type}:∀{l:kQ α} {i:Nat} {a:α},l[i]? =some a->(a ::l.eraseIdx i).Perm l
 | [],_,_,h=>by cases h
 | x ::l,0,a,h=>by cases h;exact Fj _
 | x ::l,i+1,a,h=>by
  rw [CN];exact (yP x a _).trans ((EL (l:=l) h).cons x)
def Tu{α:Type}{l m:kQ α}{i j:Nat}{a b:α}(ha:l[i]? =some a)(hb:m[j]? =some b):(a ::b ::(l.eraseIdx i++m.eraseIdx j)).Perm (l++m):=by
 refine An ?_ ((EL ha).append (EL hb));show List.Perm _ (a ::(l.eraseIdx i++(b ::m.eraseIdx j)));exact (List.perm_middle.symm).cons a
def OV{l:kQ Zh}{a:Zh}(nd:l.Nodup)(ha:a∈l):(a ::l.filter fun e=>decide (e≠a)).Perm l:=by
 induction l with
 | nil=>cases ha
 | cons x l ih =>
  rw [pj] at nd
  by_cases z:x=a
  ·subst z;rw [sS,lY (by simp)];have:(l.filter fun e=>decide (e≠x))=l:=IP.mpr fun e he=>mB fun y=>nd.1 (y ▸ he)
   rw [this]
  ·rw [sS,lZ (mB z)];have ha':a∈l:=by
    rcases mI.mp ha with y|y
    ·exact absurd y.symm z
    ·exact y
   exact (yP x a _).trans ((ih nd.2 ha').cons x)
def Uc{r:Zh}{l:kQ Zh}{a:Zh}(nd:(r ::l).Nodup)(ha:a∈l):(a ::r ::l.filter fun e=>decide (e≠a)).Perm (r ::l) :=
 (yP r a _).trans ((OV (pj.mp nd).2 ha).cons r)
def GM{j:Nat}(h:j<100):rF (W5 j)=j:=by
 unfold W5 rF;rw [tF,wG];exact CD j h
def NS:∀k,k<100->(qV k).cps.toList.getD 0 0<=57:=by trivial
def Of{kd:kR}{c:Int}{k j:Nat}(hj:j<100)(hk:kd.cps.toList.getD 0 0≠101):Yt kd c k≠W5 j:=by
 intro z;have z':=nV (fun s:kR=>s.cps.toList) z;have he:(W5 j).cps.toList=101 ::(qV j).cps.toList:=by unfold W5;rw [tF];rfl
 simp only [he] at z';unfold Yt at z';split at z'
 ·rw [tF] at z';exact hk (Ad z').1
 ·rw [tF,tF,tF] at z';have b0:=oY (c / 78) (show (26:Int)≠0 by left);have b1:=pc (c / 78) (show (0:Int)<26 by left);have hb:=Ji b0 b1;have z2:=(Ad z').2;have hf:=NS j hj;rw [<-z2] at hf;have:rj (c / 78%26)<=57:=hf;lia
def Net.closed{ps:kQ Zh}{js:kQ (Zh×Zh)}{Zz A9:kQ Zh}{C0:kQ (Zh×Zh)}(h:Net ps js Zz)(hc:vw Zz Zz.length A9 C0)(hl:Zz.length<=90)(hn:∀j,j<90->W5 j∉ps.map Prod.snd):Net (ps++A9) (js++C0) []:=by
 obtain ⟨ks,hkl,hks,rfl,rfl⟩:=hc;have A7:∀n,n<=Zz.length->Net (ps++(List.range n).map fun j=>(ks.getD j "gate",W5 j)) (js++(List.range n).map fun j=>(Zz.getD j ("", ""),(W5 j,("a" :kR)))) (Zz.drop n):=by
  intro n
  induction n with
  | zero=>intro _;simpa using h
  | succ n ih =>
   intro V1;have h0:=ih (by lia);have c8:n<Zz.length:=by lia
   have J5:ks.getD n "gate" = "gate" \/ks.getD n "gate" = "stop" :=hks _ (by
    rw [rn,oh (by lia)];exact EI _)
   have k8:W5 n∉(ps++(List.range n).map fun j=>(ks.getD j "gate",W5 j)).map Prod.snd:=by
    rw [mq,mZ];rintro (z|z)
    ·exact hn n (by lia) z
    ·rw [og] at z;obtain ⟨j,hj,e⟩:=mh.mp z;have hj:=xE.mp hj;have:=nV rF e;rw [GM (by lia)] at this;have h2:rF (W5 j)=n:=this;rw [GM (by lia)] at h2;lia
   have h1:=h0.add k8 (k:=ks.getD n "gate") (by rcases J5 with z|z <;>rw [z] <;>simp [pE]);rw [wI J5] at h1;have hd:Zz.drop n=Zz.getD n ("", "") ::Zz.drop (n+1):=by
    rw [EJ c8,rn,oh c8]
    rfl
   have N1:(Zz.getD n ("", "")).1≠W5 n:=by
    have:Zz.getD n ("", "")∈Zz.drop n:=by rw [hd];simp
    have h3:=ym (h0.perm.subset (pq _ this));exact fun z=>k8 (z ▸ h3)
   have h2:=h1.join (a:=Zz.getD n ("", "")) (b:=(W5 n, "a")) (o':=Zz.drop (n+1)) (by
    rw [hd];show List.Perm _ (Zz.getD n ("", "") ::(Zz.drop (n+1)++[(W5 n,("a" :kR))]));exact (List.perm_append_singleton _ _).symm.cons _) N1
   rw [AW,mq,mq,<-qu,<-qu];exact h2
 have:=A7 Zz.length (mn _);rwa [Em] at this
end YM
end
section
namespace YM
open PySem L2 NM
def Av:∀k∈pE,57<k.cps.toList.getD 0 0/\k.cps.toList.getD 0 0≠101/\0<k.length/\k.length<=6/\(Yr k).length<=4/\0<(Yr k).length:=by trivial
def De(s:kR)(n:Nat):Prop:=∃kd∈pE,∃(c:Int) (k:Nat),k<n/\s=Yt kd c k
structure Xs(i m:Nat)(ps:List Zh)(js:List (Zh×Zh))(Zz:List Zh):Prop where
 net:Net ps js Zz
 sum:ps.length+Zz.length<=39
 jl:js.length<=m
 nm:∀p∈ps,De p.2 i
def Xs.start:Xs 0 0 [] [] []:=⟨⟨Fj _,su,by simp,by simp⟩,by simp,by simp,by simp⟩
def Xs.mono{i m i' m':Nat}{ps:kQ Zh}{js:kQ (Zh×Zh)}{Zz:kQ Zh}(h:Xs i m ps js Zz)(hi:i<=i')(hm:m<=m'):Xs i' m' ps js Zz :=
 ⟨h.net,h.sum,nj h.jl hm,fun p hp=>let ⟨kd,h1,c,k,h2,h3⟩:=h.nm p hp;⟨kd,h1,c,k,by lia,h3⟩⟩
def Xs.new{i m:Nat}{ps:kQ Zh}{js:kQ (Zh×Zh)}{Zz:kQ Zh}{kd:kR}{c:Int}(h:Xs i m ps js Zz)(hi:i<100)(hk:kd∈pE):Yt kd c i∉ps.map Prod.snd:=fun z=>by
 obtain ⟨p,hp,e⟩:=mh.mp z;obtain ⟨kd',h1,c',k,h2,h3⟩:=h.nm p hp;have:=nV rF (e.symm.trans h3);rw [vJ (Av _ hk).1 hi,vJ (Av _ h1).1 (by lia)] at this;lia
def Xs.add{i m:Nat}{ps:kQ Zh}{js:kQ (Zh×Zh)}{Zz:kQ Zh}{kd:kR}{c:Int}(h:Xs i m ps js Zz)(hi:i<100)(hk:kd∈pE)(hs:ps.length+Zz.length+(Yr kd).length<=38):Xs (i+1) m (ps++[(kd,Yt kd c i)]) js (Zz++(Yr kd).map fun e=>(Yt kd c i,e)):=by
 refine ⟨h.net.add (h.new hi hk) hk,?_,h.jl,?_⟩
 ·rw [mY,mY,lV];show _+1+_<=39;lia
 ·intro p hp;rcases mZ.mp hp with z|z
  ·exact (h.mono (rR i) (mn m)).nm p z
  ·simp at z;rw [z];exact ⟨kd,hk,c,i,by lia,rfl⟩
def Xs.join(h:Xs i m ps js o)(hp:(a ::b ::o').Perm o)(ne:a.1≠b.1):Xs i (m+1) ps (js++[(a,b)]) o':=by
 refine ⟨h.net.join hp ne,?_,?_,h.nm⟩
 ·have:=h.sum;have hl:=hp.length_eq;simp at hl;lia
 ·rw [mY];exact Nat.succ_le_succ h.jl
def Xs.done{i m:Nat}{ps:kQ Zh}{js:kQ (Zh×Zh)}{Zz A9:kQ Zh}{C0:kQ (Zh×Zh)}(h:Xs i m ps js Zz)(hi:i<=100)(hc:vw Zz Zz.length A9 C0):Net (ps++A9) (js++C0) []:=by
 have hs:=h.sum;refine h.net.closed hc (by lia) fun j hj z=>?_
 obtain ⟨p,hp,e⟩:=mh.mp z;obtain ⟨kd',h1,c',k,h2,h3⟩:=h.nm p hp;exact Of (by lia) (Av _ h1).2.1 (h3.symm.trans e)
theorem ML{α β:Type}{R:α->β->Prop}:∀{l:kQ α} {m:kQ β},Paired R l m->∀i,Paired R (l.eraseIdx i) (m.eraseIdx i)
 | _,_,.nil,_=>.nil
 | _,_,.cons r t,0=>t
 | _,_,.cons r t,i+1=>.cons r (ML t i)
theorem FJ{α β:Type}(f:α->β):∀(l:kQ α) (i:Nat),(l.map f).eraseIdx i=(l.eraseIdx i).map f
 | [],_=>rfl
 | _ ::_,0=>rfl
 | x ::l,i+1=>by rw [mH,CN,CN,mH,FJ f l i]
end YM
end
section
namespace L2
open PySem PySem.Spec PyProof.Rows
section
variable {X:Cx} {a b:li} {ta tb:TE} {p pos:Pos}
def oH (hm:X.mg "len" =none) (ha:PE X a ta) (hg:Gl X "len" :=by rfl) (h:yE a=true:=by rfl):PE X (.Call (.Name "len" p) [a] [] pos) (xj (Li X.K) (sF ta tQ)):=Z2 TY hg hm BM (Zb ha Za h) (by left) (by left) (xQ h) rfl
def qg(n:String){u:kR}{q:Pos} (hm:X.mg "isinstance" =none) (hn:X.mg u=none) (hv:bootBuiltins u=some (.type n)) (ha:PE X a ta) (hg:Gl X "isinstance" :=by rfl) (h:yE a=true:=by rfl) (hgu:Gl X u:=by rfl) (d1:u ≠ "__name__" :=by left) (d2:(u ==("__debug__" :kR))=false:=by left):PE X (.Call (.Name "isinstance" p) [a,.Name u q] [] pos) (xj (wF X.K) (sF ta (sF (tC (.ty n)) tQ))):=Z2 zy hg hm qx (Zb ha (Zb (GN (v:=.ty n) hgu hn hv rfl d1 d2) Za) h) (by left) (by left) (xQ h) (by rw [xQ rfl];rfl)
def rC{k:Nat}(hr:Y5 k X.A)(ha:PE X a ta)(hb:PE X b tb):PE X (.Compare a [.Eq] [b] pos) (pT (zw X.K) ta tb):=yR (Df hr) ha hb (Yw _)
def om{k:Nat}(hr:Y5 k X.A)(ha:PE X a ta)(hb:PE X b tb):PT X (.Compare a [.Eq] [b] pos) (vQ (pT (zw X.K) ta tb)):=Z4 (Df hr) ha hb (Yw _)
def NP{k:Nat}(hr:Y5 k X.A)(ha:PE X a ta)(hb:PE X b tb):PE X (.Compare a [.NotEq] [b] pos) (pT (ro X.K) ta tb):=yR (uQ hr) ha hb (Yw _)
def qi{k:Nat}(hr:Y5 k X.A)(ha:PE X a ta)(hb:PE X b tb):PT X (.Compare a [.NotEq] [b] pos) (vQ (pT (ro X.K) ta tb)):=Z4 (uQ hr) ha hb (Yw _)
def IQ{k:Nat}(hr:Y5 k X.A)(ha:PE X a ta)(hb:PE X b tb)(hm:behindInMarks .In b=false:=by with_unfolding_all rfl):PE X (.Compare a [.In] [b] pos) (pT (xL X.K) ta tb):=yR (As hr) ha hb hm
def vP{k:Nat}(hr:Y5 k X.A)(ha:PE X a ta)(hb:PE X b tb)(hm:behindInMarks .In b=false:=by with_unfolding_all rfl):PT X (.Compare a [.In] [b] pos) (vQ (pT (xL X.K) ta tb)):=Z4 (As hr) ha hb hm
def sV{k:Nat}(hr:Y5 k X.A)(ha:PE X a ta)(hb:PE X b tb)(hm:behindInMarks .NotIn b=false:=by with_unfolding_all rfl):PT X (.Compare a [.NotIn] [b] pos) (vQ (pT (Cw X.K) ta tb)):=Z4 (Gh hr) ha hb hm
def ml(ha:PE X a ta)(hb:PE X b tb)(hs:BJ b:=by exact fun _ _=>rfl):PE X (.Subscript a b pos) (pT (uA X.K) ta tb):=GG LP ha hb hs
def pW{q:Pos}(ha:PE X a ta)(hb:PE X b tb)(h:yE b=true:=by rfl) (y9:attributeBase a "append" X.env (eval a X.env)=eval a X.env:=by rfl)
  (N5:((backTo pos (starEach [b] X.env)).all (fun x=>!x.1) && (backToKw pos (keywordEach [] X.env)).all (fun x=>x.1.isSome)
   && decide ([b].length+([]:kQ Keyword).length+(if ([]:kQ Keyword).isEmpty then 0 else 1)<30))=true:=by rfl)
  (B9:(q.endLine ==pos.line)=true:=by rfl):PE X (.Call (.Attribute a "append" q) [b] [] pos) (Gx X.K "list" Mi ta (sF tb tQ)):=vX wK Lm PySem.F.type_list_append EU ha (Zb hb Za h) y9 N5 B9 (xQ h) rfl
end
def nZ{X:Cx}{scope:Scope}{cl:kQ (kR×kS)}{N':kQ kR}(n:Nat)(js:kQ Nat)(clos:closureFor scope X.env=pure cl)(kind:scope.kind=.function:=by rfl)(cell:∀y∈scope.names,y.2 ≠ .cell:=by trivial)
  (names:∀y∈scope.names,y.2=.local->scope.names.lookup y.1=some .local:=by trivial) (u9:tw (fun p=>X.env.cells.lookup p.1=some p.2) cl:=by repeat first | exact trivial | refine ⟨rfl,?_⟩)
  (x0:(scope.names.all fun y=>y.2 !=.free || ((cl.lookup y.1).isSome && (X.env.kindOf y.1 ==some .cell || X.env.kindOf y.1 ==some .free)))=true:=by rfl)
  (hN:N'.length=n+js.length:=by rfl) (hj:tw (fun p:Nat×Nat=>∃x,N'[n+p.1]? =some x/\X.N[p.2]? =some x/\scope.names.lookup x=some .free) ((List.range js.length).zip js):=by repeat first | exact trivial | refine ⟨⟨_,rfl,rfl,rfl⟩,?_⟩) :
  Wf X scope cl N' (fun σ=>List.replicate n none++js.map fun j=>(σ[j]?).join):=Wf.std n js kind cell names clos u9 x0 hN hj
def xg:kQ kR->Bool
 | []=>true
 | x ::l=>!l.contains x && xg l
theorem LX:∀{l:kQ kR},xg l=true->l.Nodup
 | [],_=>su
 | x ::l,h=>by
  rw [xg,pD,Bool.not_eq_true'] at h;exact pj.mpr ⟨fun z=>(by rw [JR.mpr z] at h;cases h.1),LX h.2⟩
def ng{X:Cx}{pos:Pos}(i:Nat){x:kR}(hN:xg X.N=true:=by kernel_rfl)(hi:X.N[i]? =some x:=by rfl)(hx:tW X.env.scope x:=by exact wv (lookup_relabel_local rfl))(hf:X.fn x=true\/X.env.scope.names.lookup x=some .local:=by exact wx (lookup_relabel_local rfl)):PG X (.Name x pos) (pZ i):=CP (LX hN) hi hx hf
def me{X:Cx}(i:Nat){ps:kQ kR}{x:kR}{e:li}{te:TE}{pos A8:Pos}(S:Zw X.N ps X.env.scope)(he:PE X e te)(hi:X.N[i]? =some x:=by rfl)(hx:tW X.env.scope x:=by first | exact wv rfl | exact wx rfl)(hs:swapsWith e (some (.Name x A8)) pos.line X.env=pure false:=by rfl)(hf:X.fn x=true\/X.env.scope.names.lookup x=some .local:=by first | exact .inl rfl | exact .inr rfl | assumption):PS X (.Assign [.Name x A8] e pos) (yN te (pZ i)):=Rq S.nd hi hx he hs hf
def mP{X:Cx}(i:Nat){ps:kQ kR}{x:kR}{pos:Pos}(S:Zw X.N ps X.env.scope)(hi:X.N[i]? =some x:=by rfl)(hx:tW X.env.scope x:=by first | exact wv rfl | exact wx rfl)(hf:X.fn x=true\/X.env.scope.names.lookup x=some .local:=by first | exact .inl rfl | exact .inr rfl | assumption):PG X (.Name x pos) (pZ i):=CP S.nd hi hx hf
def ph{X:Cx}{E5 tg i9:li}{C8:kQ li}{scope:Scope}{pos:Pos}{cl:kQ (kR×kS)}(N':kQ kR){fr:St->St}{wi:TI}{g:TG}{tf:TT}{te:TE}
  (S:Wf X scope cl N' fr) (hi:PI X tg i9 wi) (hg:∀{s H C ex},PG (Y0 X scope cl N' s H C ex) tg g) (hf:∀{s H C ex},PF (Y0 X scope cl N' s H C ex) C8 tf)
  (he:∀{s H C ex},PE (Y0 X scope cl N' s H C ex) E5 te) (hc:X.calm=true:=by rfl) (hs:∀x,foldedSetIterable i9 X.env x=pure x:=by intro _;rfl):PE X (.ListComp E5 [⟨tg,i9,C8,0⟩] scope pos) (zJ wi fr g tf te):=RR hc S hi (fun _ _ _ _=>hg) (fun _ _ _ _=>hf) (fun _ _ _ _=>he) hs
def vD{X:Cx}(i:Nat){ps:kQ kR}{y:kR}{py spos:Pos}{E5 tg i9:li}{C8:kQ li}{scope:Scope}{pos:Pos}{cl:kQ (kR×kS)}(N':kQ kR){fr:St->St}{wi:TI}{g:TG}{tf:TT}{te:TE}
  (F:Zw X.N ps X.env.scope) (S:Wf X scope cl N' fr) (hi:PI X tg i9 wi) (hg:∀{s H C ex},PG (Y0 X scope cl N' s H C ex) tg g) (hf:∀{s H C ex},PF (Y0 X scope cl N' s H C ex) C8 tf)
  (he:∀{s H C ex},PE (Y0 X scope cl N' s H C ex) E5 te) (hi':X.N[i]? =some y:=by rfl) (hy:tW X.env.scope y:=by exact wv rfl) (hc:X.calm=true:=by rfl) (hs:∀x,foldedSetIterable i9 X.env x=pure x:=by intro _;rfl)
  (hsw:swapsWith (.ListComp E5 [⟨tg,i9,C8,0⟩] scope pos) (some (.Name y py)) spos.line X.env=pure true:=by rfl) (D8:X.fn y=true\/X.env.scope.names.lookup y=some .local:=by first | exact .inl rfl | exact .inr rfl | assumption) :
  PS X (.Assign [.Name y py] (.ListComp E5 [⟨tg,i9,C8,0⟩] scope pos) spos) (yN (zJ wi fr g tf te) (pZ i)):=Vc F.nd hi' hy hc S hi (fun _ _ _ _=>hg) (fun _ _ _ _=>hf) (fun _ _ _ _=>he) hs hsw D8
abbrev Dn.O{K:kX}{x q:kR}{st:kY}{ps:kQ kR}(d:Dn K x q st ps)(P:lq)(w:lh)(mg:kR->kW kT)(lL:kZ)(k:Nat)(sp:Sp):Prop:=Xe P w K mg lL nH k d.f d.fd ps sp
abbrev xz.O{K:kX}{x q:kR}{st:kY}{ps:kQ kR}{v:V}(d:xz K x q st ps v)(P:lq)(w:lh)(mg:kR->kW kT)(lL:kZ)(k:Nat)(sp:Sp):Prop:=Xe P w K mg lL nH k d.f d.fd ps sp
def DQ{α β:Type}{R:α->β->Prop}{ts:kQ α}{a:β}(h:Paired R ts [a]):∃t,ts=[t]/\R t a:=by
 cases h with
 | cons r h =>
  cases h;exact ⟨_,rfl,r⟩
def Bt{α β:Type}{R:α->β->Prop}{ts:kQ α}{a b:β}(h:Paired R ts [a,b]):∃t u,ts=[t,u]/\R t a/\R u b:=by
 cases h with
 | cons r h =>
  obtain ⟨u,rfl,q⟩:=DQ h;exact ⟨_,u,rfl,r,q⟩
def Jm{α β:Type}{R:α->β->Prop}{ts:kQ α}{a b c:β}(h:Paired R ts [a,b,c]):∃t u v,ts=[t,u,v]/\R t a/\R u b/\R v c:=by
 cases h with
 | cons r h =>
  obtain ⟨u,v,rfl,q⟩:=Bt h;exact ⟨_,u,v,rfl,r,q⟩
def WJ{α:Type}{us:kQ α}(h:us.length=5):∃a b c d e,us=[a,b,c,d,e]:=by
 rcases us with _|⟨a,_|⟨b,_|⟨c,_|⟨d,_|⟨e,_|_⟩⟩⟩⟩⟩ <;>first|exact ⟨_,_,_,_,_,rfl⟩|cases h
abbrev kB(K:kX)(a b:kS)(v:Bool):Prop:=kitOne K (.ref a) (.ref b)=some v
abbrev rH(ps:kQ kR)(st:kY):Prop:=Zw ps ps (Zj st)
abbrev cB(K:kX)(a:kS):Prop:=findIn K (.ref a) "__class__" =some (some (.builtin "object.__class__"))
abbrev OE(K:kX)(mg:kR->kW kT)(x:kR)(a:kS):Prop:=AM K mg x a [.type "ValueError",.type "Exception",.type "BaseException",.type "object"] "ValueError.__new__"
structure DG(K:Frag)(mg:Str->Option Value)(x:Str)(st:Stmt)(ps:List Str) extends Dn K x x st ps where
 m:mg x=some (.ref f)
def Zx{X:Cx}{x:kR}{st:kY}{ps:kQ kR}{d:DG X.K X.mg x st ps}{sp:Sp}{j k:Nat}{e:li}{es:kQ li}{t:TA}{p pos:Pos}(F:Xe X.prog X.w X.K X.mg X.lL nH k d.f d.fd ps sp)(hr:Y5 j X.A)(ha:PA X (e ::es) t)(hg:Gl X x:=by rfl)(hj:k<=j:=by left) (L1:(x ==("__debug__" :kR))=false:=by left) (he:starEach (e ::es) X.env=(false,eval e X.env) ::starEach es X.env:=by rfl) (g8:(backTo pos (starEach es X.env)).any (·.1)=false:=by rfl):PE X (.Call (.Name x p) (e ::es) [] pos) (Bw sp [] E0 t):=X1 F (hr.mono hj) hg d.m d.F.kp d.b .nil Z3 ha L1 he g8
end L2
end
section
namespace L2
abbrev IF:=Nat->St->Hp->Prop
abbrev IC:=St->Hp->Prop
end L2
namespace L2
open PySem PySem.Spec PyProof.Rows
def mQ{K:kX}{H:Hp}{a:kS}{xs:kQ V}{v:V}{Q:VK}(h:H a=some (.tup xs))(j:Nat)(e:xs[j]? =some v)(q:Q v H):uA K (.ref a) (.int (j:Nat)) H Q:=.inr (.inl ⟨a,xs,j,v,rfl,rfl,SqT.of h,Xn e,q⟩)
def wa{K:kX}{H:Hp}{a:kS}{xs:kQ V}{v:V}{i:Int}{Q:VK}(h:H a=some (.tup xs))(e:nU xs i=some v)(q:Q v H):uA K (.ref a) (.int i) H Q:=.inr (.inl ⟨a,xs,i,v,rfl,rfl,SqT.of h,e,q⟩)
def pR{X:Cx}{K:kX}{a b:li}{ta tb:TE}{pos:Pos}(hK:X.K=K)(ha:PE X a ta)(hb:PE X b tb)(hs:BJ b:=by exact fun _ _=>rfl):PE X (.Subscript a b pos) (pT (uA K) ta tb):=by subst hK;exact GG LP ha hb hs
def lR{n:Nat}(h:n<=1000:=by simp):n<=sizeLine:=sz h
end L2
namespace L2
def lP{α:Sort u}{p R:α->Prop}{w:α}(h:p w)(k:R w):∃x,p x/\R x:=⟨w,h,k⟩
def mz{α:Sort u}{β:Sort v}{p R:α->β->Prop}{q:α->β->Prop}{w:α}{z:β}(h:p w z)(g:q w z)(k:R w z):∃x y,p x y/\q x y/\R x y:=⟨w,z,h,g,k⟩
end L2
def mw:=@L2.Paired.mapP
def oM:=@L2.PW.pt
def lW:=@L2.SqL.of
def mD:=@L2.SqT.of
def pp:=@L2.Xq.k
def pH:=@L2.lK.refl
def nS:=@L2.X8.set
def oi:=@L2.WS.of
def pM:=@L2.WE.of
def lS:=@L2.WSs.step
def lU:=@L2.WSs.last
def nX:=@L2.WSs.cut
def sJ:=@L2.Im.tup
def tz:=@L2.Im.lst
def oO:=@L2.Paired.get
def oP:=@L2.Paired.append
def nY:=@L2.lK.new
def wS:=@L2.lK.thaw
namespace K61
open PySem L2 NM
def mj(i:Nat):kY:=PySem.Challenge.pw_yardkeep_k61_come_and_leave.main.body.getD i (.Pass ⟨0,0,0,0⟩)
abbrev OF:kY:=Ya (mj 7) 0
abbrev Tj:kY:=Ya (mj 8) 0
abbrev WN:kY:=mj 16
abbrev Tn:kY:=Ya (mj 17) 0
abbrev Nm:kY:=Ya (mj 17) 1
abbrev Um:kY:=Ya (mj 17) 2
abbrev NA:kY:=Ya (mj 17) 3
abbrev Wb:kY:=Ya (mj 17) 4
def Dl:Zw ["self", "end", "lie", "one", "two"] ["self", "end", "lie"] (Zj Wb):={}
abbrev Tc:kY:=Ya (mj 17) 5
abbrev RV:kY:=Ya (mj 19) 0
abbrev Oo:kY:=Ya (mj 19) 1
abbrev Uy:kY:=Ya (mj 21) 0
abbrev XV:kY:=Ya (mj 21) 1
abbrev Uf:kY:=Ya (mj 21) 2
abbrev SU:kY:=Ya (mj 21) 3
abbrev RB:kY:=Ya (mj 22) 0
abbrev Vi:kY:=Ya (mj 22) 1
abbrev Qm:kY:=Ya (mj 22) 2
abbrev Uj:kY:=mj 26
abbrev Sg:kY:=mj 27
abbrev Hz:kY:=mj 28
def KN:rH ["name", "known"] Hz:={}
abbrev Gi:kY:=mj 29
def ES:Zw ["parts", "part_of", "part"] ["parts"] (Zj Gi):={}
abbrev IN:kY:=mj 30
def X4:Zw ["part_of", "part_at", "name", "part", "end"] ["part_of"] (Zj IN):={}
abbrev FN:kY:=mj 31
def MJ:Zw ["join", "part_at", "joined", "end"] ["join", "part_at", "joined"] (Zj FN):={}
abbrev GI:kY:=mj 32
def Ep:Zw ["joins", "part_at", "joined", "join"] ["joins", "part_at"] (Zj GI):={}
abbrev XQ:kY:=mj 33
abbrev Kx:kY:=mj 34
def xV:Zw ["signals", "part_at", "post_of", "signal", "name", "end"] ["signals", "part_at"] (Zj Kx):={}
abbrev Y3:kY:=Ya (mj 35) 0
def Ct:Zw ["self", "parts", "joins", "signals", "asked_signals", "part_at"] ["self", "parts", "joins", "signals"] (Zj Y3):={}
abbrev XC:kY:=Ya (mj 35) 1
abbrev NG:kY:=Ya (mj 35) 2
abbrev NQ:kY:=Ya (mj 35) 3
abbrev OW:kY:=Ya (mj 35) 4
abbrev OT:kY:=Ya (mj 35) 5
abbrev SL:kY:=Ya (mj 35) 6
abbrev VB:kY:=mj 36
abbrev VZ:kY:=mj 37
abbrev Ry:kY:=mj 38
abbrev IA:kY:=mj 41
def Mc:rH ["tracks", "gate"] IA:={}
abbrev KO:kY:=mj 42
def HQ:rH ["long"] KO:={}
abbrev RE:kY:=Ya (mj 46) 0
abbrev La:kY:=mj 49
def W4:Zw ["tracks", "end", "name", "entry", "part", "steps"] ["tracks", "end"] (Zj La):={}
abbrev Nv:kY:=mj 50
abbrev SI:kY:=mj 51
abbrev WG:kY:=mj 53
abbrev Fm:kY:=mj 54
def CQ:Zw ["paths", "part", "train", "path"] ["paths", "part"] (Zj Fm):={}
abbrev JX:kY:=mj 55
def Cq:Zw ["paths", "steps", "ahead", "part"] ["paths", "steps"] (Zj JX):={}
abbrev zB:kY:=mj 56
def Kd:Zw ["paths", "train", "steps", "told"] ["paths", "train", "steps"] (Zj zB):={}
abbrev Hh:kY:=mj 57
def Gs:Zw ["path", "length", "seen", "taken"] ["path", "length", "seen"] (Zj Hh):={}
abbrev IR:kY:=mj 58
def zp:Zw ["paths", "lengths", "seen", "told", "train", "path"] ["paths", "lengths", "seen"] (Zj IR):={}
abbrev Jw:kY:=mj 61
def Ao:Zw ["tracks", "begun", "post", "last", "passed"] ["tracks", "begun"] (Zj Jw):={}
abbrev Lx:kY:=mj 62
def GV:Zw ["tracks", "thing", "place"] ["tracks", "thing"] (Zj Lx):={}
abbrev Nx:kY:=mj 63
abbrev Xx:kY:=mj 65
def Rt:rH ["part"] Xx:={}
abbrev Xm:kY:=mj 66
def Oz:rH ["part"] Xm:={}
abbrev Hs:kY:=mj 69
def Dh:Zw ["route", "rules", "step"] ["route"] (Zj Hs):={}
abbrev Mq:kY:=mj 70
def BR:Zw ["rules", "ground", "rule", "told"] ["rules", "ground"] (Zj Mq):={}
abbrev HW:kY:=mj 72
def Ib:Zw ["lies", "route", "told"] ["lies", "route"] (Zj HW):={}
abbrev LQ:kY:=mj 74
def GY:rH ["told"] LQ:={}
abbrev Mb:kY:=mj 75
def Ak:Zw ["ahead", "behind", "parts", "train", "path"] ["ahead", "behind"] (Zj Mb):={}
abbrev PK:kY:=Ya (mj 76) 0
abbrev W9:kY:=Ya (mj 76) 1
def Wx:rH ["self", "train"] W9:={}
abbrev PJ:kY:=Ya (mj 76) 2
abbrev Kb:kY:=Ya (mj 76) 3
def Lz:rH ["self", "train", "length", "gate", "seen"] Kb:={}
abbrev Hq:kY:=Ya (mj 76) 4
def FR:Zw ["self", "train", "route", "seen", "path"] ["self", "train", "route", "seen"] (Zj Hq):={}
abbrev Hk:kY:=Ya (mj 76) 8
def IH:Zw ["self", "seen", "ahead"] ["self", "seen"] (Zj Hk):={}
abbrev Jo:kY:=Ya (mj 76) 10
def Km:rH ["self", "train"] Jo:={}
abbrev FX:kY:=Ya (mj 76) 12
def JO:rH ["self", "train"] FX:={}
abbrev TW:kY:=Ya (mj 76) 13
abbrev Lk:kY:=Ya (mj 76) 16
def HF:rH ["self", "train"] Lk:={}
abbrev Uq:kY:=Ya (mj 76) 17
abbrev Mn:kY:=mj 78
def Mo:Zw ["_law_cell", "_law_k", "_law_left"] ["_law_cell", "_law_k"] (Zj Mn):={}
abbrev OO:kY:=mj 79
abbrev Ni:kY:=mj 80
abbrev Sr:kY:=mj 81
abbrev LC:kY:=mj 82
def BV:Zw ["_law_kind_here", "_law_cell", "_law_k", "_law_letters", "_law_signs"] ["_law_kind_here", "_law_cell", "_law_k"] (Zj LC):={}
abbrev JP:kY:=mj 83
def Z1:Zw ["_law_cell", "_law_names", "_law_one", "_law_two", "_law_three", "_law_four", "_law_way", "_law_ends_here", "_law_far", "_law_joins", "_law_parts", "_law_turn", "_law_aside", "_law_rest"] ["_law_cell", "_law_names"] (Zj JP):={}
abbrev MO:kY:=mj 84
def Yy:Zw ["_law_cells_here", "_law_parts", "_law_joins", "_law_end", "_law_k", "_law_cell", "_law_names", "_law_j", "_law_block_here"] ["_law_cells_here"] (Zj MO):={}
abbrev Mm:kY:=mj 85
def AJ:Zw ["_law_parts", "_law_joins", "_law_rest", "_law_cell", "_law_j", "_law_end", "_law_name"] ["_law_parts", "_law_joins", "_law_rest", "_law_cell"] (Zj Mm):={}
abbrev HY:kY:=mj 86
def Yh:Zw ["_law_cells_here", "_law_parts", "_law_joins", "_law_rest", "_law_k", "_law_cell", "_law_kind_here", "_law_ends_here", "_law_name", "_law_fresh", "_law_near", "_law_other"] ["_law_cells_here"] (Zj HY):={}
abbrev Jl:kY:=mj 87
def Z6:Zw ["_law_parts", "_law_cell", "_law_letters", "_law_ends_here", "_law_kind_here", "_law_name", "_law_end", "_law_found", "_law_k", "_law_draw", "_law_signs"] ["_law_parts", "_law_cell"] (Zj Jl):={}
abbrev JJ:kY:=mj 88
def Xk:Zw ["_law_cells_here", "_law_cell", "_law_found", "_law_parts", "_law_joins", "_law_at"] ["_law_cells_here", "_law_cell"] (Zj JJ):={}
abbrev QC:kY:=mj 89
abbrev XS:kY:=mj 90
abbrev Fq:kY:=mj 93
def Ab:Zw ["_law_signals", "_law_end", "_law_name", "_law_place", "_law_spot"] ["_law_signals", "_law_end"] (Zj Fq):={}
abbrev Hl:kY:=mj 95
def Xr:Zw ["_law_doing", "e", "_law_kinds", "_law_words", "_law_word"] ["_law_doing"] (Zj Hl):={}
abbrev FF:kY:=mj 96
def Yk:Zw ["_law_keeper", "_law_yard", "_law_kept", "_law_cell", "_law_seen", "_law_parts", "_law_gates", "_law_due", "_law_gate", "_law_long", "_law_name"] ["_law_keeper", "_law_yard", "_law_kept", "_law_cell", "_law_seen"] (Zj FF):={}
abbrev GP:kY:=mj 97
def zR:Zw ["_law_keeper", "_law_kept", "_law_cell", "_law_due", "_law_name"] ["_law_keeper", "_law_kept", "_law_cell"] (Zj GP):={}
abbrev Kt:kY:=mj 98
def W2:Zw ["_law_keeper", "_law_kept", "_law_cell", "_law_held", "_law_paths", "_law_name", "_law_found"] ["_law_keeper", "_law_kept", "_law_cell", "_law_held"] (Zj Kt):={}
abbrev Jj:kY:=mj 99
def Yq:Zw ["_law_joins", "_law_signals", "_law_words", "_law_due", "_law_gate", "_law_keeper", "_law_way"] [] (Zj Jj):={}
abbrev tR:kY:=mj 100
def rY:Zw ["_law_script", "_law_yard", "_law_keeper", "_law_kept", "_law_held", "_law_k", "_law_cell", "_law_seen", "_law_j", "_law_one", "_law_handed"] ["_law_script"] (Zj tR):={}
set_option genInjectivity false in
set_option genSizeOf false in
structure Tx(K:Frag)(mg:Str->Option Value) where
 aT:Dn K "__init__" "Held.__init__" OF ["self", "part"]
 bn:Dn K "__init__" "Seen.__init__" Tj ["self", "part"]
 fE:DG K mg "is_name" WN ["thing"]
 ah:Dn K "__init__" "Part.__init__" Tn ["self", "name"]
 bN:Dn K "ends" "Part.ends" Nm ["self"]
 aK:Dn K "lies" "Part.lies" Um ["self"]
 bI:Dn K "pairs" "Part.pairs" NA ["self", "lie"]
 aM:xz K "leads" "Part.leads" Wb ["self", "end", "lie"] (.str "")
 aN:Dn K "bears" "Part.bears" Tc ["self"]
 bO:Dn K "ends" "Stop.ends" RV ["self"]
 bJ:Dn K "pairs" "Stop.pairs" Oo ["self", "lie"]
 bW:Dn K "ends" "Points.ends" Uy ["self"]
 bX:Dn K "lies" "Points.lies" XV ["self"]
 bQ:Dn K "pairs" "Points.pairs" Uf ["self", "lie"]
 bR:Dn K "bears" "Points.bears" SU ["self"]
 cp:Dn K "ends" "Cross.ends" RB ["self"]
 bY:Dn K "pairs" "Cross.pairs" Vi ["self", "lie"]
 bZ:Dn K "bears" "Cross.bears" Qm ["self"]
 fG:DG K mg "is_pair" Uj ["thing"]
 em:DG K mg "is_known" Sg ["end", "ends"]
 aH:DG K mg "refuse_name" Hz ["name", "known"]
 cM:DG K mg "parts_by_name" Gi ["parts"]
 cN:DG K mg "ends_to_parts" IN ["part_of"]
 df:DG K mg "refuse_join" FN ["join", "part_at", "joined"]
 dg:DG K mg "joined_ends" GI ["joins", "part_at"]
 dh:DG K mg "refuse_post" XQ ["end", "part_at", "ends_with_signals"]
 eo:DG K mg "posts_of" Kx ["signals", "part_at"]
 aX:xz K "__init__" "Tracks.__init__" Y3 ["self", "parts", "joins", "signals"] .non
 bE:Dn K "names" "Tracks.names" XC ["self"]
 bf:Dn K "named" "Tracks.named" NG ["self", "name"]
 bo:Dn K "beyond" "Tracks.beyond" NQ ["self", "end"]
 aL:Dn K "signal_at" "Tracks.signal_at" OW ["self", "end"]
 bK:Dn K "signals" "Tracks.signals" OT ["self"]
 bq:Dn K "end_of" "Tracks.end_of" SL ["self", "signal"]
 eu:DG K mg "gates_of" VB ["tracks"]
 dX:DG K mg "points_of" VZ ["tracks"]
 cO:DG K mg "lies_at_first" Ry ["tracks"]
 aI:DG K mg "refuse_gate" IA ["tracks", "gate"]
 az:DG K mg "refuse_length" KO ["long"]
 bC:Dn K "__init__" "Ground.__init__" RE ["self", "lie_of", "stiff_ones", "path_of", "told"]
 dC:DG K mg "steps_into" La ["tracks", "end"]
 dD:DG K mg "end_behind" Nv ["step"]
 dE:DG K mg "ends_there" SI ["tracks", "step"]
 ez:DG K mg "parts_of" WG ["steps"]
 gp:DG K mg "holder" Fm ["paths", "part"]
 bz:DG K mg "refuse_held" JX ["paths", "steps"]
 bL:DG K mg "longer" zB ["paths", "train", "steps"]
 dF:DG K mg "given_back" Hh ["path", "length", "seen"]
 dY:DG K mg "shortened" IR ["paths", "lengths", "seen"]
 eF:DG K mg "steps_on" Jw ["tracks", "begun"]
 eG:DG K mg "is_route" Lx ["tracks", "thing"]
 fH:DG K mg "lies_of" Nx ["route"]
 cT:DG K mg "rule_held" Xx ["part"]
 cI:DG K mg "rule_taken" Xm ["part"]
 eI:DG K mg "rules_of" Hs ["route"]
 fJ:DG K mg "against" Mq ["rules", "ground"]
 hV:DG K mg "laid" HW ["lies", "route"]
 au:DG K mg "refuse_against" LQ ["told"]
 fK:DG K mg "dropped" Mb ["ahead", "behind"]
 aY:Dn K "__init__" "Keeper.__init__" PK ["self", "tracks"]
 af:Dn K "refuse_no_train" "Keeper.refuse_no_train" W9 ["self", "train"]
 aV:Dn K "ground" "Keeper.ground" PJ ["self", "seen"]
 ao:Dn K "come" "Keeper.come" Kb ["self", "train", "length", "gate", "seen"]
 bg:Dn K "set_way" "Keeper.set_way" Hq ["self", "train", "route", "seen"]
 ci:Dn K "look" "Keeper.look" Hk ["self", "seen"]
 aE:Dn K "leave" "Keeper.leave" Jo ["self", "train"]
 aA:Dn K "path" "Keeper.path" FX ["self", "train"]
 bS:Dn K "paths" "Keeper.paths" TW ["self"]
 aB:Dn K "length" "Keeper.length" Lk ["self", "train"]
 aF:Dn K "trains" "Keeper.trains" Uq ["self"]
 aj:DG K mg "_law_mixed" Mn ["_law_cell", "_law_k"]
 aJ:DG K mg "_law_cell_at" OO ["_law_script", "_law_k"]
 dG:DG K mg "_law_cells" Ni ["_law_script", "_law_at", "_law_end"]
 dZ:DG K mg "_law_ends" Sr ["_law_kind_here"]
 cU:DG K mg "_law_name_by" LC ["_law_kind_here", "_law_cell", "_law_k"]
 dH:DG K mg "_law_block" JP ["_law_cell", "_law_names"]
 ee:DG K mg "_law_line" MO ["_law_cells_here"]
 di:DG K mg "_law_closed" Mm ["_law_parts", "_law_joins", "_law_rest", "_law_cell"]
 dI:DG K mg "_law_drawn" HY ["_law_cells_here"]
 cE:DG K mg "_law_signals_by" Jl ["_law_parts", "_law_cell"]
 cV:DG K mg "_law_yard_by" JJ ["_law_cells_here", "_law_cell"]
 ef:DG K mg "_law_part" QC ["_law_kind_here", "_law_name"]
 dm:DG K mg "_law_tracks" XS ["_law_yard"]
 dq:DG K mg "_law_signal" Fq ["_law_signals", "_law_end"]
 ae:DG K mg "_law_caught" Hl ["_law_doing"]
 cW:DG K mg "_law_come" FF ["_law_keeper", "_law_yard", "_law_kept", "_law_cell", "_law_seen"]
 cJ:DG K mg "_law_leave" GP ["_law_keeper", "_law_kept", "_law_cell"]
 cK:DG K mg "_law_alike" Kt ["_law_keeper", "_law_kept", "_law_cell", "_law_held"]
 aU:DG K mg "_law_two_gates" Jj []
 {cz:Addr}
 jn:mg "Part" =some (.ref cz)
 fO:oF K cz
 gD:lX K cz "name"
 jh:Mk K cz ah.f
 gq:Xa K cz "ends" bN.f
 gu:Xa K cz "lies" aK.f
 fP:Xa K cz "pairs" bI.f
 fQ:Xa K cz "bears" aN.f
 fR:Xa K cz "leads" aM.f
 {bF:Addr}
 hW:mg "Plain" =some (.ref bF)
 dJ:oF K bF
 eg:lX K bF "name"
 gN:Mk K bF ah.f
 fS:Xa K bF "ends" bN.f
 fT:Xa K bF "lies" aK.f
 fg:Xa K bF "pairs" bI.f
 fh:Xa K bF "bears" aN.f
 fi:Xa K bF "leads" aM.f
 {br:Addr}
 iC:mg "Stop" =some (.ref br)
 eJ:oF K br
 eK:lX K br "name"
 iH:Mk K br ah.f
 gw:Xa K br "ends" bO.f
 gx:Xa K br "lies" aK.f
 fU:Xa K br "pairs" bJ.f
 fV:Xa K br "bears" aN.f
 fW:Xa K br "leads" aM.f
 {bt:Addr}
 gO:mg "Gate" =some (.ref bt)
 eM:oF K bt
 eN:lX K bt "name"
 gE:Mk K bt ah.f
 gy:Xa K bt "ends" bO.f
 gz:Xa K bt "lies" aK.f
 fX:Xa K bt "pairs" bJ.f
 fY:Xa K bt "bears" aN.f
 fZ:Xa K bt "leads" aM.f
 {aG:Addr}
 gP:mg "Points" =some (.ref aG)
 cY:oF K aG
 dL:lX K aG "name"
 hZ:Mk K aG ah.f
 fk:Xa K aG "ends" bW.f
 fm:Xa K aG "lies" bX.f
 eO:Xa K aG "pairs" bQ.f
 eP:Xa K aG "bears" bR.f
 eQ:Xa K aG "leads" aM.f
 {bG:Addr}
 iI:mg "Cross" =some (.ref bG)
 dM:oF K bG
 ei:lX K bG "name"
 iq:Mk K bG ah.f
 gc:Xa K bG "ends" cp.f
 ge:Xa K bG "lies" aK.f
 ft:Xa K bG "pairs" bY.f
 fw:Xa K bG "bears" bZ.f
 fz:Xa K bG "leads" aM.f
 {aO:Addr}
 gQ:mg "Tracks" =some (.ref aO)
 am:oF K aO
 bu:lX K aO "part_of"
 bT:lX K aO "joined"
 bv:lX K aO "post_of"
 bD:lX K aO "signal_on"
 gA:Mk K aO aX.f
 cZ:Xa K aO "names" bE.f
 cA:Xa K aO "named" bf.f
 cP:Xa K aO "beyond" bo.f
 bM:Xa K aO "signal_at" aL.f
 dR:Xa K aO "signals" bK.f
 cQ:Xa K aO "end_of" bq.f
 {cj:Addr}
 ir:mg "Ground" =some (.ref cj)
 eR:oF K cj
 eS:lX K cj "lie_of"
 dA:lX K cj "stiff_ones"
 cR:lX K cj "path_of"
 dN:lX K cj "told"
 ic:Mk K cj bC.f
 {aQ:Addr}
 gR:mg "Keeper" =some (.ref aQ)
 ac:oF K aQ
 aR:lX K aQ "tracks"
 bU:lX K aQ "lie_of"
 cD:lX K aQ "stiff_ones"
 aZ:lX K aQ "length_of"
 ak:lX K aQ "path_of"
 gB:Mk K aQ aY.f
 aw:Xa K aQ "refuse_no_train" af.f
 cm:Xa K aQ "ground" aV.f
 bA:Xa K aQ "come" ao.f
 dS:Xa K aQ "set_way" bg.f
 fA:Xa K aQ "look" ci.f
 de:Xa K aQ "leave" aE.f
 ck:Xa K aQ "path" aA.f
 eU:Xa K aQ "paths" bS.f
 cS:Xa K aQ "length" aB.f
 aW:Xa K aQ "trains" aF.f
 {ay:Addr}
 gF:mg "YardError" =some (.ref ay)
 {aq:Addr}
 ig:mg "BadName" =some (.ref aq)
 {aD:Addr}
 iu:mg "BadEnd" =some (.ref aD)
 {ar:Addr}
 ii:mg "TooMany" =some (.ref ar)
 {ax:Addr}
 ij:mg "NoTrain" =some (.ref ax)
 {cq:Addr}
 iw:mg "BadWay" =some (.ref cq)
 {cw:Addr}
 ix:mg "NoTurn" =some (.ref cw)
 {aS:Addr}
 gS:mg "Held" =some (.ref aS)
 {ba:Addr}
 iD:mg "Seen" =some (.ref ba)
 {cL:Addr}
 iJ:mg "Stiff" =some (.ref cL)
 bw:mg "len" =none
 ek:mg "range" =none
 ag:mg "isinstance" =none
 dU:mg "list" =none
 dW:mg "dict" =none
 gT:mg "tuple" =none
 ej:mg "str" =none
 bP:mg "enumerate" =none
 iE:mg "max" =none
 iF:mg "min" =none
 iT:mg "sum" =none
 bV:mg "sorted" =none
 iU:mg "all" =none
 eV:mg "bool" =none
 fL:mg "int" =none
 ik:mg "repr" =none
 gf:mg "ValueError" =none
 jp:kitOne K (.type "tuple") (.type "tuple")=some true
 ji:kitOne K (.type "str") (.type "str")=some true
 ju:kitOne K (.type "NoneType") (.type "str")=some false
 jq:kitOne K (.type "int") (.type "int")=some true
 jt:kitOne K (.type "int") (.type "bool")=some false
 jv:kitOne K (.type "bool") (.type "int")=some true
 jw:kitOne K (.type "bool") (.type "bool")=some true
 jx:kitOne K (.type "NoneType") (.type "int")=some false
 jy:kitOne K (.type "str") (.type "int")=some false
 iV:kB K cz br false
 iK:kB K bF br false
 iW:kB K br br true
 iX:kB K bt br true
 iy:kB K aG br false
 iL:kB K bG br false
 iY:kB K cz bt false
 iM:kB K bF bt false
 iZ:kB K br bt false
 jb:kB K bt bt true
 iz:kB K aG bt false
 iN:kB K bG bt false
 jc:kB K cz aG false
 iO:kB K bF aG false
 jd:kB K br aG false
 je:kB K bt aG false
 iA:kB K aG aG true
 iP:kB K bG aG false
 jz:kB K aq aq true
 jC:kB K aq aD false
 jD:kB K aq ar false
 jE:kB K aq ax false
 jF:kB K aq cq false
 jG:kB K aq cw false
 jH:kB K aq aS false
 jI:kB K aq ba false
 jJ:kB K aq cL false
 jf:kB K aD aq false
 iQ:kB K aD aD true
 jg:kB K aD ar false
 iG:kB K aD ax false
 hU:kB K aD cq false
 jK:kB K aD cw false
 jj:kB K aD aS false
 jk:kB K aD ba false
 jL:kB K aD cL false
 jM:kB K ar aq false
 jN:kB K ar aD false
 jO:kB K ar ar true
 jP:kB K ar ax false
 jQ:kB K ar cq false
 jR:kB K ar cw false
 jS:kB K ar aS false
 jT:kB K ar ba false
 jU:kB K ar cL false
 jV:kB K ax aq false
 jW:kB K ax aD false
 jX:kB K ax ar false
 jY:kB K ax ax true
 jZ:kB K ax cq false
 kf:kB K ax cw false
 kg:kB K ax aS false
 kh:kB K ax ba false
 ki:kB K ax cL false
 kl:kB K aS aq false
 kr:kB K aS aD false
 kt:kB K aS ar false
 ku:kB K aS ax false
 kx:kB K aS cq false
 ky:kB K aS cw false
 kz:kB K aS aS true
 kA:kB K aS ba false
 kE:kB K aS cL false
 kF:kB K ba aq false
 kG:kB K ba aD false
 kH:kB K ba ar false
 kI:kB K ba ax false
 kJ:kB K ba cq false
 kK:kB K ba cw false
 kL:kB K ba aS false
 kM:kB K ba ba true
 kN:kB K ba cL false
 c0:PySem.W.kitCls K (.ref aq) (.ref ay)=some true
 c1:PySem.W.kitCls K (.ref aD) (.ref ay)=some true
 c2:PySem.W.kitCls K (.ref ar) (.ref ay)=some true
 c3:PySem.W.kitCls K (.ref ax) (.ref ay)=some true
 c4:PySem.W.kitCls K (.ref aS) (.ref ay)=some true
 c5:PySem.W.kitCls K (.ref ba) (.ref ay)=some true
 v0:kitOne K (.ref aq) (.type "ValueError")=some true
 v1:kitOne K (.ref aD) (.type "ValueError")=some true
 v2:kitOne K (.ref ar) (.type "ValueError")=some true
 v3:kitOne K (.ref ax) (.type "ValueError")=some true
 v4:kitOne K (.ref aS) (.type "ValueError")=some true
 v5:kitOne K (.ref ba) (.type "ValueError")=some true
 kO:kitOne K (.ref ay) (.type "BaseException")=some true
 cF:OE K mg "YardError" ay
 fM:OE K mg "BadName" aq
 gC:OE K mg "BadEnd" aD
 cH:OE K mg "TooMany" ar
 gU:OE K mg "NoTrain" ax
 dB:XI K aS ay aT.f "part"
 iR:XG K aS
 eW:XI K ba ay bn.f "part"
 iS:XG K ba
 fN:∃tk,mg "LETTERS" =some (.str "abcdefghijklmnopqrstuvwxyz" tk)
 gW:∃tk,mg "FIGURES" =some (.str "0123456789" tk)
 gX:XG K aq
 il:XG K aD
 gY:XG K ar
 gZ:XG K ax
 eY:∃tk,mg "LONGEST_NAME" =some (.int 6 tk)
 gh:∃tk,mg "MOST_PARTS" =some (.int 40 tk)
 eZ:∃tk,mg "MOST_SIGNALS" =some (.int 40 tk)
 bx:∃tk,mg "LONGEST_TRAIN" =some (.int 4 tk)
 gi:∃tk,mg "MOST_STEPS" =some (.int 12 tk)
 {dO:Addr}
 io:mg "NO_END" =some (.ref dO)
 ip:∀H:Hp,SqT K H dO ([.str "",.str ""]:List V)
 tG:PySem.W.specialIn K (.builtin "object.__class__") "__get__" =some (some (.builtin "getset_descriptor.__get__"))
 tK:PySem.W.takesIn K (.builtin "object.__class__")=some true
 gG:cB K cz
 gI:PySem.W.mroIn K cz (.type "object")=some true
 gj:cB K bF
 gk:PySem.W.mroIn K bF (.type "object")=some true
 gJ:cB K br
 gK:PySem.W.mroIn K br (.type "object")=some true
 gL:cB K bt
 gM:PySem.W.mroIn K bt (.type "object")=some true
 fe:cB K aG
 ff:PySem.W.mroIn K aG (.type "object")=some true
 gm:cB K bG
 gn:PySem.W.mroIn K bG (.type "object")=some true
 kP:(Value.ref aS ==Value.ref ay)=false
 {bH:Addr}
 dP:tH K cT.fd bH
 {bi:Addr}
 du:tH K cI.fd bi
 {bh:Addr}
 dQ:tH K cW.fd bh
 {bc:Addr}
 dw:tH K cJ.fd bc
 {bd:Addr}
 dz:tH K cK.fd bd
 {ap:Addr}
 cG:tH K aU.fd ap
section
variable {P:lq} {w:lh} {K:kX} {mg:kR->kW kT} {lL:kZ} (T:Tx K mg)
seal PySem.wpAny
structure pY(T:Tx K mg)(H:Hp):Prop where
 rule_held:H T.bH=some (.tbl (uW (xx (qw Xx)) (("rule_held" :Str) ++ ".<locals>." ++ "<lambda>")))
 rule_taken:H T.bi=some (.tbl (uW (xx (qw Xm)) (("rule_taken" :Str) ++ ".<locals>." ++ "<lambda>")))
 _law_come:H T.bh=some (.tbl (Xj [(590,23,("_law_come" :Str) ++ ".<locals>." ++ "<lambda>")]))
 _law_leave:H T.bc=some (.tbl (Xj [(597,23,("_law_leave" :Str) ++ ".<locals>." ++ "<lambda>")]))
 _law_alike:H T.bd=some (.tbl (Xj [(611,19,("_law_alike" :Str) ++ ".<locals>." ++ "<lambda>"),(613,23,("_law_alike" :Str) ++ ".<locals>." ++ "<lambda>")]))
 _law_two_gates:H T.ap=some (.tbl (Xj [(618,30,("_law_two_gates" :Str) ++ ".<locals>." ++ "<lambda>"),(620,34,("_law_two_gates" :Str) ++ ".<locals>." ++ "<lambda>"),(622,38,("_law_two_gates" :Str) ++ ".<locals>." ++ "<lambda>"),(625,38,("_law_two_gates" :Str) ++ ".<locals>." ++ "<lambda>")]))
def pY.mono(e:lK H H')(h:pY U H):pY U H':=⟨e _ _ h.rule_held,e _ _ h.rule_taken,e _ _ h._law_come,e _ _ h._law_leave,e _ _ h._law_alike,e _ _ h._law_two_gates⟩
abbrev Tx.tabs (T:Tx K mg):kQ (kS×Array kT):=[(T.bH,(uW (xx (qw Xx)) (("rule_held" :kR) ++ ".<locals>." ++ "<lambda>"))),(T.bi,(uW (xx (qw Xm)) (("rule_taken" :kR) ++ ".<locals>." ++ "<lambda>"))),(T.bh,(Xj [(590,23,("_law_come" :kR) ++ ".<locals>." ++ "<lambda>")])),(T.bc,(Xj [(597,23,("_law_leave" :kR) ++ ".<locals>." ++ "<lambda>")])),(T.bd,(Xj [(611,19,("_law_alike" :kR) ++ ".<locals>." ++ "<lambda>"),(613,23,("_law_alike" :kR) ++ ".<locals>." ++ "<lambda>")])),(T.ap,(Xj [(618,30,("_law_two_gates" :kR) ++ ".<locals>." ++ "<lambda>"),(620,34,("_law_two_gates" :kR) ++ ".<locals>." ++ "<lambda>"),(622,38,("_law_two_gates" :kR) ++ ".<locals>." ++ "<lambda>"),(625,38,("_law_two_gates" :kR) ++ ".<locals>." ++ "<lambda>")]))]
def pY.of{T:Tx K mg}{H:Hp}(h:∀p∈T.tabs,H p.1=some (.tbl p.2)):pY T H:=⟨h (T.bH,(uW (xx (qw Xx)) (("rule_held" :kR) ++ ".<locals>." ++ "<lambda>"))) (by simp),h (T.bi,(uW (xx (qw Xm)) (("rule_taken" :kR) ++ ".<locals>." ++ "<lambda>"))) (by simp),h (T.bh,(Xj [(590,23,("_law_come" :kR) ++ ".<locals>." ++ "<lambda>")])) (by simp),h (T.bc,(Xj [(597,23,("_law_leave" :kR) ++ ".<locals>." ++ "<lambda>")])) (by simp),h (T.bd,(Xj [(611,19,("_law_alike" :kR) ++ ".<locals>." ++ "<lambda>"),(613,23,("_law_alike" :kR) ++ ".<locals>." ++ "<lambda>")])) (by simp),h (T.ap,(Xj [(618,30,("_law_two_gates" :kR) ++ ".<locals>." ++ "<lambda>"),(620,34,("_law_two_gates" :kR) ++ ".<locals>." ++ "<lambda>"),(622,38,("_law_two_gates" :kR) ++ ".<locals>." ++ "<lambda>"),(625,38,("_law_two_gates" :kR) ++ ".<locals>." ++ "<lambda>")])) (by simp)⟩
open YM
inductive DN:Sp
 | mk (c k):vs=[.int c,.int k]->Q (.int (rV c k)) H->DN  vs H Q E
inductive Cn(K:kX):Sp
 | mk (a) (ns:kQ Int) (k:Nat):vs=[.ref a,.int k]->SqL K H a (ns.map V.int)->Q (.int (AY ns k)) H->Cn K vs H Q E
def Qa:T.aj.O P w mg lL 1 DN:=by
 refine T.aj.F.okW Mo ?_;rfl'
 ·obtain ⟨c,k,rfl,q⟩:=h;intro X D;refine lS (me 2 Mo (Zo Yi (Zo wW (Zo Wz (pv 0) (Zo wW Zf (pv 1))) Zf) Zf)) ?_;refine (lP rfl (lP rfl (mz rfl rfl ⟨.inl ⟨by left,by left⟩,.inl (mz rfl rfl (mz rfl rfl ⟨.inr ⟨by left,by left⟩,_,_,rfl,rfl,(by show (0:Int)<2147483647;decide),?_⟩))⟩)));refine lU (Zm (Zo Yi (Zo wW (pv 2) (Zo Wz (Zo Wz (pv 2) (Zo wW Zf (pv 1))) Zf)) Zf)) ?_;refine (lP rfl (lP rfl (lP rfl (mz rfl rfl ⟨.inl ⟨by left,by left⟩,.inl (mz rfl rfl (.inl (mz rfl rfl (mz rfl rfl ⟨.inl ?_,_,_,rfl,rfl,(by show (0:Int)<2147483629;decide),q⟩))))⟩))));have h1:=oY ((c+7919 * k) * 48271) (show (2147483647:Int)≠0 by left);have h2:=pc ((c+7919 * k) * 48271) (show (0:Int)<2147483647 by left)
  constructor <;>lia
def Wq(h:1<=k:=by left):T.aj.O P w mg lL k DN:=(Qa T).mono h
def Qh:T.aJ.O P w mg lL 2 (Cn K):=by
 refine T.aJ.F.okA ?_;rfl'
 ·obtain ⟨a,ns,k,rfl,hS,q⟩:=h;intro X D;refine lS (Zt (Z4 uN (pv 1) (oH T.bw (pv 0)) (Yw _)) Zn Zk) ?_;refine (lP rfl (lP rfl (.inl ⟨a,_,rfl,.inl hS,_,_,rfl,rfl,_,rfl,Yj (fun c8=>?_) (fun c8=>?_)⟩)))
  ·have c8:=nM c8;rw [lV] at c8;have hk:k<ns.length:=by lia
   have e:ns[k]? =some ns[k]:=by simp [hk]
   refine lU (Zm (X1 (Wq T) hr rfl T.aj.m T.aj.F.kp T.aj.b .nil Z3 (Zb (ml (pv 0) (pv 1)) (Zb (pv 1) Za)))) (lP rfl (lP rfl (.inl ⟨a,_,_,V.int ns[k],rfl,rfl,hS,Xn (by rw [mG,e];rfl),_,rfl,ns[k],k,rfl,?_⟩)));unfold AY at q;rw [e] at q;exact q
  ·have c8:¬((k:Int)<((ns.map V.int).length:Int)):=fun z=>c8 (mB z)
   rw [lV] at c8;have e:ns[k]? =none:=uc (by lia);unfold AY at q;rw [e] at q;exact lU (Zm Zf) q
def KI(h:2<=k:=by left):T.aJ.O P w mg lL k (Cn K):=(Qh T).mono h
inductive FL:Sp
 | mk (k):vs=[.str k]->(∀p H',lK H H'->H p=none->H' p=some (.lst ((Yr k).map V.str))->Q (.ref p) H')->FL  vs H Q E
def Iv:T.dZ.O P w mg lL 1 FL:=by
 refine T.dZ.F.okA ?_;rfl'
 ·obtain ⟨k,rfl,q⟩:=h;intro X D;refine lS (Zt (om hr (pv 0) Ze) Zn Zk) (lP rfl (.inl ⟨rfl,_,rfl,Yj (fun hc=>?_) (fun hc=>?_)⟩))
  ·have hc:k = "points" :=by simpa using hc
   subst hc;exact lU (Zm (Zl (Zb Ze (Zb Ze (Zb Ze Za))))) ⟨lR,fun p H1 s1 n1 e1=>q p H1 s1 n1 e1⟩
  have h1:¬k = "points" :=by simpa using hc
  refine lS (Zt (om hr (pv 0) Ze) Zn Zk) (lP rfl (.inl ⟨rfl,_,rfl,Yj (fun hc=>?_) (fun hc=>?_)⟩))
  ·have hc:k = "cross" :=by simpa using hc
   subst hc;exact lU (Zm (Zl (Zb Ze (Zb Ze (Zb Ze (Zb Ze Za)))))) ⟨lR,fun p H1 s1 n1 e1=>q p H1 s1 n1 e1⟩
  have h2:¬k = "cross" :=by simpa using hc
  refine lS (Zt (om hr (pv 0) Ze) Zn Zk) (lP rfl (.inl ⟨rfl,_,rfl,Yj (fun hc=>?_) (fun hc=>?_)⟩))
  ·have hc:k = "plain" :=by simpa using hc
   subst hc;exact lU (Zm (Zl (Zb Ze (Zb Ze Za)))) ⟨lR,fun p H1 s1 n1 e1=>q p H1 s1 n1 e1⟩
  have h3:¬k = "plain" :=by simpa using hc
  exact lU (Zm (Zl (Zb Ze Za))) ⟨lR,fun p H1 s1 n1 e1=>q p H1 s1 n1 (by unfold Yr;rw [lY h1,lY h2,lY h3];exact e1)⟩
def yf(hl:l.length=n)(h0:0<=i)(h1:i<n):nU l i=some (l.getD i.toNat 0):=by
 have e:i=((i.toNat:Nat):Int):=by lia
 have hi:i.toNat<l.length:=by lia
 rw [e];refine Xn ?_;rw [rn,yZ,oh hi]
 rfl
def qN(c:Int):Int:=c%2028+2028 * (c / 2028%2)
inductive Hv:Sp
 | mk (kind:kR) (c) (k:Nat):vs=[.str kind,.int c,.int k]->0<kind.length->kind.length<=100->0<=c->k<100->Q (.str (Yt kind (qN c) k)) H->Hv  vs H Q E
def Jr:T.cU.O P w mg lL 1 Hv:=by
 refine T.cU.F.okW BV ?_;rfl'
 ·obtain ⟨kind,c,k,rfl,hk0,hkl,hc,hk,q⟩:=h;intro X D;refine lS (me 3 BV Ze) ?_;have fl:=AL k hk;refine lS (Zt (om hr (Zo Yi (pv 1) Zf) Zf) Zn Zk) (lP rfl (mz rfl rfl ⟨(by show (0:Int)<3;decide),.inl ⟨rfl,_,rfl,Yj (fun hc3=>?_) (fun hc3=>?_)⟩⟩))
  ·have hc3:c%3=0:=by simpa using hc3
   unfold Yt at q;rw [lZ (show qN c%3=0 by unfold qN;lia)] at q;refine lU (Zm (Zo Wz (ml (pv 0) Zf) (Y6 zI (by rfl) T.ej uL (Zb (pv 2) Za)))) (lP rfl (.inr (.inr ⟨kind,0,kind.cps.toList.getD 0 0,rfl,rfl,sz (by lia),?_,_,rfl,(k:Int),rfl,CB hk,.inr (.inl (mz rfl rfl ⟨sz ?_,q⟩))⟩)))
   ·have:(0:Int)<kind.cps.toList.length:=by rw [sM];exact Int.ofNat_lt.mpr hk0
    exact yf (n:=kind.cps.toList.length) rfl (by left) this
   ·show 1+(qV k).length<=1000;lia
  have hc3:¬c%3=0:=by simpa using hc3
  have a0:=oY (c / 3) (show (26:Int)≠0 by left);have a1:=pc (c / 3) (show (0:Int)<26 by left);have b0:=oY (c / 78) (show (26:Int)≠0 by left);have b1:=pc (c / 78) (show (0:Int)<26 by left);have z0:=oY (c / 2028) (show (2:Int)≠0 by left);have z1:=pc (c / 2028) (show (0:Int)<2 by left);obtain ⟨zn,hzn⟩:∃zn:Nat,c / 2028%2=(zn:Int):=⟨(c / 2028%2).toNat,by lia⟩
  unfold Yt at q;rw [lY (show ¬qN c%3=0 by unfold qN;lia),show qN c / 2028%3=(zn:Int) by unfold qN;lia,yZ,show qN c / 3%26=c / 3%26 by unfold qN;lia,show qN c / 78%26=c / 78%26 by unfold qN;lia] at q;refine lS (me 4 BV (Zo Wz (ml (pv 3) (Zo Yi (Zo Yo (pv 1) Zf) Zf)) (ml (pv 3) (Zo Yi (Zo Yo (pv 1) Zf) Zf)))) (lP rfl (lP rfl (mz rfl rfl ⟨⟨by left,by left⟩,_,_,rfl,rfl,(by show (0:Int)<26;decide),.inr (.inr ⟨_,_,rj (c / 3%26),rfl,rfl,sz (by rw [Bo];decide),(by rw [zo];exact yf (n:=26) rfl a0 a1),?_⟩)⟩)));refine (lP rfl (lP rfl (mz rfl rfl ⟨⟨by left,by left⟩,_,_,rfl,rfl,(by show (0:Int)<26;decide),.inr (.inr ⟨_,_,rj (c / 78%26),rfl,rfl,sz (by rw [Bo];decide),(by rw [zo];exact yf (n:=26) rfl b0 b1),.inr (.inl (mz rfl rfl ⟨sz (by show 1+1<=1000;decide),?_⟩))⟩)⟩)));have rl:(qz "0" zn).length<=2:=by
   have:zn<3:=by lia
   have hd:∀m,m<3->(qz "0" m).length<=2:=by trivial
   exact hd zn this
  have ll:(⟨#[rj (c / 3%26)]⟩++⟨#[rj (c / 78%26)]⟩:kR).length=2:=by rw [oK];rfl
  refine lU (Zm (Zo Wz (Zo Wz (pv 4) (Zo Lj Ze (Zo Yi (Zo Yo (pv 1) Zf) Zf))) (Y6 zI (by rfl) T.ej uL (Zb (pv 2) Za)))) (lP rfl (lP rfl (mz rfl rfl ⟨⟨by left,by left⟩,_,_,rfl,rfl,(by show (0:Int)<2;decide), "0",zn,rfl,by rw [<-hzn],by show 1 * zn<=1000;lia,by lia,.inr (.inl (mz rfl rfl ⟨sz (by rw [ll];lia),_,rfl,(k:Int),rfl,CB hk,.inr (.inl (mz rfl rfl ⟨sz ?_,q⟩))⟩))⟩)));show _+(qV k).length<=1000;rw [oK,ll];lia
def Zr(H:Hp)(t:kS)(q:Zh):Prop:=H t=some (.tup [.str q.1,.str q.2])
def Wm(H:Hp)(t:kS)(j:Zh×Zh):Prop:=∃a b,H t=some (.tup [.ref a,.ref b])/\Zr H a j.1/\Zr H b j.2
def Zv(H:Hp)(l:kS)(ps:kQ Zh):Prop:=∃ts:kQ kS,H l=some (.lst (ts.map V.ref))/\Paired (Zr H) ts ps
def Yl(H:Hp)(l:kS)(js:kQ (Zh×Zh)):Prop:=∃ts:kQ kS,H l=some (.lst (ts.map V.ref))/\Paired (Wm H) ts js
def Zr.mono(e:lK H H')(h:Zr H t q):Zr H' t q:=e.at h
def Wm.mono(e:lK H H')(h:Wm H t j):Wm H' t j:=let ⟨a,b,h1,h2,h3⟩:=h;⟨a,b,e.at h1,h2.mono e,h3.mono e⟩
def Zv.mono(e:lK H H')(h:Zv H l ps):Zv H' l ps:=let ⟨ts,h1,h2⟩:=h;⟨ts,e.at h1,mw h2 fun _ _ r=>r.mono e⟩
def Yl.mono(e:lK H H')(h:Yl H l js):Yl H' l js:=let ⟨ts,h1,h2⟩:=h;⟨ts,e.at h1,mw h2 fun _ _ r=>r.mono e⟩
inductive MK:Sp
 | mk (c nl n1 n2 n3 n4):vs=[.int c,.ref nl]->H nl=some (.lst [.str n1,.str n2,.str n3,.str n4])->(∀(t:kS) (H':Hp) (pl jl ie oe:kS) (ps:kQ Zh) (js:kQ (Zh×Zh)) (e1 e2:Zh),lK H H'->H' t=some (.tup [.ref pl,.ref jl,.ref ie,.ref oe])->Zv H' pl ps->Yl H' jl js->Zr H' ie e1->Zr H' oe e2->pA n1 n2 n3 n4 ps js e1 e2->Q (.ref t) H')->MK  vs H Q E
def Be  :∃w,nU [u,v] (n%2)=some w/\((n%2=0/\w=u)\/(n%2=1/\w=v)):=by
 have h0:=oY n (show (2:Int)≠0 by left);have h1:=pc n (show (0:Int)<2 by left);generalize n%2=m at h0 h1;have:m=0\/m=1:=by lia
 rcases this with rfl|rfl
 ·exact ⟨u,rfl,.inl ⟨rfl,rfl⟩⟩
 ·exact ⟨v,rfl,.inr ⟨rfl,rfl⟩⟩
def PB{l D:kS}{xs:kQ kR}{x:kR}{H1:Hp}{Q:VK}{σ:St}(hl:H1 l=some (.lst (xs.map V.str)))(hn:xs.length<=100)(hD:H1 D=none)(q:∀H',lK H1 H'->H' D=some (.lst ((xs.filter fun e=>decide (e≠x)).map V.str))->Q (.ref D) H'){fr:St->St}(p7:fr σ=[none,some (.str x)]){tf:TT}(htf:tf=vQ (pT (ro K) (qp 0) (qp 1))) :
  pS (rc K l) fr (pZ 0) tf (qp 0) Q σ H1 D:=by
 refine Xv (xs:=xs.map V.str) (fun i ys H'=>ys=((xs.take i).filter fun e=>decide (e≠x)).map V.str/\H' D=some (.lst ys)/\lK H1 H') ⟨rfl,Zc,nY hD⟩ ?_ ?_ ?_
 ·rintro i ys H' _ ⟨_,_,sm⟩;exact lW (sm.at hl)
 ·rintro k v ys H' hk ⟨rfl,v6,sm⟩;rw [mG] at hk;obtain ⟨y,hy,rfl⟩:=mS.mp hk;unfold Wi;rw [p7,htf];refine ⟨nS rfl,_,rfl,_,rfl,.inl ⟨rfl,_,rfl,Yj (fun hc=>?_) (fun hc=>?_)⟩⟩
  ·have hc:y≠x:=by simpa using hc
   refine (lP rfl ⟨v6,?_,?_,Zc,fun b o e=>?_⟩)
   ·rw [lV];have:=xb (fun e:kR=>decide (e≠x)) (xs.take k);rw [nI] at this;exact Zp (by lia)
   ·rw [nq,hy,wD,mq,show (some y).toList=[y] from rfl,sS,lZ (mB hc)]
    rfl
   ·rw [Zd (Zg e hD)];exact sm.at e
  ·have hc:¬y≠x:=by simpa using hc
   refine ⟨?_,v6,sm⟩;rw [nq,hy,wD,show (some y).toList=[y] from rfl,sS,lY (by simpa using hc),zF,pz]
 ·rintro ys H6 ⟨rfl,E9,s6⟩;rw [lV,ow] at E9;exact q H6 s6 E9
def QQ:T.dH.O P w mg lL 1 MK:=by
 refine T.dH.F.okW Z1 ?_;rfl'
 ·obtain ⟨c,nl,n1,n2,n3,n4,rfl,hnl,q⟩:=h;intro X D;refine lS (ID (pv 1) (SA rfl (Zq (mP 2 Z1) (Zq (mP 3 Z1) (Zq (mP 4 Z1) (Zq (mP 5 Z1) Y9)))))) (lP rfl ⟨nl,_,rfl,lW hnl,rfl,_,_,rfl,_,_,rfl,_,_,rfl,_,_,rfl,rfl,?_⟩);refine lS (me 6 Z1 (Zo Yi (pv 0) Zf)) (lP rfl (mz rfl rfl ⟨(by show (0:Int)<8;decide),?_⟩));refine lS (Zt (Z4 uN (pv 6) Zf (Yw _)) Zn Zk) (lP rfl (mz rfl rfl (lP rfl (Yj (fun _=>?_) (fun _=>?_)))))
  ·refine lS (me 7 Z1 (ml (Zl (Zb (Zl (Zb Ze (Zb Ze Za))) (Zb (Zl (Zb Ze (Zb Ze Za))) Za))) (Zo Yi (Zo Yo (pv 0) Zf) Zf))) ⟨lR,fun la H1 s1 _ e1=>⟨lR,fun lb H2 s2 _ e2=>⟨lR,fun ll H3 s3 _ e3=>(lP rfl (mz rfl rfl ⟨⟨by left,by left⟩,_,_,rfl,rfl,(by show (0:Int)<2;decide),?_⟩))⟩⟩⟩;obtain ⟨l7,a,b,A5,h7,R7⟩:∃l7 a b,nU [V.ref la,.ref lb] (c / 8%2)=some (.ref l7)/\H3 l7=some (.lst [.str a,.str b])/\(a,b)∈[(("a" :kR),("b" :kR)),("b", "a")]:=by
    obtain ⟨w,hw,h | h⟩:=Be (n:=c / 8) (u:=V.ref la) (v:=V.ref lb)
    ·exact ⟨la, "a", "b",by rw [hw,h.2],s3.at (s2.at e1),by simp⟩
    ·exact ⟨lb, "b", "a",by rw [hw,h.2],s3.at e2,by simp⟩
   refine .inl ⟨ll,_,_,.ref l7,rfl,rfl,lW e3,A5,?_⟩;have s03:=s1.trans (s2.trans s3);refine lU (Zm (Zi (Zb (Zl (Zb (Zi (Zb Ze (Zb (pv 2) Za))) Za)) (Zb (Zl Za) (Zb (Zi (Zb (pv 2) (Zb (ml (pv 7) Zf) Za))) (Zb (Zi (Zb (pv 2) (Zb (ml (pv 7) Zf) Za))) Za)))))) (lP rfl ⟨lR,fun t1 H4 s4 _ e4=>⟨lR,fun pl H5 s5 _ e5=>⟨lR,fun jl H6 s6 _ e6=>(lP rfl (lP rfl (.inl ⟨l7,_,_,.str a,rfl,rfl,lW (s6.at (s5.at (s4.at h7))),rfl,lR,fun ie H7 s7 _ e7=>(lP rfl (lP rfl (.inl ⟨l7,_,_,.str b,rfl,rfl,lW (s7.at (s6.at (s5.at (s4.at h7)))),rfl,lR,fun oe H8 s8 _ e8=>⟨lR,fun t H9 s9 _ e9=>?_⟩⟩)))⟩)))⟩⟩⟩);exact q t H9 pl jl ie oe _ _ _ _ (s03.trans (s4.trans (s5.trans (s6.trans (s7.trans (s8.trans s9)))))) e9 ⟨[t1],s9.at (s8.at (s7.at (s6.at e5))),.cons (s9.at (s8.at (s7.at (s6.at (s5.at e4))))) .nil⟩ ⟨[],s9.at (s8.at (s7.at e6)),.nil⟩ (s9.at (s8.at e7)) (s9.at e8) (.plain a b R7)
  refine lS (Zt (Z4 uN (pv 6) Zf (Yw _)) Zn Zk) (lP rfl (mz rfl rfl (lP rfl (Yj (fun _=>?_) (fun _=>?_)))))
  ·refine lS (me 8 Z1 (ml (Zl (Zb (Zl (Zb Ze (Zb Ze Za))) (Zb (Zl (Zb Ze (Zb Ze Za))) Za))) (Zo Yi (Zo Yo (pv 0) Zf) Zf))) ⟨lR,fun la H1 s1 _ e1=>⟨lR,fun lb H2 s2 _ e2=>⟨lR,fun ll H3 s3 _ e3=>(lP rfl (mz rfl rfl ⟨⟨by left,by left⟩,_,_,rfl,rfl,(by show (0:Int)<2;decide),?_⟩))⟩⟩⟩;obtain ⟨l7,a,b,A5,h7,R7⟩:∃l7 a b,nU [V.ref la,.ref lb] (c / 8%2)=some (.ref l7)/\H3 l7=some (.lst [.str a,.str b])/\(a,b)∈[(("left" :kR),("right" :kR)),("right", "left")]:=by
    obtain ⟨w,hw,h | h⟩:=Be (n:=c / 8) (u:=V.ref la) (v:=V.ref lb)
    ·exact ⟨la, "left", "right",by rw [hw,h.2],s3.at (s2.at e1),by simp⟩
    ·exact ⟨lb, "right", "left",by rw [hw,h.2],s3.at e2,by simp⟩
   refine .inl ⟨ll,_,_,.ref l7,rfl,rfl,lW e3,A5,?_⟩;have s03:=s1.trans (s2.trans s3);refine lS (me 9 Z1 (Zl (Zb (Zi (Zb (Zi (Zb (pv 2) (Zb Ze Za))) (Zb (Zi (Zb (pv 3) (Zb Ze Za))) Za))) (Zb (Zi (Zb (Zi (Zb (pv 2) (Zb Ze Za))) (Zb (Zi (Zb (pv 4) (Zb Ze Za))) Za))) Za)))) (lP rfl ⟨lR,fun a1 H4 s4 _ f1=>(lP rfl ⟨lR,fun a2 H5 s5 _ f2=>⟨lR,fun j1 H6 s6 _ f3=>(lP rfl ⟨lR,fun a3 H7 s7 _ f4=>(lP rfl ⟨lR,fun a4 H8 s8 _ f5=>⟨lR,fun j2 H9 s9 _ f6=>⟨lR,fun jA H10 A1 _ f7=>?_⟩⟩⟩)⟩)⟩⟩)⟩);have J1:Wm H10 j1 ((n1, "left"),(n2, "a")):=⟨a1,a2,A1.at (s9.at (s8.at (s7.at f3))),A1.at (s9.at (s8.at (s7.at (s6.at (s5.at f1))))),A1.at (s9.at (s8.at (s7.at (s6.at f2))))⟩
   have J2:Wm H10 j2 ((n1, "right"),(n3, "a")):=⟨a3,a4,A1.at f6,A1.at (s9.at (s8.at f4)),A1.at (s9.at f5)⟩
   have s0A:=s03.trans (s4.trans (s5.trans (s6.trans (s7.trans (s8.trans (s9.trans A1))))));have h7:=(s4.trans (s5.trans (s6.trans (s7.trans (s8.trans (s9.trans A1)))))).at h7;clear s1 s2 s3 s4 s5 s6 s7 s8 s9 A1 f1 f2 f3 f4 f5 f6 e1 e2 e3 s03;refine lS (me 9 Z1 (Zo Wz (pv 9) (Zl (Zb (Zi (Zb (Zi (Zb (pv 3) (Zb Ze Za))) (Zb (Zi (Zb (pv 5) (Zb (ml (pv 8) Zf) Za))) Za))) (Zb (Zi (Zb (Zi (Zb (pv 5) (Zb (ml (pv 8) Zf) Za))) (Zb (Zi (Zb (pv 4) (Zb Ze Za))) Za))) Za))))) (lP rfl (lP rfl ⟨lR,fun b1 H11 A2 _ f1=>(lP rfl (lP rfl (.inl ⟨l7,_,_,.str a,rfl,rfl,lW (A2.at h7),rfl,lR,fun b2 H12 B4 _ f2=>⟨lR,fun j3 H13 m7 _ f3=>(lP rfl (lP rfl (.inl ⟨l7,_,_,.str b,rfl,rfl,lW (m7.at (B4.at (A2.at h7))),rfl,lR,fun b3 H14 u6 _ f4=>(lP rfl ⟨lR,fun b4 H15 C3 _ f5=>⟨lR,fun j4 H16 A3 _ f6=>⟨lR,fun jB H17 C4 _ f8=>.inr (.inr ⟨jA,jB,_,_,rfl,rfl,(A2.trans (B4.trans (m7.trans (u6.trans (C3.trans (A3.trans C4)))))).at f7,f8,lR,fun jl H18 K3 _ f9=>?_⟩)⟩⟩⟩)⟩)))⟩⟩)))⟩));have sAB:=A2.trans (B4.trans (m7.trans (u6.trans (C3.trans (A3.trans (C4.trans K3))))));have J3:Wm H18 j3 ((n2, "b"),(n4,a)):=⟨b1,b2,(u6.trans (C3.trans (A3.trans (C4.trans K3)))).at f3,(B4.trans (m7.trans (u6.trans (C3.trans (A3.trans (C4.trans K3)))))).at f1,(m7.trans (u6.trans (C3.trans (A3.trans (C4.trans K3))))).at f2⟩
   have J4:Wm H18 j4 ((n4,b),(n3, "b")):=⟨b3,b4,(C4.trans K3).at f6,(C3.trans (A3.trans (C4.trans K3))).at f4,(A3.trans (C4.trans K3)).at f5⟩
   have u7:Yl H18 jl [((n1, "left"),(n2, "a")),((n1, "right"),(n3, "a")),((n2, "b"),(n4,a)),((n4,b),(n3, "b"))]:=⟨[j1,j2,j3,j4],f9,.cons (J1.mono sAB) (.cons (J2.mono sAB) (.cons J3 (.cons J4 .nil)))⟩
   have U4:=s0A.trans sAB;clear J1 J2 J3 J4 A2 B4 m7 u6 C3 A3 C4 K3 sAB s0A f1 f2 f3 f4 f5 f6 f7 f8 f9 h7;refine lS (me 10 Z1 (Zl (Zb (Zi (Zb Ze (Zb (pv 2) Za))) (Zb (Zi (Zb Ze (Zb (pv 3) Za))) (Zb (Zi (Zb Ze (Zb (pv 4) Za))) (Zb (Zi (Zb Ze (Zb (pv 5) Za))) Za)))))) (lP rfl ⟨lR,fun c1 G1 s1 _ f1=>(lP rfl ⟨lR,fun c2 G2 s2 _ f2=>(lP rfl ⟨lR,fun c3 G3 s3 _ f3=>(lP rfl ⟨lR,fun c4 G4 s4 _ f4=>⟨lR,fun pl G5 s5 _ f5=>?_⟩⟩)⟩)⟩)⟩);have g8:Zv G5 pl [("points",n1),("plain",n2),("plain",n3),("points",n4)]:=⟨[c1,c2,c3,c4],f5,.cons (s5.at (s4.at (s3.at (s2.at f1)))) (.cons (s5.at (s4.at (s3.at f2))) (.cons (s5.at (s4.at f3)) (.cons (s5.at f4) .nil)))⟩
   have sG:=s1.trans (s2.trans (s3.trans (s4.trans s5)));refine lU (Zm (Zi (Zb (pv 10) (Zb (pv 9) (Zb (Zi (Zb (pv 2) (Zb Ze Za))) (Zb (Zi (Zb (pv 5) (Zb Ze Za))) Za)))))) (lP rfl (lP rfl (lP rfl ⟨lR,fun ie G6 s6 _ f6=>(lP rfl ⟨lR,fun oe G7 s7 _ f7=>⟨lR,fun t G8 s8 _ f8=>?_⟩⟩)⟩)));have R8:=s6.trans (s7.trans s8);exact q t G8 pl jl ie oe _ _ _ _ (U4.trans (sG.trans R8)) f8 (g8.mono R8) (u7.mono (sG.trans R8)) ((s7.trans s8).at f6) (s8.at f7) (.loop a b R7)
  refine lS (Zt (Z4 uN (pv 6) Zf (Yw _)) Zn Zk) (lP rfl (mz rfl rfl (lP rfl (Yj (fun _=>?_) (fun _=>?_)))))
  ·refine lS (me 7 Z1 (Zl (Zb Ze (Zb Ze (Zb Ze Za))))) ⟨lR,fun le H1 s1 _ e1=>?_⟩;refine lS (me 11 Z1 (Zo Yi (Zo Yo (pv 0) Zf) Zf)) (lP rfl (mz rfl rfl ⟨⟨by left,by left⟩,_,_,rfl,rfl,(by show (0:Int)<3;decide),?_⟩));obtain ⟨x,r0,r1,A5,R1,hpm⟩:∃x r0 r1:kR,nU [V.str "stem",.str "left",.str "right"] (2-c / 8%3)=some (.str x)/\(([("stem" :kR), "left", "right"].filter fun e=>decide (e≠x))=[r0,r1])/\[x,r0,r1].Perm ["stem", "left", "right"]:=by
    have h0:=oY (c / 8) (show (3:Int)≠0 by left);have h1:=pc (c / 8) (show (0:Int)<3 by left);generalize c / 8%3=m at h0 h1;have:m=0\/m=1\/m=2:=by lia
    rcases this with rfl|rfl|rfl
    ·exact ⟨"right", "stem", "left",rfl,by trivial,by trivial⟩
    ·exact ⟨"left", "stem", "right",rfl,by trivial,by trivial⟩
    ·exact ⟨"stem", "left", "right",rfl,by trivial,by trivial⟩
   refine lS (me 12 Z1 (ml (pv 7) (Zo xF Zf (pv 11)))) (lP rfl (lP rfl (mz rfl rfl (.inl ⟨le,_,_,.str x,rfl,rfl,lW e1,A5,?_⟩))));refine lS (me 9 Z1 (Zl (Zb (Zi (Zb (Zi (Zb (pv 2) (Zb (pv 12) Za))) (Zb (Zi (Zb (pv 3) (Zb Ze Za))) Za))) (Zb (Zi (Zb (Zi (Zb (pv 3) (Zb Ze Za))) (Zb (Zi (Zb (pv 4) (Zb Ze Za))) Za))) Za)))) (lP rfl (lP rfl ⟨lR,fun a1 H2 s2 _ f1=>(lP rfl ⟨lR,fun a2 H3 s3 _ f2=>⟨lR,fun j1 H4 s4 _ f3=>(lP rfl ⟨lR,fun a3 H5 s5 _ f4=>(lP rfl ⟨lR,fun a4 H6 s6 _ f5=>⟨lR,fun j2 H7 s7 _ f6=>⟨lR,fun jl H8 s8 _ f7=>?_⟩⟩⟩)⟩)⟩⟩)⟩));have u7:Yl H8 jl [((n1,x),(n2, "b")),((n2, "a"),(n3, "a"))]:=⟨[j1,j2],f7,.cons ⟨a1,a2,(s5.trans (s6.trans (s7.trans s8))).at f3,(s3.trans (s4.trans (s5.trans (s6.trans (s7.trans s8))))).at f1,(s4.trans (s5.trans (s6.trans (s7.trans s8)))).at f2⟩ (.cons ⟨a3,a4,s8.at f6,(s6.trans (s7.trans s8)).at f4,(s7.trans s8).at f5⟩ .nil)⟩
   have s28:=s2.trans (s3.trans (s4.trans (s5.trans (s6.trans (s7.trans s8)))));have s08:=s1.trans s28;have e1:=s28.at e1;clear s1 s2 s3 s4 s5 s6 s7 s8 f1 f2 f3 f4 f5 f6 f7 s28;refine lS (vD 13 ["_law_end", "_law_aside"] Z1 (nZ 1 [12] rfl) (Ym (pv 7)) (ng 0) (rP (Z4 (r:=ro K) (uQ hr) (pv 0) (pv 1) (Yw _))) (pv 0)) (lP rfl ⟨lW e1,fun lr hlr=>?_⟩);refine PB (xs:=["stem", "left", "right"]) (x:=x) e1 (by left) hlr (fun H9 s9 e9=>?qq) ?aa ?bb
   case aa=>rfl
   case bb=>rfl
   rw [R1] at e9;obtain ⟨kd,J5,hkm⟩:∃kd:kR,nU [V.str "stop",.str "gate"] (c / 24%2)=some (.str kd)/\kd∈[("stop" :kR), "gate"]:=by
    obtain ⟨w,hw,h | h⟩:=Be (n:=c / 24) (u:=V.str "stop") (v:=V.str "gate")
    ·exact ⟨"stop",by rw [hw,h.2],by simp⟩
    ·exact ⟨"gate",by rw [hw,h.2],by simp⟩
   refine lS (me 10 Z1 (Zl (Zb (Zi (Zb Ze (Zb (pv 2) Za))) (Zb (Zi (Zb Ze (Zb (pv 3) Za))) (Zb (Zi (Zb (ml (Zl (Zb Ze (Zb Ze Za))) (Zo Yi (Zo Yo (pv 0) Zf) Zf)) (Zb (pv 4) Za))) Za))))) (lP rfl ⟨lR,fun c1 G1 s1 _ f1=>(lP rfl ⟨lR,fun c2 G2 s2 _ f2=>⟨lR,fun lk G3 s3 _ f3=>(lP rfl (mz rfl rfl ⟨⟨by left,by left⟩,_,_,rfl,rfl,(by show (0:Int)<2;decide),.inl ⟨lk,_,_,.str kd,rfl,rfl,lW f3,J5,_,rfl,lR,fun c3 G4 s4 _ f4=>⟨lR,fun pl G5 s5 _ f5=>?_⟩⟩⟩))⟩⟩)⟩);have g8:Zv G5 pl [("points",n1),("plain",n2),(kd,n3)]:=⟨[c1,c2,c3],f5,.cons (s5.at (s4.at (s3.at (s2.at f1)))) (.cons (s5.at (s4.at (s3.at f2))) (.cons (s5.at f4) .nil))⟩
   have sG:=s1.trans (s2.trans (s3.trans (s4.trans s5)));obtain ⟨a,b,ha,hb,R7⟩:∃a b:kR,nU [V.str r0,.str r1] (c / 48%2)=some (.str a)/\nU [V.str r0,.str r1] (1-c / 48%2)=some (.str b)/\[x,a,b].Perm ["stem", "left", "right"]:=by
    have h0:=oY (c / 48) (show (2:Int)≠0 by left);have h1:=pc (c / 48) (show (0:Int)<2 by left);generalize c / 48%2=m at h0 h1;have:m=0\/m=1:=by lia
    rcases this with rfl|rfl
    ·exact ⟨r0,r1,rfl,rfl,hpm⟩
    ·exact ⟨r1,r0,rfl,rfl,((yP r0 r1 []).cons x).trans hpm⟩
   refine lU (Zm (Zi (Zb (pv 10) (Zb (pv 9) (Zb (Zi (Zb (pv 2) (Zb (ml (pv 13) (Zo Yi (Zo Yo (pv 0) Zf) Zf)) Za))) (Zb (Zi (Zb (pv 2) (Zb (ml (pv 13) (Zo xF Zf (Zo Yi (Zo Yo (pv 0) Zf) Zf))) Za))) Za)))))) (lP rfl (lP rfl (lP rfl (lP rfl (lP rfl (mz rfl rfl ⟨⟨by left,by left⟩,_,_,rfl,rfl,(by show (0:Int)<2;decide),.inl ⟨lr,_,_,.str a,rfl,rfl,lW (sG.at e9),ha,lR,fun ie G6 s6 _ f6=>?_⟩⟩))))));refine (lP rfl (lP rfl (lP rfl (mz rfl rfl ⟨⟨by left,by left⟩,_,_,rfl,rfl,(by show (0:Int)<2;decide),_,_,rfl,rfl,.inl ⟨lr,_,_,.str b,rfl,rfl,lW (s6.at (sG.at e9)),hb,lR,fun oe G7 s7 _ f7=>⟨lR,fun t G8 s8 _ f8=>?_⟩⟩⟩))));have R8:=s6.trans (s7.trans s8);exact q t G8 pl jl ie oe _ _ _ _ (s08.trans (s9.trans (sG.trans R8))) f8 (g8.mono R8) (u7.mono (s9.trans (sG.trans R8))) ((s7.trans s8).at f6) (s8.at f7) (.siding x a b kd R7 hkm)
  refine lS (me 9 Z1 (Zl (Zb (Zi (Zb (Zi (Zb (pv 2) (Zb Ze Za))) (Zb (Zi (Zb (pv 3) (Zb Ze Za))) Za))) (Zb (Zi (Zb (Zi (Zb (pv 4) (Zb Ze Za))) (Zb (Zi (Zb (pv 2) (Zb Ze Za))) Za))) Za)))) (lP rfl ⟨lR,fun a1 H2 s2 _ f1=>(lP rfl ⟨lR,fun a2 H3 s3 _ f2=>⟨lR,fun j1 H4 s4 _ f3=>(lP rfl ⟨lR,fun a3 H5 s5 _ f4=>(lP rfl ⟨lR,fun a4 H6 s6 _ f5=>⟨lR,fun j2 H7 s7 _ f6=>⟨lR,fun jl H8 s8 _ f7=>?_⟩⟩⟩)⟩)⟩⟩)⟩);have u7:Yl H8 jl [((n1, "c"),(n2, "a")),((n3, "a"),(n1, "d"))]:=⟨[j1,j2],f7,.cons ⟨a1,a2,(s5.trans (s6.trans (s7.trans s8))).at f3,(s3.trans (s4.trans (s5.trans (s6.trans (s7.trans s8))))).at f1,(s4.trans (s5.trans (s6.trans (s7.trans s8)))).at f2⟩ (.cons ⟨a3,a4,s8.at f6,(s6.trans (s7.trans s8)).at f4,(s7.trans s8).at f5⟩ .nil)⟩
  have s08:=s2.trans (s3.trans (s4.trans (s5.trans (s6.trans (s7.trans s8)))));clear s2 s3 s4 s5 s6 s7 s8 f1 f2 f3 f4 f5 f6 f7;obtain ⟨kd,J5,hkm⟩:∃kd:kR,nU [V.str "gate",.str "stop"] (c / 8%2)=some (.str kd)/\kd∈[("gate" :kR), "stop"]:=by
   obtain ⟨w,hw,h | h⟩:=Be (n:=c / 8) (u:=V.str "gate") (v:=V.str "stop")
   ·exact ⟨"gate",by rw [hw,h.2],by simp⟩
   ·exact ⟨"stop",by rw [hw,h.2],by simp⟩
  refine lS (me 10 Z1 (Zl (Zb (Zi (Zb Ze (Zb (pv 2) Za))) (Zb (Zi (Zb Ze (Zb (pv 3) Za))) (Zb (Zi (Zb (ml (Zl (Zb Ze (Zb Ze Za))) (Zo Yi (Zo Yo (pv 0) Zf) Zf)) (Zb (pv 4) Za))) Za))))) (lP rfl ⟨lR,fun c1 G1 s1 _ f1=>(lP rfl ⟨lR,fun c2 G2 s2 _ f2=>⟨lR,fun lk G3 s3 _ f3=>(lP rfl (mz rfl rfl ⟨⟨by left,by left⟩,_,_,rfl,rfl,(by show (0:Int)<2;decide),.inl ⟨lk,_,_,.str kd,rfl,rfl,lW f3,J5,_,rfl,lR,fun c3 G4 s4 _ f4=>⟨lR,fun pl G5 s5 _ f5=>?_⟩⟩⟩))⟩⟩)⟩);have g8:Zv G5 pl [("cross",n1),("gate",n2),(kd,n3)]:=⟨[c1,c2,c3],f5,.cons (s5.at (s4.at (s3.at (s2.at f1)))) (.cons (s5.at (s4.at (s3.at f2))) (.cons (s5.at f4) .nil))⟩
  have sG:=s1.trans (s2.trans (s3.trans (s4.trans s5)));refine lU (Zm (Zi (Zb (pv 10) (Zb (pv 9) (Zb (Zi (Zb (pv 2) (Zb Ze Za))) (Zb (Zi (Zb (pv 2) (Zb Ze Za))) Za)))))) (lP rfl (lP rfl (lP rfl ⟨lR,fun ie G6 s6 _ f6=>(lP rfl ⟨lR,fun oe G7 s7 _ f7=>⟨lR,fun t G8 s8 _ f8=>?_⟩⟩)⟩)));have R8:=s6.trans (s7.trans s8);exact q t G8 pl jl ie oe _ _ _ _ (s08.trans (sG.trans R8)) f8 (g8.mono R8) (u7.mono (sG.trans R8)) ((s7.trans s8).at f6) (s8.at f7) (.cross kd hkm)
end
end K61
end
section
namespace K61
open PySem L2 NM YM
section
variable {P:lq} {w:lh} {K:kX} {mg:kR->kW kT} {lL:kZ} (T:Tx K mg)
seal PySem.wpAny
def wu(xs:kQ V)(k:Nat):qf xs (some (k:Int)) none=xs.drop k:=by
 unfold qf;rw [HT.sIx_nat,HT.sIx_none]
 by_cases h:k<=xs.length
 ·rw [Nat.min_eq_left h,uU (by rw [xH];exact mn _)]
 ·rw [Nat.min_eq_right (by lia),Em,List.take_nil,List.drop_of_length_le (by lia)]
def xC(xs:kQ V)(k:Nat):qf xs none (some (k:Int))=xs.take k:=by
 unfold qf;rw [HT.sIx_nat,HT.sIx_none,List.drop_zero,Nat.sub_zero]
 by_cases h:k<=xs.length
 ·rw [Nat.min_eq_left h]
 ·rw [Nat.min_eq_right (by lia),ow,uU (by lia)]
def Zv.app(h1:Paired (Zr H) ts ps)(h2:Paired (Zr H) us qs)(e:H l=some (.lst (ts.map V.ref++us.map V.ref))):Zv H l (ps++qs):=⟨ts++us,by rw [mq];exact e,oP h1 h2⟩
def Yl.app(h1:Paired (Wm H) ts ps)(h2:Paired (Wm H) us qs)(e:H l=some (.lst (ts.map V.ref++us.map V.ref))):Yl H l (ps++qs):=⟨ts++us,by rw [mq];exact e,oP h1 h2⟩
inductive Na(K:kX):Sp
 | mk (cl) (cs:kQ Int):vs=[.ref cl]->SqL K H cl (cs.map V.int)->(∀c∈cs,0<=c)->(∀(t:kS) (H':Hp) (pl jl:kS) (ps:kQ Zh) (js:kQ (Zh×Zh)),lK H H'->H' t=some (.tup [.ref pl,.ref jl])->Zv H' pl ps->Yl H' jl js->H pl=none->H jl=none->Net ps js []->ps.length<=38->(∀p∈ps,p=((("gate" :kR),("g" :kR)):Zh)\/p=((("gate" :kR),("h" :kR)):Zh)\/uB p.2 36)->Q (.ref t) H')->Na K vs H Q E
def Vx:T.ee.O P w mg lL 2 (Na K):=by
 refine T.ee.F.okW Yy ?_;rfl'
 ·obtain ⟨cl,cs,rfl,u9,K5,q⟩:=h;intro X D;refine lS (me 1 Yy (Zl (Zb (Zi (Zb Ze (Zb Ze Za))) Za))) ⟨lR,fun t1 H1 s1 _ e1=>⟨lR,fun pl0 H2 s2 n2 e2=>?_⟩⟩;refine lS (me 2 Yy (Zl Za)) ⟨lR,fun jl0 H3 s3 n3 e3=>?_⟩;refine lS (me 3 Yy (Zi (Zb Ze (Zb Ze Za)))) ⟨lR,fun e0 H4 s4 n4 e4=>?_⟩;have O6:=s1.trans (s2.trans (s3.trans s4));have hp0:Zv H4 pl0 [("gate", "g")]:=⟨[t1],s4.at (s3.at e2),.cons (s4.at (s3.at (s2.at e1))) .nil⟩
  have hj0:Yl H4 jl0 []:=⟨[],s4.at e3,.nil⟩
  have f0:H pl0=none:=s1.free n2;have f1:H jl0=none:=s1.free (s2.free n3);clear s1 s2 s3 s4 n2 n3 n4 e1 e2 e3;refine lS (Xb ol rfl (xc rfl T.bP (Zb (X7 (r:=qL K) qU (pv 0) Wr (Wh Zf)) Za)) (qG rfl (Zq (mP 4 Yy) (Zq (mP 5 Yy) Y9))) Zn) (lP rfl (lP rfl (.inr (.inl ⟨cl,_,rfl,O6.seq u9,fun c9 H5 s5 n5 e5=>⟨lW e5,?_⟩⟩))));rw [show (some (9:Int))=some ((9:Nat):Int) from rfl,xC,<-vq] at e5;have O7:=O6.trans s5;let I1:IF:=fun i σ H'=>lK H5 H'/\∃pl jl e o4 o5 o6 o7 o8 ps js K7,σ=[some (.ref cl),some (.ref pl),some (.ref jl),some (.ref e),o4,o5,o6,o7,o8]/\Zv H' pl ps/\Yl H' jl js/\Zr H' e K7/\tU i ps js K7/\H pl=none/\H jl=none
  refine xN (xs:=(cs.take 9).map V.int) I1
   ⟨pH _,pl0,jl0,e0,none,none,none,none,none,_,_,_,rfl,hp0.mono s5,hj0.mono s5,s5.at e4,tU.start,f0,f1⟩ ?_ ?_ ?_
  ·rintro i σ H' _ ⟨sm,_⟩;exact lW (sm.at e5)
  ·rintro i v σ H6 hi ⟨s6,pl,jl,e,o4,o5,o6,o7,o8,ps,js,K7,rfl,g8,u7,R9,hok,fp,fj⟩ tp H7 s7 n7 e7;rw [mG] at hi;obtain ⟨c,hc,rfl⟩:=mS.mp hi;have hi9:i<9:=by
    have:=(oj.mp hc).1;rw [nI] at this;lia
   have hc0:0<=c:=K5 c (Eh (oE hc));refine ⟨tp,_,rfl,mD e7,rfl,_,_,rfl,_,_,rfl,rfl,?_⟩;have J6:=s6.trans s7;have g8:=g8.mono s7;have u7:=u7.mono s7;have R9:=R9.mono s7;obtain ⟨nm,D3⟩:∃nm:Nat->kR,nm=fun j=>Yt ((["p", "q", "r", "t"]:kQ kR).getD j "p") (qN (c / 96+5 * (j:Int))) (4 * i+j):=⟨_,rfl⟩
   refine lS (me 6 Yy (Zl Za)) ⟨lR,fun D H75 s75 hD e75=>?_⟩;let I2:IF:=fun j σ H'=>(∃o7,σ=[some (.ref cl),some (.ref pl),some (.ref jl),some (.ref e),some (.int (i:Int)),some (.int c),some (.ref D),o7,o8])/\H' D=some (.lst (((List.range j).map nm).map V.str))/\lK H7 H'
   refine lS (Xb ol rfl (WH rfl T.ek (Zb Zf Za)) (mP 7 Yy) Zn) (lP rfl ⟨by left,by left,ET (lo:=0) (n:=4) I2 ⟨⟨_,rfl⟩,e75,s75⟩ ?_ ?_⟩)
   ·rintro j σ H8 hj ⟨⟨o7,rfl⟩,hD8,s8⟩;obtain ⟨kd,J5⟩:∃kd,kd=(["p", "q", "r", "t"]:kQ kR).getD j "p" :=⟨_,rfl⟩
    have hj4:j=0\/j=1\/j=2\/j=3:=by lia
    obtain ⟨ch,A5,M9⟩:∃ch,nU (Str.cps "pqrt").toList ((0:Int)+(j:Int))=some ch/\(⟨#[ch]⟩:kR)=kd:=by
     rw [J5];rcases hj4 with rfl|rfl|rfl|rfl <;>exact ⟨_,rfl,rfl⟩
    have hkl:kd.length=1:=by
     rw [<-M9]
     rfl
    refine lU (Zy (pW (pv 6) (Zx (Jr T) hr (Zb (ml Ze (pv 7)) (Zb (Zo Wz (Zo Yo (pv 5) Zf) (Zo wW Zf (pv 7))) (Zb (Zo Wz (Zo wW Zf (pv 4)) (pv 7)) Za)))))) (lP rfl ⟨.inl ⟨rfl,_,lW hD8⟩,_,rfl,.inr (.inr ⟨_,_,ch,rfl,rfl,sz (by trivial),A5,_,rfl,_,_,rfl,rfl,⟨by left,by left⟩,_,rfl,_,_,rfl,rfl,.inl ⟨by left,by left⟩,.inl (mz rfl rfl (lP rfl (mz rfl rfl ⟨.inl ⟨by left,by left⟩,_,rfl,.inl (mz rfl rfl ⟨kd,c / 96+5 * (j:Int),4 * i+j,?_,by lia,by lia,?_,by lia,D,_,_,rfl,rfl,hD8,?_,⟨_,rfl⟩,?_,fun b o z=>?_⟩)⟩)))⟩)⟩)
    ·show [V.str ⟨#[ch]⟩,V.int (c / 96+5 * (0+(j:Int))),V.int (4 * (i:Int)+(0+(j:Int)))]=_;rw [M9,show (0:Int)+(j:Int)=j by lia,show 4 * (i:Int)+(j:Int)=((4 * i+j:Nat):Int) by lia]
    ·have:=Int.ediv_nonneg hc0 (show (0:Int)<=96 by left);lia
    ·rw [lV,lV,zG];exact Zp (by lia)
    ·rw [Zc,AW,mq,mq,D3,J5]
     rfl
    ·rw [Zd (Zg z hD)];exact s8.at z
   ·rintro σ H8 ⟨⟨o7,rfl⟩,hD8,s8⟩;have g8:=g8.mono s8;have u7:=u7.mono s8;have R9:=R9.mono s8;refine lS (me 8 Yy (Zx (QQ T) hr (Zb (pv 5) (Zb (pv 6) Za)))) (lP rfl (lP rfl ⟨c,D,nm 0,nm 1,nm 2,nm 3,rfl,hD8,fun t H9 bp bj ie oe qs ks a b s9 e9 hbp hbj hie hoe B=>?_⟩));subst D3;have E8:=hok.more (by lia) (by trivial) (by trivial) (by trivial) (by trivial) B;obtain ⟨ts,ht,d9⟩:=g8.mono s9;obtain ⟨us,hu,y8⟩:=hbp;obtain ⟨js1,hj1,S0⟩:=u7.mono s9;obtain ⟨js2,hj2,hjs2⟩:=hbj;have lp:=hok.pl;have lj:=hok.jl;have lb:=B.len;have c1:=mv d9;have c2:=mv y8;have c3:=mv S0;have c4:=mv hjs2;refine lS (me 1 Yy (Zo Wz (pv 1) (ml (pv 8) Zf))) (lP rfl (lP rfl (wa e9 rfl (.inr (.inr ⟨pl,bp,_,_,rfl,rfl,ht,hu,?_,fun pl' H10 A1 n10 jf=>?_⟩)))))
    ·rw [lV,lV];exact sz (by lia)
    refine lS (me 2 Yy (Zo Wz (Zo Wz (pv 2) (ml (pv 8) Zf)) (Zl (Zb (Zi (Zb (pv 3) (Zb (ml (pv 8) Zf) Za))) Za)))) (lP rfl (lP rfl (wa (A1.at e9) rfl (.inr (.inr ⟨jl,bj,_,_,rfl,rfl,A1.at hj1,A1.at hj2,?_,fun jm H11 A2 n11 iQ=>(lP rfl (lP rfl (wa (A2.at (A1.at e9)) rfl ⟨lR,fun tj H12 B4 n12 jg=>⟨lR,fun l2 H13 m7 n13 iG=>.inr (.inr ⟨jm,l2,_,_,rfl,rfl,(B4.trans m7).at iQ,iG,?_,fun jl' H14 u6 n14 hU=>?_⟩)⟩⟩)))⟩)))))
    ·rw [lV,lV];exact sz (by lia)
    ·rw [mY,lV,lV];exact sz (by simp;lia)
    have s104:=A2.trans (B4.trans (m7.trans u6));have s94:=A1.trans s104;refine lU (me 3 Yy (ml (pv 8) Zf)) (lP rfl (wa (s94.at e9) rfl ⟨J6.trans (s8.trans (s9.trans s94)),pl',jl',oe,_,_,_,_,_,_,_,_,rfl,?_,?_,hoe.mono s94,E8,?_,?_⟩))
    ·exact Zv.app (ts:=ts) (us:=us) (mw d9 fun _ _ r=>r.mono s94) (mw y8 fun _ _ r=>r.mono s94) (s104.at jf)
    ·have j7:Paired (Wm H14) (js1++js2) (js++ks):=oP (mw S0 fun _ _ r=>r.mono s94) (mw hjs2 fun _ _ r=>r.mono s94);refine Yl.app (ts:=js1++js2) (us:=[tj]) j7 (.cons ⟨e,ie,(m7.trans u6).at jg,(R9.mono s9).mono s94,hie.mono s94⟩ .nil) ?_;rw [mq];exact hU
    ·exact O7.free (J6.free (s8.free (s9.free n10)))
    ·exact O7.free (J6.free (s8.free (s9.free ((A1.trans (A2.trans (B4.trans m7))).free n14))))
  ·rintro σ H6 ⟨s6,pl,jl,e,o4,o5,o6,o7,o8,ps,js,K7,rfl,g8,u7,R9,hok,fp,fj⟩;rw [lV,nI] at hok;have hm:min 9 cs.length<=9:=Nat.min_le_left ..;have hdone:=hok.done (by lia);obtain ⟨ts,ht,d9⟩:=g8;obtain ⟨js1,hj1,S0⟩:=u7;have lp:=hok.pl;have lj:=hok.jl;have c1:=mv d9;have c3:=mv S0;refine lU (Zm (Zi (Zb (Zo Wz (pv 1) (Zl (Zb (Zi (Zb Ze (Zb Ze Za))) Za))) (Zb (Zo Wz (pv 2) (Zl (Zb (Zi (Zb (pv 3) (Zb (Zi (Zb Ze (Zb Ze Za))) Za))) Za))) Za)))) (lP rfl ⟨lR,fun t1 H7 s7 _ e7=>⟨lR,fun l1 H8 s8 _ e8=>.inr (.inr ⟨pl,l1,_,_,rfl,rfl,s8.at (s7.at ht),e8,?_,fun pl' H9 s9 n9 e9=>(lP rfl (lP rfl ⟨lR,fun t2 H10 A1 _ jf=>⟨lR,fun t3 H11 A2 _ iQ=>⟨lR,fun l2 H12 B4 _ jg=>.inr (.inr ⟨jl,l2,_,_,rfl,rfl,(s7.trans (s8.trans (s9.trans (A1.trans (A2.trans B4))))).at hj1,jg,?_,fun jl' H13 m7 n13 iG=>⟨lR,fun t H14 u6 _ hU=>?_⟩⟩)⟩⟩⟩))⟩)⟩⟩)
   ·rw [lV];exact sz (by simp;lia)
   ·rw [lV];exact sz (by simp;lia)
   have s612:=s7.trans (s8.trans (s9.trans (A1.trans (A2.trans B4))));have s614:=s612.trans (m7.trans u6);have s914:=A1.trans (A2.trans (B4.trans (m7.trans u6)));refine q t H14 pl' jl' _ _ (O7.trans (s6.trans s614)) hU ?_ ?_ (O7.free (s6.free (s7.free (s8.free n9)))) (O7.free (s6.free (s612.free n13))) hdone ?_ ?_
   ·exact Zv.app (ts:=ts) (us:=[t1]) (mw d9 fun _ _ r=>r.mono s614) (.cons ((s8.trans (s9.trans s914)).at e7) .nil) (s914.at e9)
   ·exact Yl.app (ts:=js1) (us:=[t3]) (mw S0 fun _ _ r=>r.mono s614) (.cons ⟨e,t2,(B4.trans (m7.trans u6)).at iQ,R9.mono s614,(A2.trans (B4.trans (m7.trans u6))).at jf⟩ .nil) (u6.at iG)
   ·rw [mY];simp;lia
   ·intro p hp;rcases mZ.mp hp with z|z
    ·rcases hok.nm p z with y|⟨kd,c,k,h1,h2,h3⟩
     ·exact .inl y
     ·exact .inr (.inr ⟨kd,c,k,h1,by lia,h3⟩)
    ·simp at z;subst z;exact .inr (.inl rfl)
inductive HH(K:kX):Sp
 | mk (a) (ns:kQ Int) (i j:Nat):vs=[.ref a,.int i,.int j]->SqL K H a (ns.map V.int)->ns.length<=63->i<=1000->j<=1000->(∀(p:kS) (H':Hp) (cs:kQ Int),lK H H'->H p=none->H' p=some (.lst (cs.map V.int))->(∀c∈cs,0<=c/\c<2147483629)->cs.length<=63->Q (.ref p) H')->HH K vs H Q E
def Nf:T.dG.O P w mg lL 2 (HH K):=by
 refine T.dG.F.okA ?_;rfl'
 ·obtain ⟨a,ns,i,j,rfl,hS,hn,hi,hj,q⟩:=h;intro X D;have hmin:(if ((ns.map V.int).length:Int)<(j:Int) then ((ns.map V.int).length:Int) else (j:Int))=((min j ns.length:Nat):Int):=by
   rw [lV];split <;>lia
  refine lU (Zm (ph ["_law_k", "_law_script"] (nZ 1 [0] rfl) (CZ rfl T.ek (Zb (pv 1) (Zb (Z2 (Ku rfl) (by rfl) T.iF Kh (Zb (pv 2) (Zb (oH T.bw (pv 0)) Za))) Za))) (ng 0) Wk (X1 (Wq T) hr rfl T.aj.m T.aj.F.kp T.aj.b .nil Z3 (Zb (pR (K:=K) rfl (pv 1) (pv 0)) (Zb (pv 0) Za))))) (lP rfl (lP rfl (lP rfl (.inl ⟨a,_,rfl,.inl hS,_,_,rfl,_,_,rfl,?_,fun D hD=>?_⟩))))
  ·rw [hmin];lia
  rw [hmin];obtain ⟨m,hm⟩:∃m:Nat,(((min j ns.length:Nat):Int)-(i:Int)).toNat=m:=⟨_,rfl⟩
  rw [hm];refine Vs (lo:=(i:Int)) (n:=m) (fun k ys H'=>(∃cs:kQ Int,ys=cs.map V.int/\cs.length=k/\∀c∈cs,0<=c/\c<2147483629)/\H' D=some (.lst ys)/\lK H H') ⟨⟨[],rfl,rfl,by simp⟩,Zc,nY hD⟩ ?_ ?_
  ·rintro k ys H2 hk ⟨⟨cs,rfl,u9,K5⟩,w4,s2⟩;unfold Wi;have c8:i+k<ns.length:=by lia
   refine ⟨nS rfl,_,rfl,_,rfl,.inl ⟨a,_,_,.int (ns.getD (i+k) 0),rfl,rfl,s2.seq hS,?_,_,rfl,_,_,rfl,w4,?_,⟨cs++[rV (ns.getD (i+k) 0) ((i:Int)+(k:Int))],?_,?_,?_⟩,Zc,fun b o e=>?_⟩⟩
   ·rw [show (i:Int)+(k:Int)=((i+k:Nat):Int) by lia];refine Xn ?_;rw [mG,oh c8,rn,oh c8]
    rfl
   ·rw [lV];exact Zp (by lia)
   ·rw [mq];rfl
   ·rw [mY];simp;exact u9
   ·intro c hc;rcases mZ.mp hc with z|z
    ·exact K5 c z
    ·simp at z;rw [z];exact ⟨ND _ _,OG _ _⟩
   ·rw [Zd (Zg e hD)];exact s2.at e
  ·rintro ys H2 ⟨⟨cs,rfl,u9,K5⟩,w4,s2⟩;exact q D H2 cs s2 hD w4 K5 (by lia)
def Ww(h:Paired (Zr H) ts ps)(hc:H c=some (.lst xs)):Paired (Zr (upd H c o)) ts ps :=
 mw h fun t q r=>by
  unfold Zr at r ⊢;rw [Zd fun z=>by rw [z,hc] at r;cases r];exact r
def Wm.off(h:Wm H t j)(hc:H c=some (.lst xs)):Wm (upd H c o) t j:=by
 obtain ⟨a,b,h1,h2,h3⟩:=h;unfold Zr at h2 h3;have ne:∀{t:kS} {ys:kQ V},H t=some (.tup ys)->t≠c:=fun h z=>by rw [z,hc] at h;cases h
 exact ⟨a,b,by rw [Zd (ne h1)];exact h1,by unfold Zr;rw [Zd (ne h2)];exact h2,by unfold Zr;rw [Zd (ne h3)];exact h3⟩
def uY(h:Paired (Wm H) ts js)(hc:H c=some (.lst xs)):Paired (Wm (upd H c o)) ts js:=mw h fun _ _ r=>r.off hc
inductive HZ:Sp
 | mk (pl jl rl c) (ps:kQ Zh) (js:kQ (Zh×Zh)) (Zz:kQ Zh):vs=[.ref pl,.ref jl,.ref rl,.int c]->Zv H pl ps->Yl H jl js->Zv H rl Zz->pl≠jl->rl≠pl->rl≠jl->ps.length<=100->js.length<=200->Zz.length<=90->(∀(H':Hp) (A9:kQ Zh) (C0:kQ (Zh×Zh)),(∀b o,b≠pl->b≠jl->H b=some o->H' b=some o)->Zv H' pl (ps++A9)->Yl H' jl (js++C0)->vw Zz Zz.length A9 C0->Q .non H')->HZ  vs H Q E
def UX:T.di.O P w mg lL 2 HZ:=by
 refine T.di.F.okW AJ ?_;rfl'
 ·obtain ⟨pl,jl,rl,c,ps,js,Zz,rfl,g8,u7,⟨rs,N6,S1⟩,n1,n2,n3,lp,lj,lr,q⟩:=h;intro X D;have lrs:=mv S1;let I3:IF:=fun i σ H'=>(∃o4 o5 o6,σ=[some (.ref pl),some (.ref jl),some (.ref rl),some (.int c),o4,o5,o6])/\(∀b o,b≠pl->b≠jl->H b=some o->H' b=some o)/\∃A9 C0,Zv H' pl (ps++A9)/\Yl H' jl (js++C0)/\vw Zz i A9 C0
  refine lU (Xb ol rfl (xc rfl T.bP (Zb (pv 2) Za)) (qG rfl (Zq (mP 4 AJ) (Zq (mP 5 AJ) Y9))) Zn) ⟨_,rfl,lW N6,xN (xs:=rs.map V.ref) I3
   ⟨⟨none,none,none,rfl⟩,fun _ _ _ _ z=>z,[],[],by rw [pz];exact g8,by rw [pz];exact u7,[],rfl,by simp,rfl,rfl⟩ ?_ ?_ ?_⟩
  ·rintro i σ H' _ ⟨_,km,_⟩;exact lW (km _ _ n2 n3 N6)
  ·rintro i v σ H2 hi ⟨⟨o4,o5,o6,rfl⟩,km,A9,C0,⟨ts,ht,d9⟩,⟨us,hu,y8⟩,u9⟩ tp H3 s3 n3' e3;rw [mG] at hi;obtain ⟨te,O8,rfl⟩:=mS.mp hi;obtain ⟨y,hy,hye⟩:=oO S1 O8;have F8:i<rs.length:=(oj.mp O8).1;obtain ⟨ks,hkl,hks,hnp,hnj⟩:=id u9;have c1:=mv d9;have c2:=mv y8;rw [mY,hnp,lV,zG] at c1;rw [mY,hnj,lV,zG] at c2;have hye2:Zr H2 te y:=by
    unfold Zr at hye ⊢;refine km _ _ (fun z=>?_) (fun z=>?_) hye
    ·obtain ⟨_,h1,_⟩:=g8;rw [z,h1] at hye;cases hye
    ·obtain ⟨_,h1,_⟩:=u7;rw [z,h1] at hye;cases hye
   refine ⟨tp,_,rfl,mD e3,rfl,_,_,rfl,_,_,rfl,rfl,?_⟩;have fl:=AL i (by lia);refine lS (me 6 AJ (Zo Wz Ze (Y6 zI (by rfl) T.ej uL (Zb (pv 4) Za)))) (lP rfl ⟨(i:Int),rfl,CB (by lia),.inr (.inl (mz rfl rfl ⟨sz (by show 1+(qV i).length<=1000;lia),?_⟩))⟩);obtain ⟨kd,J5,hkm⟩:∃kd:kR,nU [V.str "gate",.str "stop",.str "gate"] (rV c (i:Int)%3)=some (.str kd)/\(kd = "gate" \/kd = "stop"):=by
    have h0:=oY (rV c (i:Int)) (show (3:Int)≠0 by left);have h1:=pc (rV c (i:Int)) (show (0:Int)<3 by left);generalize rV c (i:Int)%3=m at h0 h1;have:m=0\/m=1\/m=2:=by lia
    rcases this with rfl|rfl|rfl
    ·exact ⟨"gate",rfl,.inl rfl⟩
    ·exact ⟨"stop",rfl,.inr rfl⟩
    ·exact ⟨"gate",rfl,.inl rfl⟩
   refine lS (Zy (pW (pv 0) (Zi (Zb (ml (Zl (Zb Ze (Zb Ze (Zb Ze Za)))) (Zo Yi (X1 (Wq T) hr rfl T.aj.m T.aj.F.kp T.aj.b .nil Z3 (Zb (pv 3) (Zb (pv 4) Za))) Zf)) (Zb (pv 6) Za))))) (lP rfl ⟨.inl ⟨rfl,_,lW (s3.at ht)⟩,lR,fun lk H4 s4 n4 e4=>(lP rfl (lP rfl ⟨c,(i:Int),rfl,_,_,rfl,rfl,(by show (0:Int)<3;decide),.inl ⟨lk,_,_,.str kd,rfl,rfl,lW e4,J5,_,rfl,lR,fun t5 H5 s5 n5 e5=>⟨pl,_,_,rfl,rfl,s5.at (s4.at (s3.at ht)),?_,?_⟩⟩⟩))⟩)
   ·rw [lV];exact Zp (by lia)
   have u8:=s3.trans (s4.trans s5);have hpl5:=u8.at ht;have hts5:Paired (Zr H5) ts (ps++A9):=mw d9 fun _ _ r=>r.mono u8
   have hus5:Paired (Wm H5) us (js++C0):=mw y8 fun _ _ r=>r.mono u8
   have p6:Paired (Zr (upd H5 pl (.lst (ts.map V.ref++[.ref t5])))) (ts++[t5]) ((ps++A9)++[(kd,W5 i)]):=Ww (oP hts5 (.cons e5 .nil)) hpl5;have j6:=uY (o:=.lst (ts.map V.ref++[.ref t5])) hus5 hpl5;have hu6:upd H5 pl (.lst (ts.map V.ref++[.ref t5])) jl=some (.lst (us.map V.ref)):=(Zd (nR n1)).trans (u8.at hu);have k6:∀b o,b≠pl->b≠jl->H b=some o->upd H5 pl (.lst (ts.map V.ref++[.ref t5])) b=some o:=fun b o b1 b2 z=>(Zd b1).trans (u8.at (km b o b1 b2 z))
   have y6:Zr (upd H5 pl (.lst (ts.map V.ref++[.ref t5]))) te y:=by
    have z:=hye2.mono u8;unfold Zr at z ⊢;exact (Zd fun w=>by rw [w,hpl5] at z;cases z).trans z
   have e6:upd H5 pl (.lst (ts.map V.ref++[.ref t5])) pl=some (.lst ((ts++[t5]).map V.ref)):=by rw [Zc,mq];rfl
   generalize (upd H5 pl (.lst (ts.map V.ref++[.ref t5])))=H6 at p6 j6 hu6 k6 y6 e6;refine lU (Zy (pW (pv 1) (Zi (Zb (pv 5) (Zb (Zi (Zb (pv 6) (Zb Ze Za))) Za))))) (lP rfl ⟨.inl ⟨rfl,_,lW hu6⟩,_,rfl,_,rfl,lR,fun t7 H7 s7 n7 e7=>⟨lR,fun t8 H8 s8 n8 e8=>⟨jl,_,_,rfl,rfl,s8.at (s7.at hu6),?_,⟨_,_,_,rfl⟩,fun b o b1 b2 z=>?_,A9++[(kd,W5 i)],C0++[(y,(W5 i,("a" :kR)))],⟨ts++[t5],?_,?_⟩,⟨us++[t8],?_,?_⟩,u9.more hkm hy⟩⟩⟩)
   ·rw [lV];exact Zp (by lia)
   ·exact (Zd b2).trans (s8.at (s7.at (k6 b o b1 b2 z)))
   ·exact (Zd n1).trans (s8.at (s7.at e6))
   ·rw [<-qu];exact Ww (mw p6 fun _ _ r=>r.mono (s7.trans s8)) (s8.at (s7.at hu6))
   ·rw [Zc,mq];rfl
   ·rw [<-qu];exact uY (oP (mw j6 fun _ _ r=>r.mono (s7.trans s8)) (.cons ⟨te,t7,e8,y6.mono (s7.trans s8),s8.at e7⟩ .nil)) (s8.at (s7.at hu6))
  ·rintro σ H2 ⟨⟨o4,o5,o6,rfl⟩,km,A9,C0,h1,h2,u9⟩;rw [lV,lrs] at u9;exact q H2 A9 C0 km h1 h2 u9
def oq(q:Zh):Tr:=.tup [.str q.1,.str q.2]
def Ik{H:Hp}{ts:kQ kS}{ps:kQ Zh}(h:Paired (Zr H) ts ps):Paired (Im K H 1) (ps.map oq) (ts.map V.ref):=by
 induction h with
 | nil=>exact .nil
 | cons r _ ih=>exact .cons (sJ (mD r) (.cons (.str _) (.cons (.str _) .nil))) ih
def Zv.im{H:Hp}{l:kS}{ps:kQ Zh}(h:Zv H l ps):Im K H 2 (.lst (ps.map oq)) (.ref l):=let ⟨_,h1,h2⟩:=h;tz (lW h1) (Ik h2)
def Ke{l D:kS}{xs:kQ kR}{x:kR}{H1:Hp}{Q:VK}{σ:St}(hl:H1 l=some (.lst (xs.map V.str)))(hn:xs.length<=100)(hD:H1 D=none)(q:∀H',lK H1 H'->Zv H' D (xs.map fun e=>(x,e))->Q (.ref D) H'){fr:St->St}(p7:fr σ=[none,some (.str x)]){te:TE}(O8:te=Go (sF (qp 1) (sF (qp 0) tQ))) :
  pS (rc K l) fr (pZ 0) xS te Q σ H1 D:=by
 refine Xv (xs:=xs.map V.str) (fun i ys H'=>(∃ts:kQ kS,ys=ts.map V.ref/\Paired (Zr H') ts ((xs.take i).map fun e=>(x,e)))/\H' D=some (.lst ys)/\lK H1 H') ⟨⟨[],rfl,.nil⟩,Zc,nY hD⟩ ?_ ?_ ?_
 ·rintro i ys H' _ ⟨_,_,sm⟩;exact lW (sm.at hl)
 ·rintro k v ys H' hk ⟨⟨ts,rfl,d9⟩,v6,sm⟩;rw [mG] at hk;obtain ⟨y,hy,rfl⟩:=mS.mp hk;unfold Wi;rw [p7,O8];have d7:ts.length<=100:=by
   have:=mv d9;rw [lV,nI] at this;lia
  refine ⟨nS rfl,_,rfl,_,rfl,lR,fun t H2 s2 n2 e2=>⟨s2.at v6,by rw [lV];exact Zp (by lia),⟨ts++[t],by rw [mq];rfl,?_⟩,Zc,fun b o e=>?_⟩⟩
  ·rw [nq,hy,mq];exact Ww (oP (mw d9 fun _ _ r=>r.mono s2) (.cons e2 .nil)) (s2.at v6)
  ·rw [Zd (Zg e hD)];exact s2.at (sm.at e)
 ·rintro ys H6 ⟨⟨ts,rfl,d9⟩,E9,s6⟩;rw [lV,ow] at d9;exact q H6 s6 ⟨ts,E9,d9⟩
def Zr.offL{H:Hp}{c t:kS}{o:HO}{xs:kQ V}{q:Zh}(h:Zr H t q)(hc:H c=some (.lst xs)):Zr (upd H c o) t q:=by
 unfold Zr at h ⊢;exact (Zd fun z=>by rw [z,hc] at h;cases h).trans h
def Zv.offL{H:Hp}{c l:kS}{o:HO}{xs:kQ V}{ps:kQ Zh}(h:Zv H l ps)(hc:H c=some (.lst xs))(ne:l≠c):Zv (upd H c o) l ps:=let ⟨ts,h1,h2⟩:=h;⟨ts,(Zd ne).trans h1,Ww h2 hc⟩
def Zv.erased{H:Hp}{l:kS}{ts:kQ kS}{ps:kQ Zh}(h1:H l=some (.lst (ts.map V.ref)))(h2:Paired (Zr H) ts ps)(k:Nat):Zv (upd H l (.lst ((ts.map V.ref).eraseIdx k))) l (ps.eraseIdx k):=⟨ts.eraseIdx k,by rw [Zc,FJ],Ww (ML h2 k) h1⟩
def Ki{k n:Nat}(h:k<n):seqIndex? (k:Int) n=some k:=by
 unfold seqIndex?;have h1:¬(k:Int)<0:=by lia
 simp only [h1,rX];rw [lZ (by simp;lia)];simp
def tV{a:Int}{n:Nat}(h:0<n):∃k:Nat,a%(n:Int)=(k:Int)/\k<n:=by
 have h0:=oY a (show (n:Int)≠0 by lia);have h1:=pc a (show (0:Int)<n by lia);exact ⟨(a%(n:Int)).toNat,by lia,by lia⟩
def Nk{α β:Type}{R:α->β->Prop}{l₁:kQ α}{l₂:kQ β}(h:Paired R l₁ l₂)(n:Nat):Paired R (l₁.drop n) (l₂.drop n):=by
 induction n generalizing l₁ l₂ with
 | zero=>exact h
 | succ n ih =>
  cases h with
  | nil=>exact .nil
  | cons _ t=>exact ih t
def Iw{l D:kS}{ts:kQ kS}{qs:kQ Zh}{keep:Zh->Bool}{w:kW V}{H1:Hp}{Q:VK}{σ:St}(hl:H1 l=some (.lst (ts.map V.ref)))(d9:Paired (Zr H1) ts qs)(hn:qs.length<=100)(hD:H1 D=none)(q:∀H',lK H1 H'->Zv H' D (qs.filter keep)->Q (.ref D) H'){fr:St->St}(p7:fr σ=[none,w]){tf:TT}(htf:∀(t:kS) (x:Zh) (H':Hp) (R:Bool->Hp->Prop),lK H1 H'->Zr H' t x->x∈qs->R (keep x) H'->tf [some (.ref t),w] H' R) :
  pS (rc K l) fr (pZ 0) tf (qp 0) Q σ H1 D:=by
 have hln:=mv d9;refine Xv (xs:=ts.map V.ref) (fun i ys H'=>(∃ts':kQ kS,ys=ts'.map V.ref/\Paired (Zr H1) ts' ((qs.take i).filter keep))/\H' D=some (.lst ys)/\lK H1 H') ⟨⟨[],rfl,.nil⟩,Zc,nY hD⟩ ?_ ?_ ?_
 ·rintro i ys H' _ ⟨_,_,sm⟩;exact lW (sm.at hl)
 ·rintro k v ys H' hk ⟨⟨ts',rfl,O0⟩,v6,sm⟩;rw [mG] at hk;obtain ⟨t,ht,rfl⟩:=mS.mp hk;obtain ⟨x,hx,r2⟩:=oO d9 ht;unfold Wi;rw [p7];have d7:ts'.length<=100:=by
   rw [mv O0];have:=xb keep (qs.take k);rw [nI] at this;lia
  refine ⟨nS rfl,htf t x H' _ sm (r2.mono sm) (oE hx) (Yj (fun hc=>?_) (fun hc=>?_))⟩
  ·refine (lP rfl ⟨v6,by rw [lV];exact Zp (by lia),⟨ts'++[t],by rw [mq];rfl,?_⟩,Zc,fun b o e=>?_⟩)
   ·rw [nq,hx,wD];refine oP O0 ?_;rw [show (some x).toList=[x] from rfl,sS,lZ hc];exact .cons r2 .nil
   ·rw [Zd (Zg e hD)];exact sm.at e
  ·refine ⟨⟨ts',rfl,?_⟩,v6,sm⟩;rw [nq,hx,wD,show (some x).toList=[x] from rfl,sS,lY hc,zF,pz];exact O0
 ·rintro ys H6 ⟨⟨ts',rfl,O0⟩,E9,s6⟩;rw [lV,hln,ow] at O0;exact q H6 s6 ⟨ts',E9,mw O0 fun _ _ r=>r.mono s6⟩
inductive Mf(K:kX):Sp
 | mk (cl) (cs:kQ Int):vs=[.ref cl]->SqL K H cl (cs.map V.int)->(∀c∈cs,0<=c)->cs.length<=63->(∀(t:kS) (H':Hp) (pl jl:kS) (ps:kQ Zh) (js:kQ (Zh×Zh)) (n:Nat),lK H H'->H' t=some (.tup [.ref pl,.ref jl])->Zv H' pl ps->Yl H' jl js->H pl=none->H jl=none->Net ps js []->ps.length<=39->(∀p∈ps,De p.2 63\/∃j,j<90/\p.2=W5 j)->Q (.ref t) H')->Mf K vs H Q E
def RY:T.dI.O P w mg lL 3 (Mf K):=by
 refine T.dI.F.okW Yh ?_;rfl'
 ·obtain ⟨cl,cs,rfl,u9,K5,hcn,q⟩:=h;intro X D;refine lS (me 1 Yh (Zl Za)) ⟨lR,fun pl H1 s1 n1 e1=>?_⟩;refine lS (me 2 Yh (Zl Za)) ⟨lR,fun jl H2 s2 n2 e2=>?_⟩;refine lS (me 3 Yh (Zl Za)) ⟨lR,fun rl0 H3 s3 n3 e3=>?_⟩;have s03:=s1.trans (s2.trans s3);have fp:H pl=none:=n1;have fj:H jl=none:=s1.free n2;have fr0:H rl0=none:=s1.free (s2.free n3);have npj:pl≠jl:=Zg e1 n2;have nrp:rl0≠pl:=nR (Zg (s2.at e1) n3);have nrj:rl0≠jl:=nR (Zg e2 n3);have hp0:Zv H3 pl []:=⟨[],s3.at (s2.at e1),.nil⟩
  have hj0:Yl H3 jl []:=⟨[],s3.at e2,.nil⟩
  have hr0:Zv H3 rl0 []:=⟨[],e3,.nil⟩
  clear s1 s2 s3 n1 n2 n3 e1 e2 e3;let I4:IF:=fun i σ H'=>lK H H'/\∃rl o4 o5 o6 o7 o8 o9 J7 o11 ps js Zz,σ=[some (.ref cl),some (.ref pl),some (.ref jl),some (.ref rl),o4,o5,o6,o7,o8,o9,J7,o11]/\Zv H' pl ps/\Yl H' jl js/\Zv H' rl Zz/\Xs i (2 * i) ps js Zz/\H rl=none/\rl≠pl/\rl≠jl
  refine lS (Xb ol rfl (xc rfl T.bP (Zb (pv 0) Za)) (qG rfl (Zq (mP 4 Yh) (Zq (mP 5 Yh) Y9))) Zn) ⟨_,rfl,s03.seq u9,xN (xs:=cs.map V.int) I4
   ⟨s03,rl0,none,none,none,none,none,none,none,none,_,_,_,rfl,hp0,hj0,hr0,Xs.start,fr0,nrp,nrj⟩ ?_ ?_ ?_⟩
  ·rintro i σ H' _ ⟨sm,_⟩;exact sm.seq u9
  ·rintro i v σ H4 hi ⟨s4,rl,o4,o5,o6,o7,o8,o9,J7,o11,ps,js,Zz,rfl,g8,u7,N6,hok,frl,S2,S3⟩ tp H5 s5 n5 e5;rw [mG] at hi;obtain ⟨c,hc,rfl⟩:=mS.mp hi;have hi63:i<63:=by
    have:=(oj.mp hc).1;lia
   have hc0:0<=c:=K5 c (oE hc);refine ⟨tp,_,rfl,mD e5,rfl,_,_,rfl,_,_,rfl,rfl,?_⟩;obtain ⟨kd,J5,hkm⟩:∃kd:kR,nU [V.str "plain",.str "plain",.str "plain",.str "points",.str "points",.str "cross",.str "gate",.str "stop"] (c%8)=some (.str kd)/\kd∈pE:=by
    have h0:=oY c (show (8:Int)≠0 by left);have h1:=pc c (show (0:Int)<8 by left);generalize c%8=m at h0 h1;have:m=0\/m=1\/m=2\/m=3\/m=4\/m=5\/m=6\/m=7:=by lia
    rcases this with rfl|rfl|rfl|rfl|rfl|rfl|rfl|rfl <;>exact ⟨_,rfl,by simp [pE]⟩
   obtain ⟨g1,g2,g3,g4,g5,g6⟩:=Av kd hkm;refine lS (me 6 Yh (ml (Zl (Zb Ze (Zb Ze (Zb Ze (Zb Ze (Zb Ze (Zb Ze (Zb Ze (Zb Ze Za))))))))) (Zo Yi (pv 5) Zf))) ⟨lR,fun lk H6 s6 n6 e6=>(lP rfl (mz rfl rfl ⟨(by show (0:Int)<8;decide),.inl ⟨lk,_,_,.str kd,rfl,rfl,lW e6,J5,?_⟩⟩))⟩;refine lS (me 7 Yh (Zx (Iv T) hr (Zb (pv 6) Za))) (lP rfl ⟨kd,rfl,fun le H7 s7 n7 e7=>?_⟩);have U5:=s5.trans (s6.trans s7);have J6:=s4.trans U5;have nl1:pl≠le:=let ⟨_,z,_⟩:=g8;Zg ((s5.trans s6).at z) n7;have nl2:jl≠le:=let ⟨_,z,_⟩:=u7;Zg ((s5.trans s6).at z) n7;have g8:=g8.mono U5;have u7:=u7.mono U5;have N6:=N6.mono U5;obtain ⟨ts,ht,d9⟩:=g8;obtain ⟨rs,F3,S1⟩:=N6;have c1:=mv d9;have c2:=mv S1;refine lS (Zt (Z4 ug (Zo Wz (Zo Wz (oH T.bw (pv 1)) (oH T.bw (pv 3))) (oH T.bw (pv 7))) Zf (Yw _)) Zn Zk) (lP rfl (.inl ⟨pl,_,rfl,.inl (lW ht),_,rfl,.inl ⟨rl,_,rfl,.inl (lW F3),.inl (mz rfl rfl (lP rfl (.inl ⟨le,_,rfl,.inl (lW e7),.inl (mz rfl rfl (mz rfl rfl (lP rfl (Yj (fun hgt=>?_) (fun hgt=>?_)))))⟩)))⟩⟩))
   ·exact lU WY ⟨J6,rl,_,_,_,_,_,_,_,_,ps,js,Zz,rfl,⟨ts,ht,d9⟩,u7,⟨rs,F3,S1⟩,hok.mono (by lia) (by lia),frl,S2,S3⟩
   have hgt:ps.length+Zz.length+(Yr kd).length<=38:=by
    have z:¬(((ts.map V.ref).length:Int)+((rs.map V.ref).length:Int)+(((Yr kd).map V.str).length:Int) >38):=fun z=>hgt (mB z)
    rw [lV,lV,lV] at z;lia
   obtain ⟨n,hn⟩:∃n,n=Yt kd (qN (c / 8)) i:=⟨_,rfl⟩
   refine lS (me 8 Yh (Zx (Jr T) hr (Zb (pv 6) (Zb (Zo Yo (pv 5) Zf) (Zb (pv 4) Za))))) (lP rfl (lP rfl (mz rfl rfl ⟨⟨by left,by left⟩,_,rfl,kd,c / 8,i,rfl,g3,by lia,Int.ediv_nonneg hc0 (by left),by lia,?_⟩)));rw [<-hn];refine lS (Zy (pW (pv 1) (Zi (Zb (pv 6) (Zb (pv 8) Za))))) (lP rfl ⟨.inl ⟨rfl,_,lW ht⟩,_,rfl,_,rfl,lR,fun t8 H8 s8 n8 e8=>⟨pl,_,_,rfl,rfl,s8.at ht,?_,?_⟩⟩)
   ·rw [lV];exact Zp (by lia)
   have ok8:=hok.add (c:=qN (c / 8)) (by lia) hkm hgt;rw [<-hn] at ok8;obtain ⟨us,hu,y8⟩:=u7.mono s8;have p9:Zv (upd H8 pl (.lst (ts.map V.ref++[.ref t8]))) pl (ps++[(kd,n)]):=⟨ts++[t8],by rw [Zc,mq];rfl,Ww (oP (mw d9 fun _ _ r=>r.mono s8) (.cons e8 .nil)) (s8.at ht)⟩
   have j9:Yl (upd H8 pl (.lst (ts.map V.ref++[.ref t8]))) jl js:=⟨us,(Zd (nR npj)).trans hu,uY y8 (s8.at ht)⟩
   have r9:Zv (upd H8 pl (.lst (ts.map V.ref++[.ref t8]))) rl Zz:=⟨rs,(Zd S2).trans (s8.at F3),Ww (mw S1 fun _ _ r=>r.mono s8) (s8.at ht)⟩
   have e9:upd H8 pl (.lst (ts.map V.ref++[.ref t8])) le=_:=(Zd (nR nl1)).trans (s8.at e7);have s09:lK H (upd H8 pl (.lst (ts.map V.ref++[.ref t8]))):=fun b o z=>(Zd (Zg z fp)).trans (s8.at (J6.at z))
   generalize (upd H8 pl (.lst (ts.map V.ref++[.ref t8])))=H9 at p9 j9 r9 e9 s09;have E8:=hok;clear d9 S1 ht F3 hu y8 s8 U5 J6 u7 hok n8 e8;refine lS (vD 9 ["_law_end", "_law_name"] Yh (nZ 1 [8] rfl) (Ym (pv 7)) (ng 0) Wk (Zi (Zb (pv 1) (Zb (pv 0) Za)))) (lP rfl ⟨lW e9,fun lf Q3=>?_⟩);refine Ke (xs:=Yr kd) (x:=n) e9 (by lia) Q3 (fun H10 A1 f10=>?qq) ?aa ?bb
   case aa=>rfl
   case bb=>rfl
   have p10:=p9.mono A1;have j10:=j9.mono A1;have r10:=r9.mono A1;have s010:=s09.trans A1;have flf:H lf=none:=s09.free Q3;have nfp:lf≠pl:=let ⟨_,z,_⟩:=p9;nR (Zg z Q3);have nfj:lf≠jl:=let ⟨_,z,_⟩:=j9;nR (Zg z Q3);have nfr:lf≠rl:=let ⟨_,z,_⟩:=r9;nR (Zg z Q3);clear p9 j9 r9 s09 e9 A1;let I5:IC:=fun σ H'=>lK H H'/\∃rest' fresh' js',σ=[some (.ref cl),some (.ref pl),some (.ref jl),some (.ref rl),some (.int i),some (.int c),some (.str kd),some (.ref le),some (.str n),some (.ref lf),J7,o11]/\Zv H' pl (ps++[(kd,n)])/\Yl H' jl js'/\Zv H' rl rest'/\Zv H' lf fresh'/\Xs (i+1) (2 * i+1) (ps++[(kd,n)]) js' (rest'++fresh')
   refine nX I5 ?_ ?_
   ·refine oi (Zt (qi hr (pv 3) (Zl Za)) Zn Zk) (lP rfl ⟨lR,fun l0 H11 A2 n11 iQ=>.inr (.inl ⟨2,.lst (Zz.map oq),.lst [],by left,.inr ⟨_,_,rfl,rfl⟩,Zv.im (r10.mono A2),tz (lW iQ) .nil,_,rfl,Yj (fun p0=>?_) (fun p0=>?_)⟩)⟩)
    ·have p0:0<Zz.length:=by
      cases Zz with
      | nil=>simp at p0
      | cons=>simp
     obtain ⟨O9,U6,hrs1⟩:=r10.mono A2;obtain ⟨S5,hf1,hfs1⟩:=f10.mono A2;obtain ⟨us1,U1,hus1⟩:=j10.mono A2;have cr:=mv hrs1;have cf:=mv hfs1;have cu:=mv hus1;rw [lV] at cf;have hjl1:=E8.jl;obtain ⟨k1,V6,hk1l⟩:=tV (a:=c / 24) (n:=(O9.map V.ref).length) (by rw [lV];lia);obtain ⟨k2,hk2,hk2l⟩:=tV (a:=c / 100) (n:=(S5.map V.ref).length) (by rw [lV];lia);obtain ⟨ta,hta⟩:∃ta,O9[k1]? =some ta:=⟨_,oh (by rw [lV] at hk1l;exact hk1l)⟩
     obtain ⟨tb,htb⟩:∃tb,S5[k2]? =some tb:=⟨_,oh (by rw [lV] at hk2l;exact hk2l)⟩
     obtain ⟨qa,hqa,hqat⟩:=oO hrs1 hta;obtain ⟨qb,hqb,hqbt⟩:=oO hfs1 htb;refine lU (Zy (pW (pv 2) (Zi (Zb (vX wK Fk GL HG (pv 3) (Zb (Zo Yi (Zo Yo (pv 5) Zf) (oH T.bw (pv 3))) Za)) (Zb (vX wK Fk GL HG (pv 9) (Zb (Zo Yi (Zo Yo (pv 5) Zf) (oH T.bw (pv 9))) Za)) Za))))) (lP rfl ⟨.inl ⟨rfl,_,lW U1⟩,_,rfl,.inl ⟨rfl,_,lW U6⟩,_,rfl,_,_,rfl,rfl,⟨by left,by left⟩,_,rfl,.inl ⟨rl,_,rfl,.inl (lW U6),_,_,rfl,rfl,by lia,rl,_,_,k1,.ref ta,rfl,rfl,U6,by lia,by rw [lV] at hk1l;lia,by rw [V6];exact Ki hk1l,by rw [mG,hta];rfl,?_⟩⟩);have r12:=Zv.erased U6 hrs1 k1;have f12:=Zv.offL (o:=.lst ((O9.map V.ref).eraseIdx k1)) ⟨S5,hf1,hfs1⟩ U6 nfr;have p12:=(p10.mono A2).offL (o:=.lst ((O9.map V.ref).eraseIdx k1)) U6 (nR S2);have hu12:upd H11 rl (.lst ((O9.map V.ref).eraseIdx k1)) jl=_:=(Zd (nR S3)).trans U1;have hus12:=uY (o:=.lst ((O9.map V.ref).eraseIdx k1)) hus1 U6;have z9:upd H11 rl (.lst ((O9.map V.ref).eraseIdx k1)) lf=_:=(Zd nfr).trans hf1;have hfs12:=Ww (o:=.lst ((O9.map V.ref).eraseIdx k1)) hfs1 U6;have a12:=hqat.offL (o:=.lst ((O9.map V.ref).eraseIdx k1)) U6;have b12:=hqbt.offL (o:=.lst ((O9.map V.ref).eraseIdx k1)) U6;have B4:lK H (upd H11 rl (.lst ((O9.map V.ref).eraseIdx k1))):=fun b o z=>(Zd (Zg z frl)).trans (A2.at (s010.at z))
     generalize (upd H11 rl (.lst ((O9.map V.ref).eraseIdx k1)))=H12 at r12 f12 p12 hu12 hus12 z9 hfs12 a12 b12 B4;refine (lP rfl ⟨.inl ⟨rfl,_,lW z9⟩,_,rfl,_,_,rfl,rfl,⟨by left,by left⟩,_,rfl,.inl ⟨lf,_,rfl,.inl (lW z9),_,_,rfl,rfl,by lia,lf,_,_,k2,.ref tb,rfl,rfl,z9,by lia,by rw [lV] at hk2l;lia,by rw [hk2];exact Ki hk2l,by rw [mG,htb];rfl,?_⟩⟩);have f13:=Zv.erased z9 hfs12 k2;have r13:=r12.offL (o:=.lst ((S5.map V.ref).eraseIdx k2)) z9 (nR nfr);have p13:=p12.offL (o:=.lst ((S5.map V.ref).eraseIdx k2)) z9 (nR nfp);have hu13:upd H12 lf (.lst ((S5.map V.ref).eraseIdx k2)) jl=_:=(Zd (nR nfj)).trans hu12;have hus13:=uY (o:=.lst ((S5.map V.ref).eraseIdx k2)) hus12 z9;have a13:=a12.offL (o:=.lst ((S5.map V.ref).eraseIdx k2)) z9;have b13:=b12.offL (o:=.lst ((S5.map V.ref).eraseIdx k2)) z9;have m7:lK H (upd H12 lf (.lst ((S5.map V.ref).eraseIdx k2))):=fun b o z=>(Zd (Zg z flf)).trans (B4.at z)
     generalize (upd H12 lf (.lst ((S5.map V.ref).eraseIdx k2)))=H13 at f13 r13 p13 hu13 hus13 a13 b13 m7;refine ⟨lR,fun tj H14 u6 n14 hU=>⟨jl,_,_,rfl,rfl,u6.at hu13,?_,?_⟩⟩
     ·rw [lV];exact Zp (by lia)
     have hu14:=u6.at hu13;have hqn:qb.1=n:=by
      rw [mG] at hqb;obtain ⟨x,_,rfl⟩:=mS.mp hqb
      rfl
     have hqo:qa.1≠qb.1:=by
      rw [hqn,hn];have h1:=ym (E8.net.perm.subset (pq _ (oE hqa)));exact fun z=>E8.new (by lia) hkm (z ▸ h1)
     refine ⟨fun b o z=>(Zd (Zg z fj)).trans (u6.at (m7.at z)),Zz.eraseIdx k1,_,js++[(qa,qb)],rfl,(p13.mono u6).offL hu14 npj,⟨us1++[tj],?_,?_⟩,(r13.mono u6).offL hu14 S3,(f13.mono u6).offL hu14 nfj,ok8.join (Tu hqa hqb) hqo⟩
     ·rw [Zc,mq];rfl
     ·exact uY (oP (mw hus13 fun _ _ r=>r.mono u6) (.cons ⟨ta,tb,hU,a13.mono u6,b13.mono u6⟩ .nil)) hu14
    ·exact ⟨s010.trans A2,Zz,_,js,rfl,p10.mono A2,j10.mono A2,r10.mono A2,f10.mono A2,ok8.mono (mn _) (by lia)⟩
   rintro σ H12 ⟨s012,rest2,S6,js2,rfl,p12,j12,⟨rs2,hr12,hrs2⟩,⟨fs2,z9,hfs2⟩,K8⟩;have sm12:=K8.sum;have cr:=mv hrs2;have cf:=mv hfs2;rw [mY,mY] at sm12;refine lS (me 3 Yh (Zo Wz (pv 3) (pv 9))) (lP rfl (lP rfl (.inr (.inr ⟨rl,lf,_,_,rfl,rfl,hr12,z9,?_,fun rm H13 m7 n13 iG=>?_⟩))))
   ·rw [lV,lV];exact sz (by lia)
   have r13:Zv H13 rm (rest2++S6):=Zv.app (mw hrs2 fun _ _ r=>r.mono m7) (mw hfs2 fun _ _ r=>r.mono m7) iG;have p13:=p12.mono m7;have j13:=j12.mono m7;have s013:=s012.trans m7;have frm:H rm=none:=s012.free n13;have nmp:rm≠pl:=let ⟨_,z,_⟩:=p12;nR (Zg z n13);have nmj:rm≠jl:=let ⟨_,z,_⟩:=j12;nR (Zg z n13);clear hr12 z9 hrs2 hfs2 p12 j12 s012 m7 p10 j10 r10 f10 s010 iG;obtain ⟨op,hop⟩:∃op,op=rest2++S6:=⟨_,rfl⟩
   rw [<-hop] at r13 K8;have hopl:op.length<=39:=by rw [hop,mY];lia
   clear hop sm12 cr cf;obtain ⟨rs,hrm,S1⟩:=r13;have crs:=mv S1;refine lS (vD 10 ["_law_end", "_law_rest"] Yh (nZ 1 [3] rfl) (Ym (X7 (r:=qL K) qU (pv 3) (Wh Zf) Wr)) (ng 0) (rP (Z4 (r:=ro K) (uQ hr) (pR (K:=K) rfl (pv 0) Zf) (pR (K:=K) rfl (pR (K:=K) rfl (pv 1) Zf) Zf) (Yw _))) (pv 0)) (lP rfl (lP rfl (.inr (.inl ⟨rm,_,rfl,lW hrm,fun l1 H14 u6 n14 hU=>⟨lW hU,fun D hD=>?_⟩⟩))));rw [show (some (1:Int))=some ((1:Nat):Int) from rfl,wu,<-DK] at hU;have M3:Paired (Zr H14) rs op:=mw S1 fun _ _ r=>r.mono u6
   have S7:=u6.at hrm;obtain ⟨q0,hq0⟩:∃q0,q0=op.getD 0 ("", ""):=⟨_,rfl⟩
   refine Iw (keep:=fun x=>decide (x.1≠q0.1)) (w:=some (.ref rm)) hU (Nk M3 1) (by rw [xH];lia) hD (fun H15 C3 f15=>?q2) ?a2 ?b2
   case a2=>rfl
   case b2 =>
    intro t x H' R sm hx hm hR;cases M3 with
    | nil=>simp at hm
    | cons r0 _ =>
     subst hq0;refine (lP rfl (.inr (.inl ⟨t,_,_,_,rfl,rfl,mD hx,rfl,_,rfl,.inl ⟨rm,_,_,_,rfl,rfl,lW (sm.at S7),(show nU _ ((0:Nat):Int)=_ from Xn rfl),.inr (.inl ⟨_,_,_,_,rfl,rfl,mD (sm.at r0),rfl,.inl ⟨rfl,_,rfl,?_⟩⟩)⟩⟩)));simpa using hR
   obtain ⟨N7,hnear⟩:∃N7,N7=(op.drop 1).filter fun x=>decide (x.1≠q0.1):=⟨_,rfl⟩
   rw [<-hnear] at f15;have p15:=(p13.mono u6).mono C3;have j15:=(j13.mono u6).mono C3;have S8:=C3.at S7;have S9:Paired (Zr H15) rs op:=mw M3 fun _ _ r=>r.mono C3
   have s015:=s013.trans (u6.trans C3);clear p13 j13 s013 u6 C3 S7 M3 hrm S1 hU;refine lU (Zt (oM (xB (qi hr (pv 10) (Zl Za)) (wP (om hr (Zo Yi (Zo Yo (pv 5) Zf) Zf) Zf)))) Zn Zk) (lP rfl ⟨lR,fun l0 H16 A3 n16 jj=>.inr (.inl ⟨2,.lst (N7.map oq),.lst [],by left,.inr ⟨_,_,rfl,rfl⟩,Zv.im (f15.mono A3),tz (lW jj) .nil,_,rfl,Yj (fun p0=>?_) (fun p0=>?_)⟩)⟩)
   ·refine (lP rfl (mz rfl rfl ⟨⟨by left,by left⟩,_,_,rfl,rfl,(by show (0:Int)<3;decide),.inl ⟨rfl,_,rfl,Yj (fun _=>?_) (fun _=>?_)⟩⟩))
    ·obtain ⟨ns,hnl,Q0⟩:=f15.mono A3;have cn:=mv Q0;have hnl0:0<N7.length:=by
      cases N7 with
      | nil=>simp at p0
      | cons=>simp
     obtain ⟨k3,hk3,hk3l⟩:=tV (a:=c / 1500) (n:=(ns.map V.ref).length) (by rw [lV];lia);obtain ⟨to,hto⟩:∃to,ns[k3]? =some to:=⟨_,oh (by rw [lV] at hk3l;exact hk3l)⟩
     obtain ⟨q3,hq3,hq3t⟩:=oO Q0 hto;have hq3m:q3∈N7:=oE hq3;refine lS (me 11 Yh (ml (pv 10) (Zo Yi (Zo Yo (pv 5) Zf) (oH T.bw (pv 10))))) (lP rfl (lP rfl (mz rfl rfl ⟨⟨by left,by left⟩,_,rfl,.inl ⟨D,_,rfl,.inl (lW hnl),_,_,rfl,rfl,by lia,.inl ⟨D,_,_,.ref to,rfl,rfl,lW hnl,by rw [hk3];exact Xn (by rw [mG,hto];rfl),?_⟩⟩⟩)));obtain ⟨us,hu,y8⟩:=j15.mono A3;have cu:=mv y8;have hju:=K8.jl;have hrm16:=A3.at S8;have hrs16:Paired (Zr H16) rs op:=mw S9 fun _ _ r=>r.mono A3
     rw [hnear] at hq3m;obtain ⟨hqd,hqk⟩:=sy.mp hq3m;have hqk:q3.1≠q0.1:=nM hqk;obtain ⟨t0,rs',tl,rfl,rfl,r0,hrt⟩:∃t0 rs' tl,rs=t0 ::rs'/\op=q0 ::tl/\Zr H16 t0 q0/\Paired (Zr H16) rs' tl:=by
      cases hrs16 with
      | nil=>simp at hqd
      | cons r0 rt=>exact ⟨_,_,_,rfl,by rw [hq0];rfl,by rw [hq0];exact r0,rt⟩
     have hqd:q3∈tl:=hqd;refine lS (Zy (pW (pv 2) (Zi (Zb (pv 11) (Zb (ml (pv 3) Zf) Za))))) (lP rfl ⟨.inl ⟨rfl,_,lW hu⟩,_,rfl,_,rfl,.inl ⟨rm,_,_,.ref t0,rfl,rfl,lW hrm16,(show nU _ ((0:Nat):Int)=_ from Xn rfl),lR,fun tj H17 C4 n17 jk=>⟨jl,_,_,rfl,rfl,C4.at hu,?_,?_⟩⟩⟩)
     ·rw [lV];exact Zp (by lia)
     have hu17:=C4.at hu;have j18:Yl (upd H17 jl (.lst (us.map V.ref++[.ref tj]))) jl (js2++[(q3,q0)]):=⟨us++[tj],by rw [Zc,mq];rfl,uY (oP (mw y8 fun _ _ r=>r.mono C4) (.cons ⟨to,t0,jk,hq3t.mono C4,r0.mono C4⟩ .nil)) hu17⟩
     have p18:=((p15.mono A3).mono C4).offL (o:=.lst (us.map V.ref++[.ref tj])) hu17 npj;have hrm18:upd H17 jl (.lst (us.map V.ref++[.ref tj])) rm=_:=(Zd nmj).trans (C4.at hrm16);have hrt18:=Ww (o:=.lst (us.map V.ref++[.ref tj])) (mw hrt fun _ _ r=>r.mono C4) hu17;have q18:=(hq3t.mono C4).offL (o:=.lst (us.map V.ref++[.ref tj])) hu17;have K3:lK H (upd H17 jl (.lst (us.map V.ref++[.ref tj]))):=fun b o z=>(Zd (Zg z fj)).trans (C4.at (A3.at (s015.at z)))
     generalize (upd H17 jl (.lst (us.map V.ref++[.ref tj])))=H18 at j18 p18 hrm18 hrt18 q18 K3;refine lU (me 3 Yh (ph ["_law_end", "_law_other"] (nZ 1 [11] rfl) (Ym (X7 (r:=qL K) qU (pv 3) (Wh Zf) Wr)) (ng 0) (rP (Z4 (r:=ro K) (uQ hr) (pv 0) (pv 1) (Yw _))) (pv 0))) (lP rfl (lP rfl (.inr (.inl ⟨rm,_,rfl,lW hrm18,fun l2 H19 T7 n19 e19=>⟨lW e19,fun D2 w4=>?_⟩⟩))));rw [show (some (1:Int))=some ((1:Nat):Int) from rfl,wu,<-DK] at e19;have q19:=q18.mono T7;refine Iw (ts:=rs') (qs:=tl) (keep:=fun x=>decide (x≠q3)) (w:=some (.ref to)) e19 (mw hrt18 fun _ _ r=>r.mono T7) (by simp at hopl;lia) w4 (fun H20 s20 f20=>?q4) ?a4 ?b4
     case a4=>rfl
     case b4 =>
      intro t x H' R sm hx hm hR;refine (lP rfl (lP rfl (.inr (.inl ⟨1,oq x,oq q3,by left,.inl ⟨_,_,rfl,rfl⟩,sJ (mD hx) (.cons (.str _) (.cons (.str _) .nil)),sJ (mD (q19.mono sm)) (.cons (.str _) (.cons (.str _) .nil)),_,rfl,?_⟩))));have:(!decide (oq x=oq q3))=decide (x≠q3):=by
       rw [qH];simp [oq,Prod.ext_iff]
      rw [lZ rfl,this];exact hR
     have T0:=T7.trans s20;exact ⟨K3.trans T0,D2,_,_,_,_,_,_,_,_,_,_,_,rfl,p18.mono T0,j18.mono T0,f20,(K8.join (Uc K8.net.ond hqd) hqk).mono (by lia) (by lia),(K3.trans T7).free w4,(let ⟨_,z,_⟩:=p18;nR (Zg (T7.at z) w4)),(let ⟨_,z,_⟩:=j18;nR (Zg (T7.at z) w4))⟩
    ·exact ⟨s015.trans A3,rm,_,_,_,_,_,_,_,_,_,_,_,rfl,p15.mono A3,j15.mono A3,⟨rs,A3.at S8,mw S9 fun _ _ r=>r.mono A3⟩,K8.mono (by lia) (by lia),frm,nmp,nmj⟩
   ·exact ⟨s015.trans A3,rm,_,_,_,_,_,_,_,_,_,_,_,rfl,p15.mono A3,j15.mono A3,⟨rs,A3.at S8,mw S9 fun _ _ r=>r.mono A3⟩,K8.mono (by lia) (by lia),frm,nmp,nmj⟩
  ·rintro σ H4 ⟨s4,rl,o4,o5,o6,o7,o8,o9,J7,o11,ps,js,Zz,rfl,g8,u7,N6,hok,frl,S2,S3⟩;rw [lV] at hok;have hsm:=hok.sum;have hjb:=hok.jl;refine lS (Zy (Zx (UX T) hr (Zb (pv 1) (Zb (pv 2) (Zb (pv 3) (Zb (Z2 (Vo rfl) (by rfl) T.iT PyProof.Rows.boot_sum (Zb (pv 0) Za)) Za)))))) (lP rfl (lP rfl (lP rfl (lP rfl ⟨cl,cs,rfl,s4.seq u9,pl,jl,rl,yz cs,ps,js,Zz,rfl,g8,u7,N6,npj,S2,S3,by lia,by lia,by lia,fun H5 A9 C0 km hp5 hj5 hcl5=>?_⟩))));have hnet:=hok.done (by lia) hcl5;have hnl:A9.length=Zz.length:=by obtain ⟨ks,V6,hk2,hk3,hk4⟩:=hcl5;rw [hk3,lV,zG]
   refine lU (Zm (Zi (Zb (pv 1) (Zb (pv 2) Za)))) (lP rfl (lP rfl ⟨lR,fun t H6 s6 n6 e6=>q t H6 pl jl _ _ 0 (fun b o z=>s6.at (km b o (Zg z fp) (Zg z fj) (s4.at z))) e6 (hp5.mono s6) (hj5.mono s6) fp fj hnet ?_ ?_⟩))
   ·rw [mY];lia
   ·intro p hp;rcases mZ.mp hp with z|z
    ·obtain ⟨kd,h1,c,k,h2,h3⟩:=hok.nm p z;exact .inl ⟨kd,h1,c,k,by lia,h3⟩
    ·obtain ⟨ks,V6,hk2,hk3,hk4⟩:=hcl5;rw [hk3] at z;obtain ⟨j,hj,rfl⟩:=mh.mp z;exact .inr ⟨j,by have:=xE.mp hj;lia,rfl⟩
def qj(n k:Nat):kR:=("s" :kR)++Str.ofString (toString (n:Int))++(⟨#[pF.getD (k / 26) 0]⟩:kR)++(⟨#[pF.getD (k%26) 0]⟩:kR)
def Ff:∀i<26,pF.getD i 0=97+i:=by left
def Cv(n k:Nat):(qj n k).cps.toList=(("s" :kR)++Str.ofString (toString (n:Int))).cps.toList++[pF.getD (k / 26) 0]++[pF.getD (k%26) 0]:=by
 unfold qj;rw [wn,wn]
def WO(hk:k<600)(hk':k'<600)(h:qj n k=qj n' k'):k=k':=by
 have:=nV (fun s:kR=>s.cps.toList) h;simp only [Cv] at this;obtain ⟨h1,h2⟩:=List.append_inj' this rfl;obtain ⟨_,h3⟩:=List.append_inj' h1 rfl;rw [Bf] at h2 h3;rw [Ff _ (by lia),Ff _ (by lia)] at h2 h3;lia
def yw(H:Hp)(t:kS)(q:kR×kR×kR):Prop:=H t=some (.tup [.str q.1,.str q.2.1,.str q.2.2])
def rB(H:Hp)(l:kS)(sg:kQ (kR×kR×kR)):Prop:=∃ts:kQ kS,H l=some (.lst (ts.map V.ref))/\Paired (yw H) ts sg
def X2(ps:kQ Zh):kQ Zh:=ps.flatMap fun p=>if p.1∈[("plain" :kR), "gate", "stop"] then (Yr p.1).map (fun x=>(p.2,x)) else []
def Oi(ps:kQ Zh)(p:Zh):X2 (ps++[p])=X2 ps++(if p.1∈[("plain" :kR), "gate", "stop"] then (Yr p.1).map (fun x=>(p.2,x)) else []):=by
 unfold X2;rw [wB];simp
structure qI(es:List Zh)(i:Nat)(sg:List (Str×Str×Str)):Prop where
 at_:(sg.map fun q=>((q.2.1,q.2.2):Zh)).Sublist (es.take i)
 name:∀q∈sg,q.1=q.2.1\/∃n k,n<99/\k<i/\q.1=qj n k
 nd:(sg.map Prod.fst).Nodup
 len:sg.length<=40
def qI.skip(h:qI es i sg):qI es (i+1) sg:=by
 refine ⟨h.at_.trans ?_,fun q hq=>?_,h.nd,h.len⟩
 ·rw [nq];exact GW _ _
 ·rcases h.name q hq with z|⟨n,k,a,b,c⟩
  ·exact .inl z
  ·exact .inr ⟨n,k,a,by lia,c⟩
def qI.add(h:qI es i sg)(he:es[i]? =some e)(hn:nm=e.1\/∃n,n<99/\nm=qj n i)(k8:nm∉sg.map Prod.fst)(hl:sg.length<40):qI es (i+1) (sg++[(nm,e.1,e.2)]):=by
 refine ⟨?_,fun q hq=>?_,?_,by rw [mY];simp;lia⟩
 ·rw [nq,he,mq];exact List.Sublist.append h.at_ (List.Sublist.refl _)
 ·rcases mZ.mp hq with z|z
  ·exact h.skip.name q z
  ·rw [nW] at z;subst z;rcases hn with y|⟨n,a,b⟩
   ·exact .inl y
   ·exact .inr ⟨n,i,a,by lia,b⟩
 ·rw [mq,pP];refine ⟨h.nd,by simp,fun a ha b hb z=>?_⟩;simp at hb;exact k8 (by rw [<-hb,<-z];exact ha)
def qI.fresh(h:qI es i sg)(hi:i<600)(p0:∀n k e,e∈es->n<99->k<600->e.1≠qj n k)(hn:n<99):qj n i∉sg.map Prod.fst:=fun hm=>by
 obtain ⟨q,hq,e⟩:=mh.mp hm;rcases h.name q hq with z|⟨n',k,a,b,c⟩
 ·have:((q.2.1,q.2.2):Zh)∈es:=Eh (h.at_.subset (mh.mpr ⟨q,hq,rfl⟩));exact p0 n i _ this hn hi (z.symm.trans e)
 ·have:=WO hi (by lia) (e.symm.trans c);lia
def rB.mono(e:lK H H')(h:rB H l sg):rB H' l sg:=let ⟨ts,h1,h2⟩:=h;⟨ts,e.at h1,mw h2 fun _ _ r=>e.at r⟩
inductive IE(K:kX):Sp
 | mk (pl c) (ps:kQ Zh):vs=[.ref pl,.int c]->Zv H pl ps->ps.length<=45->(∀n k e,e∈X2 ps->n<99->k<600->e.1≠qj n k)->(∀(l:kS) (H':Hp) (sg:kQ (kR×kR×kR)),lK H H'->H l=none->rB H' l sg->qI (X2 ps) (X2 ps).length sg->Q (.ref l) H')->IE K vs H Q E
def zO(k:kR):(Yr k).length<=4:=by
 unfold Yr;split
 ·decide
 ·split
  ·decide
  ·split <;>decide
theorem Aq:∀ps:kQ Zh,(X2 ps).length<=4 * ps.length
 | []=>by simp [X2]
 | p ::ps=>by
  have:=Aq ps;have h2:=zO p.1;rw [show X2 (p ::ps)=(if p.1∈[("plain" :kR), "gate", "stop"] then (Yr p.1).map (fun x=>((p.2,x):Zh)) else [])++X2 ps from rfl,mY,ou];split
  ·rw [lV];lia
  ·simp;lia
def JD:∀n<99,(Str.ofString (toString ((n:Nat):Int))).length<=2:=by trivial
def RC:∀n<99,(((n:Nat):Int).natAbs).log2<1920:=by trivial
def TM:T.cE.O P w mg lL 2 (IE K):=by
 refine T.cE.F.okW Z6 ?_;rfl'
 ·obtain ⟨pl,c,ps,rfl,⟨ts,d9,N8⟩,g8,p0,q⟩:=h;intro X D;have M4:ts.length=ps.length:=mv N8;refine lS (me 2 Z6 Ze) ?_;refine lS (me 3 Z6 (Zl Za)) ⟨lR,fun l0 H1 s1 n1 e1=>?_⟩;let I6:IF:=fun i σ H'=>∃le,(∃o4 o5 o6,σ=[some (.ref pl),some (.int c),some (.str "abcdefghijklmnopqrstuvwxyz"),some (.ref le),o4,o5,o6,none,none,none,none])/\lK H H'/\Zv H' le (X2 (ps.take i))
  refine lS (Xb ol rfl (Ym (pv 0)) (qG rfl (Zq (mP 4 Z6) (Zq (mP 5 Z6) Y9))) Zn) (lP rfl ⟨lW (s1.at d9),Wc (xs:=ts.map V.ref) I6 ⟨l0,⟨none,none,none,rfl⟩,s1,[],e1,.nil⟩ ?_ ?_ ?_⟩)
  ·rintro i σ H' _ ⟨_,_,sm,_⟩;exact lW (sm.at d9)
  ·rintro i v σ H2 hi ⟨le,⟨o4,o5,o6,rfl⟩,s2,us,D9,y8⟩;rw [mG] at hi;obtain ⟨t,ht,rfl⟩:=mS.mp hi;obtain ⟨p,hp,rp⟩:=oO N8 ht;have F8:i<ts.length:=(oj.mp ht).1;have hbl:=Aq (ps.take i);rw [nI] at hbl;have hul:us.length=(X2 (ps.take i)).length:=mv y8;have nxt:X2 (ps.take (i+1))=X2 (ps.take i)++(if p.1∈[("plain" :kR), "gate", "stop"] then (Yr p.1).map (fun x=>((p.2,x):Zh)) else []):=by
    rw [nq,hp];exact Oi _ _
   refine ⟨t,_,rfl,mD (s2.at rp),rfl,_,_,rfl,_,_,rfl,rfl,?_⟩;refine lU (Zt (vP hr (pv 4) (Zl (Zb Ze (Zb Ze (Zb Ze Za))))) Zn Zk) (lP rfl ⟨lR,fun lk H3 s3 n3 e3=>.inl ⟨lk,_,rfl,.inl (lW e3),rfl,rfl,_,rfl,?_⟩⟩);rw [lY mX,show oo (.str p.1) [.str "plain",.str "gate",.str "stop"]=decide (p.1∈[("plain" :kR), "gate", "stop"]) from Wo p.1 ["plain", "gate", "stop"]];refine Yj (fun hc=>?_) (fun hc=>⟨le,⟨_,_,_,rfl⟩,s2.trans s3,?_⟩)
   ·have hc:=nM hc;rw [lZ hc] at nxt;refine lU (me 3 Z6 (Zo Wz (pv 3) (ph ["_law_end", "_law_name"] (nZ 1 [5] rfl) (Ym (Zx (Iv T) hr (Zb (pv 4) Za))) (ng 0) Wk (Zi (Zb (pv 1) (Zb (pv 0) Za)))))) (lP rfl (lP rfl ⟨p.1,rfl,fun lp H4 s4 n4 e4=>⟨lW e4,fun D hD=>?_⟩⟩));have Q7:=zO p.1;refine Ke (xs:=Yr p.1) (x:=p.2) e4 (by lia) hD (fun H5 s5 f5=>?qq) ?aa ?bb
    case aa=>rfl
    case bb=>rfl
    case qq =>
     obtain ⟨vs,hv,hvs⟩:=f5;have hvl:vs.length=(Yr p.1).length:=by rw [mv hvs,lV]
     have s35:=s3.trans (s4.trans s5);refine .inr (.inr ⟨le,D,_,_,rfl,rfl,s35.at D9,hv,by rw [lV,lV];exact sz (by lia),fun ln H6 s6 n6 e6=>⟨ln,⟨_,_,_,rfl⟩,s2.trans (s35.trans s6),?_⟩⟩);rw [nxt];exact ⟨us++vs,by rw [e6,mq],oP (mw y8 fun _ _ r=>(s35.trans s6).at r) (mw hvs fun _ _ r=>s6.at r)⟩
   ·have hc:¬p.1∈[("plain" :kR), "gate", "stop"]:=fun z=>hc (mB z)
    rw [nxt,lY hc,pz];exact Zv.mono s3 ⟨us,D9,y8⟩
  rintro σ H2 ⟨le,⟨o4,o5,o6,rfl⟩,s2,hE⟩;rw [lV,M4,ow] at hE;obtain ⟨us,D9,y8⟩:=hE;have hbl:=Aq ps;have hul:us.length=(X2 ps).length:=mv y8;obtain ⟨es,m9⟩:∃es,es=X2 ps:=⟨_,rfl⟩
  rw [<-m9] at y8 hul p0 q hbl;refine lS (me 7 Z6 (Zl Za)) ⟨lR,fun lf H3 s3 n3 e3=>?_⟩;let I7:IF:=fun i σ H'=>(∃o5 o6 o8 o9 J7,σ=[some (.ref pl),some (.int c),some (.str "abcdefghijklmnopqrstuvwxyz"),some (.ref le),o4,o5,o6,some (.ref lf),o8,o9,J7])/\lK H2 H'/\∃sg,rB H' lf sg/\qI es i sg
  refine lS (Xb ol rfl (xc rfl T.bP (Zb (pv 3) Za)) (qG rfl (Zq (mP 8 Z6) (Zq (mP 6 Z6) Y9))) Zn) (lP rfl ⟨lW (s3.at D9),xN (xs:=us.map V.ref) I7 ⟨⟨_,_,none,none,none,rfl⟩,s3,[],⟨[],e3,.nil⟩,⟨At _,(fun _ z=>nomatch z),su,oJ _⟩⟩ ?_ ?_ ?_⟩)
  ·rintro i σ H' _ ⟨_,sm,_⟩;exact lW (sm.at D9)
  ·rintro i x' σ H4 hi ⟨⟨o5',o6',o8,o9,J7,rfl⟩,s4,sg,hsg,ok⟩ p H5 s5 n5 e5;rw [mG] at hi;obtain ⟨te,O8,rfl⟩:=mS.mp hi;obtain ⟨e,he,re⟩:=oO y8 O8;have F8:i<us.length:=(oj.mp O8).1;have hi600:i<600:=by lia
   refine ⟨p,_,rfl,mD e5,rfl,_,_,rfl,_,_,rfl,rfl,?_⟩;have re5:Zr H5 te e:=s5.at (s4.at re);obtain ⟨gs,Q3,hgs⟩:=hsg.mono s5;have hgl:gs.length=sg.length:=mv hgs;have u8:=s4.trans s5;refine lS (me 9 Z6 (X1 (Wq T) hr rfl T.aj.m T.aj.F.kp T.aj.b .nil Z3 (Zb (pv 1) (Zb (pv 8) Za)))) (lP rfl (lP rfl ⟨c,_,rfl,?_⟩));generalize rV c ((i:Nat):Int)=dr;have skip:∃sg,rB H5 lf sg/\qI es (i+1) sg:=⟨sg,⟨gs,Q3,hgs⟩,ok.skip⟩
   refine lU (Zt (oM (xB (Z4 ug (Zo Yi (pv 9) Zf) (Zo Yi (pv 1) Zf) (Yw _)) (wP (Z4 uN (oH T.bw (pv 7)) Zf (Yw _))))) Zn Zk) (lP rfl (mz rfl rfl ⟨(by show (0:Int)<8;decide),_,rfl,_,_,rfl,rfl,(by show (0:Int)<7;decide),_,_,rfl,rfl,_,rfl,Yj (fun _=>(lP rfl (.inl ⟨lf,_,rfl,.inl (lW Q3),_,_,rfl,rfl,_,rfl,Yj (fun hl=>?_) (fun _=>⟨⟨_,_,_,_,_,rfl⟩,u8,skip⟩)⟩))) (fun _=>⟨⟨_,_,_,_,_,rfl⟩,u8,skip⟩)⟩));have hl:sg.length<40:=by
    have:=nM hl;rw [lV] at this;lia
   have m0:=oY (dr / 8) (show (99:Int)≠0 by left);have m1:=pc (dr / 8) (show (0:Int)<99 by left);obtain ⟨n,hn⟩:∃n:Nat,dr / 8%99=(n:Int):=⟨(dr / 8%99).toNat,by lia⟩
   have hn99:n<99:=by lia
   have R1:=JD n hn99;have d7:(("s" :kR)++Str.ofString (toString (n:Int))).length<=3:=by rw [oK];show 1+_<=3;lia
   have a1:nU pF ((i:Int) / 26)=some (pF.getD (i / 26) 0):=by
    have:=yf (n:=26) (l:=pF) (i:=(i:Int) / 26) rfl (by lia) (by lia);rw [show ((i:Int) / 26).toNat=i / 26 by lia] at this;exact this
   have a2:nU pF ((i:Int)%26)=some (pF.getD (i%26) 0):=by
    have:=yf (n:=26) (l:=pF) (i:=(i:Int)%26) rfl (by lia) (by lia);rw [show ((i:Int)%26).toNat=i%26 by lia] at this;exact this
   refine lS (me 10 Z6 (Zo Wz (ml (pv 2) (Zo Yo (pv 8) Zf)) (ml (pv 2) (Zo Yi (pv 8) Zf)))) (lP rfl (lP rfl (mz rfl rfl ⟨⟨by left,by left⟩,.inr (.inr ⟨_,_,pF.getD (i / 26) 0,rfl,rfl,sz (by rw [Bo];decide),by rw [zo];exact a1,_,rfl,_,rfl,_,_,rfl,rfl,(by show (0:Int)<26;decide),.inr (.inr ⟨_,_,pF.getD (i%26) 0,rfl,rfl,sz (by rw [Bo];decide),by rw [zo];exact a2,.inr (.inl (mz rfl rfl ⟨sz (by show 1+1<=1000;lia),?_⟩))⟩)⟩)⟩)));refine lU (Zy (pW (pv 7) (Zi (Zb (Zo Wz (Zo Wz Ze (Y6 zI (by rfl) T.ej uL (Zb (Zo Yi (Zo Yo (pv 9) Zf) Zf) Za))) (pv 10)) (Zb (ml (pv 6) Zf) (Zb (ml (pv 6) Zf) Za)))))) (lP rfl ⟨.inl ⟨rfl,_,lW Q3⟩,_,rfl,_,_,rfl,rfl,⟨by left,by left⟩,_,_,rfl,rfl,(by show (0:Int)<99;decide),(n:Int),?_,RC n hn99,.inr (.inl (mz rfl rfl ⟨sz (by show 1+_<=1000;lia),_,rfl,.inr (.inl (mz rfl rfl ⟨sz (by show _+2<=1000;lia),_,rfl,.inr (.inl ⟨te,_,_,.str e.1,rfl,rfl,mD re5,rfl,_,rfl,.inr (.inl ⟨te,_,_,.str e.2,rfl,rfl,mD re5,rfl,lR,fun t H7 s7 n7 e7=>⟨lf,_,_,rfl,rfl,s7.at Q3,by rw [lV];exact Zp (by lia),⟨_,_,_,_,_,rfl⟩,fun b o z=>?_,sg++[(qj n i,e.1,e.2)],⟨gs++[t],?_,?_⟩,ok.add he (.inr ⟨n,hn99,rfl⟩) (ok.fresh hi600 p0 hn99) hl⟩⟩)⟩)⟩))⟩))⟩)
   ·show [V.int (dr / 8%99)]=[V.int (n:Int)];rw [hn]
   ·rw [Zd (Zg z n3)];exact s7.at (u8.at z)
   ·rw [Zc,mq];rfl
   ·have off:∀{b:kS} {xs:kQ V},H7 b=some (.tup xs)->(upd H7 lf (.lst (gs.map V.ref++[V.ref t]))) b=some (.tup xs):=fun {b xs} z=>by
     rw [Zd fun y=>by rw [y,s7.at Q3] at z;cases z];exact z
    exact oP (mw hgs fun _ _ r=>off (s7.at r)) (.cons (off e7) .nil)
  ·rintro σ H4 ⟨⟨o5',o6',o8,o9,J7,rfl⟩,s4,sg,hsg,ok⟩;refine lU (Zm (pv 7)) (lP rfl (q lf H4 sg (s2.trans s4) (s2.free n3) hsg ?_));rw [lV,hul] at ok;exact ok
def tX(s:kR):Nat:=s.cps.toList.getLastD 0
def JM{x y:kR}(h:0<y.length):tX (x++y)=tX y:=by
 unfold tX;rw [wn];have:y.cps.toList≠[]:=fun z=>by
  have:y.cps.toList.length=0:=by rw [z];rfl
  rw [sM] at this;exact absurd h (by show ¬0<y.cps.size;lia)
 obtain ⟨ys,b,e⟩:=List.eq_nil_or_concat y.cps.toList |>.resolve_left this
 rw [e];simp
def Ho:∀k<100,tX (qV k)<58:=by trivial
def Nn{kd:kR}{c:Int}{k:Nat}(h:k<100):tX (Yt kd c k)<58:=by
 have h1:=Ho k h;have h2:=zW k h;unfold Yt;split <;>rw [JM h2] <;>exact h1
def TU{j:Nat}(h:j<100):tX (W5 j)<58:=by
 unfold W5;rw [JM (zW j h)];exact Ho j h
def Vg{n k:Nat}:97<=tX (qj n k):=by
 unfold tX;rw [Cv];have:=Ff (k%26) (by lia);simp only [List.getLastD_concat];lia
def Ma{n k:Nat}:2<=(qj n k).cps.toList.length:=by
 rw [Cv,mY,mY];simp
def QF{s:kR}{n k:Nat} (h:s = "g" \/s = "h" \/tX s<58):s≠qj n k:=fun z=>by
 rcases h with rfl|rfl|h
 ·have:=@Ma n k;rw [<-z] at this;exact absurd this (by left)
 ·have:=@Ma n k;rw [<-z] at this;exact absurd this (by left)
 ·have:=@Vg n k;rw [<-z] at this;lia
def OU{ps:kQ Zh}{e:Zh}(h:e∈X2 ps):∃p∈ps,e.1=p.2:=by
 unfold X2 at h;obtain ⟨p,hp,he⟩:=uz.mp h;refine ⟨p,hp,?_⟩;split at he
 ·obtain ⟨x,_,rfl⟩:=mh.mp he;rfl
 ·cases he
def tJ(s:kR):Prop:=s = "g" \/s = "h" \/uB s 63\/∃j,j<90/\s=W5 j
def tJ.sig{s:kR}{n k:Nat}(h:tJ s):s≠qj n k:=by
 refine QF ?_;rcases h with h|h|⟨kd,c,j,_,hj,rfl⟩|⟨j,hj,rfl⟩
 ·exact .inl h
 ·exact .inr (.inl h)
 ·exact .inr (.inr (Nn (by lia)))
 ·exact .inr (.inr (TU (by lia)))
def Ax(p:Zh):Prop:=p=((("gate" :kR),("g" :kR)):Zh)\/p=((("gate" :kR),("h" :kR)):Zh)\/uB p.2 63\/∃j,j<90/\p.2=W5 j
def Ax.nm{p:Zh}(h:Ax p):tJ p.2:=by
 rcases h with rfl|rfl|h|h
 ·exact .inl rfl
 ·exact .inr (.inl rfl)
 ·exact .inr (.inr (.inl h))
 ·exact .inr (.inr (.inr h))
structure xI(ps:List Zh)(js:List (Zh×Zh))(sg:List (Str×Str×Str)):Prop where
 net:Net ps js []
 len:ps.length<=39
 name:∀p∈ps,Ax p
 sigs:∃E1,E1.Perm ps/\qI (X2 E1) (X2 E1).length sg
def Net.perm'(h:Net ps js [])(hp:E1.Perm ps)(hj:js'.Perm js):Net E1 js' []:=by
 obtain ⟨a,b,c,d⟩:=h;rw [pz] at a;refine ⟨?_,(hp.map _).nodup_iff.mpr b,fun j hm=>c j (hj.mem_iff.mp hm),fun p hm=>d p (hp.mem_iff.mp hm)⟩;rw [pz];exact ((hj.flatMap_right _).trans a).trans (hp.flatMap_right _).symm
def TR(h:uB s n)(l:n<=m):uB s m:=let ⟨kd,c,k,a,b,e⟩:=h;⟨kd,c,k,a,by lia,e⟩
def Rj(h:De s n):uB s n:=by
 obtain ⟨kd,hk,c,k,a,e⟩:=h;refine ⟨kd,c,k,?_,a,e⟩;have:∀kd∈pE,96<kd.cps.toList.getD 0 0/\kd.cps.toList.getD 0 0<123:=by trivial
 exact this kd hk
def Tw{α β:Type}{R:α->β->Prop}{l1:kQ α}{l2:kQ β}(h:Paired R l1 l2):Paired R l1.reverse l2.reverse:=by
 induction h with
 | nil=>exact .nil
 | cons r _ ih=>rw [AQ,AQ];exact oP ih (.cons r .nil)
theorem Ky{α β:Type}{R:α->β->Prop}:∀(n:Nat) {l1:kQ α} {l2:kQ β},Paired R l1 l2->Paired R (l1.drop n) (l2.drop n)
 | 0,_,_,h=>h
 | _+1,_,_,.nil=>.nil
 | n+1,_,_,.cons _ t=>Ky n t
theorem FP{α β:Type}{R:α->β->Prop}:∀(n:Nat) {l1:kQ α} {l2:kQ β},Paired R l1 l2->Paired R (l1.take n) (l2.take n)
 | 0,_,_,_=>.nil
 | _+1,_,_,.nil=>.nil
 | n+1,_,_,.cons r t=>.cons r (FP n t)
inductive Ih(K:kX):Sp
 | mk (cl c) (cs:kQ Int):vs=[.ref cl,.int c]->SqL K H cl (cs.map V.int)->(∀c∈cs,0<=c)->cs.length<=63->(∀(t pl jl sl:kS) (H':Hp) (ps:kQ Zh) (js:kQ (Zh×Zh)) (sg:kQ (kR×kR×kR)),lK H H'->H' t=some (.tup [.ref pl,.ref jl,.ref sl])->Zv H' pl ps->Yl H' jl js->rB H' sl sg->xI ps js sg->Q (.ref t) H')->Ih K vs H Q E
def OC:T.cV.O P w mg lL 4 (Ih K):=by
 refine T.cV.F.okW Xk ?_;rfl'
 ·obtain ⟨cl,c,cs,rfl,hS,hc0,u9,q⟩:=h;intro X D;refine lS (me 2 Xk (Zx (Vx T) hr (Zb (pv 0) Za))) (lP rfl ⟨cl,cs,rfl,hS,hc0,fun t H1 pl jl ps js s1 e1 hP hJ n1 n2 net len nm=>?_⟩);let I8:IC:=fun σ H'=>∃t pl jl ps js,σ=[some (.ref cl),some (.int c),some (.ref t),none,none,none]/\lK H H'/\H' t=some (.tup [.ref pl,.ref jl])/\Zv H' pl ps/\Yl H' jl js/\Net ps js []/\ps.length<=39/\∀p∈ps,Ax p
  refine nX I8 ?_ ?_
  ·refine oi (Zt (om hr (Zo Yi (pv 1) Zf) Zf) Zn Zk) (lP rfl (mz rfl rfl ⟨(by show (0:Int)<3;decide),.inl ⟨rfl,_,rfl,Yj (fun _=>?_) (fun _=>⟨t,pl,jl,ps,js,rfl,s1,e1,hP,hJ,net,by lia,fun p hp=>?_⟩)⟩⟩))
   ·refine lU (me 2 Xk (Zx (RY T) hr (Zb (pv 0) Za))) (lP rfl ⟨cl,cs,rfl,s1.seq hS,hc0,u9,fun t H2 pl jl ps js _ s2 e2 hP hJ _ _ net len nm=>⟨t,pl,jl,ps,js,rfl,s1.trans s2,e2,hP,hJ,net,len,fun p hp=>?_⟩⟩);rcases nm p hp with z|z
    ·exact .inr (.inr (.inl (Rj z)))
    ·exact .inr (.inr (.inr z))
   ·rcases nm p hp with z|z|z
    ·exact .inl z
    ·exact .inr (.inl z)
    ·exact .inr (.inr (.inl (TR z (by left))))
  clear e1 hP hJ n1 n2 net len nm s1;rintro σ H1 ⟨t,pl,jl,ps,js,rfl,s1,e1,hP,hJ,net,len,nm⟩;refine lS (ID (pv 2) (qG rfl (Zq (mP 3 Xk) (Zq (mP 4 Xk) Y9)))) (lP rfl ⟨t,_,rfl,mD e1,rfl,_,_,rfl,_,_,rfl,rfl,?_⟩);obtain ⟨us,hu,y8⟩:=id hP;have hul:us.length=ps.length:=mv y8;obtain ⟨mx,hmx,hm1⟩:∃mx:Int,(if ((us.map V.ref).length:Int) >1 then ((us.map V.ref).length:Int) else 1)=mx/\0<mx:=by
   refine (lP rfl ?_);split <;>lia
  have a0:=oY (c / 3) (show mx≠0 by lia);obtain ⟨at',A5⟩:∃k:Nat,c / 3%mx=(k:Int):=⟨(c / 3%mx).toNat,by lia⟩
  refine lS (me 5 Xk (Zo Yi (Zo Yo (pv 1) Zf) (Z2 (Gp rfl) (by rfl) T.iE Gq (Zb Zf (Zb (oH T.bw (pv 3)) Za))))) (lP rfl (mz rfl rfl ⟨⟨by left,by left⟩,_,rfl,.inl ⟨pl,_,rfl,.inl (lW hu),_,_,rfl,_,_,rfl,rfl,?_,?_⟩⟩))
  ·show (0:Int)<(if ((us.map V.ref).length:Int) >1 then ((us.map V.ref).length:Int) else 1);rw [hmx];exact hm1
  show WSs _ _ _ [some (.ref cl),some (.int c),some (.ref t),some (.ref pl),some (.ref jl),some (.int (c / 3%(if ((us.map V.ref).length:Int) >1 then ((us.map V.ref).length:Int) else 1)))] H1;rw [hmx,A5];let I9:IC:=fun σ H'=>∃jl' js',σ=[some (.ref cl),some (.int c),some (.ref t),some (.ref pl),some (.ref jl'),some (.int (at':Int))]/\lK H1 H'/\Yl H' jl' js'/\js'.Perm js
  refine nX I9 ?_ ?_
  ·obtain ⟨ws,hw,hws⟩:=id hJ;refine oi (Zt (om hr (Zo Yi (Zo Yo (pv 1) Zf) Zf) Zf) Zn Zk) (lP rfl (mz rfl rfl ⟨⟨by left,by left⟩,_,_,rfl,rfl,(by show (0:Int)<2;decide),.inl ⟨rfl,_,rfl,Yj (fun _=>?_) (fun _=>⟨jl,js,rfl,pH _,hJ,Fj _⟩)⟩⟩));refine lU (me 4 Xk (Ut (ops:=fun l r=>[l,r]) (pv 4) (Wh (yQ xK Zf)) (fun _ _=>by with_unfolding_all rfl))) (lP rfl (lP rfl (lP rfl ⟨jl,_,rfl,rfl,lW hw,fun jr H2 s2 n2 e2=>⟨jr,js.reverse,rfl,s2,⟨ws.reverse,by rw [e2,List.map_reverse],?_⟩,List.reverse_perm _⟩⟩)));exact Tw (mw hws fun _ _ r=>r.mono s2)
  rintro σ H2 ⟨jl',js',rfl,s2,hJ',hjp⟩;refine lU (Zm (Zi (Zb (Zo Wz (X7 (r:=qL K) qU (pv 3) (Wh (pv 5)) Wr) (X7 (r:=qL K) qU (pv 3) Wr (Wh (pv 5)))) (Zb (pv 4) (Zb (Zx (TM T) hr (Zb (pv 3) (Zb (Zo Yo (pv 1) Zf) Za))) Za))))) (lP rfl (lP rfl (lP rfl (.inr (.inl ⟨pl,_,rfl,lW (s2.at hu),fun la H3 s3 n3 e3=>(lP rfl (lP rfl (lP rfl (.inr (.inl ⟨pl,_,rfl,lW (s3.at (s2.at hu)),fun lb H4 s4 n4 e4=>.inr (.inr ⟨la,lb,_,_,rfl,rfl,s4.at e3,e4,?_,fun lc H5 s5 n5 e5=>?_⟩)⟩)))))⟩)))))
  ·rw [wu,xC,xH,nI,lV];exact sz (by lia)
  have u8:=s3.trans (s4.trans s5);have C3:=s2.trans u8;refine (lP rfl (lP rfl (lP rfl (mz rfl rfl ⟨⟨by left,by left⟩,pl,_,ps,rfl,hP.mono C3,by lia,fun n k e he _ _=>?_,fun sl H6 sg s6 n6 hG ok=>⟨lR,fun t' H7 s7 n7 e7=>?_⟩⟩))))
  ·obtain ⟨p,hp,e1⟩:=OU he;rw [e1];exact tJ.sig (nm p hp).nm
  rw [wu,xC,<-DK,<-vq,<-mq] at e5;have s57:=s6.trans s7;have rot:(ps.drop at'++ps.take at').Perm ps:=by
   have:=MA (l₁:=ps.drop at') (l₂:=ps.take at');rwa [AF] at this
  refine q t' lc jl' sl H7 (ps.drop at'++ps.take at') js' sg (s1.trans (C3.trans s57)) e7 ⟨us.drop at'++us.take at',s57.at e5,?_⟩ (hJ'.mono (u8.trans s57)) (hG.mono s7) ⟨Net.perm' net rot hjp,?_,fun p hp=>nm p (rot.mem_iff.mp hp),⟨ps,rot.symm,ok⟩⟩
  ·have:=mw y8 fun _ _ r=>Zr.mono (C3.trans s57) r
   exact oP (Ky _ this) (FP _ this)
  ·rw [rot.length_eq];exact len
def qK(c:Nat):Bool:=decide (97<=c) && decide (c<=122)
def oS(c:Nat):Bool:=qK c || (decide (48<=c) && decide (c<=57))
def Yx(s:kR):Prop:=1<=s.length/\s.length<=6/\qK (s.cps.toList.headD 0)=true/\s.cps.toList.all oS=true
def AE:∀k<100,(qV k).cps.toList.all oS=true:=by trivial
def Cs:∀i<26,qK (pF.getD i 0)=true:=by left
def Oa(h:qK c=true):oS c=true:=by unfold oS;rw [h];rfl
def uo{x y:kR}(hx:x.cps.toList.all oS=true)(hy:y.cps.toList.all oS=true):(x++y).cps.toList.all oS=true:=by
 rw [wn,List.all_append,hx,hy];rfl
def uh{x y:kR}(h:0<x.length):(x++y).cps.toList.headD 0=x.cps.toList.headD 0:=by
 rw [wn];cases e:x.cps.toList with
 | nil =>
  have:x.cps.size=0:=by rw [<-sM,e];rfl
  exact absurd h (by show ¬0<x.cps.size;lia)
 | cons a l=>rfl
def yu(h:qK c=true):(⟨#[c]⟩:kR).cps.toList.all oS=true:=by
 show ([c]:kQ Nat).all oS=true;simp [Oa h]
def Op{j:Nat}(h:j<100):Yx (W5 j):=by
 have h1:=AL j h;have h2:=zW j h;unfold W5;refine ⟨?_,?_,?_,uo (by trivial) (AE j h)⟩
 ·rw [oK];lia
 ·rw [oK,show ("e" :kR).length=1 by trivial];lia
 ·rw [uh (by trivial)];decide +kernel
def PD{n k:Nat}(hn:n<99)(hk:k<600):Yx (qj n k):=by
 have h1:=JD n hn;have a1:=Cs (k / 26) (by lia);have a2:=Cs (k%26) (by lia);have hs:("s" :kR).length=1:=by trivial
 have h0:0<(("s" :kR)++Str.ofString (toString (n:Int))).length:=by rw [oK,hs];lia
 have hf:(Str.ofString (toString (n:Int))).cps.toList.all oS=true:=AE n (by lia);unfold qj;refine ⟨?_,?_,?_,uo (uo (uo (by trivial) hf) (yu a1)) (yu a2)⟩
 ·rw [oK,oK];lia
 ·rw [oK,oK,oK,hs];show 1+_+1+1<=6;lia
 ·rw [uh (by rw [oK];lia),uh h0,uh (by rw [hs];decide)];decide +kernel
def Qj:Yx "g" :=⟨by trivial,by trivial,by trivial,by trivial⟩
def UQ:Yx "h" :=⟨by trivial,by trivial,by trivial,by trivial⟩
def BC(h0:0<=i)(h1:i<26):qK (rj i)=true:=Cs i.toNat (by lia)
def TK:∀m<3,(qz "0" m).cps.toList.all oS=true:=by trivial
def QA{kd:kR}{c:Int}{k:Nat}(h0:96<kd.cps.toList.getD 0 0/\kd.cps.toList.getD 0 0<123)(hk:k<100):Yx (Yt kd c k):=by
 have l2:=we (kind:=kd) (c:=c) hk;refine ⟨by lia,RZ hk,?_,?_⟩
 ·unfold Yt;split
  ·rw [uh (by show 0<1;decide)];show qK (kd.cps.toList.getD 0 0)=true;unfold qK;simp only [pD,vY];lia
  ·have a0:=oY (c / 3) (show (26:Int)≠0 by left);have a1:=pc (c / 3) (show (0:Int)<26 by left);rw [uh (by rw [oK,oK];show 0<1+1+_;lia),uh (by rw [oK];show 0<1+1;decide),uh (by show 0<1;decide)];exact BC a0 a1
 ·unfold Yt;split
  ·refine uo (yu ?_) (AE k hk);unfold qK;simp only [pD,vY];lia
  ·have a0:=oY (c / 3) (show (26:Int)≠0 by left);have a1:=pc (c / 3) (show (0:Int)<26 by left);have b0:=oY (c / 78) (show (26:Int)≠0 by left);have b1:=pc (c / 78) (show (0:Int)<26 by left);have c0:=oY (c / 2028) (show (3:Int)≠0 by left);have c1:=pc (c / 2028) (show (0:Int)<3 by left);exact uo (uo (uo (yu (BC a0 a1)) (yu (BC b0 b1))) (TK _ (by lia))) (AE k hk)
def tJ.ok(h:tJ s):Yx s:=by
 rcases h with rfl|rfl|⟨kd,c,j,h0,hj,rfl⟩|⟨j,hj,rfl⟩
 ·exact Qj
 ·exact UQ
 ·exact QA h0 (by lia)
 ·exact Op (by lia)
def Cr(h:e∈X2 ps):∃p∈ps,e.1=p.2/\p.1∈[("plain" :kR), "gate", "stop"]/\e.2∈Yr p.1:=by
 unfold X2 at h;obtain ⟨p,hp,he⟩:=uz.mp h
 by_cases z:p.1∈[("plain" :kR), "gate", "stop"]
 ·rw [lZ z] at he;obtain ⟨x,hx,rfl⟩:=mh.mp he;exact ⟨p,hp,rfl,z,hx⟩
 ·rw [lY z] at he;cases he
def Tz(k:kR):(Yr k).Nodup:=by
 unfold Yr;split
 ·decide
 ·split
  ·decide
  ·split <;>decide
theorem Kk:∀{ps:kQ Zh},(ps.map Prod.snd).Nodup->(X2 ps).Nodup
 | [],_=>su
 | p ::ps,h=>by
  rw [mH,pj] at h;have ih:=Kk h.2;show ((if p.1∈[("plain" :kR), "gate", "stop"] then (Yr p.1).map (fun x=>((p.2,x):Zh)) else [])++X2 ps).Nodup;refine pP.mpr ⟨?_,ih,fun a ha b hb e=>?_⟩
  ·split
   ·exact Fc _ (fun a b h z=>h (zN z).2) (Tz p.1)
   ·exact su
  ·subst e;obtain ⟨p',hp',e1,_⟩:=Cr hb;split at ha
   ·obtain ⟨x,_,rfl⟩:=mh.mp ha;exact h.1 (mh.mpr ⟨p',hp',e1.symm⟩)
   ·cases ha
structure xA(ps:List Zh)(sg:List (Str×Str×Str)):Prop where
 name:∀q∈sg,Yx q.1
 nd:(sg.map Prod.fst).Nodup
 one:(sg.map Prod.snd).Nodup
 at_:∀q∈sg,∃p∈ps,p.2=q.2.1/\p.1∈[("plain" :Str), "gate", "stop"]/\q.2.2∈Yr p.1
 len:sg.length<=40
def qI.sigs(h:qI (X2 ps) (X2 ps).length sg)(nd:(ps.map Prod.snd).Nodup)(nm:∀p∈ps,tJ p.2)(hl:ps.length<=45):xA ps sg:=by
 have sub:=h.at_;rw [ow] at sub;have hb:=Aq ps;have mem:∀q∈sg,((q.2.1,q.2.2):Zh)∈X2 ps:=fun q hq=>sub.subset (mh.mpr ⟨q,hq,rfl⟩)
 refine ⟨fun q hq=>?_,h.nd,List.Nodup.sublist sub (Kk nd),fun q hq=>?_,h.len⟩
 ·rcases h.name q hq with z|⟨n,k,a,b,c⟩
  ·obtain ⟨p,hp,e,_⟩:=Cr (mem q hq);rw [z,show q.2.1=p.2 from e];exact tJ.ok (nm p hp)
  ·rw [c];exact PD a (by lia)
 ·obtain ⟨p,hp,e,k,m⟩:=Cr (mem q hq);exact ⟨p,hp,e.symm,k,m⟩
def xA.perm(h:xA E1 sg)(hp:E1.Perm ps):xA ps sg :=
 ⟨h.name,h.nd,h.one,fun q hq=>let ⟨p,a,b⟩:=h.at_ q hq;⟨p,hp.mem_iff.mp a,b⟩,h.len⟩
def xI.sigsV(h:xI ps js sg):xA ps sg:=by
 obtain ⟨E1,hp,ok⟩:=h.sigs;exact (ok.sigs ((hp.map _).nodup_iff.mpr h.net.nd) (fun p hm=>(h.name p (hp.mem_iff.mp hm)).nm) (by rw [hp.length_eq];have:=h.len;lia)).perm hp
inductive um(K:kX):Sp
 | mk (x C dx nm):vs=[.ref x,.str nm]->H x=some (.ins C dx [])->oF K C->lX K C "name" ->Q .non (upd H x (.ins C dx [("name",.str nm)]))->um K vs H Q E
def Y1:T.ah.O P w mg lL 1 (um K):=by
 refine T.ah.F.okA ?_;rfl'
 ·obtain ⟨x,C,dx,nm,rfl,hx,c,n1,q⟩:=h;intro X D;exact lU (Wg (pv 0) (pv 1) rfl) (lP rfl (lP rfl ⟨x,C,dx,[],rfl,hx,c,n1,by simp,q⟩))
def pC(H:Hp)(C x:kS)(nm:kR):Prop:=∃dx,H x=some (.ins C dx [("name",.str nm)])
def xt(C:kS):kQ V->Hp->VK->Prop:=fun vs H Q=>∃nm:kR,vs=[.str nm]/\∀x H',lK H H'->H x=none->pC H' C x nm->Q (.ref x) H'
def yG(c:oF K C) (n:lX K C "name"):∀vs H Q,xt C vs H Q->∀x dx,H x=none->H dx=none->dx≠x->um K (.ref x ::(vs++[])) (upd (upd H dx (.own x)) x (.ins C dx [])) (fun v H2=>v=.non/\Q (.ref x) H2) E0:=by
 rintro vs H Q ⟨nm,rfl,q⟩ x dx h1 h2 ne;refine ⟨x,C,dx,nm,rfl,Zc,c,n,rfl,q x _ (fun b o e=>?_) h1 ⟨dx,Zc⟩⟩;rw [Zd (Zg e h1),Zd (Zg e h1),Zd (Zg e h2)];exact e
abbrev DI(T:Tx K mg):kQ V->Hp->VK->Prop:=xt T.bF
def LG:∀vs H Q,DI T vs H Q->∀x dx,H x=none->H dx=none->dx≠x->um K (.ref x ::(vs++[])) (upd (upd H dx (.own x)) x (.ins T.bF dx [])) (fun v H2=>v=.non/\Q (.ref x) H2) E0:=yG T.dJ T.eg
abbrev LM(T:Tx K mg):kQ V->Hp->VK->Prop:=xt T.br
def Ti:∀vs H Q,LM T vs H Q->∀x dx,H x=none->H dx=none->dx≠x->um K (.ref x ::(vs++[])) (upd (upd H dx (.own x)) x (.ins T.br dx [])) (fun v H2=>v=.non/\Q (.ref x) H2) E0:=yG T.eJ T.eK
abbrev zL(T:Tx K mg):kQ V->Hp->VK->Prop:=xt T.bt
def DD:∀vs H Q,zL T vs H Q->∀x dx,H x=none->H dx=none->dx≠x->um K (.ref x ::(vs++[])) (upd (upd H dx (.own x)) x (.ins T.bt dx [])) (fun v H2=>v=.non/\Q (.ref x) H2) E0:=yG T.eM T.eN
abbrev Nb(T:Tx K mg):kQ V->Hp->VK->Prop:=xt T.aG
def QM:∀vs H Q,Nb T vs H Q->∀x dx,H x=none->H dx=none->dx≠x->um K (.ref x ::(vs++[])) (upd (upd H dx (.own x)) x (.ins T.aG dx [])) (fun v H2=>v=.non/\Q (.ref x) H2) E0:=yG T.cY T.dL
abbrev LZ(T:Tx K mg):kQ V->Hp->VK->Prop:=xt T.bG
def Ra:∀vs H Q,LZ T vs H Q->∀x dx,H x=none->H dx=none->dx≠x->um K (.ref x ::(vs++[])) (upd (upd H dx (.own x)) x (.ins T.bG dx [])) (fun v H2=>v=.non/\Q (.ref x) H2) E0:=yG T.dM T.ei
def X3(k:kR)(C:kS):Prop:=(k = "points" /\C=T.aG)\/(k = "cross" /\C=T.bG)\/(k = "gate" /\C=T.bt)\/(k = "stop" /\C=T.br)\/(k = "plain" /\(C=T.cz\/C=T.bF))
inductive LW:Sp
 | mk (k nm:kR):vs=[.str k,.str nm]->k∈pE->nm.length<=6->(∀(x C:kS) (H':Hp),lK H H'->H x=none->X3 T k C->pC H' C x nm->Q (.ref x) H')->LW vs H Q E
def Qi:T.ef.O P w mg lL 3 (LW T):=by
 refine T.ef.F.okA ?_;rfl'
 ·obtain ⟨k,nm,rfl,hk,hl,q⟩:=h;intro X D;let I10:IC:=fun σ H'=>σ=[some (.str k),some (.str nm)]/\H'=H/\k ≠ "points"
  refine nX I10 ?_ ?_
  ·refine oi (Zt (om hr (pv 0) Ze) Zn Zk) (lP rfl (.inl ⟨rfl,_,rfl,Yj (fun hc=>?_) (fun hc=>⟨rfl,rfl,fun z=>hc (by rw [z];simp)⟩)⟩));have hc:k = "points" :=V.str.inj (nM hc);exact lU (Zm (X6 (Nb T) T.hZ (Y1 T) hr.m rfl T.gP T.ah.b .nil Z3 (QM T) (Zb (pv 1) Za))) (lP rfl ⟨nm,rfl,fun x H' s1 n1 o=>q x _ H' s1 n1 (.inl ⟨hc,rfl⟩) o⟩)
  rintro σ H1 ⟨rfl,hH1,nk0⟩;rw [hH1];let I11:IC:=fun σ H'=>σ=[some (.str k),some (.str nm)]/\H'=H/\k ≠ "cross"
  refine nX I11 ?_ ?_
  ·refine oi (Zt (om hr (pv 0) Ze) Zn Zk) (lP rfl (.inl ⟨rfl,_,rfl,Yj (fun hc=>?_) (fun hc=>⟨rfl,rfl,fun z=>hc (by rw [z];simp)⟩)⟩));have hc:k = "cross" :=V.str.inj (nM hc);exact lU (Zm (X6 (LZ T) T.iq (Y1 T) hr.m rfl T.iI T.ah.b .nil Z3 (Ra T) (Zb (pv 1) Za))) (lP rfl ⟨nm,rfl,fun x H' s1 n1 o=>q x _ H' s1 n1 (.inr (.inl ⟨hc,rfl⟩)) o⟩)
  rintro σ H2 ⟨rfl,hH2,nk1⟩;rw [hH2];let I12:IC:=fun σ H'=>σ=[some (.str k),some (.str nm)]/\H'=H/\k ≠ "gate"
  refine nX I12 ?_ ?_
  ·refine oi (Zt (om hr (pv 0) Ze) Zn Zk) (lP rfl (.inl ⟨rfl,_,rfl,Yj (fun hc=>?_) (fun hc=>⟨rfl,rfl,fun z=>hc (by rw [z];simp)⟩)⟩));have hc:k = "gate" :=V.str.inj (nM hc);exact lU (Zm (X6 (zL T) T.gE (Y1 T) hr.m rfl T.gO T.ah.b .nil Z3 (DD T) (Zb (pv 1) Za))) (lP rfl ⟨nm,rfl,fun x H' s1 n1 o=>q x _ H' s1 n1 (.inr (.inr (.inl ⟨hc,rfl⟩))) o⟩)
  rintro σ H3 ⟨rfl,hH3,nk2⟩;rw [hH3];let I13:IC:=fun σ H'=>σ=[some (.str k),some (.str nm)]/\H'=H/\k ≠ "stop"
  refine nX I13 ?_ ?_
  ·refine oi (Zt (om hr (pv 0) Ze) Zn Zk) (lP rfl (.inl ⟨rfl,_,rfl,Yj (fun hc=>?_) (fun hc=>⟨rfl,rfl,fun z=>hc (by rw [z];simp)⟩)⟩));have hc:k = "stop" :=V.str.inj (nM hc);exact lU (Zm (X6 (LM T) T.iH (Y1 T) hr.m rfl T.iC T.ah.b .nil Z3 (Ti T) (Zb (pv 1) Za))) (lP rfl ⟨nm,rfl,fun x H' s1 n1 o=>q x _ H' s1 n1 (.inr (.inr (.inr (.inl ⟨hc,rfl⟩)))) o⟩)
  rintro σ H4 ⟨rfl,hH4,nk3⟩;rw [hH4];have hp:k = "plain" :=by
   unfold pE at hk;simp only [mI,vK,sR] at hk;rcases hk with z|z|z|z|z
   ·exact z
   ·exact absurd z nk0
   ·exact absurd z nk1
   ·exact absurd z nk2
   ·exact absurd z nk3
  exact lU (Zm (X6 (DI T) T.gN (Y1 T) hr.m rfl T.hW T.ah.b .nil Z3 (LG T) (Zb (pv 1) Za))) (lP rfl ⟨nm,rfl,fun x H' s1 n1 o=>q x _ H' s1 n1 (.inr (.inr (.inr (.inr ⟨hp,.inr rfl⟩)))) o⟩)
section
variable {α β κ:Type} [DecidableEq κ] {f:α->κ} {R R':α->β->V->Prop} {kvs:kQ (κ×V)}
def DP(f:α->κ)(R:α->β->V->Prop)(kvs:kQ (κ×V))(qs:kQ (α×β)):Prop:=Paired (fun (kv:κ×V) (q:α×β)=>kv.1=f q.1/\R q.1 q.2 kv.2) kvs qs
def DP.none(h:DP f R kvs qs)(inj:∀a b,f a=f b->a=b){a:α}(n:a∉qs.map Prod.fst):Y2 kvs (f a)=none:=by
 unfold DP at h
 induction h with
 | nil=>rfl
 | cons r t ih =>
  rw [mH,mI,not_or] at n;rw [uH (fun z=>n.1 (inj _ _ (r.1.symm.trans z)).symm)];exact ih n.2
def DP.get(h:DP f R kvs qs)(inj:∀a b,f a=f b->a=b)(nd:(qs.map Prod.fst).Nodup){a:α}{b:β}(m:(a,b)∈qs):∃v,Y2 kvs (f a)=some v/\R a b v:=by
 unfold DP at h
 induction h with
 | nil=>cases m
 | @cons kv q _ _ r t ih =>
  rw [mH,pj] at nd;rcases mI.mp m with z|z
  ·rw [<-z] at r;exact ⟨_,vZ r.1,r.2⟩
  ·have:a≠q.1:=fun e=>nd.1 (by rw [<-e];exact mh.mpr ⟨_,z,rfl⟩)
   rw [uH (fun e=>this (inj _ _ (r.1.symm.trans e)).symm)];exact ih nd.2 z
def DP.put(h:DP f R kvs qs){a:α}{b:β}(n:Y2 kvs (f a)=Option.none)(r:R a b v):DP f R (nO kvs (f a) v) (qs++[(a,b)]):=by
 rw [GK v n];exact zv h ⟨rfl,r⟩
def DP.len(h:DP f R kvs qs):kvs.length=qs.length:=mv h
def DP.mapR(h:DP f R kvs qs)(m:∀a b v,R a b v->R' a b v):DP f R' kvs qs:=mw h fun _ _ z=>⟨z.1,m _ _ _ z.2⟩
def DP.keys(h:DP f R kvs qs):kvs.map Prod.fst=qs.map fun q=>f q.1:=by
 unfold DP at h
 induction h with
 | nil=>rfl
 | cons r t ih=>rw [mH,mH,ih,r.1]
end
def Xd(e:Zh):kQ md:=[.inr e.1,.inr e.2]
def W3(a b:Zh)(h:Xd a=Xd b):a=b:=by
 obtain ⟨a1,a2⟩:=a;obtain ⟨b1,b2⟩:=b;unfold Xd at h;simp only [Bf,Sum.inr.injEq,and_true] at h;rw [h.1,h.2]
def Y7(s:kR):md:=.inr s
def uZ(a b:kR)(h:Y7 a=Y7 b):a=b:=vj h
def qP(ps:kQ Zh):kQ (kR×kR):=ps.map fun p=>(p.2,p.1)
def qA(ps:kQ Zh):kQ (Zh×kR):=ps.flatMap fun p=>(Yr p.1).map fun e=>((p.2,e),p.1)
def qJ(js:kQ (Zh×Zh)):kQ (Zh×Zh):=js.flatMap fun j=>[(j.1,j.2),(j.2,j.1)]
def qS(sg:kQ (kR×kR×kR)):kQ (kR×Zh):=sg.map fun q=>(q.1,(q.2.1,q.2.2))
def qO(sg:kQ (kR×kR×kR)):kQ (Zh×kR):=sg.map fun q=>((q.2.1,q.2.2),q.1)
def BL(ps:kQ Zh):(qP ps).map Prod.fst=ps.map Prod.snd:=by unfold qP;rw [og];rfl
def AR(ps:kQ Zh):(qA ps).map Prod.fst=Yz ps:=by
 unfold qA Yz;rw [List.map_flatMap];simp only [og]
 rfl
def sY(js:kQ (Zh×Zh)):(qJ js).map Prod.fst=Xo js:=by
 unfold qJ Xo;rw [List.map_flatMap]
 rfl
def Fp(sg:kQ (kR×kR×kR)):(qS sg).map Prod.fst=sg.map Prod.fst:=by unfold qS;rw [og];rfl
def DR(sg:kQ (kR×kR×kR)):(qO sg).map Prod.fst=sg.map Prod.snd:=by unfold qO;rw [og];rfl
def RP(H:Hp):kR->kR->V->Prop:=fun nm k v=>∃x C,v=.ref x/\X3 T k C/\pC H C x nm
def RA(H:Hp):Zh->kR->V->Prop:=fun e k v=>∃x C,v=.ref x/\X3 T k C/\pC H C x e.1
def RJ(H:Hp):Zh->Zh->V->Prop:=fun _ e v=>∃t,v=.ref t/\Zr H t e
def RS(H:Hp):kR->Zh->V->Prop:=fun _ e v=>∃t,v=.ref t/\Zr H t e
def RO:Zh->kR->V->Prop:=fun _ s v=>v=.str s
def pC.mono(e:lK H H')(h:pC H C x nm):pC H' C x nm:=let ⟨dx,z⟩:=h;⟨dx,e.at z⟩
def RP.mono(e:lK H H')(a b:kR)(v:V)(h:RP U H a b v):RP U H' a b v:=let ⟨x,C,h1,h2,h3⟩:=h;⟨x,C,h1,h2,h3.mono e⟩
def RJ.mono(e:lK H H')(a b:Zh)(v:V)(h:RJ H a b v):RJ H' a b v:=let ⟨t,h1,h2⟩:=h;⟨t,h1,h2.mono e⟩
def RS.mono(e:lK H H')(a:kR)(b:Zh)(v:V)(h:RS H a b v):RS H' a b v:=let ⟨t,h1,h2⟩:=h;⟨t,h1,h2.mono e⟩
def MR(h:Zr H t e):H t=some (.tup ((Xd e).map kV)):=h
abbrev xJ:kR := "abcdefghijklmnopqrstuvwxyz"
abbrev BY:kR := "0123456789"
def QR:∀c,c<128->(!(Builtin.Str.occurrences xJ ⟨#[c]⟩ 0 xJ.length 1).isEmpty)=qK c:=by trivial
def QH:∀c,c<128->(!(Builtin.Str.occurrences (xJ++BY) ⟨#[c]⟩ 0 (xJ++BY).length 1).isEmpty)=oS c:=by trivial
def Og:xJ.length+BY.length<=sizeLine:=by rw [qT];decide +kernel
def Jt(h:oS c=true):c<128:=by
 unfold oS qK at h;simp at h;lia
def zc(x:kR):Bool:=(decide (1<=x.length) && decide (x.length<=6)) && (qK (x.cps.toList.headD 0) && x.cps.toList.all oS)
def Yx.b(h:Yx x):zc x=true:=by
 obtain ⟨h1,h2,h3,h4⟩:=h;unfold zc;rw [mB h1,mB h2,h3,h4]
 rfl
def Yx.low(h:Yx x):∀c∈x.cps.toList,c<128:=fun c hc=>Jt (uj.mp h.2.2.2 c hc)
def yV(K:kX)(H:Hp)(v:V)(b:Bool):Prop:=(∃x:kR,v=.str x/\(∀c∈x.cps.toList,c<128)/\x.length<=100/\zc x=b)\/(b=false/\∃t,Xl K H v t/\kitOne K t (.type "str")=some false)
def Yx.asked(h:Yx x):yV K H (.str x) true:=.inl ⟨x,rfl,h.low,by have:=h.2.1;lia,h.b⟩
inductive LB(K:kX):Sp
 | mk (v) (b:Bool):vs=[v]->yV K H v b->(∀H',lK H H'->Q (.bl b) H')->LB K vs H Q E
def yW:T.fE.O P w mg lL 1 (LB K):=by
 refine T.fE.F.okA ?_;rfl'
 ·obtain ⟨v,b,rfl,hA,q⟩:=h;intro X D;rcases hA with ⟨x,rfl,hasc,d7,hb⟩|⟨rfl,t,ty,k⟩
  ·have hx:x.cps.toList.length=x.length:=sM;refine lS (Zt (Y8 (Yn (qg "str" T.ag T.ej uL (pv 0)))) Zn Zk) (lP rfl ⟨_,_,true,_,rfl,Xl.str x,.inl (lP rfl T.ji),_,rfl,Yj (fun z=>absurd z (by left)) (fun _=>?_)⟩);refine lS (Zt (oM (Wj (om hr (pv 0) Ze) (Wl (Z4 ug (oH T.bw (pv 0)) (Ws (by rfl) T.eY) (Yw _))))) Zn Zk) (lP rfl (.inl ⟨rfl,_,rfl,Yj (fun z=>?_) (fun z0=>(lP rfl (.inr (.inl ⟨x,rfl,sz (by lia),_,_,rfl,rfl,_,rfl,Yj (fun z=>?_) (fun z1=>?_)⟩))))⟩))
   ·have e:x=("" :kR):=V.str.inj (nM z);have:b=false:=by rw [<-hb,e];decide +kernel
    rw [this] at q;exact lU (Zm ri) (q H (pH _))
   ·have z:(6:Int)<(x.length:Int):=nM z;have:b=false:=by
     rw [<-hb];unfold zc;rw [mO (show ¬x.length<=6 by lia),Bool.and_false]
     rfl
    rw [this] at q;exact lU (Zm ri) (q H (pH _))
   have h6:¬(6:Int)<(x.length:Int):=fun z=>z1 (mB z)
   have p0:x.cps.toList≠[]:=fun z=>z0 (mB (by
    have:x=("" :kR):=PyProof.Rows.ext_toList (z.trans (by trivial));rw [this]))
   obtain ⟨c,cs,K5⟩:∃c cs,x.cps.toList=c ::cs:=by
    cases e:x.cps.toList with
    | nil=>exact absurd e p0
    | cons c cs=>exact ⟨c,cs,rfl⟩
   have hl1:1<=x.length:=by rw [<-hx,K5,ou];lia
   refine lU (Zm (vd (IQ hr (ml (pv 0) Zf) (Er (by rfl) T.fN)) (wg (Z2 (r:=Ic K) (Py rfl) (by rfl) T.iU PyProof.Rows.boot_all (Zb (ph ["sign"] (nZ 1 [] rfl) (Ow (pv 0)) (ng 0) Wk (yR (r:=xL K) (As hr) (pv 0) (Zo Wz (Er (by rfl) T.fN) (Er (by rfl) T.gW)) (by with_unfolding_all rfl))) Za))))) (lP rfl (.inr (.inr ⟨x,0,c,rfl,rfl,sz (by lia),by rw [K5];exact Xn (j:=0) rfl,.inr (.inr (.inl (mz rfl rfl (lP rfl ?_))))⟩)));rw [QR c (hasc c (by rw [K5];exact mV))];have hb2:b=(qK c && x.cps.toList.all oS):=by
    rw [<-hb];unfold zc;rw [mB hl1,mB (show x.length<=6 by lia),K5]
    rfl
   cases hL:qK c with
   | false =>
    refine X0 ?_;rw [hb2,hL] at q;exact q H (pH _)
   | true =>
    rw [hL,Bool.true_and] at hb2;refine W7 ⟨_,rfl,x,rfl,?_,fun D hD=>?_⟩
    ·rw [Array.all_eq_true'];exact fun c hc=>mB (hasc c (IV.mpr hc))
    refine Rh (fun i ys H'=>ys=(x.cps.toList.take i).map (fun c=>V.bl (oS c))/\H' D=some (.lst ys)/\lK H H') ⟨rfl,Zc,fun b' o e=>by rw [Zd (Zg e hD)];exact e⟩ ?_ ?_
    ·rintro i c' ys H' hi ⟨rfl,v6,sm⟩;have hi':x.cps.toList[i]? =some c':=by simpa using hi
     have J8:c'<128:=hasc c' (oE hi');refine ⟨nS rfl,_,rfl,.inr (.inl ⟨_,_,rfl,rfl,Og,.inr (.inr (.inl ⟨_,_,rfl,rfl,v6,?_,?_⟩))⟩)⟩
     ·rw [lV,nI,qT];lia
     ·rw [QH c' J8];refine ⟨?_,Zc,fun b' o e=>?_⟩
      ·rw [nq,hi'];simp
      ·rw [Zd (Zg e hD)];exact sm b' o e
    ·rintro ys H' ⟨rfl,v6,sm⟩;refine ⟨D,(x.cps.toList.map oS),rfl,?_,?_⟩
     ·have e:(List.map oS x.cps.toList).map V.bl=List.map (fun c=>V.bl (oS c)) (List.take x.cps.size x.cps.toList):=by
       rw [og,uU (by simp)]
       rfl
      rw [e];exact lW v6
     ·have e:(List.map oS x.cps.toList).all id=b:=by rw [List.all_map,hb2];rfl
      rw [e];exact q H' sm
  ·refine lS (Zt (Y8 (Yn (qg "str" T.ag T.ej uL (pv 0)))) Zn Zk) (lP rfl ⟨_,_,false,t,rfl,ty,.inl (lP rfl k),_,rfl,Yj (fun _=>?_) (fun z=>absurd rfl z)⟩);exact lU (Zm ri) (q H (pH _))
inductive KD:Sp
 | mk (s d kvs):vs=[.str s,.ref d]->Yx s->H d=some (.dK kvs)->Y2 kvs (Y7 s)=none->(∀H',lK H H'->Q .non H')->KD  vs H Q E
def Az:T.aH.O P w mg lL 2 KD:=by
 refine T.aH.F.okW KN ?_;rfl'
 ·obtain ⟨x,d,kvs,rfl,hn,hd,hv,q⟩:=h;intro X D;refine lS (Zt (Y8 (Yn (Zx (yW T) hr (Zb (pv 0) Za)))) Zn Zk) (lP rfl ⟨_,true,rfl,hn.asked,fun H1 s1=>(lP rfl (Yj (fun z=>absurd z (by left)) (fun _=>?_)))⟩);refine lU (Zt (vP hr (pv 0) (pv 1)) Zn Zk) (lP rfl (lP rfl (.inr (.inl ⟨d,_,rfl,pp (k:=Y7 x) (s1.at hd),_,rfl,Yj (fun z=>?_) (fun _=>q H1 s1)⟩))));rw [hv] at z;exact absurd z (by left)
def wj(k:kR):kQ kR:=if k = "points" then ["left", "right"] else [""]
def Bd(k F0:kR):kQ (kR×kR):=if k = "points" then [("stem",F0)] else if k = "cross" then [("a", "b"),("c", "d")] else if k = "plain" then [("a", "b")] else [("", "a")]
def Dz(k:kR):Bool:=decide (k∈[("plain" :kR), "gate", "stop"])
def wk(e:kR):kQ (kR×kR)->kR
 | [] => ""
 | (one,two) ::r=>if e=one then two else if e=two then one else wk e r
def rM(k e F0:kR):kR:=if F0∈wj k then wk e (Bd k F0) else ""
def RK(H:Hp)(p:kS)(l:kQ (kR×kR)):Prop:=∃as:kQ kS,H p=some (.lst (as.map V.ref))/\Paired (fun a (q:kR×kR)=>H a=some (.tup [.str q.1,.str q.2])) as l
inductive tO(xs:kQ V):Sp
 | mk (v):vs=[v]->(∀p H',lK H H'->H p=none->H' p=some (.lst xs)->Q (.ref p) H')->tO xs vs H Q E
inductive wp(f:kR->kQ (kR×kR)):Sp
 | mk (v F0):vs=[v,.str F0]->(∀p H',lK H H'->RK H' p (f F0)->Q (.ref p) H')->wp f vs H Q E
inductive yb(b:Bool):Sp
 | mk (v):vs=[v]->Q (.bl b) H->yb b vs H Q E
def Hn:T.bN.O P w mg lL 1 (tO ((["a", "b"]:kQ kR).map V.str)):=by
 refine T.bN.F.okA ?_;rfl'
 ·obtain ⟨v,rfl,k⟩:=h;intro X D;exact lU (Zm (Zl (Zb Ze (Zb Ze Za)))) ⟨lR,k⟩
def yS:T.aK.O P w mg lL 1 (tO (([""]:kQ kR).map V.str)):=by
 refine T.aK.F.okA ?_;rfl'
 ·obtain ⟨v,rfl,k⟩:=h;intro X D;exact lU (Zm (Zl (Zb Ze Za))) ⟨lR,k⟩
def MV:T.bI.O P w mg lL 1 (wp fun F0=>[("a", "b")]):=by
 refine T.bI.F.okA ?_;rfl'
 ·obtain ⟨v,F0,rfl,k⟩:=h;intro X D;exact lU (Zm (Zl (Zb (Zi (Zb Ze (Zb Ze Za))) Za))) ⟨lR,fun p1 H1 s1 n1 e1=>⟨lR,fun p2 H2 s2 n2 e2=>k p2 H2 (s1.trans s2) ⟨[p1],e2,.cons (s2.at e1) .nil⟩⟩⟩
def zD:T.aN.O P w mg lL 1 (yb true):=by
 refine T.aN.F.okA ?_;rfl'
 ·obtain ⟨v,rfl,k⟩:=h;intro X D;exact lU (Zm ri) k
def Hj:T.bO.O P w mg lL 1 (tO ((["a"]:kQ kR).map V.str)):=by
 refine T.bO.F.okA ?_;rfl'
 ·obtain ⟨v,rfl,k⟩:=h;intro X D;exact lU (Zm (Zl (Zb Ze Za))) ⟨lR,k⟩
def KQ:T.bJ.O P w mg lL 1 (wp fun F0=>[("", "a")]):=by
 refine T.bJ.F.okA ?_;rfl'
 ·obtain ⟨v,F0,rfl,k⟩:=h;intro X D;exact lU (Zm (Zl (Zb (Zi (Zb Ze (Zb Ze Za))) Za))) ⟨lR,fun p1 H1 s1 n1 e1=>⟨lR,fun p2 H2 s2 n2 e2=>k p2 H2 (s1.trans s2) ⟨[p1],e2,.cons (s2.at e1) .nil⟩⟩⟩
def Vj:T.bW.O P w mg lL 1 (tO ((["stem", "left", "right"]:kQ kR).map V.str)):=by
 refine T.bW.F.okA ?_;rfl'
 ·obtain ⟨v,rfl,k⟩:=h;intro X D;exact lU (Zm (Zl (Zb Ze (Zb Ze (Zb Ze Za))))) ⟨lR,k⟩
def Nh:T.bX.O P w mg lL 1 (tO ((["left", "right"]:kQ kR).map V.str)):=by
 refine T.bX.F.okA ?_;rfl'
 ·obtain ⟨v,rfl,k⟩:=h;intro X D;exact lU (Zm (Zl (Zb Ze (Zb Ze Za)))) ⟨lR,k⟩
def Qq:T.bQ.O P w mg lL 1 (wp fun F0=>[("stem",F0)]):=by
 refine T.bQ.F.okA ?_;rfl'
 ·obtain ⟨v,F0,rfl,k⟩:=h;intro X D;exact lU (Zm (Zl (Zb (Zi (Zb Ze (Zb (pv 1) Za))) Za))) (lP rfl ⟨lR,fun p1 H1 s1 n1 e1=>⟨lR,fun p2 H2 s2 n2 e2=>k p2 H2 (s1.trans s2) ⟨[p1],e2,.cons (s2.at e1) .nil⟩⟩⟩)
def RH:T.bR.O P w mg lL 1 (yb false):=by
 refine T.bR.F.okA ?_;rfl'
 ·obtain ⟨v,rfl,k⟩:=h;intro X D;exact lU (Zm ri) k
def Uv:T.cp.O P w mg lL 1 (tO ((["a", "b", "c", "d"]:kQ kR).map V.str)):=by
 refine T.cp.F.okA ?_;rfl'
 ·obtain ⟨v,rfl,k⟩:=h;intro X D;exact lU (Zm (Zl (Zb Ze (Zb Ze (Zb Ze (Zb Ze Za)))))) ⟨lR,k⟩
def Oc:T.bY.O P w mg lL 1 (wp fun F0=>[("a", "b"),("c", "d")]):=by
 refine T.bY.F.okA ?_;rfl'
 ·obtain ⟨v,F0,rfl,k⟩:=h;intro X D;exact lU (Zm (Zl (Zb (Zi (Zb Ze (Zb Ze Za))) (Zb (Zi (Zb Ze (Zb Ze Za))) Za)))) ⟨lR,fun p1 H1 s1 n1 e1=>⟨lR,fun p2 H2 s2 n2 e2=>⟨lR,fun p3 H3 s3 n3 e3=>k p3 H3 (s1.trans (s2.trans s3)) ⟨[p1,p2],e3,.cons (s3.at (s2.at e1)) (.cons (s3.at e2) .nil)⟩⟩⟩⟩
def UC:T.bZ.O P w mg lL 1 (yb false):=by
 refine T.bZ.F.okA ?_;rfl'
 ·obtain ⟨v,rfl,k⟩:=h;intro X D;exact lU (Zm ri) k
def X3.ends{T:Tx K mg}{k:kR}{C:kS}(h:X3 T k C):∃f fd,Xa K C "ends" f/\pr K fd ["self"] []/\∀(P:lq) (w:lh) (lL:kZ) (j:Nat),1<=j->Xe P w K mg lL nH j f fd ["self"] (tO ((Yr k).map V.str)):=by
 rcases h with ⟨rfl,rfl⟩|⟨rfl,rfl⟩|⟨rfl,rfl⟩|⟨rfl,rfl⟩|⟨rfl,rfl|rfl⟩
 ·exact ⟨_,_,T.fk,T.bW.b,fun P w lL j hj=>(Vj T).mono hj⟩
 ·exact ⟨_,_,T.gc,T.cp.b,fun P w lL j hj=>(Uv T).mono hj⟩
 ·exact ⟨_,_,T.gy,T.bO.b,fun P w lL j hj=>(Hj T).mono hj⟩
 ·exact ⟨_,_,T.gw,T.bO.b,fun P w lL j hj=>(Hj T).mono hj⟩
 ·exact ⟨_,_,T.gq,T.bN.b,fun P w lL j hj=>(Hn T).mono hj⟩
 ·exact ⟨_,_,T.fS,T.bN.b,fun P w lL j hj=>(Hn T).mono hj⟩
def X3.lies{T:Tx K mg}{k:kR}{C:kS}(h:X3 T k C):∃f fd,Xa K C "lies" f/\pr K fd ["self"] []/\∀(P:lq) (w:lh) (lL:kZ) (j:Nat),1<=j->Xe P w K mg lL nH j f fd ["self"] (tO ((wj k).map V.str)):=by
 rcases h with ⟨rfl,rfl⟩|⟨rfl,rfl⟩|⟨rfl,rfl⟩|⟨rfl,rfl⟩|⟨rfl,rfl|rfl⟩
 ·exact ⟨_,_,T.fm,T.bX.b,fun P w lL j hj=>(Nh T).mono hj⟩
 ·exact ⟨_,_,T.ge,T.aK.b,fun P w lL j hj=>(yS T).mono hj⟩
 ·exact ⟨_,_,T.gz,T.aK.b,fun P w lL j hj=>(yS T).mono hj⟩
 ·exact ⟨_,_,T.gx,T.aK.b,fun P w lL j hj=>(yS T).mono hj⟩
 ·exact ⟨_,_,T.gu,T.aK.b,fun P w lL j hj=>(yS T).mono hj⟩
 ·exact ⟨_,_,T.fT,T.aK.b,fun P w lL j hj=>(yS T).mono hj⟩
def X3.pairs{T:Tx K mg}{k:kR}{C:kS}(h:X3 T k C):∃f fd,Xa K C "pairs" f/\pr K fd ["self", "lie"] []/\∀(P:lq) (w:lh) (lL:kZ) (j:Nat),1<=j->Xe P w K mg lL nH j f fd ["self", "lie"] (wp (Bd k)):=by
 rcases h with ⟨rfl,rfl⟩|⟨rfl,rfl⟩|⟨rfl,rfl⟩|⟨rfl,rfl⟩|⟨rfl,rfl|rfl⟩
 ·exact ⟨_,_,T.eO,T.bQ.b,fun P w lL j hj=>(Qq T).mono hj⟩
 ·exact ⟨_,_,T.ft,T.bY.b,fun P w lL j hj=>(Oc T).mono hj⟩
 ·exact ⟨_,_,T.fX,T.bJ.b,fun P w lL j hj=>(KQ T).mono hj⟩
 ·exact ⟨_,_,T.fU,T.bJ.b,fun P w lL j hj=>(KQ T).mono hj⟩
 ·exact ⟨_,_,T.fP,T.bI.b,fun P w lL j hj=>(MV T).mono hj⟩
 ·exact ⟨_,_,T.fg,T.bI.b,fun P w lL j hj=>(MV T).mono hj⟩
def X3.bears{T:Tx K mg}{k:kR}{C:kS}(h:X3 T k C):∃f fd,Xa K C "bears" f/\pr K fd ["self"] []/\∀(P:lq) (w:lh) (lL:kZ) (j:Nat),1<=j->Xe P w K mg lL nH j f fd ["self"] (yb (Dz k)):=by
 rcases h with ⟨rfl,rfl⟩|⟨rfl,rfl⟩|⟨rfl,rfl⟩|⟨rfl,rfl⟩|⟨rfl,rfl|rfl⟩
 ·exact ⟨_,_,T.eP,T.bR.b,fun P w lL j hj=>(RH T).mono hj⟩
 ·exact ⟨_,_,T.fw,T.bZ.b,fun P w lL j hj=>(UC T).mono hj⟩
 ·exact ⟨_,_,T.fY,T.aN.b,fun P w lL j hj=>(zD T).mono hj⟩
 ·exact ⟨_,_,T.fV,T.aN.b,fun P w lL j hj=>(zD T).mono hj⟩
 ·exact ⟨_,_,T.fQ,T.aN.b,fun P w lL j hj=>(zD T).mono hj⟩
 ·exact ⟨_,_,T.fh,T.aN.b,fun P w lL j hj=>(zD T).mono hj⟩
def X3.cls{T:Tx K mg}{k:kR}{C:kS}(h:X3 T k C):oF K C/\lX K C "name" /\Xa K C "leads" T.aM.f:=by
 rcases h with ⟨rfl,rfl⟩|⟨rfl,rfl⟩|⟨rfl,rfl⟩|⟨rfl,rfl⟩|⟨rfl,rfl|rfl⟩
 ·exact ⟨T.cY,T.dL,T.eQ⟩
 ·exact ⟨T.dM,T.ei,T.fz⟩
 ·exact ⟨T.eM,T.eN,T.fZ⟩
 ·exact ⟨T.eJ,T.eK,T.fW⟩
 ·exact ⟨T.fO,T.gD,T.fR⟩
 ·exact ⟨T.dJ,T.eg,T.fi⟩
def X3.stop{T:Tx K mg}{k:kR}{C x:kS}{nm:kR}{H:Hp}(h:X3 T k C)(o:pC H C x nm):∃t,Xl K H (.ref x) t/\kitOne K t (.ref T.br)=some (decide (k = "gate" \/k = "stop")):=by
 obtain ⟨dx,o⟩:=o;rcases h with ⟨rfl,rfl⟩|⟨rfl,rfl⟩|⟨rfl,rfl⟩|⟨rfl,rfl⟩|⟨rfl,rfl|rfl⟩
 ·exact ⟨_,Xl.ins o T.cY T.fe T.tG T.tK T.ff,T.iy⟩
 ·exact ⟨_,Xl.ins o T.dM T.gm T.tG T.tK T.gn,T.iL⟩
 ·exact ⟨_,Xl.ins o T.eM T.gL T.tG T.tK T.gM,T.iX⟩
 ·exact ⟨_,Xl.ins o T.eJ T.gJ T.tG T.tK T.gK,T.iW⟩
 ·exact ⟨_,Xl.ins o T.fO T.gG T.tG T.tK T.gI,T.iV⟩
 ·exact ⟨_,Xl.ins o T.dJ T.gj T.tG T.tK T.gk,T.iK⟩
inductive JF:Sp
 | mk (k a C nm e l):vs=[.ref a,.str e,.str l]->X3 T k C->pC H C a nm->(∀H',lK H H'->Q (.str (rM k e l)) H')->JF vs H Q E
def WC:T.aM.O P w mg lL 2 (JF T):=by
 refine T.aM.F.okW Dl ?_;rfl'
 ·obtain ⟨k,a,C,nm,e,l,rfl,hC,⟨dx,ha⟩,q⟩:=h;intro X D;obtain ⟨f1,d1,m1,b1,g1⟩:=hC.lies;obtain ⟨f2,d2,m2,b2,g2⟩:=hC.pairs;have cC:=hC.cls.1;refine lS (Zt (sV hr (pv 2) yM) Zn Zk) (lP rfl (pM (Xw (pv 0) cC m1 (g1 _ _ _ 1 (by left)) hr b1 .nil Z3) (lP rfl ⟨a,dx,_,rfl,ha,rfl,_,rfl,fun p H1 s1 n1 e1=>.inl ⟨p,_,rfl,.inl (lW e1),rfl,X5 _,_,rfl,?_⟩⟩)));rw [lZ rfl,Wo];refine Yj (fun hc=>?_) (fun hc=>?_)
  ·have hc:¬l∈wj k:=by simpa using hc
   refine lU (Zm Ze) ?_;have:rM k e l = "" :=by unfold rM;rw [lY hc]
   rw [this] at q;exact q H1 s1
  ·have hc:l∈wj k:=by simpa using hc
   refine lS (Xb ol rfl (Ym yM) (qG rfl (Zq (mP 3 Dl) (Zq (mP 4 Dl) Y9))) Zn) (pM (Z7 (pv 0) cC m2 (g2 _ _ _ 1 (by left)) hr b2 .nil Z3 (Zb (pv 2) Za)) (lP rfl ⟨a,dx,_,rfl,s1.at ha,rfl,_,rfl,_,l,rfl,fun p2 H2 s2 e2=>?_⟩));obtain ⟨as,h1,h2⟩:=e2;let I14:IF:=fun i σ H'=>(∃o3 o4,σ=[some (.ref a),some (.str e),some (.str l),o3,o4])/\lK H2 H'/\wk e ((Bd k l).drop i)=rM k e l
   refine ⟨lW h1,Wc (xs:=as.map V.ref) I14 ?_ ?_ ?_ ?_⟩
   ·refine ⟨⟨none,none,rfl⟩,pH _,?_⟩;unfold rM;rw [lZ hc]
    rfl
   ·rintro i σ H' _ ⟨_,s3,_⟩;exact lW (s3.at h1)
   ·rintro i x σ H' hx ⟨⟨o3,o4,rfl⟩,s3,hs⟩;rw [mG] at hx;obtain ⟨ai,hai,rfl⟩:=mS.mp hx;obtain ⟨⟨one,two⟩,hq,ht⟩:=oO h2 hai;rw [Co hq] at hs;refine ⟨ai,_,rfl,mD (s3.at ht),rfl,_,_,rfl,_,_,rfl,rfl,?_⟩;refine lS (Zt (om hr (pv 1) (pv 3)) Zn Zk) (lP rfl (lP rfl (.inl ⟨rfl,_,rfl,Yj (fun hc=>?_) (fun hc=>?_)⟩)))
    ·have hc:e=one:=V.str.inj (nM hc);refine lU (Zm (pv 4)) (lP rfl ?_);unfold wk at hs;rw [lZ hc] at hs;rw [<-hs] at q;exact q _ (s1.trans (s2.trans s3))
    ·have hc:¬e=one:=fun z=>hc (mB (by rw [z]))
     refine lU (Zt (om hr (pv 1) (pv 4)) Zn Zk) (lP rfl (lP rfl (.inl ⟨rfl,_,rfl,Yj (fun T8=>?_) (fun T8=>?_)⟩)))
     ·have T8:e=two:=V.str.inj (nM T8);refine lU (Zm (pv 3)) (lP rfl ?_);unfold wk at hs;rw [lY hc,lZ T8] at hs;rw [<-hs] at q;exact q _ (s1.trans (s2.trans s3))
     ·have T8:¬e=two:=fun z=>T8 (mB (by rw [z]))
      unfold wk at hs;rw [lY hc,lY T8] at hs;exact ⟨⟨_,_,rfl⟩,s3,hs⟩
   ·rintro σ H' ⟨_,s3,hs⟩;refine lU (Zm Ze) ?_;have e0:(Bd k l).drop (as.map V.ref).length=[]:=by rw [lV,mv h2,Em]
    rw [e0] at hs;rw [<-hs] at q;exact q _ (s1.trans (s2.trans s3))
def _root_.L2.lK.upd0(s:lK H H')(n:H d=none):lK H (upd H' d o):=fun b u e=>by rw [Zd (Zg e n)];exact s.at e
def PO(H:Hp)(x:kS)(p:Zh):Prop:=∃C,X3 T p.1 C/\pC H C x p.2
def PO.mono(e:lK H H')(h:PO U H x p):PO U H' x p:=let ⟨C,h1,h2⟩:=h;⟨C,h1,h2.mono e⟩
inductive Ja:Sp
 | mk (l) (xs:kQ kS) (ps:kQ Zh):vs=[.ref l]->H l=some (.lst (xs.map V.ref))->Paired (PO T H) xs ps->(ps.map Prod.snd).Nodup->(∀p∈ps,Yx p.2)->ps.length<=100->(∀(d:kS) (kvs:kQ (md×V)) (H':Hp),lK H H'->H d=none->H' d=some (.dK kvs)->DP Y7 (RP T H) kvs (qP ps)->Q (.ref d) H')->Ja vs H Q E
def VH:T.cM.O P w mg lL 3 (Ja T):=by
 refine T.cM.F.okW ES ?_;rfl'
 ·obtain ⟨l,xs,ps,rfl,hl,hx,nd,nm,len,q⟩:=h;intro X D;have hxl:=mv hx;refine lS (me 1 ES Xh) fun d H1 s1 n1 e1=>?_
  let I15:IF:=fun i σ H'=>(∃o,σ=[some (.ref l),some (.ref d),o])/\lK H H'/\∃kvs,H' d=some (.dK kvs)/\DP Y7 (RP T H) kvs (qP (ps.take i))
  refine lS (Xb ol rfl (Ym (pv 0)) (mP 2 ES) Zn) (lP rfl ⟨lW (s1.at hl),Wc (K:=K) (xs:=xs.map V.ref) I15 ⟨⟨none,rfl⟩,s1,[],e1,.nil⟩ ?_ ?_ ?_⟩)
  ·rintro i σ H' _ ⟨_,s2,_⟩;exact lW (s2.at hl)
  ·rintro i v σ H2 hi ⟨⟨o,rfl⟩,s2,kvs,hd,hD⟩;rw [mG] at hi;obtain ⟨x,hxi,rfl⟩:=mS.mp hi;obtain ⟨p,hp,C,hC,dx,hO⟩:=oO hx hxi;have hm:p∈ps:=oE hp;have F8:=(oj.mp hp).1;have hn:Y2 kvs (Y7 p.2)=none:=hD.none uZ (by
    rw [BL,vq];exact wX nd (by rw [mG,hp];rfl))
   have hkl:kvs.length<=100:=by
    have:=hD.len;unfold qP at this;rw [lV,nI] at this;lia
   refine lS (Zy (Zx (Az T) hr (Zb (Yb (pv 2) rfl) (Zb (pv 1) Za)))) (lP rfl ⟨s2.at hO,hC.cls.1,hC.cls.2.1,rfl,_,rfl,p.2,d,kvs,rfl,nm p hm,hd,hn,fun H3 s3=>?_⟩);have m7:=s2.trans s3;refine lU (rE (Xi hr) (pv 1) (Yb (pv 2) rfl) (pv 2) rfl) (lP rfl (lP rfl (lP rfl ⟨m7.at hO,hC.cls.1,hC.cls.2.1,rfl,d,_,rfl,pG.k (k:=Y7 p.2) (s3.at hd) (Zp (by lia)),⟨_,rfl⟩,m7.upd0 n1,_,Zc,?_⟩)));have:qP (ps.take (i+1))=qP (ps.take i)++[(p.2,p.1)]:=by
    unfold qP;rw [nq,hp,mq]
    rfl
   rw [this];exact hD.put hn ⟨x,C,rfl,hC,dx,hO⟩
  ·rintro σ H2 ⟨⟨o,rfl⟩,s2,kvs,hd,hD⟩;rw [lV,hxl,ow] at hD;exact lU (Zm (pv 1)) (lP rfl (q d kvs H2 s2 n1 hd hD))
def _root_.L2.lK.frz(s:lK H H1):lK (upd H d u) (upd H1 d u):=fun b o e=>by
 by_cases z:b=d
 ·rw [z,Zc] at e ⊢;exact e
 ·rw [Zd z] at e ⊢;exact s.at e
inductive FI:Sp
 | mk (d kvs) (ps:kQ Zh):vs=[.ref d]->H d=some (.dK kvs)->DP Y7 (RP T H) kvs (qP ps)->(ps.map Prod.snd).Nodup->ps.length<=100->(∀(a:kS) (ka:kQ (kQ md×V)) (H':Hp),lK H H'->H a=none->H' a=some (.dT ka)->DP Xd (RA T H) ka (qA ps)->Q (.ref a) H')->FI vs H Q E
def IB(ps:kQ Zh):(qA ps).length<=4 * ps.length:=by
 induction ps with
 | nil=>decide
 | cons p ps ih =>
  have:=zO p.1;have e:qA (p ::ps)=(Yr p.1).map (fun e=>((p.2,e),p.1))++qA ps:=rfl;rw [e,mY,lV,ou];lia
def GH{ps:kQ Zh}{i:Nat}{p:Zh}(h:ps[i]? =some p):qA (ps.take (i+1))=qA (ps.take i)++(Yr p.1).map fun e=>((p.2,e),p.1):=by
 unfold qA;rw [nq,h,wB];simp
def OX:T.cN.O P w mg lL 2 (FI T):=by
 refine T.cN.F.okW X4 ?_;rfl'
 ·obtain ⟨d,kvs,ps,rfl,hd,hD,nd,len,q⟩:=h;intro X D;have hkl:kvs.length=ps.length:=by have:=hD.len;unfold qP at this;rw [lV] at this;exact this
  refine lS (me 1 X4 Ls) fun a H1 s1 n1 e1=>?_
  have had:a≠d:=fun z=>by rw [z,hd] at n1;cases n1
  refine lS (xU (Xb ol rfl (vG (pv 0)) (qG rfl (Zq (mP 2 X4) (Zq (mP 3 X4) Y9))) Zn)) (lP rfl ⟨d,_,rfl,s1.at hd,fun o nf=>AS (fun i σ H'=>(∃o2 o3 o4,σ=[some (.ref d),some (.ref a),o2,o3,o4])/\lK (upd H d (.frz o (.dK kvs))) H'/\∃ka,H' a=some (.dT ka)/\DP Xd (RA T H) ka (qA (ps.take i))) ⟨⟨none,none,none,rfl⟩,s1.frz,[],by rw [Zd had];exact e1,.nil⟩ ?_ ?_ ?_⟩)
  ·rintro i σ H' _ ⟨_,s2,_⟩;exact s2.at Zc
  ·rintro i kv σ H2 hi ⟨⟨o2,o3,o4,rfl⟩,s2,ka,ha,hA⟩ tp H3 s3 n3 e3;obtain ⟨⟨nm,kd⟩,hq,hk,x,C,hv,hC,dx,hO⟩:=oO hD hi;have hp:ps[i]? =some (kd,nm):=by
    unfold qP at hq;rw [mG] at hq;obtain ⟨⟨p1,p2⟩,hp,e⟩:=mS.mp hq;rw [hp];simp only [yI] at e;rw [e.1,e.2]
   have F8:=(oj.mp hp).1;have hxd:x≠d:=fun z=>by rw [z,hd] at hO;cases hO
   have hOF:upd H d (.frz o (.dK kvs)) x=some (.ins C dx [("name",.str nm)]):=by rw [Zd hxd];exact hO
   obtain ⟨f1,d1,m1,b1,g1⟩:=hC.ends;have hk:kv.1=Sum.inr nm:=hk;rw [hk,hv] at e3;have hFa:upd H d (.frz o (.dK kvs)) a=none:=by rw [Zd had];exact n1
   refine ⟨tp,_,rfl,mD e3,rfl,_,_,rfl,_,_,rfl,rfl,?_⟩;have s23:=s2.trans s3;refine lU (Xb ol rfl (Ym yM) (mP 4 X4) Zn) (pM (Xw (pv 3) hC.cls.1 m1 (g1 _ _ _ 1 (by left)) hr b1 .nil Z3) (lP rfl ⟨x,dx,_,rfl,s23.at hOF,rfl,_,rfl,fun p H4 s4 n4 e4=>⟨lW e4,Wc (K:=K) (xs:=(Yr kd).map V.str) (fun j σ H'=>(∃o4,σ=[some (.ref d),some (.ref a),some (.str nm),some (.ref x),o4])/\lK (upd H d (.frz o (.dK kvs))) H'/\H' p=some (.lst ((Yr kd).map V.str))/\∃ka,H' a=some (.dT ka)/\DP Xd (RA T H) ka (qA (ps.take i)++((Yr kd).take j).map fun e=>((nm,e),kd))) ⟨⟨_,rfl⟩,s23.trans s4,e4,ka,s4.at (s3.at ha),by rw [List.take_zero,sQ,pz];exact hA⟩ ?_ ?_ ?_⟩⟩))
   ·rintro j σ H' _ ⟨_,_,z,_⟩;exact lW z
   ·rintro j v σ H5 hj ⟨⟨o4,rfl⟩,s5,hp5,ka5,ha5,hA5⟩;rw [mG] at hj;obtain ⟨e,he,rfl⟩:=mS.mp hj;have hlen5:ka5.length<=500:=by
     have h1:=hA5.len;have h2:=IB (ps.take i);have h3:=zO kd;rw [mY,lV,nI] at h1;rw [nI] at h2;lia
    have k8:Y2 ka5 (Xd (nm,e))=none:=hA5.none W3 (by
     have h1:(Yz (ps.take (i+1))).Nodup:=wo (by rw [vq];exact nd.sublist (List.take_sublist _ _));rw [<-AR,GH hp,mq] at h1;rw [mq];have ed:Yr kd=(Yr kd).take j++(e ::(Yr kd).drop (j+1)):=by rw [<-Co he,AF]
     rw [show ((kd,nm):Zh).1=kd from rfl,ed,mq,mq,mH,mH,<-qu,pP] at h1;intro m;exact h1.2.2 _ m _ mV rfl)
    refine lU (rE (Xi hr) (pv 1) (Zi (Zb (pv 2) (Zb (pv 4) Za))) (pv 3) rfl) (lP rfl (lP rfl (lP rfl (lP rfl ⟨lR,fun t H6 s6 n6 e6=>⟨a,_,rfl,pG.t (k:=Xd (nm,e)) (s6.at ha5) e6 (Zp (by lia)),⟨_,rfl⟩,(s5.trans s6).upd0 hFa,?_,_,Zc,?_⟩⟩))))
    ·rw [Zd (MC hp5 ha5 (fun z=>nomatch z))];exact s6.at hp5
    ·have:((Yr kd).take (j+1)).map (fun e=>((nm,e),kd))=((Yr kd).take j).map (fun e=>((nm,e),kd))++[((nm,e),kd)]:=by
      rw [nq,he,mq]
      rfl
     rw [this,<-qu];exact hA5.put k8 ⟨x,C,rfl,hC,dx,hO⟩
   ·rintro σ H5 ⟨⟨o4,rfl⟩,s5,hp5,ka5,ha5,hA5⟩;rw [lV,ow] at hA5;refine ⟨⟨_,_,_,rfl⟩,s5,ka5,ha5,?_⟩;rw [GH hp];exact hA5
  ·rintro σ H2 ⟨⟨o2,o3,o4,rfl⟩,s2,ka,ha,hA⟩;rw [hkl,ow] at hA;refine ⟨d,o,_,s2.at Zc,nf,lU (Zm (pv 1)) ⟨_,rfl,q a ka _ (s2.thaw hd) n1 ?_ hA⟩⟩;rw [Zd had];exact ha
inductive MY:Sp
 | mk (t u v):vs=[.ref t]->H t=some (.tup [u,v])->Q (.bl true) H->MY  vs H Q E
def Il:T.fG.O P w mg lL 1 MY:=by
 refine T.fG.F.okA ?_;rfl'
 ·obtain ⟨t,u,v,rfl,ht,q⟩:=h;intro X D;exact lU (Zm (vd (qg "tuple" T.ag T.gT Gu (pv 0)) (wg (rC hr (oH T.bw (pv 0)) Zf)))) (lP rfl ⟨_,_,true,_,rfl,Xl.tup ht,.inl (lP rfl T.jp),_,rfl,W7 (lP rfl (.inl ⟨t,_,rfl,.inr (mD ht),.inl ⟨rfl,q⟩⟩))⟩)
inductive LJ:Sp
 | mk (t d e kvs):vs=[.ref t,.ref d]->Zr H t e->H d=some (.dT kvs)->Q (.bl (Y2 kvs (Xd e)).isSome) H->LJ  vs H Q E
def wJ:T.em.O P w mg lL 2 LJ:=by
 refine T.em.F.okA ?_;rfl'
 ·obtain ⟨t,d,e,kvs,rfl,ht,hd,q⟩:=h;intro X D;exact lU (Zm (vd (Zx (Il T) hr (Zb (pv 0) Za)) (vd (qg "str" T.ag T.ej uL (ml (pv 0) Zf)) (vd (qg "str" T.ag T.ej uL (ml (pv 0) Zf)) (wg (IQ hr (pv 0) (pv 1))))))) (lP rfl ⟨t,_,_,rfl,ht,_,rfl,W7 (lP rfl (mQ ht 0 rfl ⟨_,_,true,_,rfl,Xl.str _,.inl (lP rfl T.ji),_,rfl,W7 (lP rfl (mQ ht 1 rfl ⟨_,_,true,_,rfl,Xl.str _,.inl (lP rfl T.ji),_,rfl,W7 (lP rfl (lP rfl (.inr (.inl ⟨d,_,rfl,Xq.t (k:=Xd e) hd ht,q⟩))))⟩))⟩))⟩)
inductive Gz:Sp
 | mk (t pa d a b) (e1 e2:Zh) (ka kd):vs=[.ref t,.ref pa,.ref d]->H t=some (.tup [.ref a,.ref b])->Zr H a e1->Zr H b e2->H pa=some (.dT ka)->H d=some (.dT kd)->(Y2 ka (Xd e1)).isSome=true->(Y2 ka (Xd e2)).isSome=true->Y2 kd (Xd e1)=none->Y2 kd (Xd e2)=none->e1.1≠e2.1->Q .non H->Gz  vs H Q E
def Uz:T.df.O P w mg lL 3 Gz:=by
 refine T.df.F.okW MJ ?_;rfl'
 ·obtain ⟨t,pa,d,a,b,e1,e2,ka,kd,rfl,ht,ha,hb,hpa,hd,k1,k2,n1,n2,ne,q⟩:=h;intro X D;refine lS (Zt (Y8 (Yn (Zx (Il T) hr (Zb (pv 0) Za)))) Zn Zk) (lP rfl ⟨t,_,_,rfl,ht,_,rfl,Yj (fun z=>absurd z (by left)) (fun _=>?_)⟩);let I16:IF:=fun i σ H'=>(∃o,σ=[some (.ref t),some (.ref pa),some (.ref d),o])/\H'=H
  refine lS (Xb ol rfl (yn (pv 0)) (mP 3 MJ) Zn) (lP rfl ⟨mD ht,Mr (K:=K) (xs:=[.ref a,.ref b]) I16 ⟨⟨none,rfl⟩,rfl⟩ ?_ ?_ ?_⟩)
  ·rintro i σ H' _ ⟨_,rfl⟩;exact mD ht
  ·rintro i v σ H' hi ⟨⟨o,rfl⟩,hH⟩;rw [hH];obtain ⟨x,e,rfl,hx,h1,h2⟩:∃x e,v=V.ref x/\Zr H x e/\(Y2 ka (Xd e)).isSome=true/\Y2 kd (Xd e)=none:=by
    match i,hi with
    | 0,hi=>cases hi;exact ⟨a,e1,rfl,ha,k1,n1⟩
    | 1,hi=>cases hi;exact ⟨b,e2,rfl,hb,k2,n2⟩
   refine lS (Zt (Y8 (Yn (Zx (wJ T) hr (Zb (pv 3) (Zb (pv 1) Za))))) Zn Zk) (lP rfl (lP rfl ⟨x,pa,e,ka,rfl,hx,hpa,_,rfl,Yj (fun z=>?_) (fun _=>?_)⟩))
   ·rw [h1] at z;exact absurd z (by left)
   refine lU (Zt (vP hr (pv 3) (pv 2)) Zn Zk) (lP rfl (lP rfl (.inr (.inl ⟨d,_,rfl,Xq.t (k:=Xd e) hd hx,_,rfl,Yj (fun z=>?_) (fun _=>⟨⟨_,rfl⟩,rfl⟩)⟩))));rw [h2] at z;exact absurd z (by left)
  ·rintro σ H' ⟨⟨o,rfl⟩,hH⟩;rw [hH];refine lU (Zt (om hr (ml (ml (pv 0) Zf) Zf) (ml (ml (pv 0) Zf) Zf)) Zn Zk) (lP rfl (mQ ht 0 rfl (mQ ha 0 rfl (lP rfl (mQ ht 1 rfl (mQ hb 0 rfl (.inl ⟨rfl,_,rfl,Yj (fun z=>?_) (fun _=>q)⟩)))))));exact absurd (V.str.inj (nM z)) ne
inductive Me:Sp
 | mk (jl pa) (js:kQ (Zh×Zh)) (ka:kQ (kQ md×V)):vs=[.ref jl,.ref pa]->Yl H jl js->H pa=some (.dT ka)->(∀e∈Xo js,(Y2 ka (Xd e)).isSome=true)->ka.length=(Xo js).length->(Xo js).Nodup->(∀j∈js,j.1.1≠j.2.1)->js.length<=300->(∀(d:kS) (kj:kQ (kQ md×V)) (H':Hp),lK H H'->H d=none->H' d=some (.dT kj)->DP Xd (RJ H) kj (qJ js)->Q (.ref d) H')->Me  vs H Q E
def Kj{js:kQ (Zh×Zh)}{i:Nat}{j:Zh×Zh}(h:js[i]? =some j):qJ (js.take (i+1))=qJ (js.take i)++[(j.1,j.2)]++[(j.2,j.1)]:=by
 unfold qJ;rw [nq,h,wB];simp
def GR(js:kQ (Zh×Zh)):(qJ js).length=2 * js.length:=by
 induction js with
 | nil=>rfl
 | cons j js ih =>
  have e:qJ (j ::js)=[(j.1,j.2),(j.2,j.1)]++qJ js:=rfl;rw [e,mY,ih];simp only [ou,wL];lia
def Ul:T.dg.O P w mg lL 4 Me:=by
 refine T.dg.F.okW Ep ?_;rfl'
 ·obtain ⟨jl,pa,js,ka,rfl,hJ,hpa,hk,hkl,nd,apart,len,q⟩:=h;intro X D;obtain ⟨ts,hl,d9⟩:=hJ;have M4:=mv d9;refine lS (me 2 Ep Ls) fun d H1 s1 n1 e1=>?_
  let I17:IF:=fun i σ H'=>(∃o,σ=[some (.ref jl),some (.ref pa),some (.ref d),o])/\lK H H'/\∃kj,H' d=some (.dT kj)/\DP Xd (RJ H) kj (qJ (js.take i))
  refine lS (Xb ol rfl (Ym (pv 0)) (mP 3 Ep) Zn) (lP rfl ⟨lW (s1.at hl),Wc (K:=K) (xs:=ts.map V.ref) I17 ⟨⟨none,rfl⟩,s1,[],e1,.nil⟩ ?_ ?_ ?_⟩)
  ·rintro i σ H' _ ⟨_,s2,_⟩;exact lW (s2.at hl)
  ·rintro i v σ H2 hi ⟨⟨o,rfl⟩,s2,kj,hd,hD⟩;rw [mG] at hi;obtain ⟨t,hti,rfl⟩:=mS.mp hi;obtain ⟨j,hj,a,b,ht,ha,hb⟩:=oO d9 hti;have hm:j∈js:=oE hj;have F8:=(oj.mp hj).1;have m1:j.1∈Xo js:=uz.mpr ⟨j,hm,by simp⟩;have m2:j.2∈Xo js:=uz.mpr ⟨j,hm,by simp⟩;have d7:kj.length<=600:=by
    have h1:=hD.len;rw [GR,nI] at h1;lia
   have C2:(Xo (js.take i)++[j.1]++[j.2]).Nodup:=by
    have h1:(Xo (js.take (i+1))).Nodup:=nd.sublist (by
     have:Xo js=Xo (js.take (i+1))++Xo (js.drop (i+1)):=by rw [<-yF,AF]
     rw [this];exact GW _ _)
    rw [<-sY,Kj hj,mq,mq,sY] at h1;exact h1
   have nd1:j.1∉Xo (js.take i):=fun z=>(pP.mp (pP.mp C2).1).2.2 _ z _ mV rfl
   have nd2:j.2∉Xo (js.take i)++[j.1]:=fun z=>(pP.mp C2).2.2 _ z _ mV rfl
   have v1:Y2 kj (Xd j.1)=none:=hD.none W3 (by rw [sY];exact nd1);have v2:Y2 kj (Xd j.2)=none:=hD.none W3 (by rw [sY];exact fun z=>nd2 (xf _ z));refine lS (Zy (Zx (Uz T) hr (Zb (pv 3) (Zb (pv 1) (Zb (pv 2) Za))))) (lP rfl (lP rfl (lP rfl ⟨t,pa,d,a,b,j.1,j.2,ka,kj,rfl,s2.at ht,ha.mono s2,hb.mono s2,s2.at hpa,hd,hk _ m1,hk _ m2,v1,v2,apart j hm,?_⟩)));have N2:DP Xd (RJ H) (nO kj (Xd j.1) (.ref b)) (qJ (js.take i)++[(j.1,j.2)]):=hD.put v1 ⟨b,rfl,hb⟩;have hl1:=zQ kj (Xd j.1) (.ref b);have v3:Y2 (nO kj (Xd j.1) (.ref b)) (Xd j.2)=none:=N2.none W3 (by rw [mq,sY];exact nd2);refine lS (rE (Xi hr) (pv 2) (ml (pv 3) Zf) (ml (pv 3) Zf) rfl) (lP rfl (mQ (s2.at ht) 1 rfl (lP rfl (lP rfl (mQ (s2.at ht) 0 rfl ⟨d,_,rfl,pG.t (k:=Xd j.1) hd (MR (ha.mono s2)) (Zp (by lia)),?_⟩)))));have s3:lK H (upd H2 d (.dT (nO kj (Xd j.1) (.ref b)))):=s2.upd0 n1;refine lU (rE (Xi hr) (pv 2) (ml (pv 3) Zf) (ml (pv 3) Zf) rfl) (lP rfl (mQ (s3.at ht) 0 rfl (lP rfl (lP rfl (mQ (s3.at ht) 1 rfl ⟨d,_,rfl,pG.t (k:=Xd j.2) Zc (MR (hb.mono s3)) (Zp (by lia)),⟨_,rfl⟩,s3.upd0 n1,_,Zc,?_⟩)))));rw [Kj hj];exact N2.put v3 ⟨a,rfl,ha⟩
  ·rintro σ H2 ⟨⟨o,rfl⟩,s2,kj,hd,hD⟩;rw [lV,M4,ow] at hD;have hlj:kj.length=ka.length:=by
    have h1:=hD.len;rw [hkl,h1,<-sY,lV]
   refine lS (Zt (Z4 uN (Z2 (r:=DJ) Lh (by rfl) T.bw BM (Zb (pv 2) Za)) (Z2 (r:=DJ) Lh (by rfl) T.bw BM (Zb (pv 1) Za)) (Yw _)) Zn Zk) (lP rfl ⟨d,kj,rfl,hd,_,rfl,pa,ka,rfl,s2.at hpa,_,_,rfl,rfl,_,rfl,Yj (fun z=>?_) (fun _=>?_)⟩)
   ·have:(kj.length:Int)<(ka.length:Int):=nM z;exact absurd this (by lia)
   exact lU (Zm (pv 2)) (lP rfl (q d kj H2 s2 n1 hd hD))
inductive FM:Sp
 | mk (t pa l x C e k nm ka) (us:kQ kS) (es):vs=[.ref t,.ref pa,.ref l]->Zr H t e->H pa=some (.dT ka)->Y2 ka (Xd e)=some (.ref x)->X3 T k C->pC H C x nm->Dz k=true->H l=some (.lst (us.map V.ref))->Paired (Zr H) us es->e∉es->Q .non H->FM vs H Q E
def BZ(h:oq a=oq b):a=b:=by
 obtain ⟨a1,a2⟩:=a;obtain ⟨b1,b2⟩:=b;unfold oq at h;simp only [Tr.tup.injEq,Bf,Tr.str.injEq,and_true] at h;rw [h.1,h.2]
def Tq:T.dh.O P w mg lL 3 (FM T):=by
 refine T.dh.F.okA ?_;rfl'
 ·obtain ⟨t,pa,l,x,C,e,k,nm,ka,us,es,rfl,ht,hpa,hv,hC,⟨dx,hO⟩,hb,hl,hu,p0,q⟩:=h;intro X D;obtain ⟨f1,d1,m1,b1,g1⟩:=hC.bears;refine lS (Zt (Y8 (Yn (Zx (wJ T) hr (Zb (pv 0) (Zb (pv 1) Za))))) Zn Zk) (lP rfl (lP rfl ⟨t,pa,e,ka,rfl,ht,hpa,_,rfl,Yj (fun z=>?_) (fun _=>?_)⟩))
  ·rw [hv] at z;exact absurd z (by simp)
  refine lS (Zt (Y8 (Yn yM)) Zn Zk) (pM (Xw (X9 (Xi hr) (pv 1) (pv 0) (fun _ _=>rfl)) hC.cls.1 m1 (g1 _ _ _ 2 (by left)) hr b1 .nil Z3) (lP rfl (lP rfl ⟨pa,_,rfl,by rw [<-hv];exact Xq.t (k:=Xd e) hpa ht,x,dx,_,rfl,hO,rfl,_,rfl,_,rfl,Yj (fun z=>?_) (fun _=>?_)⟩)))
  ·rw [hb] at z;exact absurd z (by left)
  refine lU (Zt (vP hr (pv 0) (pv 2)) Zn Zk) (lP rfl (lP rfl (.inr (.inr (.inr ⟨l,1,oq e,es.map oq,us,rfl,lW hl,by left,sJ (n:=0) (mD ht) (.cons (.str _) (.cons (.str _) .nil)),Ik hu,_,rfl,Yj (fun z=>?_) (fun _=>q)⟩)))));have z:oq e∈es.map oq:=nM z;obtain ⟨e',T9,h'⟩:=mh.mp z;rw [BZ h'] at T9;exact absurd T9 p0
def Zr.offD(h:Zr H t q)(hc:H c=some (.dK xs)):Zr (upd H c o) t q:=by
 unfold Zr at h ⊢;exact (Zd fun z=>by rw [z,hc] at h;cases h).trans h
inductive GF:Sp
 | mk (sl pa) (ts:kQ kS) (sg:kQ (kR×kR×kR)) (ka):vs=[.ref sl,.ref pa]->H sl=some (.lst (ts.map V.ref))->Paired (yw H) ts sg->H pa=some (.dT ka)->(∀q∈sg,Yx q.1)->(sg.map Prod.fst).Nodup->(sg.map Prod.snd).Nodup->sg.length<=100->(∀q∈sg,∃x C k,Y2 ka (Xd (q.2.1,q.2.2))=some (.ref x)/\X3 T k C/\pC H C x q.2.1/\Dz k=true)->(∀(d:kS) (ks:kQ (md×V)) (H':Hp),lK H H'->H d=none->H' d=some (.dK ks)->DP Y7 (RS H') ks (qS sg)->Q (.ref d) H')->GF vs H Q E
def QI(h:DP Y7 (RS H) ks qs):∃us:kQ kS,ks.map (fun kv=>kv.2)=us.map V.ref/\Paired (Zr H) us (qs.map Prod.snd):=by
 unfold DP at h
 induction h with
 | nil=>exact ⟨[],rfl,.nil⟩
 | cons r _ ih =>
  obtain ⟨us,h1,h2⟩:=ih;obtain ⟨_,t,hv,ht⟩:=r;exact ⟨t ::us,by rw [mH,mH,h1,hv],.cons ht h2⟩
def No:T.eo.O P w mg lL 4 (GF T):=by
 refine T.eo.F.okW xV ?_;rfl'
 ·obtain ⟨sl,pa,ts,sg,ka,rfl,hl,d9,hpa,D3,nd,one,len,hk,q⟩:=h;intro X D;have M4:=mv d9;refine lS (me 2 xV Xh) fun d H1 s1 n1 e1=>?_
  let I18:IF:=fun i σ H'=>(∃o3 o4 o5,σ=[some (.ref sl),some (.ref pa),some (.ref d),o3,o4,o5])/\lK H H'/\∃ks,H' d=some (.dK ks)/\DP Y7 (RS H') ks (qS (sg.take i))
  refine lS (Xb ol rfl (Ym (pv 0)) (mP 3 xV) Zn) (lP rfl ⟨lW (s1.at hl),Wc (K:=K) (xs:=ts.map V.ref) I18 ⟨⟨none,none,none,rfl⟩,s1,[],e1,.nil⟩ ?_ ?_ ?_⟩)
  ·rintro i σ H' _ ⟨_,s2,_⟩;exact lW (s2.at hl)
  ·rintro i v σ H2 hi ⟨⟨o3,o4,o5,rfl⟩,s2,ks,hd,hD⟩;rw [mG] at hi;obtain ⟨t,hti,rfl⟩:=mS.mp hi;obtain ⟨⟨nm,pn,en⟩,hg,ht⟩:=oO d9 hti;have ht:H t=some (.tup [.str nm,.str pn,.str en]):=ht;have hm:((nm,pn,en):kR×kR×kR)∈sg:=oE hg;have F8:=(oj.mp hg).1;obtain ⟨x,C,k,hv,hC,hO,hb⟩:=hk _ hm;have d7:ks.length<=100:=by
    have h1:=hD.len;unfold qS at h1;rw [lV,nI] at h1;lia
   have hn:Y2 ks (Y7 nm)=none:=hD.none uZ (by
    rw [Fp,vq];exact wX nd (by rw [mG,hg];rfl))
   have he:((pn,en):Zh)∉(qS (sg.take i)).map Prod.snd:=by
    have:(qS (sg.take i)).map Prod.snd=(sg.map Prod.snd).take i:=by
     unfold qS;rw [og,vq]
     rfl
    rw [this];exact wX one (by rw [mG,hg];rfl)
   refine lS (me 4 xV (ml (pv 3) Zf)) (lP rfl (mQ (s2.at ht) 0 rfl ?_));refine lS (me 5 xV (X7 (r:=qL K) qU (pv 3) (Wh Zf) Wr)) (lP rfl (lP rfl (.inl ⟨t,_,rfl,mD (s2.at ht),(show ¬(HT.sIx 3 0 (some 1)=0/\HT.sIx 3 3 none=3) by left),fun te H3 s3 n3 e3=>?_⟩)));have m7:=s2.trans s3;have O8:Zr H3 te (pn,en):=e3;refine lS (Zy (Zx (Az T) hr (Zb (pv 4) (Zb (pv 2) Za)))) (lP rfl (lP rfl ⟨nm,d,ks,rfl,D3 _ hm,s3.at hd,hn,fun H4 s4=>?_⟩));have u6:=m7.trans s4;have hD4:DP Y7 (RS H4) ks (qS (sg.take i)):=hD.mapR fun _ _ _ z=>RS.mono (s3.trans s4) _ _ _ z
   obtain ⟨us,y8,hup⟩:=QI hD4;refine lS (Zy (Zx (Tq T) hr (Zb (pv 5) (Zb (pv 1) (Zb (Ol rfl (by rfl) T.dU (pv 2)) Za))))) (lP rfl (lP rfl (lP rfl ⟨d,ks,rfl,.inl (s4.at (s3.at hd)),fun l H5 s5 n5 e5=>⟨te,pa,l,x,C,(pn,en),k,pn,ka,us,_,rfl,(O8.mono s4).mono s5,(u6.trans s5).at hpa,hv,hC,hO.mono (u6.trans s5),hb,by rw [<-y8];exact e5,mw hup fun _ _ r=>r.mono s5,he,?_⟩⟩)));have C3:=u6.trans s5;have P0:H5 d=some (.dK ks):=s5.at (s4.at (s3.at hd));refine lU (rE (Xi hr) (pv 2) (pv 4) (pv 5) rfl) (lP rfl (lP rfl (lP rfl ⟨d,_,rfl,pG.k (k:=Y7 nm) P0 (Zp (by lia)),⟨_,_,_,rfl⟩,C3.upd0 n1,_,Zc,?_⟩)));have:qS (sg.take (i+1))=qS (sg.take i)++[(nm,(pn,en))]:=by
    unfold qS;rw [nq,hg,mq]
    rfl
   rw [this];have E9:DP Y7 (RS (upd H5 d (.dK (nO ks (Y7 nm) (.ref te))))) ks (qS (sg.take i)):=hD4.mapR fun _ _ _ ⟨u,z1,z2⟩=>⟨u,z1,(z2.mono s5).offD P0⟩
   exact E9.put hn ⟨te,rfl,((O8.mono s4).mono s5).offD P0⟩
  ·rintro σ H2 ⟨⟨o3,o4,o5,rfl⟩,s2,ks,hd,hD⟩;rw [lV,M4,ow] at hD;exact lU (Zm (pv 2)) (lP rfl (q d ks H2 s2 n1 hd hD))
structure Yf(T:Tx K mg)(H:Hp)(x:Addr)(ps:List Zh)(js:List (Zh×Zh))(sg:List (Str×Str×Str)):Prop where
 ex:∃(dx po jo so si:Addr) (kp ks:List (md×V)) (kj ko:List (List md×V)),H x=some (.ins T.aO dx [("part_of",.ref po),("joined",.ref jo),("post_of",.ref so),("signal_on",.ref si)]) /\
  H po=some (.dK kp)/\DP Y7 (RP T H) kp (qP ps)/\H jo=some (.dT kj)/\DP Xd (RJ H) kj (qJ js)/\H so=some (.dK ks)/\DP Y7 (RS H) ks (qS sg)/\H si=some (.dT ko)/\DP Xd RO ko (qO sg)
def Yf.mono(e:lK H H')(h:Yf U H x ps js sg):Yf U H' x ps js sg:=by
 obtain ⟨dx,po,jo,so,si,kp,ks,kj,ko,h1,h2,h3,h4,h5,h6,h7,h8,h9⟩:=h.ex;exact ⟨dx,po,jo,so,si,kp,ks,kj,ko,e.at h1,e.at h2,h3.mapR (RP.mono e),e.at h4,h5.mapR (RJ.mono e),e.at h6,h7.mapR (RS.mono e),e.at h8,h9⟩
def oR(H:Hp)(x:kS):Hp:=fun b=>if b=x then none else H b
def Bx  :oR H x x=none:=lZ rfl
def tP(h:H b=some o)(n:b≠x):oR H x b=some o:=(lY n).trans h
def qy  :lK (oR H x) (upd H x o):=fun b u e=>by
 unfold oR at e
 by_cases z:b=x
 ·rw [lZ z] at e;cases e
 ·rw [lY z] at e;rw [Zd z];exact e
def zH(s:lK G H)(n:G x=none):lK G (oR H x):=fun b u e=>tP (s.at e) (Zg e n)
structure oZ(ps:List Zh)(js:List (Zh×Zh))(sg:List (Str×Str×Str)):Prop where
 net:Net ps js []
 len:ps.length<=40
 name:∀p∈ps,Yx p.2
 sigs:xA ps sg
def xI.v(h:xI ps js sg):oZ ps js sg:=⟨h.net,by have:=h.len;lia,fun p hp=>(h.name p hp).nm.ok,h.sigsV⟩
def SG(ps:kQ Zh):(Yz ps).length<=4 * ps.length:=by rw [<-AR,lV];exact IB ps
def _root_.YM.Net.flat(h:Net ps js []):(Xo js).Perm (Yz ps):=by
 have:=h.perm;rw [pz] at this;exact this
def _root_.YM.Net.jlen(h:Net ps js [])(l:ps.length<=40):js.length<=300:=by
 have h1:=h.flat.length_eq;have h2:=SG ps;rw [<-sY,lV,GR] at h1;lia
def OD(hp:p∈ps)(he:e∈Yr p.1):((p.2,e),p.1)∈qA ps:=uz.mpr ⟨p,hp,mh.mpr ⟨e,he,rfl⟩⟩
inductive Dq:Sp
 | mk (G x dx pl jl sl) (xs:kQ kS) (ps js sg):vs=[.ref x,.ref pl,.ref jl,.ref sl]->G x=none->lK G H->H x=some (.ins T.aO dx [])->G pl=some (.lst (xs.map V.ref))->Paired (PO T G) xs ps->Yl G jl js->rB G sl sg->oZ ps js sg->(∀H',lK G H'->Yf T H' x ps js sg->Q .non H')->Dq vs H Q E
def Ld:T.aX.O P w mg lL 5 (Dq T):=by
 refine T.aX.F.okW Ct ?_;rfl'
 ·obtain ⟨G,x,dx,pl,jl,sl,xs,ps,js,sg,rfl,hGx,s0,hx,g8,hxs,u7,⟨ts,Q9,d9⟩,yv,q⟩:=h;intro X D;have hxl:=mv hxs;have M4:=mv d9;have ylen:=yv.len;have slen:=yv.sigs.len;refine lS (me 4 Ct (uD (Z4 CC (pv 3) rG (Yw _)) (Zl Za) (pv 3))) (lP rfl ⟨rfl,_,rfl,X0 (lP rfl ?_)⟩);refine lS (Zt (oM (Wj (Z4 ug (oH T.bw (pv 1)) (Ws (by rfl) T.gh) (Yw _)) (Wl (Z4 ug (oH T.bw (pv 4)) (Ws (by rfl) T.eZ) (Yw _))))) Zn Zk) (lP rfl (.inl ⟨pl,_,rfl,.inl (lW (s0.at g8)),_,_,rfl,rfl,_,rfl,Yj (fun z=>?_) (fun _=>(lP rfl (.inl ⟨sl,_,rfl,.inl (lW (s0.at Q9)),_,_,rfl,rfl,_,rfl,Yj (fun z=>?_) (fun _=>?_)⟩)))⟩))
  ·have z:=nM z;rw [lV] at z;exact absurd z (by lia)
  ·have z:=nM z;rw [lV] at z;exact absurd z (by lia)
  refine lS (Wg (pv 0) (Zx (VH T) hr (Zb (pv 1) Za)) rfl) (lP rfl ⟨pl,xs,ps,rfl,s0.at g8,mw hxs fun _ _ r=>r.mono s0,yv.net.nd,yv.name,by lia,fun po kp H1 s1 m1 e1 dp=>(lP rfl ⟨x,_,dx,_,rfl,s1.at hx,T.am,T.bu,by simp,?_⟩)⟩);have hpx:po≠x:=fun z=>by rw [z,hx] at m1;cases m1
  have g1:lK G (oR H1 x):=zH (s0.trans s1) hGx;have dp1:DP Y7 (RP T (oR H1 x)) kp (qP ps):=dp.mapR fun a b v ⟨y,C,z1,z2,dy,z3⟩=>⟨y,C,z1,z2,dy,tP (s1.at z3) fun z=>by rw [z,hx] at z3;cases z3⟩
  have ep1:oR H1 x po=some (.dK kp):=tP e1 hpx;refine lS (me 5 Ct (Zx (OX T) hr (Zb (Yb (pv 0) rfl) Za))) (lP rfl ⟨Zc,T.am,T.bu,rfl,po,kp,ps,rfl,qy.at ep1,dp1.mapR (RP.mono qy),yv.net.nd,by lia,fun pa ka H2 s2 m2 e2 da=>?_⟩);have U3:=s2.at Zc;have ep2:lK G H2:=(g1.trans qy).trans s2;have kaq:∀p∈ps,∀e∈Yr p.1,∃v,Y2 ka (Xd (p.2,e))=some v/\RA T _ (p.2,e) p.1 v:=fun p hp e he=>da.get W3 (by rw [AR];exact wo yv.net.nd) (OD hp he)
  refine lS (Wg (pv 0) (Zx (Ul T) hr (Zb (pv 2) (Zb (pv 5) Za))) rfl) (lP rfl (lP rfl ⟨jl,pa,js,ka,rfl,u7.mono ep2,e2,fun e he=>?_,?_,?_,yv.net.apart,yv.net.jlen ylen,fun jo kj H3 s3 m3 e3 dj=>(lP rfl ⟨x,_,dx,_,rfl,s3.at U3,T.am,T.bT,(by show 1<1000;decide),?_⟩)⟩))
  ·have:=yv.net.flat.mem_iff.mp he;obtain ⟨p,hp,hm⟩:=uz.mp this;obtain ⟨e',T9,rfl⟩:=mh.mp hm;obtain ⟨v,hv,_⟩:=kaq p hp e' T9;rw [hv];rfl
  ·rw [yv.net.flat.length_eq,<-AR,lV];exact da.len
  ·exact yv.net.flat.nodup_iff.mpr (wo yv.net.nd)
  have hjx:jo≠x:=fun z=>by rw [z,U3] at m3;cases m3
  have m7:lK (oR H1 x) (oR H3 x):=zH ((qy.trans s2).trans s3) Bx;have ej3:oR H3 x jo=some (.dT kj):=tP e3 hjx;have hpax:pa≠x:=fun z=>by rw [z,U3] at e2;cases e2
  have epa:oR H3 x pa=some (.dT ka):=tP (s3.at e2) hpax;have dj3:DP Xd (RJ (oR H3 x)) kj (qJ js):=dj.mapR fun a b v ⟨u,z1,z2⟩=>⟨u,z1,tP (s3.at z2) fun z=>by rw [z] at z2;exact nomatch U3.symm.trans z2⟩
  have g3:lK G (oR H3 x):=g1.trans m7;refine lS (Wg (pv 0) (Zx (No T) hr (Zb (pv 4) (Zb (pv 5) Za))) rfl) (lP rfl (lP rfl ⟨sl,pa,ts,sg,ka,rfl,qy.at (g3.at Q9),mw d9 fun _ _ r=>(g3.trans qy).at r,qy.at epa,yv.sigs.name,yv.sigs.nd,yv.sigs.one,by lia,fun g hg=>?_,fun so ks H4 s4 m4 e4 ds=>(lP rfl ⟨x,_,dx,_,rfl,s4.at Zc,T.am,T.bv,(by show 2<1000;decide),?_⟩)⟩))
  ·obtain ⟨p,hp,h1,h2,h3⟩:=yv.sigs.at_ g hg;obtain ⟨v,hv,y,C,rfl,hC,dy,hO⟩:=kaq p hp g.2.2 h3;refine ⟨y,C,p.1,by rw [<-h1];exact hv,hC,⟨dy,?_⟩,mB h2⟩;have hyx:y≠x:=fun z=>by rw [z,Zc] at hO;cases hO
   rw [Zd hyx,<-h1];exact s3.at (s2.at hO)
  have hsx:so≠x:=fun z=>by rw [z,Zc] at m4;cases m4
  have hx4:=s4.at (Zc (H:=H3) (a:=x));have s34:lK (oR H3 x) (oR H4 x):=zH (qy.trans s4) Bx;have es4:oR H4 x so=some (.dK ks):=tP e4 hsx;have ds4:DP Y7 (RS (oR H4 x)) ks (qS sg):=ds.mapR fun a b v ⟨u,z1,z2⟩=>⟨u,z1,tP z2 fun z=>by rw [z] at z2;exact nomatch hx4.symm.trans z2⟩
  refine lU (Wg (pv 0) (Y6 (r:=KS) (UO rfl hr.units) (by rfl) T.dW wA (Zb (AT (ph ["name", "end"] (nZ 2 [] rfl) (vG (Yb (pv 0) rfl)) (ux (K:=K) (n:=2) rfl rfl (Zq (ng 0) (Zq (ng 1) Y9))) Wk (Zi (Zb (pv 1) (Zb (pv 0) Za))))) Za)) rfl) (lP rfl ⟨Zc,T.am,T.bv,rfl,so,ks,rfl,qy.at es4,fun o nf D hD=>Bz (fun i ys H'=>lK (upd (upd H4 x (.ins T.aO dx [("part_of",.ref po),("joined",.ref jo),("post_of",.ref so)])) so (.frz o (.dK ks))) H'/\H' D=some (.lst ys)/\∃tps:kQ kS,ys=tps.map V.ref/\Paired (fun t (q:kQ md×V)=>∃a,H' t=some (.tup [.ref a,q.2])/\H' a=some (.tup (q.1.map kV))) tps ((qO (sg.take i)).map fun q=>(Xd q.1,V.str q.2))) ⟨nY hD,Zc,[],rfl,.nil⟩ ?_ ?_ ?_⟩)
  ·rintro i ys H' _ ⟨z,_⟩;exact z.at Zc
  ·rintro i kv ys H5 hi ⟨s5,T1,tps,rfl,V4⟩ tp H6 s6 n6 e6;obtain ⟨⟨nm,e⟩,hq,hk,t,hv,ht⟩:=oO ds4 hi;have hk:kv.1=Sum.inr nm:=hk;rw [hk,hv] at e6;have hg:sg[i]? =some (nm,e.1,e.2):=by
    unfold qS at hq;rw [mG] at hq;obtain ⟨⟨g1,g2,g3⟩,hg,e'⟩:=mS.mp hq;rw [hg];simp only [yI] at e';rw [<-e'.1,<-e'.2]
   have F8:=(oj.mp hg).1;have hto:t≠so:=fun z=>by rw [z] at ht;exact nomatch es4.symm.trans ht
   have htF:upd (upd H4 x (.ins T.aO dx [("part_of",.ref po),("joined",.ref jo),("post_of",.ref so)])) so (.frz o (.dK ks)) t=some (.tup ((Xd e).map kV)):=by
    rw [Zd hto];exact qy.at ht
   have htl':tps.length<=100:=by
    have:=mv V4;unfold qO at this;rw [lV,lV,nI] at this;lia
   refine ⟨tp,_,rfl,mD e6,rfl,_,_,rfl,_,_,rfl,rfl,(nS rfl).trans (nS rfl),_,rfl,_,rfl,lR,fun t' H7 s7 n7 e7=>⟨s7.at (s6.at T1),by rw [lV];exact Zp (by lia),?_,Zc,tps++[t'],by rw [mq];rfl,?_⟩⟩
   ·intro c u z;rw [Zd (Zg z hD)];exact s7.at (s6.at (s5.at z))
   ·have hD7:=s7.at (s6.at T1);have off:∀{c:kS} {xs:kQ V} {u:HO},H7 c=some (.tup xs)->upd H7 D u c=some (.tup xs):=fun {c xs u} z=>(Zd fun y=>by rw [y,hD7] at z;cases z).trans z
    have:(qO (sg.take (i+1))).map (fun q=>(Xd q.1,V.str q.2))=(qO (sg.take i)).map (fun q=>(Xd q.1,V.str q.2))++[(Xd e,V.str nm)]:=by
     unfold qO;rw [nq,hg,mq,mq]
     rfl
    rw [this];exact zv (mw V4 fun _ _ ⟨a,z1,z2⟩=>⟨a,off (s7.at (s6.at z1)),off (s7.at (s6.at z2))⟩) ⟨t,off e7,off (s7.at (s6.at (s5.at htF)))⟩
  ·rintro ys H5 ⟨s5,T1,tps,rfl,V4⟩;have hks:ks.length=sg.length:=by
    have:=ds4.len;unfold qS at this;rw [lV] at this;exact this
   rw [hks,ow] at V4;have hso5:=s5.at Zc;have off:∀{c:kS} {xs:kQ V} {u:HO},H5 c=some (.tup xs)->upd H5 so u c=some (.tup xs):=fun {c xs u} z=>(Zd fun y=>by rw [y,hso5] at z;cases z).trans z
   have sT:lK (upd H4 x (.ins T.aO dx [("part_of",.ref po),("joined",.ref jo),("post_of",.ref so)])) (upd H5 so (.dK ks)):=s5.thaw (qy.at es4);refine ⟨so,o,_,hso5,nf,D,tps,_,rfl,?_,mw V4 fun _ _ ⟨a,z1,z2⟩=>⟨a,off z1,off z2⟩,?_,fun si H8 s8 n8 e8=>⟨_,rfl,x,_,dx,_,rfl,s8.at (sT.at Zc),T.am,T.bD,(by show 3<1000;decide),?_⟩⟩
   ·rw [Zd fun y=>by rw [y,hso5] at T1;cases T1];exact T1
   ·rw [og];have e1:(qO sg).map (Prod.fst ∘ fun q=>(Xd q.1,V.str q.2))=((qO sg).map Prod.fst).map Xd:=by rw [og];rfl
    rw [e1,DR];exact yv.sigs.one.map Xd fun a b ne z=>ne (W3 a b z)
   have hix:si≠x:=fun z=>by rw [z,sT.at Zc] at n8;cases n8
   have s48:lK (oR H4 x) (oR H8 x):=zH ((qy.trans sT).trans s8) Bx;have ei8:oR H8 x si=some (.dT ((qO sg).map fun q=>(Xd q.1,V.str q.2))):=tP e8 hix;have f4:lK (oR H4 x) (upd H8 x (.ins T.aO dx [("part_of",.ref po),("joined",.ref jo),("post_of",.ref so),("signal_on",.ref si)])):=s48.trans qy;have f3:=s34.trans f4;have f1:=m7.trans f3;refine q _ (g1.trans f1) ⟨dx,po,jo,so,si,kp,ks,kj,_,Zc,f1.at ep1,dp1.mapR (RP.mono f1),f3.at ej3,dj3.mapR (RJ.mono f3),f4.at es4,ds4.mapR (RS.mono f4),qy.at ei8,?_⟩;have all:∀l:kQ (Zh×kR),DP Xd RO (l.map fun q=>(Xd q.1,V.str q.2)) l:=fun l=>by
    induction l with
    | nil=>exact .nil
    | cons p l ih=>exact .cons ⟨rfl,rfl⟩ ih
   exact all _
def Dr:kQ V->Hp->VK->Prop:=fun vs H Q=>∃(pl jl sl:kS) (xs:kQ kS) (ps:kQ Zh) (js:kQ (Zh×Zh)) (sg:kQ (kR×kR×kR)),vs=[.ref pl,.ref jl,.ref sl]/\H pl=some (.lst (xs.map V.ref))/\Paired (PO T H) xs ps/\Yl H jl js/\rB H sl sg/\oZ ps js sg/\∀x H',lK H H'->H x=none->Yf T H' x ps js sg->Q (.ref x) H'
def Ga:∀vs H Q,Dr T vs H Q ->
  ∀x dx,H x=none->H dx=none->dx≠x->Dq T (.ref x ::(vs++[])) (upd (upd H dx (.own x)) x (.ins T.aO dx [])) (fun v H2=>v=.non/\Q (.ref x) H2) E0:=by
 rintro vs H Q ⟨pl,jl,sl,xs,ps,js,sg,rfl,h1,h2,h3,h4,h5,q⟩ x dx hx hdx ne;refine ⟨H,x,dx,pl,jl,sl,xs,ps,js,sg,rfl,hx,fun b o e=>?_,Zc,h1,h2,h3,h4,h5,fun H' s t=>⟨rfl,q x H' s hx t⟩⟩;rw [Zd (Zg e hx),Zd (Zg e hdx)];exact e
inductive CJ:Sp
 | mk (x nm k ps js sg):vs=[.ref x,.str nm]->Yf T H x ps js sg->oZ ps js sg->((k,nm):Zh)∈ps->(∀(y C:kS) (H':Hp),lK H H'->X3 T k C->pC H' C y nm->Q (.ref y) H')->CJ vs H Q E
def DE:T.bf.O P w mg lL 2 (CJ T):=by
 refine T.bf.F.okA ?_;rfl'
 ·obtain ⟨x,nm,k,ps,js,sg,rfl,tr,yv,hm,q⟩:=h;intro X D;obtain ⟨dx,po,jo,so,si,kp,ks,kj,ko,h1,h2,h3,_⟩:=tr.ex;have hq:((nm,k):kR×kR)∈qP ps:=mh.mpr ⟨(k,nm),hm,rfl⟩;obtain ⟨v,hv,y,C,rfl,hC,hO⟩:=h3.get uZ (by rw [BL];exact yv.net.nd) hq;refine lS (Zt (oM (Wj (Y8 (Yn (Zx (yW T) hr (Zb (pv 1) Za)))) (Wl (sV hr (pv 1) (Yb (pv 0) rfl))))) Zn Zk) (lP rfl ⟨_,true,rfl,(yv.name _ hm).asked,fun H1 s1=>(lP rfl (Yj (fun z=>absurd z (by left)) (fun _=>(lP rfl (lP rfl ⟨s1.at h1,T.am,T.bu,rfl,.inr (.inl ⟨po,_,rfl,pp (k:=Y7 nm) (s1.at h2),_,rfl,Yj (fun z=>?_) (fun _=>?_)⟩)⟩)))))⟩)
  ·rw [hv] at z;exact absurd z (by simp)
  exact lU (Zm (X9 (Xi hr) (Yb (pv 0) rfl) (pv 1) (fun _ _=>rfl))) (lP rfl ⟨s1.at h1,T.am,T.bu,rfl,_,rfl,po,_,rfl,by rw [<-hv];exact pp (k:=Y7 nm) (s1.at h2),q y C H1 s1 hC (hO.mono s1)⟩)
inductive KW:Sp
 | mk (x t e ps js sg):vs=[.ref x,.ref t]->Yf T H x ps js sg->oZ ps js sg->Zr H t e->((e∈Yz ps/\∀t' e',((e,e'):Zh×Zh)∈qJ js->Zr H t' e'->Q (.ref t') H)\/(e∉Yz ps/\∀t' H',lK H H'->H t'=none->Zr H' t' ("", "")->Q (.ref t') H'))->KW vs H Q E
def HK:T.bo.O P w mg lL 3 (KW T):=by
 refine T.bo.F.okA ?_;rfl'
 ·obtain ⟨x,t,e,ps,js,sg,rfl,tr,yv,ht,q⟩:=h;intro X D;obtain ⟨dx,po,jo,so,si,kp,ks,kj,ko,h1,h2,h3,h4,h5,_⟩:=tr.ex;have nd:((qJ js).map Prod.fst).Nodup:=by rw [sY];exact yv.net.flat.nodup_iff.mpr (wo yv.net.nd)
  rcases q with ⟨hm,q⟩|⟨hm,q⟩
  ·have:e∈(qJ js).map Prod.fst:=by rw [sY];exact yv.net.flat.mem_iff.mpr hm
   obtain ⟨⟨e0,e'⟩,hq,rfl⟩:=mh.mp this;obtain ⟨v,hv,t',rfl,ht'⟩:=h5.get W3 nd hq;refine lU (Zm (uD (Yn (Zx (wJ T) hr (Zb (pv 1) (Zb (Yb (pv 0) rfl) Za)))) (X9 (Xi hr) (Yb (pv 0) rfl) (pv 1) (fun _ _=>rfl)) (Zi (Zb Ze (Zb Ze Za))))) (lP rfl (lP rfl ⟨h1,T.am,T.bT,rfl,t,jo,_,kj,rfl,ht,h4,_,rfl,?_⟩));rw [hv];exact W7 ⟨_,rfl,h1,T.am,T.bT,rfl,_,rfl,jo,_,rfl,by rw [<-hv];exact Xq.t (k:=Xd e0) h4 ht,q t' e' hq ht'⟩
  ·have hv:Y2 kj (Xd e)=none:=h5.none W3 (by rw [sY];exact fun z=>hm (yv.net.flat.mem_iff.mp z));refine lU (Zm (uD (Yn (Zx (wJ T) hr (Zb (pv 1) (Zb (Yb (pv 0) rfl) Za)))) (X9 (Xi hr) (Yb (pv 0) rfl) (pv 1) (fun _ _=>rfl)) (Zi (Zb Ze (Zb Ze Za))))) (lP rfl (lP rfl ⟨h1,T.am,T.bT,rfl,t,jo,_,kj,rfl,ht,h4,_,rfl,?_⟩));rw [hv];exact X0 ⟨lR,fun t' H' s' n' e'=>q t' H' s' n' e'⟩
def XZ(sg:kQ (kR×kR×kR))(e:Zh):Bool:=decide (e∈sg.map Prod.snd)
inductive FE:Sp
 | mk (x t e ps js) (sg:kQ (kR×kR×kR)):vs=[.ref x,.ref t]->Yf T H x ps js sg->oZ ps js sg->Zr H t e->(∀nm:kR,((nm,e)∈qS sg/\Yx nm/\e∈sg.map Prod.snd)\/(nm = "" /\e∉sg.map Prod.snd)->Q (.str nm) H)->FE vs H Q E
def Wy:T.aL.O P w mg lL 3 (FE T):=by
 refine T.aL.F.okA ?_;rfl'
 ·obtain ⟨x,t,e,ps,js,sg,rfl,tr,yv,ht,q⟩:=h;intro X D;obtain ⟨dx,po,jo,so,si,kp,ks,kj,ko,h1,_,_,_,_,_,_,h8,h9⟩:=tr.ex;have nd:((qO sg).map Prod.fst).Nodup:=by rw [DR];exact yv.sigs.one
  by_cases hm:e∈sg.map Prod.snd
  ·obtain ⟨⟨nm,e1,e2⟩,hg,rfl⟩:=mh.mp hm;obtain ⟨v,hv,rfl⟩:=h9.get W3 nd (a:=(e1,e2)) (b:=nm) (mh.mpr ⟨_,hg,rfl⟩);refine lU (Zm (uD (Yn (Zx (wJ T) hr (Zb (pv 1) (Zb (Yb (pv 0) rfl) Za)))) (X9 (Xi hr) (Yb (pv 0) rfl) (pv 1) (fun _ _=>rfl)) Ze)) (lP rfl (lP rfl ⟨h1,T.am,T.bD,rfl,t,si,_,ko,rfl,ht,h8,_,rfl,?_⟩));have hv':Y2 ko (Xd (e1,e2))=some (.str nm):=hv;rw [show ((nm,e1,e2):kR×kR×kR).snd=(e1,e2) from rfl,hv'];exact W7 ⟨_,rfl,h1,T.am,T.bD,rfl,_,rfl,si,_,rfl,by rw [<-hv'];exact Xq.t (k:=Xd (e1,e2)) h8 ht,q nm (.inl ⟨mh.mpr ⟨_,hg,rfl⟩,yv.sigs.name _ hg,hm⟩)⟩
  ·have hv:Y2 ko (Xd e)=none:=h9.none W3 (by rw [DR];exact hm);refine lU (Zm (uD (Yn (Zx (wJ T) hr (Zb (pv 1) (Zb (Yb (pv 0) rfl) Za)))) (X9 (Xi hr) (Yb (pv 0) rfl) (pv 1) (fun _ _=>rfl)) Ze)) (lP rfl (lP rfl ⟨h1,T.am,T.bD,rfl,t,si,_,ko,rfl,ht,h8,_,rfl,?_⟩));rw [hv];exact X0 (q _ (.inr ⟨rfl,hm⟩))
abbrev S4:=kR×kR×kR×kR
def pi(H:Hp)(t:kS)(q:S4):Prop:=H t=some (.tup [.str q.1,.str q.2.1,.str q.2.2.1,.str q.2.2.2])
def pi.mono(e:lK H H')(h:pi H t q):pi H' t q:=e.at h
inductive Jy:Sp
 | mk (t) (q:S4):vs=[.ref t]->pi H t q->(∀t' H',lK H H'->H t'=none->Zr H' t' (q.1,q.2.2.1)->Q (.ref t') H')->Jy  vs H Q E
def EG:T.dD.O P w mg lL 1 Jy:=by
 refine T.dD.F.okA ?_;rfl'
 ·obtain ⟨t,q4,rfl,ht,q⟩:=h;intro X D;exact lU (Zm (Zi (Zb (ml (pv 0) Zf) (Zb (ml (pv 0) Zf) Za)))) (lP rfl (mQ ht 0 rfl (lP rfl (mQ ht 2 rfl ⟨lR,q⟩))))
def xr(sg:kQ (kR×kR×kR))(q:S4):Bool:=decide (q.2.2.1 = "") || decide (((q.1,q.2.2.1):Zh)∈sg.map Prod.snd)
inductive HR:Sp
 | mk (x t q ps js sg):vs=[.ref x,.ref t]->Yf T H x ps js sg->oZ ps js sg->pi H t q->(∀H',lK H H'->Q (.bl (xr sg q)) H')->HR vs H Q E
def yX(h:Yx s):s ≠ "" :=fun z=>by
 have:=h.1;rw [z] at this;exact absurd this (by left)
def WU:T.dE.O P w mg lL 4 (HR T):=by
 refine T.dE.F.okA ?_;rfl'
 ·obtain ⟨x,t,q4,ps,js,sg,rfl,tr,yv,ht,q⟩:=h;intro X D;obtain ⟨dx,_,_,_,_,_,_,_,_,h1,_⟩:=tr.ex;refine lU (Zm (Rb (rC hr (ml (pv 1) Zf) Ze) (wg (NP hr (Z7 (pv 0) T.am T.bM (Wy T) hr.m T.aL.b .nil Z3 (Zb (Zx (EG T) hr (Zb (pv 1) Za)) Za)) Ze)))) (lP rfl (mQ ht 2 rfl (.inl ⟨rfl,_,rfl,Yj (fun z=>?_) (fun z=>?_)⟩)))
  ·have z:q4.2.2.1 = "" :=V.str.inj (nM z);have e:xr sg q4=true:=by unfold xr;rw [mB z];rfl
   rw [e] at q;exact q H (pH _)
  ·have z:¬q4.2.2.1 = "" :=fun y=>z (mB (by rw [y]))
   refine (lP rfl ⟨x,dx,_,rfl,h1,rfl,_,rfl,t,q4,rfl,ht,fun t' H1 s1 n1 e1=>⟨x,t',_,ps,js,sg,rfl,tr.mono s1,yv,e1,fun nm hn=>.inl ⟨rfl,?_⟩⟩⟩);have e:xr sg q4=!decide (V.str nm=V.str ""):=by
    unfold xr;rw [mO z];rcases hn with ⟨_,hn,hm⟩|⟨hn,hm⟩
    ·rw [mB hm,mO fun y=>yX hn (V.str.inj y)];rfl
    ·rw [mO hm,hn];rfl
   rw [<-e];exact q H1 s1
inductive Mu:Sp
 | mk (x) (ps:kQ Zh) (js sg):vs=[.ref x]->Yf T H x ps js sg->oZ ps js sg->(∀ss:kQ kR,ss.Perm (ps.map Prod.snd)->PyProof.Rows.sortedS ss=true->pb H (.lst (ss.map V.str)) Q)->Mu vs H Q E
def HV:T.bE.O P w mg lL 1 (Mu T):=by
 refine T.bE.F.okA ?_;rfl'
 ·obtain ⟨x,ps,js,sg,rfl,tr,yv,q⟩:=h;intro X D;obtain ⟨dx,po,jo,so,si,kp,ks,kj,ko,h1,h2,h3,_⟩:=tr.ex;refine lU (Zm (Z2 (r:=ul) (wU rfl) (by rfl) T.bV tY (Zb (Yb (pv 0) rfl) Za))) (lP rfl ⟨h1,T.am,T.bu,rfl,po,kp,ps.map Prod.snd,rfl,.inl h2,?_,by rw [lV];have:=yv.len;lia,q⟩);have:=nV (List.map kV) h3.keys;rw [og,og] at this;refine Eq.trans this ?_;rw [<-BL,og]
  rfl
def X3.gate{T:Tx K mg}{k:kR}{C x:kS}{nm:kR}{H:Hp}(h:X3 T k C)(o:pC H C x nm):∃t,Xl K H (.ref x) t/\kitOne K t (.ref T.bt)=some (decide (k = "gate")):=by
 obtain ⟨dx,o⟩:=o;rcases h with ⟨rfl,rfl⟩|⟨rfl,rfl⟩|⟨rfl,rfl⟩|⟨rfl,rfl⟩|⟨rfl,rfl|rfl⟩
 ·exact ⟨_,Xl.ins o T.cY T.fe T.tG T.tK T.ff,T.iz⟩
 ·exact ⟨_,Xl.ins o T.dM T.gm T.tG T.tK T.gn,T.iN⟩
 ·exact ⟨_,Xl.ins o T.eM T.gL T.tG T.tK T.gM,T.jb⟩
 ·exact ⟨_,Xl.ins o T.eJ T.gJ T.tG T.tK T.gK,T.iZ⟩
 ·exact ⟨_,Xl.ins o T.fO T.gG T.tG T.tK T.gI,T.iY⟩
 ·exact ⟨_,Xl.ins o T.dJ T.gj T.tG T.tK T.gk,T.iM⟩
def X3.pts{T:Tx K mg}{k:kR}{C x:kS}{nm:kR}{H:Hp}(h:X3 T k C)(o:pC H C x nm):∃t,Xl K H (.ref x) t/\kitOne K t (.ref T.aG)=some (decide (k = "points")):=by
 obtain ⟨dx,o⟩:=o;rcases h with ⟨rfl,rfl⟩|⟨rfl,rfl⟩|⟨rfl,rfl⟩|⟨rfl,rfl⟩|⟨rfl,rfl|rfl⟩
 ·exact ⟨_,Xl.ins o T.cY T.fe T.tG T.tK T.ff,T.iA⟩
 ·exact ⟨_,Xl.ins o T.dM T.gm T.tG T.tK T.gn,T.iP⟩
 ·exact ⟨_,Xl.ins o T.eM T.gL T.tG T.tK T.gM,T.je⟩
 ·exact ⟨_,Xl.ins o T.eJ T.gJ T.tG T.tK T.gK,T.jd⟩
 ·exact ⟨_,Xl.ins o T.fO T.gG T.tG T.tK T.gI,T.jc⟩
 ·exact ⟨_,Xl.ins o T.dJ T.gj T.tG T.tK T.gk,T.iO⟩
def uG(ps:kQ Zh)(kd:kR)(ss:kQ kR):kQ kR:=ss.filter fun n=>decide (((kd,n):Zh)∈ps)
def QK{ps:kQ Zh}(h:(ps.map Prod.snd).Nodup){a b:Zh}(ha:a∈ps)(hb:b∈ps)(e:a.2=b.2):a=b:=by
 induction ps with
 | nil=>cases ha
 | cons p r ih =>
  rw [mH,pj] at h;rcases mI.mp ha with rfl|ha'
  ·rcases mI.mp hb with rfl|O5
   ·rfl
   ·exact absurd (mh.mpr ⟨b,O5,e.symm⟩) h.1
  ·rcases mI.mp hb with rfl|O5
   ·exact absurd (mh.mpr ⟨a,ha',e⟩) h.1
   ·exact ih h.2 ha' O5
def WW{ps:kQ Zh}{kd n:kR}{ss:kQ kR}{j:Nat}(h:ss[j]? =some n):uG ps kd (ss.take (j+1))=uG ps kd (ss.take j)++if ((kd,n):Zh)∈ps then [n] else []:=by
 unfold uG;rw [nq,h,wD,show (some n).toList=[n] from rfl,sS]
 by_cases z:((kd,n):Zh)∈ps
 ·rw [lZ (mB z),lZ z,zF]
 ·rw [lY (by simpa using z),lY z,zF]
def Eu(ps:kQ Zh)(kd:kR)(ss:kQ kR):(uG ps kd ss).length<=ss.length:=xb _ _
def Ms{T:Tx K mg}{Cc x l D:kS}{kd:kR}{ss:kQ kR}{ps:kQ Zh}{js:kQ (Zh×Zh)}{sg:kQ (kR×kR×kR)}{H1:Hp}{Q:VK}{σ:St}{E:XK}
  (hk:∀{k:kR} {C y:kS} {nm:kR} {H:Hp},X3 T k C->pC H C y nm->∃t,Xl K H (.ref y) t/\kitOne K t (.ref Cc)=some (decide (k=kd)))
  (tr:Yf T H1 x ps js sg) (yv:oZ ps js sg) (hp:ss.Perm (ps.map Prod.snd)) (hl:H1 l=some (.lst (ss.map V.str))) (hD:H1 D=none)
  (q:∀H',lK H1 H'->H' D=some (.lst ((uG ps kd ss).map V.str))->Q (.ref D) H') {fr:St->St} (p7:fr σ=[none,some (.ref x)]) :
  pS (rc K l) fr (pZ 0) (tB (xj (wF K) (sF (CM T.aO "named" (CJ T) [] E (qp 1) (sF (qp 0) tQ)) (sF (tC (.ref Cc)) tQ)))) (qp 0) Q σ H1 D:=by
 obtain ⟨dx,po,jo,so,si,kp,ks,kj,ko,h1,_⟩:=tr.ex;have hn:ss.length<=40:=by rw [hp.length_eq,lV];exact yv.len
 refine Xv (xs:=ss.map V.str) (fun i ys H'=>ys=(uG ps kd (ss.take i)).map V.str/\H' D=some (.lst ys)/\lK H1 H') ⟨rfl,Zc,nY hD⟩ ?_ ?_ ?_
 ·rintro i ys H' _ ⟨_,_,sm⟩;exact lW (sm.at hl)
 ·rintro j v ys H' hj ⟨rfl,v6,sm⟩;rw [mG] at hj;obtain ⟨n,hy,rfl⟩:=mS.mp hj;obtain ⟨⟨k,n'⟩,hm,rfl⟩:=mh.mp (hp.mem_iff.mp (oE hy));unfold Wi;rw [p7];refine ⟨nS rfl,_,rfl,x,dx,_,rfl,sm.at h1,rfl,_,rfl,x,n',k,ps,js,sg,rfl,tr.mono sm,yv,hm,fun y C H2 s2 hC hO=>?_⟩;obtain ⟨t,ht,hkt⟩:=hk hC hO;have hd:decide (k=kd)=decide (((kd,n'):Zh)∈ps):=by
   refine Fg.mpr ⟨fun e=>e ▸ hm,fun e=>?_⟩;exact nV Prod.fst (QK yv.net.nd hm e rfl)
  rw [hd] at hkt;refine ⟨_,_,_,t,rfl,ht,.inr ⟨_,rfl,hkt⟩,_,rfl,?_⟩;have w4:=s2.at v6;rw [WW hy];refine Yj (fun hc=>?_) (fun hc=>?_)
  ·rw [lZ (nM hc)];refine (lP rfl ⟨w4,?_,?_,Zc,fun b o e=>?_⟩)
   ·rw [lV];have:=Eu ps kd (ss.take j);rw [nI] at this;exact Zp (by lia)
   ·rw [mq];rfl
   ·rw [Zd (Zg e hD)];exact s2.at (sm.at e)
  ·rw [lY (fun z=>hc (mB z)),pz];exact ⟨rfl,w4,sm.trans s2⟩
 ·rintro ys H6 ⟨rfl,E9,s6⟩;rw [lV,ow] at E9;exact q H6 s6 E9
def Jg(h:PyProof.Rows.sortedS l=true)(f:kR->Bool):PyProof.Rows.sortedS (l.filter f)=true:=by
 refine PyProof.Rows.sortedS_of_pairwise _ (List.Pairwise.filter f ?_);cases l with
 | nil=>exact .nil
 | cons x r=>exact CL h
inductive CW(kd:kR):Sp
 | mk (x ps js sg):vs=[.ref x]->Yf T H x ps js sg->oZ ps js sg->(∀gs:kQ kR,(gs.Nodup/\PyProof.Rows.sortedS gs=true)->(∀n,n∈gs↔((kd,n):Zh)∈ps)->gs.length<=40->pb H (.lst (gs.map V.str)) Q)->CW kd vs H Q E
def LL(h:ss.Perm (ps.map Prod.snd))(n:kR):n∈uG ps kd ss↔((kd,n):Zh)∈ps:=by
 unfold uG;rw [sy];exact ⟨fun z=>nM z.2,fun z=>⟨h.mem_iff.mpr (mh.mpr ⟨_,z,rfl⟩),mB z⟩⟩
def Hm:T.eu.O P w mg lL 3 (CW T "gate"):=by
 refine T.eu.F.okA ?_;rfl'
 ·obtain ⟨x,ps,js,sg,rfl,tr,yv,q⟩:=h;intro X D;obtain ⟨dx,po,jo,so,si,kp,ks,kj,ko,h1,_⟩:=tr.ex;refine lU (Zm (ph ["name", "tracks"] (nZ 1 [0] rfl) (Ym (Xw (pv 0) T.am T.cZ (HV T) hr.m T.bE.b .nil Z3)) (ng 0) (rP (Yn (Z2 (r:=wF K) zy (by rfl) T.ag qx (Zb (Z7 (pv 1) T.am T.cA (DE T) hr.m T.bf.b .nil Z3 (Zb (pv 0) Za)) (Zb (Wa (v:=.ref T.bt) (by rfl) T.gO rfl) Za))))) (pv 0))) (lP rfl ⟨x,dx,_,rfl,h1,rfl,x,ps,js,sg,rfl,tr,yv,fun ss hp hs l H1 s1 n1 e1=>⟨lW e1,fun D hD=>Ms X3.gate (tr.mono s1) yv hp e1 hD (fun H' s' e'=>q _ ?_ (LL hp) ?_ D H' (s1.trans s') (s1.free hD) e') rfl⟩⟩)
  ·exact ⟨(hp.nodup_iff.mpr yv.net.nd).filter _,Jg hs _⟩
  ·have:=Eu ps "gate" ss;rw [hp.length_eq,lV] at this;exact nj this yv.len
def NB:T.dX.O P w mg lL 3 (CW T "points"):=by
 refine T.dX.F.okA ?_;rfl'
 ·obtain ⟨x,ps,js,sg,rfl,tr,yv,q⟩:=h;intro X D;obtain ⟨dx,po,jo,so,si,kp,ks,kj,ko,h1,_⟩:=tr.ex;refine lU (Zm (ph ["name", "tracks"] (nZ 1 [0] rfl) (Ym (Xw (pv 0) T.am T.cZ (HV T) hr.m T.bE.b .nil Z3)) (ng 0) (rP (Yn (Z2 (r:=wF K) zy (by rfl) T.ag qx (Zb (Z7 (pv 1) T.am T.cA (DE T) hr.m T.bf.b .nil Z3 (Zb (pv 0) Za)) (Zb (Wa (v:=.ref T.aG) (by rfl) T.gP rfl) Za))))) (pv 0))) (lP rfl ⟨x,dx,_,rfl,h1,rfl,x,ps,js,sg,rfl,tr,yv,fun ss hp hs l H1 s1 n1 e1=>⟨lW e1,fun D hD=>Ms X3.pts (tr.mono s1) yv hp e1 hD (fun H' s' e'=>q _ ?_ (LL hp) ?_ D H' (s1.trans s') (s1.free hD) e') rfl⟩⟩)
  ·exact ⟨(hp.nodup_iff.mpr yv.net.nd).filter _,Jg hs _⟩
  ·have:=Eu ps "points" ss;rw [hp.length_eq,lV] at this;exact nj this yv.len
def RQ{α β γ:Type}{F:α->β->Prop}{G:α->γ->Prop}{g:β->γ}{l:kQ α}{m:kQ β}(h:Paired F l m)(k:∀a b,F a b->G a (g b)):Paired G l (m.map g):=by
 induction h with
 | nil=>exact .nil
 | cons r t ih=>exact .cons (k _ _ r) ih
def HX{α β:Type}{f:α->β}(hf:∀a b,f a=f b->a=b){l:kQ α}(h:l.Nodup):(l.map f).Nodup:=List.pairwise_map.mpr (h.imp fun z e=>z (hf _ _ e))
def Af(l:kQ (kR×kR)):kQ (md×V):=l.map fun p=>(Y7 p.1,V.str p.2)
inductive JC:Sp
 | mk (x ps js sg):vs=[.ref x]->Yf T H x ps js sg->oZ ps js sg->(∀gs:kQ kR,(gs.Nodup/\PyProof.Rows.sortedS gs=true)->(∀n,n∈gs↔(("points",n):Zh)∈ps)->gs.length<=40->pb H (.dK (Af (gs.map fun n=>(n, "left")))) Q)->JC vs H Q E
def WB:T.cO.O P w mg lL 4 (JC T):=by
 refine T.cO.F.okA ?_;rfl'
 ·obtain ⟨x,ps,js,sg,rfl,tr,yv,q⟩:=h;intro X D;refine lU (Zm (Y6 (r:=zf) (Fe rfl) (by rfl) T.dW wA (Zb (ph ["points"] (nZ 1 [] rfl) (Ym (Zx (NB T) hr (Zb (pv 0) Za))) (ng 0) Wk (Zi (Zb (pv 0) (Zb Ze Za)))) Za))) (lP rfl ⟨x,ps,js,sg,rfl,tr,yv,fun gs nd hm hn l H1 s1 n1 e1=>⟨lW e1,fun D hD=>Xv (xs:=gs.map V.str) (fun i ys H'=>(∃ts:kQ kS,ys=ts.map V.ref/\Paired (Zr H') ts ((gs.take i).map fun n=>(n, "left")))/\H' D=some (.lst ys)/\lK H1 H') ⟨⟨[],rfl,.nil⟩,Zc,nY hD⟩ ?_ ?_ ?_⟩⟩)
  ·rintro i ys H' _ ⟨_,_,sm⟩;exact lW (sm.at e1)
  ·rintro j v ys H' hj ⟨⟨ts,rfl,d9⟩,v6,sm⟩;rw [mG] at hj;obtain ⟨n,hy,rfl⟩:=mS.mp hj;have hl:=mv d9;rw [lV,nI] at hl;unfold Wi;refine ⟨nS rfl,_,rfl,lR,fun t H2 s2 n2 e2=>⟨s2.at v6,?_,⟨ts++[t],?_,?_⟩,Zc,fun b o e=>?_⟩⟩
   ·rw [lV];exact Zp (by lia)
   ·rw [mq];rfl
   ·rw [nq,hy,mq];have off:∀{b:kS} {p:Zh},Zr H2 b p->Zr (upd H2 D (.lst (ts.map V.ref++[V.ref t]))) b p:=fun {b p} z=>by
     unfold Zr at z ⊢;rw [Zd fun y=>by rw [y,s2.at v6] at z;cases z];exact z
    exact oP (mw d9 fun _ _ r=>off (r.mono s2)) (.cons (off e2) .nil)
   ·rw [Zd (Zg e hD)];exact s2.at (sm.at e)
  ·rintro ys H6 ⟨⟨ts,rfl,d9⟩,E9,s6⟩;rw [lV,ow] at d9;refine ⟨D,ts,Af (gs.map fun n=>(n, "left")),rfl,E9,?_,?_,fun d H7 s7 n7 e7=>q gs nd hm hn d H7 (s1.trans (s6.trans s7)) (s1.free (s6.free n7)) e7⟩
   ·unfold Af;exact RQ d9 fun _ _ r=>r
   ·unfold Af;rw [og,og];exact HX uZ nd.1
inductive KB(kd:kR):Sp
 | mk (x g ps js sg):vs=[.ref x,.str g]->Yf T H x ps js sg->oZ ps js sg->((kd,g):Zh)∈ps->(∀H',lK H H'->Q .non H')->KB kd vs H Q E
def Fy:T.aI.O P w mg lL 4 (KB T "gate"):=by
 refine T.aI.F.okW Mc ?_;rfl'
 ·obtain ⟨x,g,ps,js,sg,rfl,tr,yv,hm,q⟩:=h;intro X D;refine lU (Zt (sV hr (pv 1) (Zx (Hm T) hr (Zb (pv 0) Za))) Zn Zk) (lP rfl (lP rfl ⟨x,ps,js,sg,rfl,tr,yv,fun gs nd hg hl l H1 s1 n1 e1=>.inl ⟨l,_,rfl,.inl (lW e1),rfl,X5 _,_,rfl,?_⟩⟩));rw [lZ rfl,Wo,mB ((hg g).mpr hm)];exact X0 (q H1 s1)
inductive FG:Sp
 | mk (n:Nat):vs=[.int (n:Int)]->1<=n->n<=4->Q .non H->FG  vs H Q E
def Jf:T.az.O P w mg lL 1 FG:=by
 refine T.az.F.okW HQ ?_;rfl'
 ·obtain ⟨n,rfl,h1,h2,q⟩:=h;intro X D;refine lU (Zt (oM (Wj (Y8 (Yn (qg "int" T.ag T.fL wE (pv 0)))) (Wj (Yn (qg "bool" T.ag T.eV yA (pv 0))) (Wl (Y8 (yt sK sK Zf (pv 0) (Ws (by rfl) T.bx))))))) Zn Zk) (lP rfl ⟨_,_,_,_,rfl,Xl.int _,.inl (lP rfl T.jq),_,rfl,X0 (lP rfl ⟨_,_,_,_,rfl,Xl.int _,.inl (lP rfl T.jt),_,rfl,X0 (lP rfl (mz rfl rfl (lP rfl (Yj (fun _=>(mz rfl rfl (lP rfl ?_))) (fun z=>absurd (mB (by lia)) z)))))⟩)⟩);rw [mB (show (n:Int)<=4 by lia)];exact X0 q
def vC(v:V)(S:kR->Prop):Prop:=qQ v=true/\∀ss:kQ kR,(∀n∈ss,S n)->oo v (ss.map V.str)=false
def Dx{S:kR->Prop}(h:¬S n):vC (.str n) S:=⟨rfl,fun ss hs=>by rw [Wo];exact mO fun z=>h (hs n z)⟩
def MN{S:kR->Prop}(hf:qQ v=true)(h:∀n,qc (.str n) v=false):vC v S:=⟨hf,fun ss _=>by
 unfold oo;rw [List.any_map];exact List.any_eq_false.mpr fun n _=>by show ¬qc (.str n) v=true;rw [h n];exact mX⟩
def BD(v:V):Prop:=(∃i:Int,v=.int i/\¬(1<=i/\i<=4))\/(∃b,v=.bl b)\/v=.non\/∃s,v=.str s
inductive Cb:Sp
 | mk (v d kvs):vs=[v,.ref d]->H d=some (.dK kvs)->(yV K H v false\/∃nm:kR,v=.str nm/\Yx nm/\(Y2 kvs (Y7 nm)).isSome=true)->(∀H',lK H H'->E (.ref T.aq) none H')->Cb vs H Q E
def Tt:Xe P w K mg lL (mK P w) 2 T.aH.f T.aH.fd ["name", "known"] (Cb T):=by
 refine T.aH.F.okX KN ?_;rfl'
 ·obtain ⟨v,d,kvs,rfl,hd,hv,q⟩:=h;intro X D;rcases hv with hA|⟨nm,rfl,hn,hs⟩
  ·exact lS (Zt (Y8 (Yn (Zx (yW T) hr (Zb (pv 0) Za)))) Zn Zk) (lP rfl ⟨_,false,rfl,hA,fun H1 s1=>(lP rfl (W7 (lU (W1 T.fM rT rfl (Zb Ze Za)) ⟨lR,q H1 s1⟩)))⟩)
  ·refine lS (Zt (Y8 (Yn (Zx (yW T) hr (Zb (pv 0) Za)))) Zn Zk) (lP rfl ⟨_,true,rfl,hn.asked,fun H1 s1=>(lP rfl (X0 ?_))⟩);refine lU (Zt (vP hr (pv 0) (pv 1)) Zn Zk) (lP rfl (lP rfl (.inr (.inl ⟨d,_,rfl,pp (k:=Y7 nm) (s1.at hd),_,rfl,?_⟩))));rw [hs];exact W7 (lU (W1 T.fM rT rfl (Zb Ze Za)) ⟨lR,q H1 s1⟩)
def Pe(h:2<=k:=by left):Xe P w K mg lL (mK P w) k T.aH.f T.aH.fd ["name", "known"] (Cb T):=(Tt T).mono h
inductive BW(kd:kR)(c:kS):Sp
 | mk (x v ps js sg):vs=[.ref x,v]->Yf T H x ps js sg->oZ ps js sg->vC v (fun n=>((kd,n):Zh)∈ps)->(∀H',lK H H'->E (.ref c) none H')->BW kd c vs H Q E
def SB:Xe P w K mg lL (mK P w) 4 T.aI.f T.aI.fd ["tracks", "gate"] (BW T "gate" T.aD):=by
 refine T.aI.F.okX Mc ?_;rfl'
 ·obtain ⟨x,v,ps,js,sg,rfl,tr,yv,hv,q⟩:=h;intro X D;refine lU (Zt (sV hr (pv 1) (Zx (Hm T) hr (Zb (pv 0) Za))) Zn Zk) (lP rfl (lP rfl ⟨x,ps,js,sg,rfl,tr,yv,fun gs nd hg hl l H1 s1 n1 e1=>.inl ⟨l,_,rfl,.inl (lW e1),hv.1,X5 _,_,rfl,?_⟩⟩));rw [lZ rfl,hv.2 gs fun n z=>(hg n).mp z];exact W7 (lU (W1 T.gC rT rfl (Zb Ze Za)) ⟨lR,q H1 s1⟩)
def Up(h:4<=k:=by left):Xe P w K mg lL (mK P w) k T.aI.f T.aI.fd ["tracks", "gate"] (BW T "gate" T.aD):=(SB T).mono h
inductive DB:Sp
 | mk (v):vs=[v]->BD v->E (.ref T.ar) none H->DB vs H Q E
def Pr:Xe P w K mg lL (mK P w) 1 T.az.f T.az.fd ["long"] (DB T):=by
 refine T.az.F.okX HQ ?_;rfl'
 ·obtain ⟨v,rfl,hv,q⟩:=h;intro X D;rcases hv with ⟨i,rfl,hi⟩|⟨b,rfl⟩|rfl|⟨t,rfl⟩
  ·refine lU (Zt (oM (Wj (Y8 (Yn (qg "int" T.ag T.fL wE (pv 0)))) (Wj (Yn (qg "bool" T.ag T.eV yA (pv 0))) (Wl (Y8 (yt sK sK Zf (pv 0) (Ws (by rfl) T.bx))))))) Zn Zk) (lP rfl ⟨_,_,_,_,rfl,Xl.int _,.inl (lP rfl T.jq),_,rfl,X0 (lP rfl ⟨_,_,_,_,rfl,Xl.int _,.inl (lP rfl T.jt),_,rfl,X0 (lP rfl (mz rfl rfl (lP rfl (Yj (fun y=>(mz rfl rfl (lP rfl ?_))) (fun y=>?_)))))⟩)⟩);rotate_left
   ·exact ⟨_,rfl,W7 (lU (W1 T.cH rT rfl (Zb Ze Za)) ⟨lR,q⟩)⟩
   have y:1<=i:=nM y;rw [mO (show ¬i<=4 from fun z=>hi ⟨y,z⟩)];exact W7 (lU (W1 T.cH rT rfl (Zb Ze Za)) ⟨lR,q⟩)
  ·exact lU (Zt (oM (Wj (Y8 (Yn (qg "int" T.ag T.fL wE (pv 0)))) (Wj (Yn (qg "bool" T.ag T.eV yA (pv 0))) (Wl (Y8 (yt sK sK Zf (pv 0) (Ws (by rfl) T.bx))))))) Zn Zk) (lP rfl ⟨_,_,_,_,rfl,Xl.bl _,.inl (lP rfl T.jv),_,rfl,X0 (lP rfl ⟨_,_,_,_,rfl,Xl.bl _,.inl (lP rfl T.jw),_,rfl,W7 (lU (W1 T.cH rT rfl (Zb Ze Za)) ⟨lR,q⟩)⟩)⟩)
  ·exact lU (Zt (oM (Wj (Y8 (Yn (qg "int" T.ag T.fL wE (pv 0)))) (Wj (Yn (qg "bool" T.ag T.eV yA (pv 0))) (Wl (Y8 (yt sK sK Zf (pv 0) (Ws (by rfl) T.bx))))))) Zn Zk) (lP rfl ⟨_,_,_,_,rfl,Xl.non,.inl (lP rfl T.jx),_,rfl,W7 (lU (W1 T.cH rT rfl (Zb Ze Za)) ⟨lR,q⟩)⟩)
  ·exact lU (Zt (oM (Wj (Y8 (Yn (qg "int" T.ag T.fL wE (pv 0)))) (Wj (Yn (qg "bool" T.ag T.eV yA (pv 0))) (Wl (Y8 (yt sK sK Zf (pv 0) (Ws (by rfl) T.bx))))))) Zn Zk) (lP rfl ⟨_,_,_,_,rfl,Xl.str _,.inl (lP rfl T.jy),_,rfl,W7 (lU (W1 T.cH rT rfl (Zb Ze Za)) ⟨lR,q⟩)⟩)
def Nw(h:1<=k:=by left):Xe P w K mg lL (mK P w) k T.az.f T.az.fd ["long"] (DB T):=(Pr T).mono h
def Ec(H:Hp)(t:kS)(part:kR)(q:kR×kR×kR):Prop:=H t=some (.tup [.str part,.str q.1,.str q.2.1,.str q.2.2])
def yx(told:kQ Bool)(len j:Nat):Prop:=j<told.length/\told.getD j true=false/\true∈told.drop (j+len)
abbrev Z0:=kR×(kR×kR×kR)
def Zs{α:Type}(f:α->V)(ls:kQ (kR×α)):kQ (md×V):=ls.map fun q=>(Sum.inr q.1,f q.2)
theorem Xy{α:Type}{f:α->V}:∀{ls:kQ (kR×α)} {q:kR×α},(ls.map Prod.fst).Nodup->q∈ls->Y2 (Zs f ls) (Sum.inr q.1)=some (f q.2)
 | [],_,_,h=>by simp at h
 | r ::ls,q,nd,h=>by
  rw [show Zs f (r ::ls)=(Sum.inr r.1,f r.2) ::Zs f ls from rfl];rw [mH,pj] at nd;rcases mI.mp h with e|e
  ·rw [e];exact vZ rfl
  ·rw [uH fun z=>nd.1 (by rw [vj z];exact mh.mpr ⟨q,e,rfl⟩)];exact Xy nd.2 e
theorem Xz{α:Type}{f:α->V}:∀{ls:kQ (kR×α)} {x:kR},x∉ls.map Prod.fst->Y2 (Zs f ls) (Sum.inr x)=none
 | [],_,_=>rfl
 | r ::ls,x,h=>by
  rw [show Zs f (r ::ls)=(Sum.inr r.1,f r.2) ::Zs f ls from rfl];rw [mH,mI,not_or] at h;rw [uH fun z=>h.1 (vj z).symm];exact Xz h.2
def NU{α:Type}{f:α->V}{ls:kQ (kR×α)}{v:α}(h:x∉ls.map Prod.fst):nO (Zs f ls) (Sum.inr x) (f v)=Zs f (ls++[(x,v)]):=by
 rw [GK _ (Xz h)];simp [Zs]
def rh(H:Hp)(ts:kQ kS)(ss:kQ Z0):Prop:=Paired (fun t (q:Z0)=>Ec H t q.1 q.2) ts ss
def Z8(H:Hp)(l:kS)(ss:kQ Z0):Prop:=∃ts,H l=some (.lst (ts.map V.ref))/\rh H ts ss
def rh.mono(e:lK H H')(h:rh H ts ss):rh H' ts ss:=mw h fun _ _ r=>e.at r
def Z8.mono(e:lK H H')(h:Z8 H l ss):Z8 H' l ss:=let ⟨ts,h1,h2⟩:=h;⟨ts,e.at h1,h2.mono e⟩
def rh.off(h:rh H ts ss)(hc:∀xs,H c≠some (.tup xs)):rh (upd H c o) ts ss :=
 mw h fun t q r=>by
  unfold Ec at r ⊢;rw [Zd fun z=>hc _ (z ▸ r)];exact r
def Z8.off(h:Z8 H l ss)(ne:l≠c)(hc:∀xs,H c≠some (.tup xs)):Z8 (upd H c o) l ss:=by
 obtain ⟨ts,h1,h2⟩:=h;exact ⟨ts,by rw [Zd ne];exact h1,h2.off hc⟩
def yh(q:Z0):Tr:=.tup [.str q.1,.str q.2.1,.str q.2.2.1,.str q.2.2.2]
def rh.im(h:rh H ts ss):Paired (Im K H 1) (ss.map yh) (ts.map V.ref):=by
 induction h with
 | nil=>exact .nil
 | cons r _ ih=>exact .cons (sJ (mD r) (.cons (.str _) (.cons (.str _) (.cons (.str _) (.cons (.str _) .nil))))) ih
def Z8.im(h:Z8 H l ss):Im K H 2 (.lst (ss.map yh)) (.ref l):=let ⟨_,h1,h2⟩:=h;tz (lW h1) h2.im
def Yg(H:Hp)(d:kS)(es:kQ (kR×kS))(val:kR->kQ Z0):Prop:=H d=some (.dK (Zs V.ref es))/\∀e∈es,Z8 H e.2 (val e.1)
def Yg.mono{val:kR->kQ Z0}(e:lK H H')(h:Yg H d es val):Yg H' d es val:=⟨e.at h.1,fun x hx=>(h.2 x hx).mono e⟩
def Iy(e:lK H H')(h:Xq H a y o):Xq H' a y o:=by
 rcases h with ⟨kvs,k,h1,h2,h3⟩|⟨kvs,k,b,h1,h2,h3,h4⟩
 ·exact .inl ⟨kvs,k,e.rd h1,h2,h3⟩
 ·exact .inr ⟨kvs,k,b,e.rd h1,h2,e.at h3,h4⟩
def Pw(h1:PI X tg l a)(h2:PI X tg l b):PI X tg l (fun σ H R=>a σ H R\/b σ H R):=fun a9 s σ H R I h=>h.elim (h1 a9 s σ H R I) (h2 a9 s σ H R I)
def vM(H:Hp)(l:kS)(ss:kQ Z0):Prop:=∃ts:kQ kS,(H l=some (.lst (ts.map V.ref))\/H l=some (.tup (ts.map V.ref)))/\rh H ts ss
def vM.mono(e:lK H H')(h:vM H l ss):vM H' l ss:=let ⟨ts,h1,h2⟩:=h;⟨ts,h1.imp e.at e.at,h2.mono e⟩
def Z8.seq(h:Z8 H l ss):vM H l ss:=let ⟨ts,h1,h2⟩:=h;⟨ts,.inl h1,h2⟩
def Hc{fr:St->St}(z6:rh H1 ts ss)(hn:ss.length<=100)(hD:H1 D=none)(q:∀H',lK H1 H'->H' D=some (.lst ((ss.map Prod.fst).map V.str))->Q (.ref D) H')(p7:fr σ=[none])
  (C:∀Pv:Nat->kQ V->Hp->Prop,Pv 0 [] (upd H1 D (.lst []))->(∀i ys H,Pv i ys H->lK H1 H)->(∀i x ys H,(ts.map V.ref)[i]? =some x->Pv i ys H->Wi fr (pZ 0) xS (pT (uA K) (qp 0) (tC (.int 0))) σ D x ys H (Pv (i+1)))->(∀ys H,Pv (ts.map V.ref).length ys H->Q (.ref D) H)->pS J fr (pZ 0) xS (pT (uA K) (qp 0) (tC (.int 0))) Q σ H1 D):pS J fr (pZ 0) xS (pT (uA K) (qp 0) (tC (.int 0))) Q σ H1 D:=by
 refine C (fun i ys H'=>ys=((ss.map Prod.fst).map V.str).take i/\H' D=some (.lst ys)/\lK H1 H') ⟨rfl,Zc,nY hD⟩ (fun _ _ _ p=>p.2.2) ?_ ?_
 ·rintro k v ys H' hk ⟨rfl,v6,sm⟩;rw [mG] at hk;obtain ⟨t,ht,rfl⟩:=mS.mp hk;obtain ⟨y,hy,r2⟩:=oO z6 ht;unfold Wi;rw [p7];refine ⟨nS rfl,_,rfl,.inr (.inl ⟨t,_,_,_,rfl,rfl,mD (sm.at r2),rfl,v6,?_,?_,Zc,fun b o e=>?_⟩)⟩
  ·rw [nI,lV,lV];exact Zp (by lia)
  ·rw [nq,mG,mG,hy];rfl
  ·rw [Zd (Zg e hD)];exact sm.at e
 ·rintro ys H6 ⟨rfl,E9,s6⟩;refine q H6 s6 ?_;rw [E9,lV,mv z6,uU (by rw [lV,lV];exact mn _)]
inductive IM:Sp
 | mk (l) (ss:kQ Z0):vs=[.ref l]->vM H l ss->ss.length<=100->(∀p H',lK H H'->H p=none->H' p=some (.lst ((ss.map Prod.fst).map V.str))->Q (.ref p) H')->IM  vs H Q E
def AG:T.ez.O P w mg lL 1 IM:=by
 refine T.ez.F.okA ?_;rfl'
 ·obtain ⟨l,ss,rfl,hl,hn,q⟩:=h;intro X D;obtain ⟨ts,hl,z6⟩:=hl;refine lU (Zm (ph ["step"] (nZ 1 [] rfl) (Pw (Ym (pv 0)) (yn (pv 0))) (ng 0) Wk (pR (K:=K) rfl (pv 0) Zf))) (hl.imp (fun e=>(lP rfl ⟨lW e,fun D hD=>Hc z6 hn hD (fun H' s' e'=>q D H' s' hD e') rfl fun Pv h0 hs=>Xv Pv h0 fun i ys H _ p=>lW ((hs i ys H p).at e)⟩)) fun e=>(lP rfl ⟨mD e,fun D hD=>Hc z6 hn hD (fun H' s' e'=>q D H' s' hD e') rfl fun Pv h0 hs=>BX Pv h0 fun i ys H _ p=>mD ((hs i ys H p).at e)⟩))
def Cg(d8:kQ kR)(val:kR->kQ Z0)(x r:kR):Prop:=(∃t∈d8,x∈(val t).map Prod.fst/\r=t)\/((∀t∈d8,x∉(val t).map Prod.fst)/\r = "")
inductive LA:Sp
 | mk (d x) (es:kQ (kR×kS)) (val:kR->kQ Z0):vs=[.ref d,.str x]->Yg H d es val->(es.map Prod.fst).Nodup->es.length<=100->(∀t,(val t).length<=100)->(∀r H',lK H H'->Cg (es.map Prod.fst) val x r->Q (.str r) H')->LA  vs H Q E
def Mh:T.gp.O P w mg lL 2 LA:=by
 refine T.gp.F.okW CQ ?_;rfl'
 ·obtain ⟨d,x,es,val,rfl,⟨hd,N8⟩,hfd,Q7,hvl,q⟩:=h;intro X D;refine lS (xU (Xb ol rfl (vG (pv 0)) (qG rfl (Zq (mP 2 CQ) (Zq (mP 3 CQ) Y9))) Zn)) (lP rfl ⟨d,_,rfl,hd,fun o nf=>AS (fun i σ H'=>(∃o2 o3,σ=[some (.ref d),some (.str x),o2,o3])/\lK (upd H d (.frz o (.dK (Zs V.ref es)))) H'/\∀t∈(es.map Prod.fst).take i,x∉(val t).map Prod.fst) ⟨⟨none,none,rfl⟩,pH _,by simp⟩ ?_ ?_ ?_⟩)
  ·rintro i σ H' _ ⟨_,sm,_⟩;exact sm.at Zc
  ·rintro i kv σ H2 hi ⟨⟨o2,o3,rfl⟩,s2,A7⟩ tp H3 s3 n3 e3;rw [show Zs V.ref es=es.map fun q=>(Sum.inr q.1,V.ref q.2) from rfl,mG] at hi;obtain ⟨e,he,rfl⟩:=mS.mp hi;have hem:e∈es:=oE he;have hfi:(es.map Prod.fst)[i]? =some e.1:=by rw [mG,he];rfl
   have hed:e.2≠d:=fun z=>by
    obtain ⟨ts,h1,_⟩:=N8 e hem;rw [z,hd] at h1;cases h1
   have R9:Z8 H3 e.2 (val e.1):=((N8 e hem).off (o:=.frz o (.dK (Zs V.ref es))) hed fun xs z=>by rw [hd] at z;cases z).mono (s2.trans s3);refine ⟨tp,_,rfl,mD e3,rfl,_,_,rfl,_,_,rfl,rfl,?_⟩;refine lU (Zt (vP hr (pv 1) (Zx (AG T) hr (Zb (pv 3) Za))) Zn Zk) (lP rfl (lP rfl ⟨e.2,val e.1,rfl,R9.seq,hvl e.1,fun pf H4 s4 n4 e4=>.inl ⟨pf,_,rfl,.inl (lW e4),rfl,X5 _,_,rfl,?_⟩⟩));have P3:=s2.trans (s3.trans s4);rw [lY mX,Wo];refine Yj (fun hc=>?_) (fun hc=>?_)
   ·have hc:x∈(val e.1).map Prod.fst:=nM hc;exact lU (Zm (pv 2)) (lP rfl ⟨d,o,_,P3.at Zc,nf,q e.1 _ (wS hd P3) (.inl ⟨e.1,mh.mpr ⟨e,hem,rfl⟩,hc,rfl⟩)⟩)
   ·have hc:x∉(val e.1).map Prod.fst:=fun z=>hc (mB z)
    refine ⟨⟨_,_,rfl⟩,P3,fun t htm=>?_⟩;rw [nq,hfi,mZ] at htm;rcases htm with z|z
    ·exact A7 t z
    ·simp at z;rw [z];exact hc
  ·rintro σ H2 ⟨⟨o2,o3,rfl⟩,s2,A7⟩;rw [show (Zs V.ref es).length=(es.map Prod.fst).length by rw [lV];exact lV ..,ow] at A7;exact ⟨d,o,_,s2.at Zc,nf,lU (Zm Ze) (q "" _ (wS hd s2) (.inr ⟨A7,rfl⟩))⟩
def Yg.read{val:kR->kQ Z0}(h:Yg H d es val)(nd:(es.map Prod.fst).Nodup)(s2:lK (upd H d (.frz o (.dK (Zs V.ref es)))) H2)(he:e∈es):Z8 H2 e.2 (val e.1)/\Xq H2 d (.str e.1) (some (.ref e.2)):=by
 obtain ⟨hd,N8⟩:=h;have hed:e.2≠d:=fun z=>by
  obtain ⟨ts,h1,_⟩:=N8 e he;rw [z,hd] at h1;cases h1
 refine ⟨((N8 e he).off (o:=.frz o (.dK (Zs V.ref es))) hed fun xs z=>by rw [hd] at z;cases z).mono s2,?_⟩;rw [<-Xy nd he];exact .inl ⟨_,Sum.inr e.1,.inr ⟨o,s2.at Zc⟩,rfl,rfl⟩
def Si{es:kQ (kR×kS)}{i:Nat}{kv:md×V}(hi:(Zs V.ref es)[i]? =some kv):∃e∈es,es[i]? =some e/\(es.map Prod.fst)[i]? =some e.1/\kv=(Sum.inr e.1,V.ref e.2):=by
 rw [show Zs V.ref es=es.map fun q=>(Sum.inr q.1,V.ref q.2) from rfl,mG] at hi;obtain ⟨e,he,rfl⟩:=mS.mp hi;exact ⟨e,oE he,he,by rw [mG,he];rfl,rfl⟩
def XO{α:Type}{f:α->V}(es:kQ (kR×α)):(Zs f es).length=(es.map Prod.fst).length:=by rw [lV];exact lV ..
def SK:T.aT.O P w mg lL 1 (wM T.aS "part"):=by
 refine T.aT.F.okA ?_;rfl'
 ·obtain ⟨e,t,v,rfl,he,q⟩:=h;intro X D;exact lU (Hy (pv 0) (pv 1) rfl) (lP rfl (lP rfl ⟨e,T.aS,T.ay,t,rfl,he,T.dB.cls,T.dB.sa,T.dB.na,q⟩))
def CT(h:1<=k:=by left):T.aT.O P w mg lL k (wM T.aS "part"):=(SK T).mono h
def zE(held:kR->Prop)(xs:kQ kR)(i:Nat):Prop:=∀j y,j<i->xs[j]? =some y->y∉xs.take j/\¬held y
def IY(held:kR->Prop)(xs:kQ kR)(x:kR):Prop:=∃i,xs[i]? =some x/\(x∈xs.take i\/held x)/\zE held xs i
def uR(d8:kQ kR)(val:kR->kQ Z0)(x:kR):Prop:=∃t∈d8,x∈(val t).map Prod.fst
inductive Hw(C:kS):Sp
 | mk (d p) (es:kQ (kR×kS)) (val:kR->kQ Z0) (ss:kQ Z0):vs=[.ref d,.ref p]->Yg H d es val->(es.map Prod.fst).Nodup->es.length<=100->(∀t,(val t).length<=100)->(∀t∈es.map Prod.fst,t ≠ "")->vM H p ss->ss.length<=100->(∀H',lK H H'->zE (uR (es.map Prod.fst) val) (ss.map Prod.fst) ss.length->Q .non H')->(∀dx H' x,lK H H'->H dx=none->IY (uR (es.map Prod.fst) val) (ss.map Prod.fst) x->H' dx=some (.xd [("part",.str x)])->E (.ref C) (some dx) H')->Hw C vs H Q E
def Ly{d8:kQ kR}{val:kR->kQ Z0}{x r:kR} (hn:∀t∈d8,t ≠ "") (h:Cg d8 val x r):(r ≠ "")↔uR d8 val x:=by
 rcases h with ⟨t,ht,hx,rfl⟩|⟨A7,rfl⟩
 ·exact ⟨fun _=>⟨r,ht,hx⟩,fun _=>hn r ht⟩
 ·exact ⟨fun z=>absurd rfl z,fun ⟨t,ht,hx⟩=>absurd hx (A7 t ht)⟩
def Ta:Xe P w K mg lL (mK P w) 3 T.bz.f T.bz.fd ["paths", "steps"] (Hw T.aS):=by
 refine T.bz.F.okX Cq ?_;rfl'
 ·obtain ⟨d,p,es,val,ss,rfl,N8,hfd,Q7,hvl,p0,hp,Q9,q,qE⟩:=h;intro X D;refine lS (me 2 Cq (Zl Za)) ⟨lR,fun a H1 s1 n1 e1=>?_⟩;refine lS (Xb PassesOwn.leaving rfl (Ym (Zx (AG T) hr (Zb (pv 1) Za))) (mP 3 Cq) Zn) ⟨_,rfl,p,ss,rfl,hp.mono s1,Q9,fun pf H2 s2 n2 e2=>⟨lW e2,Wc (xs:=(ss.map Prod.fst).map V.str) (fun i σ H'=>(∃o3,σ=[some (.ref d),some (.ref p),some (.ref a),o3])/\lK H H'/\H' pf=some (.lst ((ss.map Prod.fst).map V.str))/\H' a=some (.lst (((ss.map Prod.fst).take i).map V.str))/\zE (uR (es.map Prod.fst) val) (ss.map Prod.fst) i)
   ⟨⟨none,rfl⟩,s1.trans s2,e2,s2.at e1,fun j y h=>absurd h (Nat.not_lt_zero _)⟩ ?_ ?_ ?_⟩⟩
  ·rintro i σ H' _ ⟨_,_,e,_⟩;exact lW e
  ·rintro i v σ H3 hi ⟨⟨o3,rfl⟩,s3,e3,ea3,hg⟩;rw [mG] at hi;obtain ⟨y,hy,rfl⟩:=mS.mp hi;have F8:i<(ss.map Prod.fst).length:=(oj.mp hy).1;rw [lV] at F8;have npa:pf≠a:=fun z=>by
    rw [z] at n2;rw [e1] at n2;cases n2
   let I19:IC:=fun σ' H'=>σ'=[some (.ref d),some (.ref p),some (.ref a),some (.str y)]/\lK H3 H'/\y∉(ss.map Prod.fst).take i/\¬uR (es.map Prod.fst) val y
   refine nX I19 ?_ ?_
   ·refine oi (Zt (oM (Wj (vP hr (pv 3) (pv 2)) (Wl (qi hr (Zx (Mh T) hr (Zb (pv 0) (Zb (pv 3) Za))) Ze)))) Zn Zk) (lP rfl (lP rfl (.inl ⟨a,_,rfl,.inl (lW ea3),rfl,X5 _,_,rfl,?_⟩)));rw [lY mX,Wo];have bad:∀H4,lK H3 H4->(y∈(ss.map Prod.fst).take i\/uR (es.map Prod.fst) val y)->∀dx,H4 dx=none->E (.ref T.aS) (some dx) (upd H4 dx (.xd [("part",.str y)])):=fun H4 s4 hb dx hn=>qE dx _ y ((s3.trans s4).trans (nY hn)) ((s3.trans s4).free hn) ⟨i,hy,hb,hg⟩ Zc
    refine Yj (fun hc=>?_) (fun hc=>?_)
    ·exact lU (Aj T.dB T.cF (CT T) T.aT.b hr rfl T.gS (Zb (pv 3) Za)) (lP rfl (lP rfl (bad H3 (pH _) (.inl (nM hc)))))
    ·have hc:y∉(ss.map Prod.fst).take i:=fun z=>hc (mB z)
     refine (lP rfl (lP rfl ⟨d,y,es,val,rfl,N8.mono s3,hfd,Q7,hvl,fun r H4 s4 hh=>.inl ⟨rfl,_,rfl,Yj (fun hb=>?_) (fun hb=>?_)⟩⟩))
     ·have hb:r ≠ "" :=fun z=>by rw [z] at hb;simp at hb
      exact lU (Aj T.dB T.cF (CT T) T.aT.b hr rfl T.gS (Zb (pv 3) Za)) (lP rfl (lP rfl (bad H4 s4 (.inr ((Ly p0 hh).mp hb)))))
     ·refine ⟨rfl,s4,hc,fun z=>hb ?_⟩;have:=(Ly p0 hh).mpr z;simp [this]
   rintro σ' H4 ⟨rfl,s4,hno1,hno2⟩;refine lU (Zy (pW (pv 2) (pv 3))) (lP rfl ⟨.inl ⟨rfl,_,lW (s4.at ea3)⟩,_,rfl,a,_,_,rfl,rfl,s4.at ea3,?_,⟨_,rfl⟩,fun b o z=>?_,?_,?_,?_⟩)
   ·rw [lV,nI];exact Zp (by lia)
   ·rw [Zd (Zg z n1)];exact s4.at (s3.at z)
   ·rw [Zd npa];exact s4.at e3
   ·rw [Zc,nq,hy,mq]
    rfl
   ·intro j z hj hz;rcases xM j i with h|h
    ·exact hg j z h hz
    ·have:j=i:=by lia
     subst this;rw [hy] at hz;cases hz;exact ⟨hno1,hno2⟩
  ·rintro σ H3 ⟨_,s3,_,_,hg⟩;rw [lV,lV] at hg;exact WSs.nil (q H3 s3 hg)
def W8 (d8:kQ kR) (val:kR->kQ Z0) (tr:kR) (ss:kQ Z0):kR->kQ Z0:=open Classical in fun t=>if t=tr then (if tr∈d8 then val tr else [])++ss else val t
def BP (d8:kQ kR) (tr:kR):kQ kR:=open Classical in if tr∈d8 then d8 else d8++[tr]
def sI (es:kQ (kR×kS)) (tr:kR) (l:kS):kQ (kR×kS):=open Classical in if tr∈es.map Prod.fst then es.map (fun q=>if q.1=tr then (tr,l) else q) else es++[(tr,l)]
def TF(es:kQ (kR×kS))(tr:kR)(l:kS):(sI es tr l).map Prod.fst=BP (es.map Prod.fst) tr:=by
 unfold sI BP
 by_cases z:tr∈es.map Prod.fst
 ·rw [lZ z,lZ z,og];refine Cf fun q _=>?_
  by_cases y:q.1=tr
  ·simp [y]
  ·simp [y]
 ·rw [lY z,lY z,mq]
  rfl
def TX(es:kQ (kR×kS))(tr:kR)(l:kS):nO (Zs V.ref es) (Sum.inr tr) (.ref l)=Zs V.ref (sI es tr l):=by
 unfold sI
 by_cases z:tr∈es.map Prod.fst
 ·rw [lZ z];have hany:((Zs V.ref es).any fun kv=>decide (kv.1=Sum.inr tr))=true:=by
   obtain ⟨q,hq,rfl⟩:=mh.mp z;exact List.any_eq_true.mpr ⟨(Sum.inr q.1,V.ref q.2),mh.mpr ⟨q,hq,rfl⟩,by simp⟩
  unfold nO;rw [lZ hany];unfold Zs;rw [og,og];refine Cf fun q _=>?_
  by_cases h:q.1=tr
  ·simp [h]
  ·have:¬(Sum.inr q.1:md)=Sum.inr tr:=fun z=>h (vj z)
   simp [h,this]
 ·rw [lY z];exact NU z
def FH(h:e∈sI es tr l):e=(tr,l)\/(e∈es/\e.1≠tr):=by
 unfold sI at h
 by_cases z:tr∈es.map Prod.fst
 ·rw [lZ z] at h;obtain ⟨q,hq,rfl⟩:=mh.mp h
  by_cases y:q.1=tr
  ·exact .inl (lZ y)
  ·rw [lY y];exact .inr ⟨hq,y⟩
 ·rw [lY z] at h;rcases mZ.mp h with y|y
  ·exact .inr ⟨y,fun w=>z (w ▸ mh.mpr ⟨e,y,rfl⟩)⟩
  ·exact .inl (nW.mp y)
def NC(h:(es.map Prod.fst).Nodup)(hs:(es.map Prod.snd).Nodup)(hl:l∉es.map Prod.snd):((sI es tr l).map Prod.snd).Nodup:=by
 unfold sI
 by_cases z:tr∈es.map Prod.fst
 ·rw [lZ z];clear z
  induction es with
  | nil=>exact su
  | cons q es ih =>
   rw [mH,pj] at h hs;rw [mH,mI,not_or] at hl;rw [mH,mH,pj];refine ⟨fun hm=>?_,ih h.2 hs.2 hl.2⟩;obtain ⟨e,he,hee⟩:=mh.mp hm;obtain ⟨r,hr,rfl⟩:=mh.mp he
   by_cases y:q.1=tr
   ·rw [lZ y] at hee;have y2:r.1≠tr:=fun w=>h.1 (by rw [y,<-w];exact mh.mpr ⟨r,hr,rfl⟩)
    rw [lY y2] at hee;exact hl.2 (mh.mpr ⟨r,hr,hee⟩)
   ·rw [lY y] at hee
    by_cases y2:r.1=tr
    ·rw [lZ y2] at hee;exact hl.1 hee
    ·rw [lY y2] at hee;exact hs.1 (mh.mpr ⟨r,hr,hee⟩)
 ·rw [lY z,mq,pP];exact ⟨hs,by simp,fun a ha b hb=>by rw [List.map_singleton,nW] at hb;rw [hb];intro y;rw [y] at ha;exact hl ha⟩
def Yg.put{val:kR->kQ Z0}(h:Yg H d es val)(e:lK H H')(hl:Z8 H' l ((if tr∈es.map Prod.fst then val tr else [])++ss)) :
  Yg (upd H' d (.dK (nO (Zs V.ref es) (Sum.inr tr) (.ref l)))) d (sI es tr l) (W8 (es.map Prod.fst) val tr ss):=by
 have hd':=e.at h.1;have off:∀{c:kS} {xs:kQ Z0},Z8 H' c xs->Z8 (upd H' d (.dK (nO (Zs V.ref es) (Sum.inr tr) (.ref l)))) c xs:=fun {c xs} z=>z.off (fun y=>by obtain ⟨_,h3,_⟩:=z;rw [y,hd'] at h3;cases h3) fun ys y=>by rw [hd'] at y;cases y
 refine ⟨by rw [Zc,TX],fun q hq=>?_⟩;rcases FH hq with rfl|⟨hm,hn⟩
 ·have:W8 (es.map Prod.fst) val tr ss tr=(if tr∈es.map Prod.fst then val tr else [])++ss:=by unfold W8;rw [lZ rfl]
  show Z8 _ l (W8 (es.map Prod.fst) val tr ss tr);rw [this];exact off hl
 ·have:W8 (es.map Prod.fst) val tr ss q.1=val q.1:=by unfold W8;rw [lY hn]
  rw [this];exact off ((h.2 q hm).mono e)
structure IU(H Hf:Hp)(D:Addr)(names:List Str)(val:Str->List Z0)(i:Nat)(ys:List V)(H':Hp):Prop where
 same:lK Hf H'
 at':H' D=some (.lst ys)
 all:∃(tps:List Addr) (es':List (Str×Addr)),ys=tps.map V.ref/\es'.map Prod.fst=names.take i/\(es'.map Prod.snd).Nodup/\(∀e∈es',H e.2=none/\e.2≠D/\Z8 H' e.2 (val e.1))/\Paired (fun t (q:md×V)=>H' t=some (.tup [kV q.1,q.2])) tps (Zs V.ref es')
inductive Gg(C:kS):Sp
 | mk (d p tr) (es:kQ (kR×kS)) (val:kR->kQ Z0) (ss:kQ Z0):vs=[.ref d,.str tr,.ref p]->Yg H d es val->(es.map Prod.fst).Nodup->es.length<=100->(∀t,(val t).length<=100)->(∀t∈es.map Prod.fst,t ≠ "")->vM H p ss->ss.length<=100->(∀d' H' es',zE (uR (es.map Prod.fst) val) (ss.map Prod.fst) ss.length->lK H H'->H d'=none->Yg H' d' es' (W8 (es.map Prod.fst) val tr ss)->es'.map Prod.fst=BP (es.map Prod.fst) tr->(es'.map Prod.snd).Nodup->(∀e∈es',H e.2=none)->Q (.ref d') H')->(∀dx H' x,lK H H'->H dx=none->IY (uR (es.map Prod.fst) val) (ss.map Prod.fst) x->H' dx=some (.xd [("part",.str x)])->E (.ref C) (some dx) H')->Gg C vs H Q E
def MB:Xe P w K mg lL (mK P w) 4 T.bL.f T.bL.fd ["paths", "train", "steps"] (Gg T.aS):=by
 refine T.bL.F.okX Kd ?_;rfl'
 ·obtain ⟨d,p,tr,es,val,ss,rfl,N8,hfd,Q7,hvl,p0,hp,Q9,q,qE⟩:=h;intro X D;refine lS (Zy (X1 (Ta T) hr.m rfl T.bz.m T.bz.F.kp T.bz.b .nil uI (Zb (pv 0) (Zb (pv 2) Za)))) (lP rfl (lP rfl ⟨d,p,es,val,ss,rfl,N8,hfd,Q7,hvl,p0,hp,Q9,fun H1 s1 hg=>?_,qE⟩));have hps1:=N8.mono s1;refine lS (me 3 Kd (Y6 (r:=zf) (Fe rfl) (by rfl) T.dW wA (Zb (AT (ph ["name", "path"] (nZ 2 [] rfl) (vG (pv 0)) (ux (K:=K) (n:=2) rfl rfl (Zq (ng 0) (Zq (ng 1) Y9))) Wk (Zi (Zb (pv 0) (Zb (Y6 (r:=yk K) Bh (by rfl) T.dU wR (Zb (pv 1) Za)) Za))))) Za))) (lP rfl ⟨d,_,rfl,hps1.1,fun o nf D hD=>Bz (IU H1 (upd H1 d (.frz o (.dK (Zs V.ref es)))) D (es.map Prod.fst) val) ?_ ?_ ?_ ?_⟩)
  ·refine ⟨nY hD,Zc,[],[],rfl,rfl,su,by simp,.nil⟩
  ·rintro i ys H' _ b;exact b.same.at Zc
  ·rintro i kv ys H2 hi b tp H3 s3 n3 e3;obtain ⟨e,hem,he,hfi,rfl⟩:=Si hi;obtain ⟨R9,_⟩:=hps1.read hfd (b.same.trans s3) hem;obtain ⟨ts,d9,z6⟩:=id R9;obtain ⟨tps,es',rfl,m9,hsd,j7,hpr⟩:=b.all;have N2:H1 D=none:=by
    by_cases z:D=d
    ·rw [z,Zc] at hD;cases hD
    ·rw [Zd z] at hD;exact hD
   have F8:i<es.length:=(oj.mp he).1;have hel':es'.length=i:=by
    have:=nV List.length m9;rw [lV,nI,lV] at this;lia
   have M4:tps.length=i:=by
    have:=mv hpr;rw [show (Zs V.ref es').length=es'.length from lV ..] at this;lia
   have fromH1:∀{c:kS} {H':Hp},lK (upd H1 d (.frz o (.dK (Zs V.ref es)))) H'->H' c=none->H1 c=none:=fun {c H'} sm z=>by
    have:=sm.free z
    by_cases y:c=d
    ·rw [y,Zc] at this;cases this
    ·rw [Zd y] at this;exact this
   refine ⟨tp,_,rfl,mD e3,rfl,_,_,rfl,_,_,rfl,rfl,(nS rfl).trans (nS rfl),_,rfl,_,rfl,e.2,_,rfl,.inl (lW d9),fun l H4 s4 n4 e4=>⟨lR,fun t H5 s5 n5 e5=>⟨s5.at (s4.at (s3.at b.at')),?_,?_,Zc,tps++[t],es'++[(e.1,l)],?_,?_,?_,?_,?_⟩⟩⟩
   ·rw [lV];exact Zp (by lia)
   ·intro c u z;rw [Zd (Zg z hD)];exact s5.at (s4.at (s3.at (b.same.at z)))
   ·rw [mq];rfl
   ·rw [mq,m9,nq,hfi];rfl
   ·rw [mq,pP];refine ⟨hsd,by simp,?_⟩;rintro c hc c' J8 rfl;simp at J8;obtain ⟨q5,M5,hb⟩:=mh.mp hc;obtain ⟨_,h1,_⟩:=(j7 q5 M5).2.2;rw [hb,J8,s3.free n4] at h1;cases h1
   ·have u8:=s3.trans (s4.trans s5);have offD:∀{c:kS} {xs:kQ Z0} {o':HO},c≠D->Z8 H5 c xs->Z8 (upd H5 D o') c xs:=fun {c xs o'} nc z=>z.off nc fun ws y=>by rw [u8.at b.at'] at y;cases y
    intro q5 M5;rcases mZ.mp M5 with z|z
    ·obtain ⟨h0,P0,h1⟩:=j7 q5 z;exact ⟨h0,P0,offD P0 (h1.mono u8)⟩
    ·simp at z;subst z;have nl:l≠D:=fun y=>by
      have:=s3.at b.at';rw [<-y,n4] at this;cases this
     exact ⟨fromH1 b.same (s3.free n4),nl,offD nl ⟨ts,s5.at e4,z6.mono (s4.trans s5)⟩⟩
   ·have u8:=s3.trans (s4.trans s5);have nD:∀{c:kS} {xs:kQ V},H5 c=some (.tup xs)->c≠D:=fun {c xs} z y=>by
     rw [y,u8.at b.at'] at z;cases z
    rw [show Zs V.ref (es'++[(e.1,l)])=Zs V.ref es'++[(Sum.inr e.1,V.ref l)] from mq ..];refine oP (mw hpr fun t q z=>?_) (.cons ?_ .nil)
    ·have z5:=u8.at z;rw [Zd (nD z5)];exact z5
    ·rw [Zd (nD e5)];exact e5
  ·rintro ys H2 b;have hDd:D≠d:=fun z=>by rw [z,Zc] at hD;cases hD
   obtain ⟨tps,es',rfl,m9,hsd,j7,hpr⟩:=b.all;rw [XO,ow] at m9;have st:lK H1 (upd H2 d (.dK (Zs V.ref es))):=wS hps1.1 b.same;have hfz:=b.same.at (show (upd H1 d (.frz o (.dK (Zs V.ref es)))) d=some (.frz o (.dK (Zs V.ref es))) from Zc);have hfd':(es'.map Prod.fst).Nodup:=m9 ▸ hfd;have hel':es'.length=es.length:=by
    have:=nV List.length m9;rw [lV,lV] at this;exact this
   refine ⟨d,o,_,hfz,nf,D,tps,Zs V.ref es',rfl,by rw [Zd hDd];exact b.at',mw hpr fun t q z=>?_,?_,fun d' H3 s3 n3 e3=>?_⟩
   ·rw [Zd fun y=>by rw [y,hfz] at z;cases z];exact z
   ·have:(Zs V.ref es').map Prod.fst=(es'.map Prod.fst).map Sum.inr:=by
     unfold Zs;rw [og,og]
     rfl
    rw [this];exact Fc _ (fun a b h z=>h (vj z)) hfd'
   have m7:=st.trans s3;have hps3:Yg H3 d' es' val:=by
    refine ⟨e3,fun q hq=>?_⟩;obtain ⟨_,_,h1⟩:=j7 q hq;refine (h1.off (fun y=>?_) fun xs y=>?_).mono s3
    ·obtain ⟨_,h2,_⟩:=h1;rw [y,hfz] at h2;cases h2
    ·rw [hfz] at y;cases y
   obtain ⟨us,y8,huv⟩:=hp.mono (s1.trans m7);have hul:us.length=ss.length:=mv huv;have hdn:H d'=none:=s1.free (st.free n3);have fin:∀(l:kS) (H6:Hp),lK H3 H6->H3 l=none->Z8 H6 l ((if tr∈es'.map Prod.fst then val tr else [])++ss)->WSs (nK (mK P w) P w K mg lL ["paths", "train", "steps", "told"] "longer" (Zj zB) T.bL.f c6 A lJ s H E) [((Y4 zB).getD 3 (.Pass ⟨0,0,0,0⟩))] { nx:=fun _ H'=>Q .non H',rt:=Q } [some (.ref d),some (.str tr),some (.ref p),some (.ref d')] (upd H6 d' (.dK (nO (Zs V.ref es') (Sum.inr tr) (.ref l)))):=by
    intro l H6 s6 n6 hl;have P6:=hps3.put s6 hl;rw [m9] at P6;refine lU (Zm (pv 3)) (lP rfl (q d' _ (sI es' tr l) hg ?_ hdn P6 ?_ ?_ ?_))
    ·intro c u z;rw [Zd (Zg z hdn)];exact s6.at (m7.at (s1.at z))
    ·rw [TF,m9]
    ·refine NC hfd' hsd fun z=>?_
     obtain ⟨q5,M5,rfl⟩:=mh.mp z;obtain ⟨_,h2,_⟩:=hps3.2 q5 M5;rw [n6] at h2;cases h2
    ·intro q5 M5;rcases FH M5 with rfl|⟨hm,_⟩
     ·exact s1.free (m7.free n6)
     ·exact s1.free (j7 q5 hm).1
   have sml:(Zs V.ref es').length<=1000:=by rw [show (Zs V.ref es').length=es'.length from lV ..];lia
   by_cases N1:tr∈es'.map Prod.fst
   ·obtain ⟨q5,M5,hqe⟩:=mh.mp N1;obtain ⟨vs,hvs,hvv⟩:=hps3.2 q5 M5;rw [hqe] at hvv;have hvn:vs.length=(val tr).length:=mv hvv;have hgt:Xq H3 d' (.str tr) (some (.ref q5.2)):=by
     rw [<-hqe,<-Xy hfd' M5];exact pp (k:=Sum.inr q5.1) e3
    refine lS (rE (Xi hr) (pv 3) (pv 1) (Zo Wz (xP (Xi hr) (pv 3) (pv 1) (Zl Za) ⟨rfl,rfl,rfl,rfl⟩) (Y6 (r:=yk K) Bh (by rfl) T.dU wR (Zb (pv 2) Za))) rfl) (lP rfl ⟨d',rfl,.inl ⟨_,.inl e3⟩,_,rfl,lR,fun l0 H4 s4 n4 e4=>⟨_,Iy s4 hgt,_,rfl,p,_,rfl,y8.imp (fun e=>lW (s4.at e)) (fun e=>mD (s4.at e)),fun l1 H5 s5 n5 e5=>.inr (.inr ⟨q5.2,l1,_,_,rfl,rfl,s5.at (s4.at hvs),e5,?_,fun l2 H6 s6 n6 e6=>(lP rfl (lP rfl ⟨d',_,rfl,pG.k (k:=Sum.inr tr) (s6.at (s5.at (s4.at e3))) (Zp sml),fin l2 H6 (s4.trans (s5.trans s6)) (s4.free (s5.free n6)) ?_⟩))⟩)⟩⟩)
    ·rw [lV,lV];exact sz (by have:=hvl tr;lia)
    ·rw [lZ N1];refine ⟨vs++us,by rw [e6,mq],?_⟩;exact oP (hvv.mono (s4.trans (s5.trans s6))) (huv.mono (s4.trans (s5.trans s6)))
   ·have hgt:Xq H3 d' (.str tr) none:=by
     rw [<-Xz (f:=V.ref) N1];exact pp (k:=Sum.inr tr) e3
    refine lS (rE (Xi hr) (pv 3) (pv 1) (Zo Wz (xP (Xi hr) (pv 3) (pv 1) (Zl Za) ⟨rfl,rfl,rfl,rfl⟩) (Y6 (r:=yk K) Bh (by rfl) T.dU wR (Zb (pv 2) Za))) rfl) (lP rfl ⟨d',rfl,.inl ⟨_,.inl e3⟩,_,rfl,lR,fun l0 H4 s4 n4 e4=>⟨_,Iy s4 hgt,_,rfl,p,_,rfl,y8.imp (fun e=>lW (s4.at e)) (fun e=>mD (s4.at e)),fun l1 H5 s5 n5 e5=>.inr (.inr ⟨l0,l1,_,_,rfl,rfl,s5.at e4,e5,?_,fun l2 H6 s6 n6 e6=>(lP rfl (lP rfl ⟨d',_,rfl,pG.k (k:=Sum.inr tr) (s6.at (s5.at (s4.at e3))) (Zp sml),fin l2 H6 (s4.trans (s5.trans s6)) (s4.free (s5.free n6)) ?_⟩))⟩)⟩⟩)
    ·rw [lV];exact sz (by simp;lia)
    ·rw [lY N1];exact ⟨us,by rw [e6];simp,huv.mono (s4.trans (s5.trans s6))⟩
structure Gd where
 lies:List (Str×Str)
 stiff:List (Str×Bool)
 val:Str->List Z0
 told:List (Str×Bool)
structure vV(H:Hp)(dl ds dp dt:Addr)(es:List (Str×Addr))(g:Gd):Prop where
 lies:H dl=some (.dK (Zs V.str g.lies))
 stiff:H ds=some (.dK (Zs V.bl g.stiff))
 paths:Yg H dp es g.val
 told:H dt=some (.dK (Zs V.bl g.told))
def vV.mono(e:lK H H')(h:vV H dl ds dp dt es g):vV H' dl ds dp dt es g:=⟨e.at h.lies,e.at h.stiff,h.paths.mono e,e.at h.told⟩
def MP{α:Type}{f:α->V}(ls:kQ (kR×α))(x:kR):Y2 (Zs f ls) (Sum.inr x)=(ls.lookup x).map f:=by
 induction ls with
 | nil=>rfl
 | cons r ls ih =>
  rw [show Zs f (r ::ls)=(Sum.inr r.1,f r.2) ::Zs f ls from rfl]
  by_cases z:r.1=x
  ·subst z;rw [vZ rfl,qB,yc]
   rfl
  ·rw [uH fun y=>z (vj y),ih,qB];have:(x ==r.1)=false:=by rw [qX];exact fun y=>z y.symm
   rw [this]
def JQ(H:Hp)(x dl ds dp dt:kS):Prop:=∃dx,H x=some (.ins T.cj dx [("lie_of",.ref dl),("stiff_ones",.ref ds),("path_of",.ref dp),("told",.ref dt)])
inductive Ck(K:kX):Sp
 | mk (x C dx u1 u2 u3 u4):vs=[.ref x,u1,u2,u3,u4]->H x=some (.ins C dx [])->oF K C->lX K C "lie_of" ->lX K C "stiff_ones" ->lX K C "path_of" ->lX K C "told" ->Q .non (upd H x (.ins C dx [("lie_of",u1),("stiff_ones",u2),("path_of",u3),("told",u4)]))->Ck K vs H Q E
def QX:T.bC.O P w mg lL 1 (Ck K):=by
 refine T.bC.F.okA ?_;rfl'
 ·obtain ⟨x,C,dx,u1,u2,u3,u4,rfl,hx,c,n1,n2,n3,n4,k⟩:=h;intro X D;refine lS (Wg (pv 0) (pv 1) rfl) (lP rfl (lP rfl ⟨x,C,dx,[],rfl,hx,c,n1,by simp,?_⟩));refine lS (Wg (pv 0) (pv 2) rfl) (lP rfl (lP rfl ⟨x,C,dx,_,rfl,Zc,c,n2,by show 1<1000;decide,?_⟩));refine lS (Wg (pv 0) (pv 3) rfl) (lP rfl (lP rfl ⟨x,C,dx,_,rfl,Zc,c,n3,by show 2<1000;decide,?_⟩));refine lU (Wg (pv 0) (pv 4) rfl) (lP rfl (lP rfl ⟨x,C,dx,_,rfl,Zc,c,n4,by show 3<1000;decide,?_⟩));rw [DH,DH,DH];exact k
def JI:kQ V->Hp->VK->Prop:=fun vs H Q=>∃dl ds dp dt,vs=[.ref dl,.ref ds,.ref dp,.ref dt]/\∀x H',lK H H'->H x=none->JQ T H' x dl ds dp dt->Q (.ref x) H'
def VG:∀vs H Q,JI T vs H Q ->
  ∀x dx,H x=none->H dx=none->dx≠x->Ck K (.ref x ::(vs++[])) (upd (upd H dx (.own x)) x (.ins T.cj dx [])) (fun v H2=>v=.non/\Q (.ref x) H2) E0:=by
 rintro vs H Q ⟨dl,ds,dp,dt,rfl,h⟩ x dx h1 h2 ne;refine ⟨x,T.cj,dx,_,_,_,_,rfl,Zc,T.eR,T.eS,T.dA,T.cR,T.dN,rfl,h x _ (fun b o e=>?_) h1 ⟨dx,Zc⟩⟩;have b1:b≠x:=Zg e h1;have b2:b≠dx:=Zg e h2;rw [Zd b1,Zd b1,Zd b2];exact e
def Js(H:Hp)(v:V)(a:kW (kR×kR)):Prop:=match a with | none=>v=.non | some z=>∃p,v=.ref p/\H p=some (.tup [.str z.1,.str z.2])
def vz(P:lq)(w:lh)(K:kX)(mg:kR->kW kT)(lL:kZ)(k:Nat)(H:Hp)(f gr:kS)(a:kW (kR×kR)):Prop :=
 ∀H1,lK H H1->uC H1 f/\∀Q:VK,(∀v H2,lK H1 H2->Js H2 v a->Q v H2)->Fi P w K mg lL k f H1 [.ref gr] Q
def vz.up(h:vz P w K mg lL k H f gr a)(l:k<=j):vz P w K mg lL j H f gr a:=fun H1 s1=>⟨(h H1 s1).1,fun Q q A lJ s us hr=>(h H1 s1).2 Q q A lJ s us (hr.mono l)⟩
def Yg.soft{val:kR->kQ Z0}(z:∀b o,H b=some o->Am o->H' b=some o)(h:Yg H d es val):Yg H' d es val :=
 ⟨z _ _ h.1 trivial,fun e he=>let ⟨ts,h1,h2⟩:=h.2 e he;⟨ts,z _ _ h1 trivial,mw h2 fun _ _ r=>z _ _ r trivial⟩⟩
def vV.soft(z:∀b o,H b=some o->Am o->H' b=some o)(h:vV H dl ds dp dt es g):vV H' dl ds dp dt es g :=
 ⟨z _ _ h.lies trivial,z _ _ h.stiff trivial,h.paths.soft z,z _ _ h.told trivial⟩
structure sP(T:Tx K mg)(H:Hp)(gr:Addr)(es:List (Str×Addr))(g:Gd)(dl ds dp dt:Addr):Prop where
 at_:JQ T H gr dl ds dp dt
 four:vV H dl ds dp dt es g
 vl:∀t,(g.val t).length<=100
 st:∀q∈g.stiff,q.2=true
 fd:(es.map Prod.fst).Nodup
 el:es.length<=100
 ne:∀e∈es,e.1 ≠ ""
def sP.mono(e:lK H H')(h:sP U H gr es g dl ds dp dt):sP U H' gr es g dl ds dp dt:=⟨h.at_.imp fun _ q=>e.at q,h.four.mono e,h.vl,h.st,h.fd,h.el,h.ne⟩
def sP.soft(z:∀b o,H b=some o->Am o->H' b=some o)(h:sP U H gr es g dl ds dp dt):sP U H' gr es g dl ds dp dt:=⟨h.at_.imp fun _ q=>z _ _ q trivial,h.four.soft z,h.vl,h.st,h.fd,h.el,h.ne⟩
open Classical in
def vL (D4:kQ kR) (g:Gd) (x:kR):kW (kR×kR):=if ∃t∈D4,x∈(g.val t).map Prod.fst then some (("held" :kR),x) else none
def vh(g:Gd)(x:kR):kW (kR×kR):=if (g.told.lookup x).getD false=true then some (("taken" :kR),x) else none
def ut(H:Hp)(f:kS)(x:kR):Prop:=∃c,qr H T.bH f (("rule_held" :kR) ++ ".<locals>." ++ "<lambda>") (JT (qw Xx)) (Jq (qw Xx)) (AO (qw Xx)) [("part",c)]/\rD H c (.str x)
def uv(H:Hp)(f:kS)(x:kR):Prop:=∃c,qr H T.bi f (("rule_taken" :kR) ++ ".<locals>." ++ "<lambda>") (JT (qw Xm)) (Jq (qw Xm)) (AO (qw Xm)) [("part",c)]/\rD H c (.str x)
def ut.mono(e:lK H H')(h:ut U H f x):ut U H' f x:=let ⟨c,h1,h2⟩:=h;⟨c,h1.mono e,h2.mono e⟩
def uv.mono(e:lK H H')(h:uv U H f x):uv U H' f x:=let ⟨c,h1,h2⟩:=h;⟨c,h1.mono e,h2.mono e⟩
inductive CO(R:Hp->kS->kR->Prop):Sp
 | mk (x):vs=[.str x]->pY T H->(∀f H',lK H H'->H f=none->R H' f x->Q (.ref f) H')->CO R vs H Q E
def EB:T.cT.O P w mg lL 1 (CO T (ut T)):=by
 refine T.cT.F.okM T.dP Rt (fun vs H Q E h=>?_) (fun c6 A lJ s H vs Q E hr h=>?_)
 ·obtain ⟨x,rfl,_⟩:=h
  rfl
 ·obtain ⟨x,rfl,ht,q⟩:=h;exact vW.last ⟨rfl,ht.rule_held,_,rfl,fun fl H' sm hn cl cs=>q fl H' sm hn ⟨_,cl,(cs 0 "part" (.str x) _ rfl rfl rfl rfl).2⟩⟩
def Cm:T.cI.O P w mg lL 1 (CO T (uv T)):=by
 refine T.cI.F.okM T.du Oz (fun vs H Q E h=>?_) (fun c6 A lJ s H vs Q E hr h=>?_)
 ·obtain ⟨x,rfl,_⟩:=h
  rfl
 ·obtain ⟨x,rfl,ht,q⟩:=h;exact vW.last ⟨rfl,ht.rule_taken,_,rfl,fun fl H' sm hn cl cs=>q fl H' sm hn ⟨_,cl,(cs 0 "part" (.str x) _ rfl rfl rfl rfl).2⟩⟩
def HI{D4:kQ kR}{g:Gd}{x r:kR} (p0:∀t∈D4,t ≠ "") (hr:Cg D4 g.val x r):(r ≠ "")↔∃t∈D4,x∈(g.val t).map Prod.fst:=by
 rcases hr with ⟨t,ht,hx,rfl⟩|⟨A7,rfl⟩
 ·exact ⟨fun _=>⟨_,ht,hx⟩,fun _=>p0 _ ht⟩
 ·exact ⟨fun z=>absurd rfl z,fun ⟨t,ht,hx⟩=>absurd hx (A7 t ht)⟩
def Cd{H:Hp}{f gr dl ds dp dt:kS}{x:kR}{es:kQ (kR×kS)}{g:Gd}(R:ut T H f x)(G:sP T H gr es g dl ds dp dt):vz P w K mg lL 4 H f gr (vL (es.map Prod.fst) g x):=by
 intro H1 s1;obtain ⟨c,cl,ce⟩:=R.mono s1;have L:ua H1 (AO (qw Xx)) [("part",c)] ["part"] [.str x]:=⟨.cons ⟨rfl,c,rfl,ce⟩ .nil,by simp,by simp,by simp⟩
 refine ⟨cl.fn,fun Q q=>?_⟩;refine FZ (g := "ground") cl L (fun _ _ _ _=>rfl) rfl (by left) (by trivial) (by trivial) rfl rfl rfl fun c6 A lJ s hr=>?_
 have G0:=(G.mono s1).soft fun b o e n=>L.soft e n
 obtain ⟨dx,hg⟩:=G0.at_;refine pM (uD (qi hr (Zx (Mh T) hr (Zb (Yb (pv 0) rfl) (Zb (pv 1) Za))) Ze) (Zi (Zb Ze (Zb (pv 1) Za))) rG) ⟨_,rfl,hg,T.eR,T.cR,rfl,_,rfl,dp,x,es,g.val,rfl,G0.four.paths,G0.fd,G0.el,G0.vl,fun r H2 s2 hr2=>.inl ⟨rfl,_,rfl,Yj (fun hc=>?_) (fun hc=>?_)⟩⟩
 ·have hc:r ≠ "" :=by simpa using hc
  have hp:=(HI (fun t ht=>by obtain ⟨e,he,rfl⟩:=mh.mp ht;exact G.ne e he) hr2).mp hc;refine (lP rfl ⟨lR,fun p H3 s3 n3 e3=>⟨s2.trans s3,fun H4 s4 s5=>q _ H4 s5 ?_⟩⟩);unfold vL;rw [lZ hp];exact ⟨p,rfl,s4.at e3⟩
 ·have hc:¬r ≠ "" :=by simpa using hc
  have hp:=fun z=>hc ((HI (fun t ht=>by obtain ⟨e,he,rfl⟩:=mh.mp ht;exact G.ne e he) hr2).mpr z)
  refine ⟨s2,fun H4 s4 s5=>q _ H4 s5 ?_⟩;unfold vL;rw [lY hp];exact rfl
def Ey(R:uv T H f x)(G:sP T H gr es g dl ds dp dt):vz P w K mg lL 4 H f gr (vh g x):=by
 intro H1 s1;obtain ⟨c,cl,ce⟩:=R.mono s1;have L:ua H1 (AO (qw Xm)) [("part",c)] ["part"] [.str x]:=⟨.cons ⟨rfl,c,rfl,ce⟩ .nil,by simp,by simp,by simp⟩
 refine ⟨cl.fn,fun Q q=>?_⟩;refine FZ (g := "ground") cl L (fun _ _ _ _=>rfl) rfl (by left) (by trivial) (by trivial) rfl rfl rfl fun c6 A lJ s hr=>?_
 have G0:=(G.mono s1).soft fun b o e n=>L.soft e n
 obtain ⟨dx,hg⟩:=G0.at_;refine pM (uD (Yn (xP (Xi hr) (Yb (pv 0) rfl) (pv 1) ri ⟨rfl,rfl,rfl,rfl⟩)) (Zi (Zb Ze (Zb (pv 1) Za))) rG) ⟨_,rfl,hg,T.eR,T.dN,rfl,dt,rfl,.inl ⟨_,.inl G0.four.told⟩,_,rfl,_,pp (k:=Sum.inr x) G0.four.told,?_⟩;rw [MP];have e:(Option.map V.bl (g.told.lookup x)).getD (V.bl false)=V.bl ((g.told.lookup x).getD false):=by cases g.told.lookup x <;>rfl
 rw [e];refine (lP rfl (Yj (fun hc=>?_) (fun hc=>?_)))
 ·refine (lP rfl ⟨lR,fun p H3 s3 n3 e3=>⟨s3,fun H4 s4 s5=>q _ H4 s5 ?_⟩⟩);unfold vh
  rw [lZ hc];exact ⟨p,rfl,s4.at e3⟩
 ·refine ⟨pH _,fun H4 s4 s5=>q _ H4 s5 ?_⟩;unfold vh
  rw [lY hc];exact rfl
def vH:kQ (kW (kR×kR))->kW (kR×kR)
 | []=>none
 | some z ::_=>some z
 | none ::r=>vH r
theorem zk:∀{l:kQ (kW (kR×kR))},(∀a∈l,a=none)->vH l=none
 | [],_=>rfl
 | a ::r,h=>by
  have:a=none:=h a (mV ..);subst this;exact zk (l:=r) fun b hb=>h b (nJ _ hb)
theorem Ka:∀{l:kQ (kW (kR×kR))} {i:Nat} {z:kR×kR},l[i]? =some (some z)->(∀a∈l.take i,a=none)->vH l=some z
 | [],_,_,h,_=>by simp at h
 | a ::r,0,z,h,_=>by
  have:a=some z:=by simpa using h
  subst this
  rfl
 | a ::r,i+1,z,h,n=>by
  have:a=none:=n a (by simp);subst this;exact Ka (l:=r) (i:=i) (by simpa using h) fun b hb=>n b (by rw [HJ];exact nJ _ hb)
inductive Md(P:lq)(w:lh)(K:kX)(mg:kR->kW kT)(lL:kZ):Sp
 | mk (l gr) (fs:kQ kS) (ans):vs=[.ref l,.ref gr]->SqL K H l (fs.map V.ref)->Paired (fun f a=>vz P w K mg lL 5 H f gr a) fs ans->(∀v H',lK H H'->Js H' v (vH ans)->Q v H')->Md P w K mg lL vs H Q E
def EA:T.fJ.O P w mg lL 6 (Md P w K mg lL):=by
 refine T.fJ.F.okW BR ?_;rfl'
 ·obtain ⟨l,gr,fs,ans,rfl,hl,hp,q⟩:=h;intro X D;have d7:fs.length=ans.length:=mv hp;let I20:IF:=fun i σ H'=>(∃o2 o3,σ=[some (.ref l),some (.ref gr),o2,o3])/\lK H H'/\∀a∈ans.take i,a=none
  refine lS (Xb ol rfl (Ym (pv 0)) (mP 2 BR) Zn) (lP rfl ⟨hl,Wc (xs:=fs.map V.ref) I20 ⟨⟨none,none,rfl⟩,pH _,by simp⟩ ?_ ?_ ?_⟩)
  ·rintro i σ H' _ ⟨_,sm,_⟩;exact sm.seq hl
  ·rintro i v σ H1 hi ⟨⟨o2,o3,rfl⟩,s1,A7⟩;rw [mG] at hi;obtain ⟨f,hf,rfl⟩:=mS.mp hi;obtain ⟨a,ha,an⟩:=oO hp hf;obtain ⟨fo,run⟩:=an H1 s1;refine lS (me 3 BR (WR (k:=5) hr (pv 2) (Zb (pv 1) Za))) (lP rfl ⟨f,rfl,fo,_,rfl,fo,run _ fun v H2 s2 wd=>?_⟩);refine lU (Zt (Z4 Uh (pv 3) rG (Yw _)) Zn Zk) (lP rfl ⟨rfl,_,rfl,Yj (fun hc=>?_) (fun hc=>?_)⟩)
   ·refine lU (Zm (pv 3)) (lP rfl (q v H2 (s1.trans s2) ?_));cases a with
    | none=>cases (show v=.non from wd);simp at hc
    | some z=>rw [Ka ha A7];exact wd
   ·refine ⟨⟨_,_,rfl⟩,s1.trans s2,fun b hb=>?_⟩;rw [nq,ha,mZ] at hb;rcases hb with z|z
    ·exact A7 b z
    ·simp at z;rw [z];cases a with
     | none=>rfl
     | some z=>obtain ⟨p,e,_⟩:=wd;subst e;simp at hc
  ·rintro σ H1 ⟨⟨o2,o3,rfl⟩,s1,A7⟩;rw [lV,d7,ow] at A7;exact lU (Zm rG) (q _ _ s1 (by rw [zk A7];rfl))
set_option genInjectivity false in
set_option genSizeOf false in
structure pJ where
 dx:Addr
 ld:Addr
 sd:Addr
 nd:Addr
 pd:Addr
 es:List (Str×Addr)
def rL(ln:kQ (kR×Nat)):kQ (md×V):=Zs (fun n:Nat=>V.int (n:Int)) ln
def ww  (ad:pJ) (tr:kS):HO:=.ins T.aQ ad.dx [("tracks",.ref tr),("lie_of",.ref ad.ld),("stiff_ones",.ref ad.sd),("length_of",.ref ad.nd),("path_of",.ref ad.pd)]
structure mF(T:Tx K mg)(H0 H:Hp)(F:Addr->Prop)(x tr:Addr)(ad:pJ)(lw:List (Str×Str))(val:Str->List Z0)(ln:List (Str×Nat)):Prop where
 obj:H x=some (ww T ad tr)
 lies:H ad.ld=some (.dK (Zs V.str lw))
 sti:H ad.sd=some (.dK [])
 lens:H ad.nd=some (.dK (rL ln))
 pth:Yg H ad.pd ad.es val
 nm:ad.es.map Prod.fst=ln.map Prod.fst
 lnd:(ln.map Prod.fst).Nodup
 len:ln.length<=10
 vl:∀t,(val t).length<=100
 ok:∀p∈ln,Yx p.1
 fx:F x
 fn:F ad.nd
 fp:F ad.pd
 ne:ad.nd≠ad.pd
 nl:¬F ad.ld
 ns:¬F ad.sd
 ni:∀e∈ad.es,¬F e.2
 free:∀b,F b->H0 b=none
 same:lK H0 H
 live:∀b,F b->∃o,H b=some o/\∀xs,o ≠ .tup xs
def mF.mono{F:kS->Prop}{val:kR->kQ Z0}(e:lK H H')(h:mF U H0 H F x tr ad lw val ln):mF U H0 H' F x tr ad lw val ln :=
 ⟨e.at h.obj,e.at h.lies,e.at h.sti,e.at h.lens,h.pth.mono e,h.nm,h.lnd,h.len,h.vl,h.ok,h.fx,h.fn,h.fp,h.ne,h.nl,h.ns,h.ni,h.free,h.same.trans e,fun b f=>let ⟨o,z,n⟩:=h.live b f;⟨o,e.at z,n⟩⟩
inductive Et:Sp
 | mk (H0 x dx tr ps js sg):vs=[.ref x,.ref tr]->H0 x=none->lK H0 H->H x=some (.ins T.aQ dx [])->Yf T H0 tr ps js sg->oZ ps js sg->(∀(H':Hp) (F:kS->Prop) (ad:pJ) (lw:kQ (kR×kR)),lw.length<=100->mF T H0 H' F x tr ad lw (fun _=>[]) []->Q .non H')->Et vs H Q E
def Ge:T.aY.O P w mg lL 5 (Et T):=by
 refine T.aY.F.okA ?_;rfl'
 ·obtain ⟨H0,x,dx,tr,ps,js,sg,rfl,h0,sm,hx,ht,yv,q⟩:=h;intro X D;have up:∀{H1:Hp} {o:HO},lK H0 H1->lK H0 (upd H1 x o):=fun s b o e=>by rw [Zd (Zg e h0)];exact s.at e
  refine lS (Wg (pv 0) (pv 1) rfl) (lP rfl (lP rfl ⟨x,_,dx,[],rfl,hx,T.ac,T.aR,by simp,?_⟩));refine lS (Wg (pv 0) (Zx (WB T) hr (Zb (pv 1) Za)) rfl) (lP rfl ⟨tr,ps,js,sg,rfl,ht.mono (up sm),yv,fun gs nd hg hl ld H1 s1 n1 e1=>(lP rfl ⟨x,_,dx,[("tracks",.ref tr)],rfl,s1.at Zc,T.ac,T.bU,by simp,?_⟩)⟩);have m1:lK H0 H1:=(up sm).trans s1;refine lS (Wg (pv 0) Xh rfl) fun sd H2 s2 n2 e2=>(lP rfl ⟨x,_,dx,[("tracks",.ref tr),("lie_of",.ref ld)],rfl,s2.at Zc,T.ac,T.cD,by simp,?_⟩)
  have m2:lK H0 H2:=(up m1).trans s2;refine lS (Wg (pv 0) Xh rfl) fun nd H3 s3 n3 e3=>(lP rfl ⟨x,_,dx,[("tracks",.ref tr),("lie_of",.ref ld),("stiff_ones",.ref sd)],rfl,s3.at Zc,T.ac,T.aZ,by simp,?_⟩)
  have m3:lK H0 H3:=(up m2).trans s3;refine lU (Wg (pv 0) Xh rfl) fun pd H4 s4 n4 e4=>(lP rfl ⟨x,_,dx,[("tracks",.ref tr),("lie_of",.ref ld),("stiff_ones",.ref sd),("length_of",.ref nd)],rfl,s4.at Zc,T.ac,T.ak,by simp,?_⟩)
  have m4:lK H0 H4:=(up m3).trans s4;have ex:∀{G:Hp} {b:kS} {o:HO},upd G x o b=none->b≠x:=fun h z=>by rw [z,Zc] at h;cases h
  have at':∀{G G':Hp} {b:kS} {o u:HO},G b=some u->b≠x->lK (upd G x o) G'->G' b=some u:=fun h n s=>s.at (by rw [Zd n];exact h)
  have lx:=ex n1;have sx:=ex n2;have nx:=ex n3;have px:=ex n4;have l4:=at' (at' (at' e1 lx s2) lx s3) lx s4;have d4:=at' (at' e2 sx s3) sx s4;have k4:=at' e3 nx s4;refine q _ (fun b=>b=x\/b=nd\/b=pd) ⟨dx,ld,sd,nd,pd,[]⟩ (gs.map fun n=>(n,("left" :kR))) (by rw [lV];lia) ⟨Zc,by rw [Zd lx];exact l4,by rw [Zd sx];exact d4,by rw [Zd nx];exact k4,⟨by rw [Zd px];exact e4,fun _ z=>nomatch z⟩,rfl,.nil,oJ _,fun _=>oJ _,(fun _ z=>nomatch z),.inl rfl,.inr (.inl rfl),.inr (.inr rfl),fun z=>?_,?_,?_,(fun _ z=>nomatch z),?_,up m4,?_⟩
  ·have z:nd=pd:=z;rw [<-z,Zd nx,e3] at n4;cases n4
  ·rintro (z|z|z)
   ·exact lx z
   ·have:=n3;rw [<-z,Zd lx,at' e1 lx s2] at this;cases this
   ·have:=n4;rw [<-z,Zd lx,at' (at' e1 lx s2) lx s3] at this;cases this
  ·rintro (z|z|z)
   ·exact sx z
   ·have:=n3;rw [<-z,Zd sx,e2] at this;cases this
   ·have:=n4;rw [<-z,Zd sx,at' e2 sx s3] at this;cases this
  ·rintro b (rfl|rfl|rfl)
   ·exact h0
   ·exact (up m2).free n3
   ·exact (up m3).free n4
  ·rintro b (rfl|rfl|rfl)
   ·exact ⟨_,Zc,fun _ z=>nomatch z⟩
   ·exact ⟨.dK _,by rw [Zd nx];exact k4,fun _ z=>nomatch z⟩
   ·exact ⟨.dK _,by rw [Zd px];exact e4,fun _ z=>nomatch z⟩
def ED:kQ V->Hp->VK->Prop:=fun vs H Q=>∃(tr:kS) (ps:kQ Zh) (js:kQ (Zh×Zh)) (sg:kQ (kR×kR×kR)),vs=[.ref tr]/\Yf T H tr ps js sg/\oZ ps js sg /\
 ∀(x:kS) (H':Hp) (F:kS->Prop) (ad:pJ) (lw:kQ (kR×kR)),H x=none->lw.length<=100->mF T H H' F x tr ad lw (fun _=>[]) []->Q (.ref x) H'
def FU:∀vs H Q,ED T vs H Q ->
  ∀x dx,H x=none->H dx=none->dx≠x->Et T (.ref x ::(vs++[])) (upd (upd H dx (.own x)) x (.ins T.aQ dx [])) (fun v H2=>v=.non/\Q (.ref x) H2) E0:=by
 rintro vs H Q ⟨tr,ps,js,sg,rfl,ht,yv,q⟩ x dx hx hdx ne;refine ⟨H,x,dx,tr,ps,js,sg,rfl,hx,fun b o e=>?_,Zc,ht,yv,fun H' F ad lw hl h=>⟨rfl,q x H' F ad lw hx hl h⟩⟩;rw [Zd (Zg e hx),Zd (Zg e hdx)];exact e
inductive Dj:Sp
 | mk (H0) (F:kS->Prop) (x tr ad lw) (val:kR->kQ Z0) (ln:kQ (kR×Nat)):vs=[.ref x]->mF T H0 H F x tr ad lw val ln->(∀ss:kQ kR,ss.Perm (ln.map Prod.fst)->PyProof.Rows.sortedS ss=true->pb H (.lst (ss.map V.str)) Q)->Dj vs H Q E
def Dy{α:Type}{f:α->V}(l:kQ (kR×α)):((Zs f l).map fun p=>kV p.1)=(l.map Prod.fst).map V.str:=by
 rw [show Zs f l=l.map fun q=>(Sum.inr q.1,f q.2) from rfl,og,og]
 rfl
def Xp:T.aF.O P w mg lL 1 (Dj T):=by
 refine T.aF.F.okA ?_;rfl'
 ·obtain ⟨H0,F,x,tr,ad,lw,val,ln,rfl,hw,q⟩:=h;intro X D;have hl:=hw.len;refine lU (Zm (Z2 (r:=ul) (wU rfl) (by rfl) T.bV tY (Zb (Yb (pv 0) rfl) Za))) (lP rfl ⟨hw.obj,T.ac,T.ak,rfl,ad.pd,_,ln.map Prod.fst,rfl,.inl hw.pth.1,?_,by rw [lV];lia,q⟩);have:=Dy (f:=V.ref) ad.es;rw [hw.nm] at this;exact this
inductive Fs:Sp
 | mk (H0) (F:kS->Prop) (x tr ad lw) (val:kR->kQ Z0) (ln:kQ (kR×Nat)) (nm):vs=[.ref x,.str nm]->mF T H0 H F x tr ad lw val ln->nm∈ln.map Prod.fst->(∀H',lK H H'->Q .non H')->Fs vs H Q E
def Xt:T.af.O P w mg lL 2 (Fs T):=by
 refine T.af.F.okW Wx ?_;rfl'
 ·obtain ⟨H0,F,x,tr,ad,lw,val,ln,nm,rfl,hw,hm,q⟩:=h;intro X D;refine lU (Zt (sV hr (pv 1) (Xw (pv 0) T.ac T.aW (Xp T) hr.m T.aF.b .nil Z3)) Zn Zk) (lP rfl (lP rfl ⟨x,ad.dx,_,rfl,hw.obj,rfl,H0,F,x,tr,ad,lw,val,ln,rfl,hw,fun ss hp hs l H1 s1 n1 e1=>.inl ⟨l,_,rfl,.inl (lW e1),rfl,X5 _,_,rfl,?_⟩⟩));rw [lZ rfl,Wo,mB (hp.mem_iff.mpr hm)];exact X0 (q H1 s1)
inductive tS:Sp
 | mk (H0) (F:kS->Prop) (x tr ad lw) (val:kR->kQ Z0) (ln:kQ (kR×Nat)) (v):vs=[.ref x,v]->mF T H0 H F x tr ad lw val ln->vC v (fun n=>n∈ln.map Prod.fst)->(∀H',lK H H'->E (.ref T.ax) none H')->tS vs H Q E
def SM:Xe P w K mg lL (mK P w) 2 T.af.f T.af.fd ["self", "train"] (tS T):=by
 refine T.af.F.okX Wx ?_;rfl'
 ·obtain ⟨H0,F,x,tr,ad,lw,val,ln,v,rfl,hw,hv,q⟩:=h;intro X D;refine lU (Zt (sV hr (pv 1) (Xw (pv 0) T.ac T.aW (Xp T) hr.m T.aF.b .nil Z3)) Zn Zk) (lP rfl (lP rfl ⟨x,ad.dx,_,rfl,hw.obj,rfl,H0,F,x,tr,ad,lw,val,ln,rfl,hw,fun ss hp hs l H1 s1 n1 e1=>.inl ⟨l,_,rfl,.inl (lW e1),hv.1,X5 _,_,rfl,?_⟩⟩));rw [lZ rfl,hv.2 ss fun n z=>hp.mem_iff.mp z];exact W7 (lU (W1 T.gU rT rfl (Zb Ze Za)) ⟨lR,q H1 s1⟩)
def Xu(h:2<=k:=by left):Xe P w K mg lL (mK P w) k T.af.f T.af.fd ["self", "train"] (tS T):=(SM T).mono h
def mF.get{T:Tx K mg}{H0 H:Hp}{F:kS->Prop}{x tr:kS}{ad:pJ}{lw:kQ (kR×kR)}{val:kR->kQ Z0}{ln:kQ (kR×Nat)}{nm:kR}(h:mF T H0 H F x tr ad lw val ln)(hm:nm∈ln.map Prod.fst):∃l,(nm,l)∈ad.es/\Y2 (Zs V.ref ad.es) (Y7 nm)=some (.ref l)/\Z8 H l (val nm):=by
 rw [<-h.nm] at hm;obtain ⟨⟨n,l⟩,he,rfl⟩:=mh.mp hm;have nd:(ad.es.map Prod.fst).Nodup:=by rw [h.nm];exact h.lnd
 exact ⟨l,he,Xy nd he,h.pth.2 _ he⟩
inductive MU:Sp
 | mk (H0) (F:kS->Prop) (x tr ad lw) (val:kR->kQ Z0) (ln:kQ (kR×Nat)) (nm):vs=[.ref x,.str nm]->mF T H0 H F x tr ad lw val ln->nm∈ln.map Prod.fst->(∀l H',lK H H'->H l=none->Z8 H' l (val nm)->Q (.ref l) H')->MU vs H Q E
def By:T.aA.O P w mg lL 3 (MU T):=by
 refine T.aA.F.okW JO ?_;rfl'
 ·obtain ⟨H0,F,x,tr,ad,lw,val,ln,nm,rfl,hw,hm,q⟩:=h;intro X D;refine lS (Zy (Z7 (pv 0) T.ac T.aw (Xt T) hr.m T.af.b .nil Z3 (Zb (pv 1) Za))) (lP rfl ⟨x,ad.dx,_,rfl,hw.obj,rfl,_,rfl,H0,F,x,tr,ad,lw,val,ln,nm,rfl,hw,hm,fun H1 s1=>?_⟩);have t6:=hw.mono s1;obtain ⟨l,he,hv,ts,p1,p2⟩:=t6.get hm;exact lU (Zm (Y6 (r:=yk K) Bh (by rfl) T.dU wR (Zb (X9 (Xi hr) (Yb (pv 0) rfl) (pv 1) (fun _ _=>rfl)) Za))) (lP rfl ⟨t6.obj,T.ac,T.ak,rfl,_,rfl,ad.pd,_,rfl,by rw [<-hv];exact pp (k:=Y7 nm) t6.pth.1,l,_,rfl,.inl (lW p1),fun l2 H2 s2 n2 e2=>q l2 H2 (s1.trans s2) (s1.free n2) ⟨ts,e2,p2.mono s2⟩⟩)
def SW:Xe P w K mg lL (mK P w) 3 T.aA.f T.aA.fd ["self", "train"] (tS T):=by
 refine T.aA.F.okX JO ?_;rfl'
 ·obtain ⟨H0,F,x,tr,ad,lw,val,ln,v,rfl,hw,hv,q⟩:=h;intro X D;exact lS (Zy (Z7 (pv 0) T.ac T.aw (Xu T) hr T.af.b .nil uI (Zb (pv 1) Za))) (lP rfl ⟨x,ad.dx,_,rfl,hw.obj,rfl,_,rfl,H0,F,x,tr,ad,lw,val,ln,v,rfl,hw,hv,q⟩)
def UZ(h:3<=k:=by left):Xe P w K mg lL (mK P w) k T.aA.f T.aA.fd ["self", "train"] (tS T):=(SW T).mono h
inductive Lw:Sp
 | mk (H0) (F:kS->Prop) (x tr ad lw) (val:kR->kQ Z0) (ln) (p:kR×Nat):vs=[.ref x,.str p.1]->mF T H0 H F x tr ad lw val ln->p∈ln->(∀H',lK H H'->Q (.int (p.2:Int)) H')->Lw vs H Q E
def Uw:T.aB.O P w mg lL 3 (Lw T):=by
 refine T.aB.F.okW HF ?_;rfl'
 ·obtain ⟨H0,F,x,tr,ad,lw,val,ln,p,rfl,hw,hm,q⟩:=h;intro X D;refine lS (Zy (Z7 (pv 0) T.ac T.aw (Xt T) hr.m T.af.b .nil Z3 (Zb (pv 1) Za))) (lP rfl ⟨x,ad.dx,_,rfl,hw.obj,rfl,_,rfl,H0,F,x,tr,ad,lw,val,ln,p.1,rfl,hw,mh.mpr ⟨p,hm,rfl⟩,fun H1 s1=>?_⟩);have t6:=hw.mono s1;have hv:Y2 (rL ln) (Y7 p.1)=some (.int (p.2:Int)):=Xy hw.lnd hm;exact lU (Zm (X9 (Xi hr) (Yb (pv 0) rfl) (pv 1) (fun _ _=>rfl))) (lP rfl ⟨t6.obj,T.ac,T.aZ,rfl,_,rfl,ad.nd,_,rfl,by rw [<-hv];exact pp (k:=Y7 p.1) t6.lens,q H1 s1⟩)
def Ou:Xe P w K mg lL (mK P w) 3 T.aB.f T.aB.fd ["self", "train"] (tS T):=by
 refine T.aB.F.okX HF ?_;rfl'
 ·obtain ⟨H0,F,x,tr,ad,lw,val,ln,v,rfl,hw,hv,q⟩:=h;intro X D;exact lS (Zy (Z7 (pv 0) T.ac T.aw (Xu T) hr T.af.b .nil uI (Zb (pv 1) Za))) (lP rfl ⟨x,ad.dx,_,rfl,hw.obj,rfl,_,rfl,H0,F,x,tr,ad,lw,val,ln,v,rfl,hw,hv,q⟩)
def RX(h:3<=k:=by left):Xe P w K mg lL (mK P w) k T.aB.f T.aB.fd ["self", "train"] (tS T):=(Ou T).mono h
inductive FK:Sp
 | mk (H0) (F:kS->Prop) (x tr dt) (ad:pJ) (lw) (val:kR->kQ Z0) (ln td):vs=[.ref x,.ref dt]->mF T H0 H F x tr ad lw val ln->H dt=some (.dK (Zs V.bl td))->(∀g H',lK H H'->H g=none->sP T H' g ad.es ⟨lw,[],val,td⟩ ad.ld ad.sd ad.pd dt->Q (.ref g) H')->FK vs H Q E
def DS:T.aV.O P w mg lL 3 (FK T):=by
 refine T.aV.F.okA ?_;rfl'
 ·obtain ⟨H0,F,x,tr,dt,ad,lw,val,ln,td,rfl,hw,hd,q⟩:=h;intro X D;refine lU (Zm (X6 (JI T) T.ic (QX T) hr.m rfl T.ir T.bC.b .nil Z3 (VG T) (Zb (Yb (pv 0) rfl) (Zb (Yb (pv 0) rfl) (Zb (Yb (pv 0) rfl) (Zb (pv 1) Za)))))) (lP rfl ⟨hw.obj,T.ac,T.bU,rfl,_,rfl,hw.obj,T.ac,T.cD,rfl,_,rfl,hw.obj,T.ac,T.ak,rfl,_,rfl,ad.ld,ad.sd,ad.pd,dt,rfl,fun g H1 s1 n1 e1=>q g H1 s1 n1 ⟨e1,⟨s1.at hw.lies,s1.at hw.sti,hw.pth.mono s1,s1.at hd⟩,hw.vl,(fun _ z=>nomatch z),by rw [hw.nm];exact hw.lnd,?_,fun e he=>?_⟩⟩)
  ·have:=nV List.length hw.nm;rw [lV,lV] at this;have:=hw.len;lia
  ·obtain ⟨p,hp,e2⟩:=mh.mp (show e.1∈ln.map Prod.fst by rw [<-hw.nm];exact mh.mpr ⟨e,he,rfl⟩);rw [<-e2];exact yX (hw.ok p hp)
inductive II:Sp
 | mk (H0) (F:kS->Prop) (x tr ad lw) (val:kR->kQ Z0) (ln:kQ (kR×Nat)):vs=[.ref x]->mF T H0 H F x tr ad lw val ln->(∀ss D es' H',ss.Perm (ln.map Prod.fst)->PyProof.Rows.sortedS ss=true->lK H H'->H D=none->Yg H' D es' val->es'.map Prod.fst=ss->(∀e∈es',H e.2=none)->Q (.ref D) H')->II vs H Q E
def VP:T.bS.O P w mg lL 4 (II T):=by
 refine T.bS.F.okA ?_;rfl'
 ·obtain ⟨H0,F,x,tr,ad,lw,val,ln,rfl,hw,q⟩:=h;intro X D;have hl:=hw.len;refine lU (Zm (Y6 (r:=zf) (Fe rfl) (by rfl) T.dW wA (Zb (ph ["train", "self"] (nZ 1 [0] rfl) (Ym (Xw (pv 0) T.ac T.aW (Xp T) hr.m T.aF.b .nil Z3)) (ng 0) Wk (Zi (Zb (pv 0) (Zb (Z7 (pv 1) T.ac T.ck (By T) hr.m T.aA.b .nil Z3 (Zb (pv 0) Za)) Za)))) Za))) (lP rfl ⟨x,ad.dx,_,rfl,hw.obj,rfl,H0,F,x,tr,ad,lw,val,ln,rfl,hw,fun ss hp hs l H1 s1 n1 e1=>⟨lW e1,fun D hD=>Xv (xs:=ss.map V.str) (IU H1 H1 D ss val) ⟨nY hD,Zc,[],[],rfl,rfl,su,by simp,.nil⟩ ?_ ?_ ?_⟩⟩)
  ·rintro i ys H' _ b;exact lW (b.same.at e1)
  ·rintro i v ys H2 hi b;rw [mG] at hi;obtain ⟨n,hn,rfl⟩:=mS.mp hi;obtain ⟨tps,es',rfl,m9,hsd,j7,hpr⟩:=b.all;have F8:i<ss.length:=(oj.mp hn).1;have Q9:ss.length<=10:=by rw [hp.length_eq,lV];exact hl
   have hel':es'.length=i:=by
    have:=nV List.length m9;rw [lV,nI] at this;lia
   have M4:tps.length=i:=by
    have:=mv hpr;rw [show (Zs V.ref es').length=es'.length from lV ..] at this;lia
   have N9:=hw.mono (s1.trans b.same);unfold Wi;refine ⟨nS rfl,_,rfl,_,rfl,x,ad.dx,_,rfl,N9.obj,rfl,_,rfl,H0,F,x,tr,ad,lw,val,ln,n,rfl,N9,hp.mem_iff.mp (oE hn),fun l4 H4 s4 n4 p4=>⟨lR,fun t H5 s5 n5 e5=>⟨s5.at (s4.at b.at'),?_,?_,Zc,tps++[t],es'++[(n,l4)],?_,?_,?_,?_,?_⟩⟩⟩
   ·rw [lV];exact Zp (by lia)
   ·intro c u z;rw [Zd (Zg z hD)];exact s5.at (s4.at (b.same.at z))
   ·rw [mq];rfl
   ·rw [mq,m9,nq,hn];rfl
   ·rw [mq,pP];refine ⟨hsd,by simp,?_⟩;rintro c hc c' J8 rfl;simp at J8;obtain ⟨q5,M5,hb⟩:=mh.mp hc;obtain ⟨_,h1,_⟩:=(j7 q5 M5).2.2;rw [hb,J8,n4] at h1;cases h1
   ·have u8:=s4.trans s5;have offD:∀{c:kS} {xs:kQ Z0} {o':HO},c≠D->Z8 H5 c xs->Z8 (upd H5 D o') c xs:=fun {c xs o'} nc z=>z.off nc fun ws y=>by rw [u8.at b.at'] at y;cases y
    intro q5 M5;rcases mZ.mp M5 with z|z
    ·obtain ⟨h0,P0,h1⟩:=j7 q5 z;exact ⟨h0,P0,offD P0 (h1.mono u8)⟩
    ·simp at z;subst z;have nl:l4≠D:=fun y=>by rw [y,b.at'] at n4;cases n4
     exact ⟨b.same.free n4,nl,offD nl (p4.mono s5)⟩
   ·have u8:=s4.trans s5;have nD:∀{c:kS} {xs:kQ V},H5 c=some (.tup xs)->c≠D:=fun {c xs} z y=>by
     rw [y,u8.at b.at'] at z;cases z
    rw [show Zs V.ref (es'++[(n,l4)])=Zs V.ref es'++[(Sum.inr n,V.ref l4)] from mq ..];refine oP (mw hpr fun t q z=>?_) (.cons ?_ .nil)
    ·have z5:=u8.at z;rw [Zd (nD z5)];exact z5
    ·rw [Zd (nD e5)];exact e5
  ·rintro ys H2 b;obtain ⟨tps,es',rfl,m9,hsd,j7,hpr⟩:=b.all;rw [lV,ow] at m9;refine ⟨D,tps,Zs V.ref es',rfl,b.at',hpr,?_,fun d H3 s3 n3 e3=>q ss d es' H3 hp hs (s1.trans (b.same.trans s3)) (s1.free (b.same.free n3)) ⟨e3,fun e he=>(j7 e he).2.2.mono s3⟩ m9 fun e he=>s1.free (j7 e he).1⟩;rw [show (Zs V.ref es').map Prod.fst=(es'.map Prod.fst).map Sum.inr from by rw [show Zs V.ref es'=es'.map fun q=>(Sum.inr q.1,V.ref q.2) from rfl,og,og];rfl,m9];exact HX uZ (hp.nodup_iff.mpr hw.lnd)
def Nq:T.bn.O P w mg lL 1 (wM T.ba "part"):=by
 refine T.bn.F.okA ?_;rfl'
 ·obtain ⟨e,t,v,rfl,he,q⟩:=h;intro X D;exact lU (Hy (pv 0) (pv 1) rfl) (lP rfl (lP rfl ⟨e,T.ba,T.ay,t,rfl,he,T.eW.cls,T.eW.sa,T.eW.na,q⟩))
def TV(h:1<=k:=by left):T.bn.O P w mg lL k (wM T.ba "part"):=(Nq T).mono h
inductive Fw:Sp
 | mk  :vs=[.non]->Q .non H->Fw  vs H Q E
def Gy:T.au.O P w mg lL 1 Fw:=by
 refine T.au.F.okW GY ?_;rfl'
 ·obtain ⟨rfl,q⟩:=h;intro X D;exact lS (Zt (Z4 CC (pv 0) rG (Yw _)) Zn Zk) (lP rfl ⟨rfl,_,rfl,Yj (fun _=>lU VT q) (fun z=>absurd (mB rfl) z)⟩)
inductive Ci:Sp
 | mk (t) (b:Bool) (p):vs=[.ref t]->H t=some (.tup [.str (if b then "held" else "taken"),.str p])->(∀dx H',lK H H'->H dx=none->H' dx=some (.xd [("part",.str p)])->E (.ref (if b then T.aS else T.ba)) (some dx) H')->Ci vs H Q E
def Ve:Xe P w K mg lL (mK P w) 3 T.au.f T.au.fd ["told"] (Ci T):=by
 refine T.au.F.okX GY ?_;rfl'
 ·obtain ⟨t,b,p,rfl,ht,q⟩:=h;intro X D;refine lS (Zt (Z4 CC (pv 0) rG (Yw _)) Zn Zk) (lP rfl ⟨rfl,_,rfl,Yj (fun z=>nomatch nM z) (fun _=>?_)⟩);cases b with
  | true=>exact lS (Zt (om hr (ml (pv 0) Zf) Ze) Zn Zk) ⟨_,rfl,(mQ ht 0 rfl (.inl ⟨rfl,_,rfl,Yj (fun _=>lU (Aj T.dB T.cF (CT T) T.aT.b hr rfl T.gS (Zb (ml (pv 0) Zf) Za)) ⟨_,rfl,(mQ ht 1 rfl ⟨_,rfl,fun dx hn=>q dx _ (nY hn) hn Zc⟩)⟩) (fun z=>absurd (by trivial) z)⟩))⟩
  | false =>
   refine lS (Zt (om hr (ml (pv 0) Zf) Ze) Zn Zk) (lP rfl (mQ ht 0 rfl (.inl ⟨rfl,_,rfl,Yj (fun z=>absurd z (by trivial)) (fun _=>?_)⟩)));exact lS (Zt (om hr (ml (pv 0) Zf) Ze) Zn Zk) (lP rfl (mQ ht 0 rfl (.inl ⟨rfl,_,rfl,Yj (fun _=>lU (Aj T.eW T.cF (TV T) T.bn.b hr rfl T.iD (Zb (ml (pv 0) Zf) Za)) (lP rfl (mQ ht 1 rfl (lP rfl (fun dx hn=>q dx _ (nY hn) hn Zc))))) (fun z=>absurd (by trivial) z)⟩)))
def OA(h:3<=k:=by left):Xe P w K mg lL (mK P w) k T.au.f T.au.fd ["told"] (Ci T):=(Ve T).mono h
def qW(F:kS->Prop)(H H':Hp):Prop:=∀b o,¬F b->H b=some o->H' b=some o
def zr{F:kS->Prop}(s:lK H H'):qW F H H':=fun _ _ _ e=>s.at e
def Yg.offC{val:kR->kQ Z0}(h:Yg H d es val)(hd:d≠c)(he:∀e∈es,e.2≠c)(hc:H c=some u)(nt:∀xs,u ≠ .tup xs):Yg (upd H c o) d es val :=
 ⟨by rw [Zd hd];exact h.1,fun e z=>(h.2 e z).off (he e z) fun xs y=>nt xs (mW (hc.symm.trans y))⟩
def zm{α:Type}{f:α->V}{l:kQ (kR×α)}{a:α}(h:n∉l.map Prod.fst):nO (Zs f l) (Y7 n) (f a)=Zs f (l++[(n,a)]):=by
 unfold nO;rw [zj,show Y2 (Zs f l) (Y7 n)=none from Xz h,show Zs f (l++[(n,a)])=Zs f l++[(Y7 n,f a)] from mq ..]
 rfl
def Dm{α:Type}{f:α->V}{l:kQ (kR×α)}:uk (Zs f l) (Y7 n)=Zs f (l.filter fun p=>decide (p.1≠n)):=by
 unfold uk;rw [show Zs f l=l.map fun q=>(Sum.inr q.1,f q.2) from rfl,CA];refine nV (List.map _) (List.filter_congr fun p _=>?_);show decide (¬Y7 p.1=Y7 n)=decide (p.1≠n);exact Fg.mpr (not_congr ⟨fun z=>uZ _ _ z,fun z=>by rw [z]⟩)
section
variable {U:Tx K mg} {F:kS->Prop} {val:kR->kQ Z0}
def mF.xn(h:mF U H0 H F x tr ad lw val ln):x≠ad.nd:=fun z=>by have:=h.obj;rw [z,h.lens] at this;cases this
def mF.xp(h:mF U H0 H F x tr ad lw val ln):x≠ad.pd:=fun z=>by have:=h.obj;rw [z,h.pth.1] at this;cases this
def mF.neF(h:mF U H0 H F x tr ad lw val ln)(z:H b=none):¬F b:=fun f=>by
 obtain ⟨o,e,_⟩:=h.live b f;rw [z] at e;cases e
def mF.move{vl:kR->kQ Z0}(hw:mF U H0 H F x tr ad lw val ln)(s1:lK H H1)(hd:H d=none)(hp:Yg H1 d es' vl)(m9:es'.map Prod.fst=ln'.map Prod.fst)(hn:∀e∈es',H e.2=none)(C2:(ln'.map Prod.fst).Nodup)(hl:ln'.length<=10)(hok:∀p∈ln',Yx p.1)(hv:∀t,(vl t).length<=100) :
  mF U H0 (upd (upd H1 x (ww U ⟨ad.dx,ad.ld,ad.sd,ad.nd,d,es'⟩ tr)) ad.nd (.dK (rL ln'))) (fun b=>F b\/b=d) x tr ⟨ad.dx,ad.ld,ad.sd,ad.nd,d,es'⟩ lw vl ln':=by
 have t6:=hw.mono s1;have fr:∀{b:kS},H b=none->b≠x/\b≠ad.nd:=fun {b} z=>⟨fun y=>hw.neF z (y ▸ hw.fx),fun y=>hw.neF z (y ▸ hw.fn)⟩
 have nf:∀{b:kS},¬F b->b≠x/\b≠ad.nd:=fun {b} z=>⟨fun y=>z (y ▸ hw.fx),fun y=>z (y ▸ hw.fn)⟩
 have at':∀{b:kS} {o u v:HO},(b≠x/\b≠ad.nd)->H1 b=some o->upd (upd H1 x u) ad.nd v b=some o:=fun z e=>by rw [Zd z.2,Zd z.1];exact e
 have hl1:upd H1 x (ww U ⟨ad.dx,ad.ld,ad.sd,ad.nd,d,es'⟩ tr) ad.nd=some (.dK (rL ln)):=by rw [Zd hw.xn.symm];exact t6.lens
 refine ⟨by rw [Zd hw.xn,Zc],at' (nf hw.nl) t6.lies,at' (nf hw.ns) t6.sti,Zc,(hp.offC (fr hd).1 (fun e he=>(fr (hn e he)).1) t6.obj (fun _ z=>nomatch z)).offC (fr hd).2 (fun e he=>(fr (hn e he)).2) hl1 (fun _ z=>nomatch z),m9,C2,hl,hv,hok,.inl hw.fx,.inl hw.fn,.inr rfl,(fr hd).2.symm,?_,?_,fun e he=>?_,?_,fun b o e=>?_,fun b f=>?_⟩
 ·rintro (z|z)
  ·exact hw.nl z
  ·have:=hw.lies;rw [show ad.ld=d from z,hd] at this;cases this
 ·rintro (z|z)
  ·exact hw.ns z
  ·have:=hw.sti;rw [show ad.sd=d from z,hd] at this;cases this
 ·rintro (z|z)
  ·exact hw.neF (hn e he) z
  ·obtain ⟨ts,h1,_⟩:=hp.2 e he;rw [z,hp.1] at h1;cases h1
 ·rintro b (z|z)
  ·exact hw.free b z
  ·rw [z];exact hw.same.free hd
 ·have n:=hw.free x hw.fx;have n2:=hw.free ad.nd hw.fn;exact at' ⟨Zg e n,Zg e n2⟩ (s1.at (hw.same.at e))
 ·by_cases y:b=ad.nd
  ·exact ⟨.dK _,by rw [y];exact Zc,fun _ z=>nomatch z⟩
  rw [Zd y]
  by_cases y2:b=x
  ·exact ⟨.ins _ _ _,by rw [y2];exact Zc,fun _ z=>nomatch z⟩
  rw [Zd y2];rcases f with f|f
  ·obtain ⟨o,e,n⟩:=hw.live b f;exact ⟨o,s1.at e,n⟩
  ·exact ⟨.dK _,by rw [f];exact hp.1,fun _ z=>nomatch z⟩
def Ue(h:H c=some o):upd H c o=H:=by
 funext b
 by_cases z:b=c
 ·rw [z,Zc,h]
 ·rw [Zd z]
def mF.leave{nm:kR}(hw:mF U H0 H F x tr ad lw val ln):mF U H0 (upd (upd H ad.pd (.dK (Zs V.ref (ad.es.filter fun p=>decide (p.1≠nm))))) ad.nd (.dK (rL (ln.filter fun p=>decide (p.1≠nm))))) F x tr ⟨ad.dx,ad.ld,ad.sd,ad.nd,ad.pd,ad.es.filter fun p=>decide (p.1≠nm)⟩ lw val (ln.filter fun p=>decide (p.1≠nm)):=by
 have nf:∀{b:kS},¬F b->b≠ad.pd/\b≠ad.nd:=fun {b} z=>⟨fun y=>z (y ▸ hw.fp),fun y=>z (y ▸ hw.fn)⟩
 have at':∀{b:kS} {o u v:HO},(b≠ad.pd/\b≠ad.nd)->H b=some o->upd (upd H ad.pd u) ad.nd v b=some o:=fun z e=>by rw [Zd z.2,Zd z.1];exact e
 have sub:∀e∈ad.es.filter (fun p=>decide (p.1≠nm)),e∈ad.es:=fun e he=>(sy.mp he).1
 have mf:∀{α:Type} (l:kQ (kR×α)),(l.filter fun p=>decide (p.1≠nm)).map Prod.fst=(l.map Prod.fst).filter fun n=>decide (n≠nm):=fun l=>by rw [CA];rfl
 refine ⟨at' ⟨hw.xp,hw.xn⟩ hw.obj,at' (nf hw.nl) hw.lies,at' (nf hw.ns) hw.sti,Zc,⟨by rw [Zd hw.ne.symm,Zc],fun e he=>?_⟩,by rw [mf,mf,hw.nm],by rw [mf];exact hw.lnd.filter _,nj (xb _ _) hw.len,hw.vl,fun p hp=>hw.ok p (sy.mp hp).1,hw.fx,hw.fn,hw.fp,hw.ne,hw.nl,hw.ns,fun e he=>hw.ni e (sub e he),hw.free,fun b o e=>at' ⟨Zg e (hw.free _ hw.fp),Zg e (hw.free _ hw.fn)⟩ (hw.same.at e),fun b f=>?_⟩
 ·have n:=nf (hw.ni e (sub e he));refine ((hw.pth.2 e (sub e he)).off n.1 fun xs z=>?_).off n.2 fun xs z=>?_
  ·rw [hw.pth.1] at z;cases z
  ·rw [Zd hw.ne,hw.lens] at z;cases z
 ·by_cases y:b=ad.nd
  ·exact ⟨.dK _,by rw [y];exact Zc,fun _ z=>nomatch z⟩
  rw [Zd y]
  by_cases y2:b=ad.pd
  ·exact ⟨.dK _,by rw [y2];exact Zc,fun _ z=>nomatch z⟩
  rw [Zd y2];exact hw.live b f
end
def pJ.on(H:Hp)(ad x8:pJ):Prop:=x8.ld=ad.ld/\x8.sd=ad.sd/\∀e∈x8.es,e∈ad.es\/H e.2=none
inductive GS:Sp
 | mk (H0) (F:kS->Prop) (x tr) (ad:pJ) (lw) (val:kR->kQ Z0) (ln:kQ (kR×Nat)) (nm):vs=[.ref x,.str nm]->mF T H0 H F x tr ad lw val ln->nm∈ln.map Prod.fst->(∀H' x8,qW F H H'->mF T H0 H' F x tr x8 lw val (ln.filter fun p=>decide (p.1≠nm))->ad.on H x8->Q .non H')->GS vs H Q E
def Ua:T.aE.O P w mg lL 3 (GS T):=by
 refine T.aE.F.okW Km ?_;rfl'
 ·obtain ⟨H0,F,x,tr,ad,lw,val,ln,nm,rfl,hw,hm,q⟩:=h;intro X D;refine lS (Zy (Z7 (pv 0) T.ac T.aw (Xt T) hr.m T.af.b .nil Z3 (Zb (pv 1) Za))) (lP rfl ⟨x,ad.dx,_,rfl,hw.obj,rfl,_,rfl,H0,F,x,tr,ad,lw,val,ln,nm,rfl,hw,hm,fun H1 s1=>?_⟩);have t6:=hw.mono s1;obtain ⟨l,he,hv,_⟩:=t6.get hm;refine lS (Zy (CV (Yb (pv 0) rfl) (pv 1) ⟨rfl,rfl,rfl,rfl⟩)) (lP rfl ⟨t6.obj,T.ac,T.ak,rfl,ad.pd,rfl,.inl ⟨_,.inl t6.pth.1⟩,_,rfl,_,Y7 nm,.ref l,t6.pth.1,rfl,hv,?_⟩);obtain ⟨p,hp,rfl⟩:=mh.mp hm;have V9:Y2 (rL ln) (Y7 p.1)=some (.int (p.2:Int)):=Xy hw.lnd hp;refine lU (Zy (CV (Yb (pv 0) rfl) (pv 1) ⟨rfl,rfl,rfl,rfl⟩)) (lP rfl ⟨by rw [Zd hw.xp];exact t6.obj,T.ac,T.aZ,rfl,ad.nd,rfl,.inl ⟨_,.inl (by rw [Zd hw.ne];exact t6.lens)⟩,_,rfl,_,Y7 p.1,_,by rw [Zd hw.ne];exact t6.lens,rfl,V9,?_⟩);rw [show rL ln=Zs (fun n:Nat=>V.int (n:Int)) ln from rfl,Dm,Dm];exact q _ _ (fun b o n e=>by rw [Zd (fun z=>n (by rw [z];exact hw.fn)),Zd (fun z=>n (by rw [z];exact hw.fp))];exact s1.at e) t6.leave ⟨rfl,rfl,fun e he=>.inl (sy.mp he).1⟩
def VO:Xe P w K mg lL (mK P w) 3 T.aE.f T.aE.fd ["self", "train"] (tS T):=by
 refine T.aE.F.okX Km ?_;rfl'
 ·obtain ⟨H0,F,x,tr,ad,lw,val,ln,v,rfl,hw,hv,q⟩:=h;intro X D;exact lS (Zy (Z7 (pv 0) T.ac T.aw (Xu T) hr T.af.b .nil uI (Zb (pv 1) Za))) (lP rfl ⟨x,ad.dx,_,rfl,hw.obj,rfl,_,rfl,H0,F,x,tr,ad,lw,val,ln,v,rfl,hw,hv,q⟩)
def PR(h:3<=k:=by left):Xe P w K mg lL (mK P w) k T.aE.f T.aE.fd ["self", "train"] (tS T):=(VO T).mono h
def GO{X:Cx}:qR (mK X.prog X.w) X E0:=fun _ _ _ _ _ _ _ h=>by
 obtain ⟨_,_,_,_,_,_,_,_,_,_,h⟩:=h;exact h.elim
def XE(H:Hp)(c:kS)(po:kW kR)(E:XK):Prop:=(po=none->∀H',lK H H'->E (.ref c) none H')/\∀p,po=some p->∀dx H',lK H H'->H dx=none->H' dx=some (.xd [("part",.str p)])->E (.ref c) (some dx) H'
def XE.mono(s:lK H H1)(h:XE H c po E):XE H1 c po E:=⟨fun z H' s'=>h.1 z H' (s.trans s'),fun p z dx H' s' n e=>h.2 p z dx H' (s.trans s') (s.free n) e⟩
def ur(ln:kQ (kR×Nat))(val:kR->kQ Z0)(g:kR):Prop:=∃t∈ln.map Prod.fst,g∈(val t).map Prod.fst
def DO(H:Hp)(val:kR->kQ Z0)(ln:kQ (kR×Nat))(td:kQ (kR×Bool))(ps:kQ Zh)(sg:kQ (kR×kR×kR))(v vl vg:V)(c:kS)(po:kW kR):Prop :=
 (c=T.aq/\po=none/\(yV K H v false\/∃nm:kR,v=.str nm/\Yx nm/\nm∈ln.map Prod.fst)) \/
 ∃nm:kR,v=.str nm/\Yx nm/\nm∉ln.map Prod.fst/\((c=T.aD/\po=none/\vC vg (fun n=>(("gate",n):Zh)∈ps)) \/
  ∃g:kR,vg=.str g/\(("gate",g):Zh)∈ps/\((c=T.aD/\po=none/\((g, "a"):Zh)∉sg.map Prod.snd)\/((g, "a"):Zh)∈sg.map Prod.snd/\((c=T.ar/\po=none/\BD vl) \/
   ∃n:Nat,vl=.int (n:Int)/\1<=n/\n<=4/\po=some g/\((c=T.aS/\ur ln val g)\/(c=T.ba/\¬ur ln val g/\(td.lookup g).getD false=true)))))
structure Gm(val:Str->List Z0)(ln:List (Str×Nat))(td:List (Str×Bool))(ps:List Zh)(sg:List (Str×Str×Str))(nm g:Str)(n:Nat):Prop where
 nv:Yx nm
 new:nm∉ln.map Prod.fst
 gt:(("gate",g):Zh)∈ps
 sg:((g, "a"):Zh)∈sg.map Prod.snd
 n1:1<=n
 n4:n<=4
 nh:¬ur ln val g
 nt:(td.lookup g).getD false=false
 ll:ln.length<10
def MG(yv:oZ ps js sg)  (h:((nm,e)∈qS sg/\Yx nm/\e∈sg.map Prod.snd)\/(nm = "" /\e∉sg.map Prod.snd)):decide (V.str nm=V.str "")=!decide (e∈sg.map Prod.snd):=by
 rcases h with ⟨_,h1,h2⟩|⟨h1,h2⟩
 ·rw [mB h2,mO fun z=>yX h1 (V.str.inj z)];rfl
 ·rw [h1,mB rfl,mO h2];rfl
inductive EV:Sp
 | mk (H0) (F:kS->Prop) (x tr dt) (ad:pJ) (lw) (val:kR->kQ Z0) (ln:kQ (kR×Nat)) (td ps js sg nm g) (n:Nat):vs=[.ref x,.str nm,.int (n:Int),.str g,.ref dt]->mF T H0 H F x tr ad lw val ln->Yf T H0 tr ps js sg->oZ ps js sg->pY T H0->H dt=some (.dK (Zs V.bl td))->¬F dt->Gm val ln td ps sg nm g n->(∀(H':Hp) (F':kS->Prop) (x8:pJ),(∀b,F b->F' b)->(∀b,F' b->F b\/H b=none)->qW F H H'->mF T H0 H' F' x tr x8 lw (W8 (ln.map Prod.fst) val nm [(g, "", "a", "")]) (ln++[(nm,n)])->ad.on H x8->Q .non H')->EV vs H Q E
def sN (ln:kQ (kR×Nat)) (g:Gd) (x:kR):kQ (kW (kR×kR)):=[vL (ln.map Prod.fst) g x,vh g x]
def LY:T.ao.O P w mg lL 7 (EV T):=by
 refine T.ao.F.okW Lz ?_;rfl'
 ·obtain ⟨H0,F,x,tr,dt,ad,lw,val,ln,td,ps,js,sg,nm,g,n,rfl,hw,ht,yv,tb,hd,fd,cg,q⟩:=h;intro X D;have D3:nm∉ad.es.map Prod.fst:=by rw [hw.nm];exact cg.new
  obtain ⟨dxt,po,jo,so,si,kp,ks,kj,ko,h1,_⟩:=(ht.mono hw.same).ex;refine lS (Zy (Zx (Az T) hr (Zb (pv 1) (Zb (Yb (pv 0) rfl) Za)))) (lP rfl (lP rfl ⟨hw.obj,T.ac,T.ak,rfl,nm,ad.pd,_,rfl,cg.nv,hw.pth.1,Xz D3,fun H1 s1=>?_⟩));have t6:=hw.mono s1;refine lS (Zy (Zx (Fy T) hr (Zb (Yb (pv 0) rfl) (Zb (pv 3) Za)))) (lP rfl ⟨t6.obj,T.ac,T.aR,rfl,_,rfl,tr,g,ps,js,sg,rfl,ht.mono t6.same,yv,cg.gt,fun H2 s2=>?_⟩);have N9:=t6.mono s2;refine lS (Zt (om hr (Z7 (Yb (pv 0) rfl) T.am T.bM (Wy T) hr.m T.aL.b .nil Z3 (Zb (Zi (Zb (pv 3) (Zb Ze Za))) Za)) Ze) Zn Zk) (lP rfl ⟨N9.obj,T.ac,T.aR,rfl,tr,dxt,_,rfl,(s1.trans s2).at h1,rfl,_,rfl,lR,fun t H3 s3 n3 e3=>⟨tr,t,(g, "a"),ps,js,sg,rfl,ht.mono (N9.same.trans s3),yv,e3,fun sn hs=>.inl ⟨rfl,_,rfl,?_⟩⟩⟩);rw [MG yv hs,mB cg.sg];refine X0 ?_;have hw3:=N9.mono s3;have m7:=s1.trans (s2.trans s3);refine lS (Zy (Zx (Jf T) hr (Zb (pv 2) Za))) (lP rfl ⟨n,rfl,cg.n1,cg.n4,?_⟩);have tb3:=tb.mono hw3.same;refine lS (Zy (Zx (Gy T) hr (Zb (Zx (EA T) hr (Zb (Zl (Zb (Zx (EB T) hr (Zb (pv 3) Za)) (Zb (Zx (Cm T) hr (Zb (pv 3) Za)) Za))) (Zb (Z7 (pv 0) T.ac T.cm (DS T) hr.m T.aV.b .nil Z3 (Zb (pv 4) Za)) Za))) Za))) (lP rfl ⟨g,rfl,tb3,fun f1 H4 s4 n4 R4=>(lP rfl ⟨g,rfl,tb3.mono s4,fun f2 H5 s5 n5 R5=>⟨lR,fun l6 H6 s6 n6 e6=>(lP rfl ⟨x,ad.dx,_,rfl,(s4.trans (s5.trans s6)).at hw3.obj,rfl,_,rfl,H0,F,x,tr,dt,ad,lw,val,ln,td,rfl,hw3.mono (s4.trans (s5.trans s6)),(m7.trans (s4.trans (s5.trans s6))).at hd,fun gr H7 s7 n7 G7=>⟨l6,gr,[f1,f2],sN ln ⟨lw,[],val,td⟩ g,rfl,lW (s7.at e6),?_,fun v8 H8 s8 wd=>?_⟩⟩)⟩⟩)⟩)
  ·unfold sN;rw [<-hw.nm];exact .cons ((Cd T (R4.mono (s5.trans (s6.trans s7))) G7).up (by left)) (.cons ((Ey T (R5.mono (s6.trans s7)) G7).up (by left)) .nil)
  have hn:vH (sN ln ⟨lw,[],val,td⟩ g)=none:=zk fun a ha=>by
   unfold sN at ha;rcases mI.mp ha with rfl|ha
   ·exact lY cg.nh
   ·rw [nW.mp ha];unfold vh
    rw [lY (by rw [show ((⟨lw,[],val,td⟩:Gd).told.lookup g).getD false=false from cg.nt];decide)]
  rw [hn] at wd;obtain rfl:v8=.non:=wd;refine ⟨rfl,?_⟩;have s38:=s4.trans (s5.trans (s6.trans (s7.trans s8)));have hw8:=hw3.mono s38;have nlen:ad.es.length<=100:=by
   have:=nV List.length hw.nm;rw [lV,lV] at this;have:=hw.len;lia
  refine lS (Wg (pv 0) (X1 (MB T) hr.m rfl T.bL.m T.bL.F.kp T.bL.b .nil GO (Zb (Yb (pv 0) rfl) (Zb (pv 1) (Zb (Zl (Zb (Zi (Zb (pv 3) (Zb Ze (Zb Ze (Zb Ze Za))))) Za)) Za)))) rfl) (lP rfl ⟨hw8.obj,T.ac,T.ak,rfl,_,rfl,_,rfl,lR,fun t9 H9 s9 n9 e9=>⟨lR,fun lA HA sA nA eA=>⟨ad.pd,lA,nm,ad.es,val,[(g, "", "a", "")],rfl,hw8.pth.mono (s9.trans sA),by rw [hw.nm];exact hw.lnd,nlen,hw.vl,?_,⟨[t9],.inl eA,.cons (sA.at e9) .nil⟩,by simp,fun d' HB es' gt sB nB pB eB xg fB=>(lP rfl ⟨x,_,ad.dx,_,rfl,(s9.trans (sA.trans sB)).at hw8.obj,T.ac,T.ak,(by show 5<1000;decide),?_⟩),fun dx HB y sB nB fb eB=>?_⟩⟩⟩)
  ·intro t ht;rw [hw.nm] at ht;obtain ⟨p,hp,rfl⟩:=mh.mp ht;exact yX (hw.ok p hp)
  ·have sAll:=m7.trans (s38.trans (s9.trans (sA.trans sB)));have fB':∀e∈es',H e.2=none:=fun e he=>(m7.trans (s38.trans (s9.trans sA))).free (fB e he)
   have x0:H d'=none:=(m7.trans (s38.trans (s9.trans sA))).free nB;have m9:es'.map Prod.fst=ln.map Prod.fst++[nm]:=by
    rw [eB,hw.nm];exact lY cg.new
   have hL:W8 (ad.es.map Prod.fst) val nm [(g, "", "a", "")]=W8 (ln.map Prod.fst) val nm [(g, "", "a", "")]:=by rw [hw.nm]
   rw [hL] at pB;have xn:=hw.xn;refine lU (rE (Xi hr) (Yb (pv 0) rfl) (pv 1) (pv 2) rfl) (lP rfl (lP rfl ⟨Zc,T.ac,T.aZ,rfl,_,rfl,ad.nd,_,rfl,pG.k (k:=Y7 nm) (by rw [Zd xn.symm];exact sAll.at hw.lens) ?_,?_⟩))
   ·rw [show (rL ln).length=ln.length from lV ..];exact Zp (by have:=hw.len;lia)
   rw [show rL ln=Zs (fun n:Nat=>V.int (n:Int)) ln from rfl,zm (f:=fun n:Nat=>V.int (n:Int)) cg.new];refine q _ (fun b=>F b\/b=d') ⟨ad.dx,ad.ld,ad.sd,ad.nd,d',es'⟩ (fun _ z=>.inl z) (fun b z=>z.imp id fun y=>by rw [y];exact x0) (fun b o nb e=>?_) (hw.move (ln':=ln++[(nm,n)]) sAll x0 pB (by rw [m9,mq];rfl) fB' ?_ (by rw [mY];exact cg.ll) (fun p hp=>?_) fun t=>?_) ⟨rfl,rfl,fun e he=>.inr (fB' e he)⟩
   ·rw [Zd (fun z=>nb (by rw [z];exact hw.fn)),Zd (fun z=>nb (by rw [z];exact hw.fx))];exact sAll.at e
   ·rw [mq,pP];exact ⟨hw.lnd,Fv _ _,fun a ha b hb e=>by rw [e,nW.mp hb] at ha;exact cg.new ha⟩
   ·rcases mZ.mp hp with z|z
    ·exact hw.ok p z
    ·rw [nW.mp z];exact cg.nv
   ·unfold W8;split
    ·rw [lY cg.new];simp
    ·exact hw.vl t
  ·obtain ⟨i,hi,hb,_⟩:=fb;have i0:i=0:=by
    have:=(oj.mp hi).1;simp at this;exact this
   subst i0;have:y=g:=by simpa using hi.symm
   rw [this] at hb;rcases hb with z|⟨t,z1,z2⟩
   ·simp at z
   ·exact cg.nh ⟨t,by rw [<-hw.nm];exact z1,z2⟩
def Kz(h:7<=k:=by left):T.ao.O P w mg lL k (EV T):=(LY T).mono h
inductive zV:Sp
 | mk (H0) (F:kS->Prop) (x tr dt ad lw) (val:kR->kQ Z0) (ln td ps js sg v vl vg c po):vs=[.ref x,v,vl,vg,.ref dt]->mF T H0 H F x tr ad lw val ln->Yf T H0 tr ps js sg->oZ ps js sg->pY T H0->H dt=some (.dK (Zs V.bl td))->DO T H val ln td ps sg v vl vg c po->XE H c po E->zV vs H Q E
def Pc:Xe P w K mg lL (mK P w) 7 T.ao.f T.ao.fd ["self", "train", "length", "gate", "seen"] (zV T):=by
 refine T.ao.F.okX Lz ?_;rfl'
 ·obtain ⟨H0,F,x,tr,dt,ad,lw,val,ln,td,ps,js,sg,v,vl,vg,c,po,rfl,hw,ht,yv,tb,hd,hR,q⟩:=h;intro X D;obtain ⟨dxt,po',jo,so,si,kp,ks,kj,ko,h1,_⟩:=(ht.mono hw.same).ex;rcases hR with ⟨rfl,rfl,hn⟩|⟨nm,rfl,D3,k8,hR⟩
  ·refine lS (Zy (X1 (Pe T) hr rfl T.aH.m T.aH.F.kp T.aH.b .nil uI (Zb (pv 1) (Zb (Yb (pv 0) rfl) Za)))) (lP rfl (lP rfl ⟨hw.obj,T.ac,T.ak,rfl,v,ad.pd,_,rfl,hw.pth.1,hn.imp_right fun ⟨nm,e,y1,y2⟩=>⟨nm,e,y1,?_⟩,q.1 rfl⟩));obtain ⟨l,_,hv,_⟩:=hw.get y2;rw [hv];rfl
  have hnm':nm∉ad.es.map Prod.fst:=by rw [hw.nm];exact k8
  refine lS (Zy (Zx (Az T) hr (Zb (pv 1) (Zb (Yb (pv 0) rfl) Za)))) (lP rfl (lP rfl ⟨hw.obj,T.ac,T.ak,rfl,nm,ad.pd,_,rfl,D3,hw.pth.1,Xz hnm',fun H1 s1=>?_⟩));have t6:=hw.mono s1;rcases hR with ⟨rfl,rfl,ho⟩|⟨g,rfl,hg,hR⟩
  ·exact lS (Zy (X1 (Up T) hr rfl T.aI.m T.aI.F.kp T.aI.b .nil uI (Zb (Yb (pv 0) rfl) (Zb (pv 3) Za)))) (lP rfl ⟨t6.obj,T.ac,T.aR,rfl,_,rfl,tr,vg,ps,js,sg,rfl,ht.mono t6.same,yv,ho,(q.mono s1).1 rfl⟩)
  refine lS (Zy (Zx (Fy T) hr (Zb (Yb (pv 0) rfl) (Zb (pv 3) Za)))) (lP rfl ⟨t6.obj,T.ac,T.aR,rfl,_,rfl,tr,g,ps,js,sg,rfl,ht.mono t6.same,yv,hg,fun H2 s2=>?_⟩);have N9:=t6.mono s2;refine lS (Zt (om hr (Z7 (Yb (pv 0) rfl) T.am T.bM (Wy T) hr.m T.aL.b .nil Z3 (Zb (Zi (Zb (pv 3) (Zb Ze Za))) Za)) Ze) Zn Zk) (lP rfl ⟨N9.obj,T.ac,T.aR,rfl,tr,dxt,_,rfl,(s1.trans s2).at h1,rfl,_,rfl,lR,fun t H3 s3 n3 e3=>⟨tr,t,(g, "a"),ps,js,sg,rfl,ht.mono (N9.same.trans s3),yv,e3,fun sn hs=>.inl ⟨rfl,_,rfl,?_⟩⟩⟩);rw [MG yv hs];have m7:=s1.trans (s2.trans s3);rcases hR with ⟨rfl,rfl,ho⟩|⟨hsg,hR⟩
  ·rw [mO ho];exact W7 (lU (W1 T.gC rT rfl (Zb Ze Za)) ⟨lR,(q.mono m7).1 rfl H3 (pH _)⟩)
  rw [mB hsg];refine X0 ?_;have hw3:=N9.mono s3;rcases hR with ⟨rfl,rfl,ho⟩|⟨n,rfl,y1,y4,rfl,hR⟩
  ·exact lS (Zy (X1 (Nw T) hr rfl T.az.m T.az.F.kp T.az.b .nil uI (Zb (pv 2) Za))) (lP rfl ⟨vl,rfl,ho,(q.mono m7).1 rfl H3 (pH _)⟩)
  refine lS (Zy (Zx (Jf T) hr (Zb (pv 2) Za))) (lP rfl ⟨n,rfl,y1,y4,?_⟩);have tb3:=tb.mono hw3.same;refine lS (Zy (X1 (OA T) hr rfl T.au.m T.au.F.kp T.au.b .nil uI (Zb (Zx (EA T) hr (Zb (Zl (Zb (Zx (EB T) hr (Zb (pv 3) Za)) (Zb (Zx (Cm T) hr (Zb (pv 3) Za)) Za))) (Zb (Z7 (pv 0) T.ac T.cm (DS T) hr.m T.aV.b .nil Z3 (Zb (pv 4) Za)) Za))) Za))) (lP rfl ⟨g,rfl,tb3,fun f1 H4 s4 n4 R4=>(lP rfl ⟨g,rfl,tb3.mono s4,fun f2 H5 s5 n5 R5=>⟨lR,fun l6 H6 s6 n6 e6=>(lP rfl ⟨x,ad.dx,_,rfl,(s4.trans (s5.trans s6)).at hw3.obj,rfl,_,rfl,H0,F,x,tr,dt,ad,lw,val,ln,td,rfl,hw3.mono (s4.trans (s5.trans s6)),(m7.trans (s4.trans (s5.trans s6))).at hd,fun gr H7 s7 n7 G7=>⟨l6,gr,[f1,f2],sN ln ⟨lw,[],val,td⟩ g,rfl,lW (s7.at e6),?_,fun v8 H8 s8 wd=>?_⟩⟩)⟩⟩)⟩)
  ·unfold sN;rw [<-hw.nm];exact .cons ((Cd T (R4.mono (s5.trans (s6.trans s7))) G7).up (by left)) (.cons ((Ey T (R5.mono (s6.trans s7)) G7).up (by left)) .nil)
  have K3:=m7.trans (s4.trans (s5.trans (s6.trans (s7.trans s8))));rcases hR with ⟨rfl,hh⟩|⟨rfl,hh,htk⟩
  ·have hn:vH (sN ln ⟨lw,[],val,td⟩ g)=some (("held" :kR),g):=by
    unfold sN;rw [show vL (ln.map Prod.fst) ⟨lw,[],val,td⟩ g=some (("held" :kR),g) from lZ hh]
    rfl
   rw [hn] at wd;obtain ⟨t8,rfl,e8⟩:=wd;exact ⟨t8,true,g,rfl,e8,fun dx H9 s9 n9 e9=>(q.mono K3).2 g rfl dx H9 s9 n9 e9⟩
  ·have hn:vH (sN ln ⟨lw,[],val,td⟩ g)=some (("taken" :kR),g):=by
    unfold sN;rw [show vL (ln.map Prod.fst) ⟨lw,[],val,td⟩ g=none from lY hh,show vh ⟨lw,[],val,td⟩ g=some (("taken" :kR),g) from lZ htk]
    rfl
   rw [hn] at wd;obtain ⟨t8,rfl,e8⟩:=wd;exact ⟨t8,false,g,rfl,e8,fun dx H9 s9 n9 e9=>(q.mono K3).2 g rfl dx H9 s9 n9 e9⟩
def CK(h:7<=k:=by left):Xe P w K mg lL (mK P w) k T.ao.f T.ao.fd ["self", "train", "length", "gate", "seen"] (zV T):=(Pc T).mono h
def Fd(H:Hp)(dx:kW kS):Prop:=∀d,dx=some d->∃fs,H d=some (.xd fs)
def sj(K:kX):kQ V->Hp->VK->Prop:=fun xs H Q=>∃e C dx c b,xs=[.ref e,c]/\H e=some (pK e C dx)/\Fd H dx/\XG K C/\((∃n,c=.ty n/\kitOne K (.ref C) (.type n)=some b)\/(∃a,c=.ref a/\kitOne K (.ref C) (.ref a)=some b))/\Q (.bl b) H
def We:Xc X (.builtin "isinstance") (sj X.K):=by
 rintro a9 s σ H xs us Q I r ⟨e,C,dx,c,b,h1,he,hx,g,k,q⟩;cases dx with
 | none=>exact XT a9 s σ H xs us Q I r ⟨e,C,c,b,h1,he,g,k,q⟩
 | some d =>
  obtain ⟨fs,hd⟩:=hx d rfl;exact NX a9 s σ H xs us Q I r ⟨e,C,d,fs,c,b,h1,he,hd,g,k.imp id .inl,q⟩
def rf  (r:Nat):kS:=if r=0 then T.aq else if r=1 then T.aD else if r=2 then T.ar else if r=3 then T.ax else if r=4 then T.aS else T.ba
def mU(r:Nat):Nat:=if r<4 then r else r+2
def qF(r:Nat):kR:=if r=0 then "name" else if r=1 then "end" else if r=2 then "many" else if r=3 then "train" else if r=4 then "held" else "taken"
structure K9(T:Tx K mg)(C:Addr)(b:Nat->Bool):Prop where
 g:XG K C
 i0:kB K C T.aq (b 0)
 i1:kB K C T.aD (b 1)
 i2:kB K C T.ar (b 2)
 i3:kB K C T.ax (b 3)
 i4:kB K C T.cq (b 4)
 i5:kB K C T.cw (b 5)
 i6:kB K C T.aS (b 6)
 i7:kB K C T.ba (b 7)
 i8:kB K C T.cL (b 8)
 v:kitOne K (.ref C) (.type "ValueError")=some true
theorem k9:∀r,r<6->K9 T (rf T r) (fun i=>decide (i=mU r))/\PySem.W.kitCls K (.ref (rf T r)) (.ref T.ay)=some true
 | 0,_=>⟨⟨T.gX,T.jz,T.jC,T.jD,T.jE,T.jF,T.jG,T.jH,T.jI,T.jJ,T.v0⟩,T.c0⟩
 | 1,_=>⟨⟨T.il,T.jf,T.iQ,T.jg,T.iG,T.hU,T.jK,T.jj,T.jk,T.jL,T.v1⟩,T.c1⟩
 | 2,_=>⟨⟨T.gY,T.jM,T.jN,T.jO,T.jP,T.jQ,T.jR,T.jS,T.jT,T.jU,T.v2⟩,T.c2⟩
 | 3,_=>⟨⟨T.gZ,T.jV,T.jW,T.jX,T.jY,T.jZ,T.kf,T.kg,T.kh,T.ki,T.v3⟩,T.c3⟩
 | 4,_=>⟨⟨T.iR,T.kl,T.kr,T.kt,T.ku,T.kx,T.ky,T.kz,T.kA,T.kE,T.v4⟩,T.c4⟩
 | 5,_=>⟨⟨T.iS,T.kF,T.kG,T.kH,T.kI,T.kJ,T.kK,T.kL,T.kM,T.kN,T.v5⟩,T.c5⟩
 | _+6,h=>absurd h (by lia)
def tZ(H:Hp)(dx:kW kS):kW kR->Prop
 | none=>dx=none
 | some p=>∃d,dx=some d/\H d=some (.xd [("part",.str p)])
def tZ.mono(e:lK H H')(h:tZ H dx po):tZ H' dx po:=by
 cases po with
 | none=>exact h
 | some p=>obtain ⟨d,h1,h2⟩:=h;exact ⟨d,h1,e.at h2⟩
def tZ.xd(h:tZ H dx po):Fd H dx:=fun d e=>by
 cases po with
 | none=>rw [show dx=none from h] at e;cases e
 | some p=>obtain ⟨d',h1,h2⟩:=h;rw [h1] at e;cases e;exact ⟨_,h2⟩
def Bi(H:Hp)(r:Nat)(po:kW kR)(Q:VK):Prop:=∀H',lK H H'->(po=none->Q (.str (qF r)) H')/\∀p,po=some p->∀t,H' t=some (.tup [.str (qF r),.str p])->Q (.ref t) H'
inductive Dv(P:lq)(w:lh)(lL:kZ)(T:Tx K mg):Sp
 | mk (f):vs=[.ref f]->uC H f->BU P w K mg lL 9 f H (fun _ H'=>Q (.str "done") H') (fun cls dx H'=>∃r po,r<6/\cls=.ref (rf T r)/\tZ H' dx po/\(po.isSome=decide (4<=r))/\Bi H' r po Q)->Dv P w lL T vs H Q E
def Ys:T.ae.O P w mg lL 10 (Dv P w lL T):=by
 refine T.ae.F.okW Xr ?_;rfl'
 ·obtain ⟨f,rfl,hf,hd⟩:=h;intro X D;let I21:IC:=fun _ H'=>Q (.str "done") H'
  refine nX I21 (WS.tryAs (x := "YardError") (n := "e") (B:=T.ay) (i:=1) (Ex:=fun cls dx H'=>∃r po,r<6/\cls=.ref (rf T r)/\tZ H' dx po/\(po.isSome=decide (4<=r))/\Bi H' r po Q) (R:=fun C dx H'=>∃r po,r<6/\C=rf T r/\tZ H' dx po/\(po.isSome=decide (4<=r))/\Bi H' r po Q) T.gF (UB T.kO rfl) rfl Xr.nd rfl rfl rfl rfl rfl rfl rfl ?_ ?_ ?_) ?_
  ·rintro cls dx H' ⟨r,po,hr6,rfl,h2⟩;exact ⟨_,rfl,(k9 T r hr6).2,r,po,hr6,rfl,h2⟩
  ·intro pn xe hp;exact lU (Zy (Tf (k:=9) hr (pv 0) hp)) (lP rfl ⟨f,rfl,hf,hd⟩)
  ·rintro ea C dx σ' H1 hl ⟨r,po,hr6,rfl,hpo,M8,q⟩ hn;obtain ⟨k,kc⟩:=k9 T r hr6;obtain ⟨o0,o1,o2,o3,o4,rfl⟩:=WJ hl;have he:(upd H1 ea (pK ea (rf T r) dx)) ea=some (pK ea (rf T r) dx):=Zc;have s2:lK H1 (upd H1 ea (pK ea (rf T r) dx)):=nY hn;generalize upd H1 ea (pK ea (rf T r) dx)=H2 at he s2;have hx:=(hpo.mono s2).xd;have xm:∀{H3:Hp},lK H2 H3->Fd H3 dx:=fun s d e=>let ⟨fs,z⟩:=hx d e;⟨fs,s.at z⟩
   refine lS (me 2 Xr (Zl (Zb (Z2 (r:=sj K) We (by rfl) T.ag qx (Zb (pv 1) (Zb (Wa (v:=.ref T.aq) (by rfl) T.ig rfl) Za))) (Zb (Z2 (r:=sj K) We (by rfl) T.ag qx (Zb (pv 1) (Zb (Wa (v:=.ref T.aD) (by rfl) T.iu rfl) Za))) (Zb (Z2 (r:=sj K) We (by rfl) T.ag qx (Zb (pv 1) (Zb (Wa (v:=.ref T.ar) (by rfl) T.ii rfl) Za))) (Zb (Z2 (r:=sj K) We (by rfl) T.ag qx (Zb (pv 1) (Zb (Wa (v:=.ref T.ax) (by rfl) T.ij rfl) Za))) Za)))))) (lP rfl ⟨ea,_,_,_,_,rfl,he,hx,k.g,.inr (lP rfl k.i0),_,rfl,ea,_,_,_,_,rfl,he,hx,k.g,.inr (lP rfl k.i1),_,rfl,ea,_,_,_,_,rfl,he,hx,k.g,.inr (lP rfl k.i2),_,rfl,ea,_,_,_,_,rfl,he,hx,k.g,.inr (lP rfl k.i3),lR,fun l3 H3 s3 n3 e3=>?_⟩);have he3:=s3.at he;have hx3:=xm s3;refine lS (me 2 Xr (Zo Wz (pv 2) (Zl (Zb (Z2 (r:=sj K) We (by rfl) T.ag qx (Zb (pv 1) (Zb (Wa (v:=.ref T.cq) (by rfl) T.iw rfl) Za))) (Zb (Z2 (r:=sj K) We (by rfl) T.ag qx (Zb (pv 1) (Zb (Wa (v:=.ref T.cw) (by rfl) T.ix rfl) Za))) (Zb (Z2 (r:=sj K) We (by rfl) T.ag qx (Zb (pv 1) (Zb (Wa (v:=.ref T.aS) (by rfl) T.gS rfl) Za))) (Zb (Z2 (r:=sj K) We (by rfl) T.ag qx (Zb (pv 1) (Zb (Wa (v:=.ref T.ba) (by rfl) T.iD rfl) Za))) Za))))))) (lP rfl (lP rfl ⟨ea,_,_,_,_,rfl,he3,hx3,k.g,.inr (lP rfl k.i4),_,rfl,ea,_,_,_,_,rfl,he3,hx3,k.g,.inr (lP rfl k.i5),_,rfl,ea,_,_,_,_,rfl,he3,hx3,k.g,.inr (lP rfl k.i6),_,rfl,ea,_,_,_,_,rfl,he3,hx3,k.g,.inr (lP rfl k.i7),lR,fun l4 H4 s4 n4 e4=>.inr (.inr ⟨l3,l4,_,_,rfl,rfl,s4.at e3,e4,lR,fun l5 H5 s5 n5 e5=>?_⟩)⟩));have u8:=s3.trans (s4.trans s5);refine lS (me 2 Xr (Zo Wz (pv 2) (Zl (Zb (Z2 (r:=sj K) We (by rfl) T.ag qx (Zb (pv 1) (Zb (Wa (v:=.ref T.cL) (by rfl) T.iJ rfl) Za))) Za)))) (lP rfl (lP rfl ⟨ea,_,_,_,_,rfl,u8.at he,xm u8,k.g,.inr (lP rfl k.i8),lR,fun l6 H6 s6 n6 e6=>.inr (.inr ⟨l5,l6,_,_,rfl,rfl,s6.at e5,e6,lR,fun l7 H7 s7 n7 e7=>?_⟩)⟩));refine lS (me 3 Xr (Zl (Zb Ze (Zb Ze (Zb Ze (Zb Ze (Zb Ze (Zb Ze (Zb Ze (Zb Ze (Zb Ze Za))))))))))) ⟨lR,fun l8 H8 s8 n8 e8=>?_⟩;have s28:=u8.trans (s6.trans (s7.trans s8));have e78:=s8.at e7;let bs:kQ Bool:=[decide (0=mU r),decide (1=mU r),decide (2=mU r),decide (3=mU r),decide (4=mU r),decide (5=mU r),decide (6=mU r),decide (7=mU r),decide (8=mU r)]
   have at9:∀r,r<6->[decide (0=mU r),decide (1=mU r),decide (2=mU r),decide (3=mU r),decide (4=mU r),decide (5=mU r),decide (6=mU r),decide (7=mU r),decide (8=mU r)][mU r]? =some true/\(∀i,i<mU r->[decide (0=mU r),decide (1=mU r),decide (2=mU r),decide (3=mU r),decide (4=mU r),decide (5=mU r),decide (6=mU r),decide (7=mU r),decide (8=mU r)][i]? ≠ some true)/\[decide (0=mU r),decide (1=mU r),decide (2=mU r),decide (3=mU r),decide (4=mU r),decide (5=mU r),decide (6=mU r),decide (7=mU r),decide (8=mU r)].countP (fun x=>x ==true)=1/\[V.str "name",V.str "end",V.str "many",V.str "train",V.str "way",V.str "turn",V.str "held",V.str "taken",V.str "stiff"][mU r]? =some (.str (qF r))/\qz (qF r) 1=qF r/\(qF r).length<=10/\mU r<10/\oo (.str (qF r)) [.str "held",.str "taken",.str "stiff"]=decide (4<=r):=by trivial
   obtain ⟨a1,a2,a3,a4,a5,a6,a7,a8⟩:=at9 r hr6;refine lS (me 4 Xr (Zo Lj (ml (pv 3) (vX wK PySem.F.slot_list_index PySem.F.type_list_index OS (pv 2) (Zb ri Za))) (Y6 QN (by rfl) T.fL wE (Zb (vd (yR Kg (vX wK PySem.F.slot_list_count PySem.F.type_list_count XD (pv 2) (Zb ri Za)) Zf (Yw _)) (wg (Z2 (r:=sj K) We (by rfl) T.ag qx (Zb (pv 1) (Zb (GN (v:=.ty "ValueError") (by rfl) T.gf Sk rfl) Za))))) Za)))) (lP rfl (lP rfl ⟨.inl ⟨rfl,_,lW e78⟩,l7,bs,true,mU r,rfl,rfl,e78,by lia,a1,a2,.inl ⟨l8,_,_,_,rfl,rfl,lW e8,Xn a4,_,rfl,.inl ⟨rfl,_,lW e78⟩,l7,bs,true,rfl,rfl,e78,?_⟩⟩));rw [a3];refine ⟨rfl,_,rfl,W7 ⟨_,rfl,ea,_,_,_,_,rfl,s28.at he,xm s28,k.g,.inl ⟨_,rfl,k.v⟩,.inr ⟨_,rfl,qF r,1,rfl,rfl,by lia,by lia,?_⟩⟩⟩;rw [a5];refine lS (Zt (Z4 (r:=yC K false) Iz (pv 4) (Zi (Zb Ze (Zb Ze (Zb Ze Za)))) (by with_unfolding_all rfl)) Zn Zk) (lP rfl ⟨lR,fun l9 H9 s9 n9 e9=>⟨l9,_,rfl,.inr (mD e9),rfl,rfl,_,rfl,?_⟩⟩);rw [show (if false=true then !oo (V.str (qF r)) [V.str "held",V.str "taken",V.str "stiff"] else oo (V.str (qF r)) [V.str "held",V.str "taken",V.str "stiff"])=decide (4<=r) from a8,<-M8];have T7:=s2.trans (s28.trans s9);cases po with
   | none=>exact X0 (lU (Zm (pv 4)) ⟨_,rfl,(q H9 T7).1 rfl⟩)
   | some p =>
    obtain ⟨d,rfl,hd9⟩:=hpo.mono T7;obtain ⟨fI,xi⟩:∃fI,XI K (rf T r) T.ay fI "part" :=by
     have:=show 4<=r from by simpa using M8
     obtain rfl | rfl:r=4\/r=5:=by lia
     ·exact ⟨_,T.dB⟩
     ·exact ⟨_,T.eW⟩
    exact W7 (lU (Zm (Zi (Zb (pv 4) (Zb (Nz (pv 1) rfl) Za)))) ⟨_,rfl,_,rfl,ea,_,_,d,_,_,rfl,(s28.trans s9).at he,hd9,xi.cls,xi.xa,xi.na,rfl,lR,fun t HA sA nA eA=>(q HA (T7.trans sA)).2 p rfl t eA⟩)
  ·intro σ H' z;exact lU (Zm Ze) z
structure Bk(H H' H3:Hp):Prop where
 old:∀b u o,H b=some u->H' b=some o->H3 b=some o
 soft:∀b o,H' b=some o->(∀ob,o≠Fz ob)->H3 b=some o
def Z8.soft(sf:∀b o,H b=some o->(∀ob,o≠Fz ob)->H3 b=some o)(h:Z8 H l ss):Z8 H3 l ss :=
 let ⟨ts,h1,h2⟩:=h;⟨ts,sf _ _ h1 (fun _ z=>nomatch z),mw h2 fun _ _ r=>sf _ _ r fun _ z=>nomatch z⟩
def mF.back{F:kS->Prop}{val:kR->kQ Z0}(h:mF U H0 H F x tr ad lw val ln)(b:Bk G H H3)(s:lK H0 G):mF U H0 H3 (fun a=>F a/\∃o,H a=some o/\H3 a=some o) x tr ad lw val ln :=
 have k:=b.soft _ _ h.obj fun _ z=>nomatch z
 have k2:=b.soft _ _ h.lens fun _ z=>nomatch z
 have k3:=b.soft _ _ h.pth.1 fun _ z=>nomatch z
 ⟨k,b.soft _ _ h.lies (fun _ z=>nomatch z),b.soft _ _ h.sti (fun _ z=>nomatch z),k2,⟨k3,fun e he=>(h.pth.2 e he).soft b.soft⟩,h.nm,h.lnd,h.len,h.vl,h.ok,⟨h.fx,_,h.obj,k⟩,⟨h.fn,_,h.lens,k2⟩,⟨h.fp,_,h.pth.1,k3⟩,h.ne,fun z=>h.nl z.1,fun z=>h.ns z.1,fun e he z=>h.ni e he z.1,fun a z=>h.free a z.1,fun a o e=>b.old a o o (s.at e) (h.same.at e),fun a z=>let ⟨o,z1,z2⟩:=z.2;⟨o,z2,fun xs e=>let ⟨o',y,n⟩:=h.live a z.1;n xs (mW (y.symm.trans z1) ▸ e)⟩⟩
def WE.imp(h:WE X e σ H Q)(i:∀v H',Q v H'->Q' v H'):WE X e σ H Q':=⟨fun a9 s I=>ma (h.run a9 s I) fun u s' ⟨v,H',J,r,q⟩=>⟨v,H',J,r,i _ _ q⟩⟩
def Xf(cl:qr H Pt fl ql la lb ls clos)
  (hp:Paired (fun x v=>∃(i:Nat) (a:kS),X.N[i]? =some x/\σ[i]? =some (some v)/\X.env.scope.names.lookup x=some .cell/\X.env.cells.lookup x=some a/\ls.names.lookup x=some .free/\clos.lookup x=some a) fs fvs) (j7:∀p∈clos,p.1∈fs) (one:(clos.map Prod.fst).Nodup) (apart:(clos.map Prod.snd).Nodup)
  (hb:∀(pm c6 y7:kT),bindArgs (PySem.W.kla_fn "<lambda>" ql la lb ls clos pm c6 y7) ⟨[],[]⟩=pure []) (p7:∀y∈ls.names,y.2=.free->y.1∈fs) (hnc:∀y∈ls.names,y.2 ≠ .cell)
  (hk:ls.kind=.function) (hco:ls.isCoroutine=false) (T5:ls.isGenerator=false)
  (body:∀(G:Hp) (c:kS) (A:lu) (lJ:kQ Env) (s:kU) (E:XK),lK H G->(∀r po dx H',r<6->po.isSome=decide (4<=r)->lK G H'->tZ H' dx po->Bi H r po Q->E (.ref (rf T r)) dx H')->Y5 8 (A.deeper (PySem.W.envX ql ls s.heap.objs.size fl (.ref c) clos))->WE (zd P w K mg lL fs ql ls fl (.ref c) clos A lJ s G E) lb (fvs.map some) G (fun _ H'=>∀H3,Bk H H' H3->Q (.str "done") H3)) :
  Fh X σ H (fun H2 Q2=>Dv P w lL T [.ref fl] H2 Q2 E0) Q:=by
 intro H2 s2 cs;have nn:∀p∈clos,H p.2=none:=fun p hm=>by
  obtain ⟨j,hj,e⟩:=sv (j7 p hm);obtain ⟨v,_,i,a,h1,h2,h3,h4,h5,h6⟩:=oO hp (i:=j) (a:=p.1) (by rw [oh hj,e]);rw [AA one hm] at h6;cases h6;exact (cs i _ _ _ h1 h2 h3 h4).1
 have L:ua H2 ls clos fs fvs:=⟨mw hp fun x v ⟨i,a,h1,h2,h3,h4,h5,h6⟩=>⟨h5,a,h6,(cs i _ _ _ h1 h2 h3 h4).2⟩,j7,one,apart⟩
 have sG:lK H (offL H2 clos):=fun b o e=>by
  rw [rZ]
  ·exact s2.at e
  ·intro z;obtain ⟨p,hm,rfl⟩:=mh.mp z;rw [nn p hm] at e;cases e
 refine ⟨fl,rfl,(cl.mono s2).fn,Vr (cl.mono s2) L hb p7 hnc hk hco T5 fun c A lJ s hr=>WE.imp (body _ c A lJ s _ sG (fun r po dx H' h6 M8 s' hd ht w9 sm _=>⟨r,po,h6,rfl,hd.mono sm,M8,fun H5 s5=>?_⟩) hr) fun v H' q w9 sm _ H3 _ old soft=>q H3 ⟨fun b u o z y=>old b u o z (sm.at y),fun b o y n=>soft b o (sm.at y) n⟩⟩;have O7:=sG.trans (s'.trans (sm.trans s5));have s3:∀{H3:Hp},(∀b u o,H b=some u->H5 b=some o->H3 b=some o)->lK H H3:=fun old b u z=>old b u u z (O7.at z)
 exact ⟨fun z H3 _ old _=>(ht H3 (s3 old)).1 z,fun p z t e H3 _ old soft=>(ht H3 (s3 old)).2 p z t (soft _ _ e fun _ z=>nomatch z)⟩
def vS(h:Zr H' u e):Im K H' 1 (oq e) (.ref u):=sJ (n:=0) (mD h) (.cons (.str _) (.cons (.str _) .nil))
inductive Jp(K:kX):Sp
 | mk (sl t) (sg:kQ (kR×kR×kR)) (e):vs=[.ref sl,.ref t]->rB H sl sg->Zr H t e->(∀nm H',lK H H'->((nm,e):kR×Zh)∈qS sg->Q (.str nm) H')->(∀H',lK H H'->e∉sg.map Prod.snd->Q (.str "") H')->Jp K vs H Q E
def Sc:T.dq.O P w mg lL 1 (Jp K):=by
 refine T.dq.F.okW Ab ?_;rfl'
 ·obtain ⟨sl,t,sg,e,rfl,⟨gs,hg,hgs⟩,ht,q1,q2⟩:=h;intro X D;let I22:IF:=fun i σ H'=>(∃o2 o3 o4,σ=[some (.ref sl),some (.ref t),o2,o3,o4])/\lK H H'/\∀g∈sg.take i,g.2≠e
  refine lS (Xb ol rfl (Ym (pv 0)) (qG rfl (Zq (mP 2 Ab) (Zq (mP 3 Ab) (Zq (mP 4 Ab) Y9)))) Zn) (lP rfl ⟨lW hg,Wc (xs:=gs.map V.ref) I22 ⟨⟨none,none,none,rfl⟩,pH _,fun _ z=>nomatch z⟩ ?_ ?_ ?_⟩)
  ·rintro i σ H' _ ⟨_,sm,_⟩;exact lW (sm.at hg)
  ·rintro i v σ H' hi ⟨⟨o2,o3,o4,rfl⟩,sm,hn⟩;rw [mG] at hi;obtain ⟨tp,V4,rfl⟩:=mS.mp hi;obtain ⟨⟨n,p1,p2⟩,hq,h1⟩:=oO hgs V4;have hmem:=oE hq;refine ⟨tp,_,rfl,mD (sm.at h1),rfl,_,_,rfl,_,_,rfl,_,_,rfl,rfl,?_⟩;refine lU (Zt (om hr (Zi (Zb (pv 3) (Zb (pv 4) Za))) (pv 1)) Zn Zk) (lP rfl (lP rfl ⟨lR,fun t2 H2 s2 n2 e2=>(lP rfl (.inr (.inl ⟨1,oq (p1,p2),oq e,by left,.inl ⟨_,_,rfl,rfl⟩,vS e2,vS ((sm.trans s2).at ht),_,rfl,Yj (fun z=>?_) (fun z=>?_)⟩)))⟩))
   ·have z:(p1,p2)=e:=BZ (nM z);exact lU (Zm (pv 2)) (lP rfl (q1 n H2 (sm.trans s2) (mh.mpr ⟨(n,p1,p2),hmem,by rw [<-z]⟩)))
   have z:(p1,p2)≠e:=fun y=>z (mB (by rw [y]))
   refine ⟨⟨_,_,_,rfl⟩,sm.trans s2,fun g hg'=>?_⟩;rw [nq,hq] at hg';rcases mZ.mp hg' with x|x
   ·exact hn g x
   ·rw [nW.mp x];exact z
  ·rintro σ H' ⟨⟨o2,o3,o4,rfl⟩,sm,hn⟩;rw [lV,mv hgs,ow] at hn;exact lU (Zm Ze) (q2 H' sm fun z=>by
    obtain ⟨g,hg',y⟩:=mh.mp z;exact hn g hg' y)
abbrev Kp:=kR×kR×Nat
def nQ(kp:kQ Kp):kQ (kR×Nat):=kp.map fun p=>(p.1,p.2.2)
structure rJ(H:Hp)(kd:Addr)(ke:List (Str×Addr))(kp:List Kp):Prop where
 dct:H kd=some (.dK (Zs V.ref ke))
 tup:Paired (fun e p=>e.1=p.1/\H e.2=some (.tup [.str p.2.1,.int (p.2.2:Int)])) ke kp
def UD{α β:Type}{l:kQ (kR×α)}{m:kQ (kR×β)}(h:Paired (fun e p=>e.1=p.1) l m):l.map Prod.fst=m.map Prod.fst:=by
 induction h with
 | nil=>rfl
 | cons z _ ih=>rw [mH,mH,z,ih]
def Paired.mapM{α β:Type}{F G:α->β->Prop}{l:kQ α}{m:kQ β}(h:Paired F l m):(∀a b,a∈l->F a b->G a b)->Paired G l m:=by
 induction h with
 | nil=>exact fun _=>.nil
 | cons z _ ih=>exact fun f=>.cons (f _ _ mV z) (ih fun a b i=>f a b (nJ _ i))
def Paired.memL{α β:Type}{R:α->β->Prop}{l:kQ α}{m:kQ β}{a:α}(h:Paired R l m)(e:a∈l):∃b,b∈m/\R a b:=by
 obtain ⟨i,hi,z⟩:=sv e;obtain ⟨b,h1,h2⟩:=oO h (i:=i) (a:=a) (by rw [oh hi,z]);exact ⟨b,oE h1,h2⟩
def rJ.nm(h:rJ H kd ke kp):ke.map Prod.fst=kp.map Prod.fst:=by
 exact UD (mw h.tup fun _ _ z=>z.1)
def Wt(kp:kQ Kp):(nQ kp).map Prod.fst=kp.map Prod.fst:=by unfold nQ;rw [og];rfl
structure BK(T:Tx K mg)(H0 H:Hp)(F:Addr->Prop)(x tr:Addr)(ad:pJ)(lw:List (Str×Str))(val:Str->List Z0)(kd:Addr)(ke:List (Str×Addr))(kp:List Kp):Prop where
 k:mF T H0 H F x tr ad lw val (nQ kp)
 kept:rJ H kd ke kp
 in4:∀n∈kp.map Prod.fst,n∈[("ta" :Str), "b", "t2", "zug"]
 vl:∀p∈kp,val p.1=[((p.2.1, "", "a", ""):Z0)]
 nF:¬F kd
 nl:kd≠ad.ld
 ns:kd≠ad.sd
 n0:H0 kd=none
 nE:∀e∈ke,¬F e.2
 gv:∀p∈kp,Yx p.2.1
section
variable {U:Tx K mg} {H0 H H':Hp} {F:kS->Prop} {x tr kd:kS} {ad:pJ} {lw:kQ (kR×kR)} {val:kR->kQ Z0} {ln:kQ (kR×Nat)} {ke:kQ (kR×kS)} {kp:kQ Kp}
def rJ.mono(e:lK H H')(h:rJ H kd ke kp):rJ H' kd ke kp:=⟨e.at h.1,mw h.2 fun _ _ z=>⟨z.1,e.at z.2⟩⟩
def BK.mono(e:lK H H')(h:BK U H0 H F x tr ad lw val kd ke kp):BK U H0 H' F x tr ad lw val kd ke kp:=⟨h.k.mono e,h.kept.mono e,h.in4,h.vl,h.nF,h.nl,h.ns,h.n0,h.nE,h.gv⟩
def BK.nd(h:BK U H0 H F x tr ad lw val kd ke kp):(kp.map Prod.fst).Nodup:=by rw [<-Wt];exact h.k.lnd
def mF.setU(h:mF U H0 H F x tr ad lw val ln)(hk:H kd=some u)(nt:∀xs,u ≠ .tup xs)(he:∀e∈ad.es,e.2≠kd)(nF:¬F kd)(nl:kd≠ad.ld)(ns:kd≠ad.sd)(n0:H0 kd=none):mF U H0 (upd H kd o) F x tr ad lw val ln:=by
 have f:∀{b:kS},F b->b≠kd:=fun z y=>nF (y ▸ z)
 have u:∀{b:kS} {v:HO},b≠kd->H b=some v->upd H kd o b=some v:=fun n z=>by rw [Zd n];exact z
 exact ⟨u (f h.fx) h.obj,u nl.symm h.lies,u ns.symm h.sti,u (f h.fn) h.lens,h.pth.offC (f h.fp) he hk nt,h.nm,h.lnd,h.len,h.vl,h.ok,h.fx,h.fn,h.fp,h.ne,h.nl,h.ns,h.ni,h.free,fun b v e=>u (Zg e n0) (h.same.at e),fun b z=>let ⟨v,y,n⟩:=h.live b z;⟨v,u (f z) y,n⟩⟩
def mF.setK(h:mF U H0 H F x tr ad lw val ln)(hk:H kd=some (.dK kvs))(nF:¬F kd)(nl:kd≠ad.ld)(ns:kd≠ad.sd)(n0:H0 kd=none):mF U H0 (upd H kd o) F x tr ad lw val ln :=
 h.setU hk (fun _ z=>nomatch z) (fun e he z=>by obtain ⟨ts,y,_⟩:=h.pth.2 e he;rw [z,hk] at y;cases y) nF nl ns n0
def rJ.has(h:rJ H kd ke kp)(nd:(kp.map Prod.fst).Nodup){nm:kR}:(Y2 (Zs V.ref ke) (Y7 nm)).isSome=decide (nm∈kp.map Prod.fst):=by
 by_cases z:nm∈ke.map Prod.fst
 ·obtain ⟨e,he,rfl⟩:=mh.mp z;rw [show Y2 (Zs V.ref ke) (Y7 e.1)=some (.ref e.2) from Xy (by rw [h.nm];exact nd) he,mB (h.nm ▸ z)];rfl
 ·rw [show Y2 (Zs V.ref ke) (Y7 nm)=none from Xz z,mO (h.nm ▸ z)];rfl
def rJ.drop{nm:kR}(h:Paired (fun (e:kR×kS) (p:Kp)=>e.1=p.1/\H e.2=some (.tup [.str p.2.1,.int (p.2.2:Int)])) ke kp):Paired (fun (e:kR×kS) (p:Kp)=>e.1=p.1/\H e.2=some (.tup [.str p.2.1,.int (p.2.2:Int)])) (ke.filter fun p=>decide (p.1≠nm)) (kp.filter fun p=>decide (p.1≠nm)):=by
 induction h with
 | nil=>exact .nil
 | @cons e p es ps z hs ih =>
  by_cases y:p.1=nm
  ·rw [Mj (by rw [z.1,y];simp),Mj (by rw [y];simp)];exact ih
  ·rw [MQ (by rw [z.1];exact mB y),MQ (by exact mB y)];exact .cons z ih
end
def Fu(H0 H:Hp)(F:kS->Prop)(x tr:kS)(ad:pJ)(lw:kQ (kR×kR))(kd:kS)(Q:VK):Prop:=∀H' F' x8 D7 ke' kp',BK T H0 H' F' x tr x8 lw D7 kd ke' kp'->(∀b,F' b->F b\/H b=none)->qW (fun b=>F b\/b=kd) H H'->ad.on H x8->Q (.bl true) H'
inductive Kq:Sp
 | mk (H0) (F:kS->Prop) (x tr kd ad lw) (val:kR->kQ Z0) (ke kp cell):vs=[.ref x,.ref kd,.int cell]->BK T H0 H F x tr ad lw val kd ke kp->pY T H0->Fu T H0 H F x tr ad lw kd Q->Kq vs H Q E
def To:T.cJ.O P w mg lL 11 (Kq T):=by
 refine T.cJ.F.okL T.dw zR fun cdc A lJ s H vs Q E hL hr h=>?_
 ·obtain ⟨H0,F,x,tr,kd,ad,lw,val,ke,kp,cell,rfl,hb,tb,q⟩:=h;intro X D;obtain ⟨j,hj,hj6⟩:=tV (a:=cell) (n:=6) (by left);have hj:cell%6=(j:Int):=hj;obtain ⟨v,hv,ho⟩:∃v,[V.str "ta",.str "b",.str "t2",.str "zug",.str "zz",.non][j]? =some v/\(v=.non\/∃n:kR,v=.str n):=by
   match j,hj6 with
   | 0,_=>exact ⟨_,rfl,.inr ⟨_,rfl⟩⟩
   | 1,_=>exact ⟨_,rfl,.inr ⟨_,rfl⟩⟩
   | 2,_=>exact ⟨_,rfl,.inr ⟨_,rfl⟩⟩
   | 3,_=>exact ⟨_,rfl,.inr ⟨_,rfl⟩⟩
   | 4,_=>exact ⟨_,rfl,.inr ⟨_,rfl⟩⟩
   | 5,_=>exact ⟨_,rfl,.inl rfl⟩
   | _+6,z=>exact absurd z (by lia)
  refine lS (me 4 zR (ml (Zl (Zb Ze (Zb Ze (Zb Ze (Zb Ze (Zb Ze (Zb rG Za))))))) (Zo Yi (pv 2) Zf))) ⟨lR,fun l1 H1 s1 n1 e1=>(lP rfl (mz rfl rfl ⟨(by show (0:Int)<6;decide),.inl ⟨l1,_,_,v,rfl,rfl,lW e1,by show nU _ (cell%6)=_;rw [hj];exact Xn hv,?_⟩⟩))⟩;refine lS (me 3 zR Ze) ?_;have T2:=hb.mono s1
  by_cases hm:∃nm:kR,v=.str nm/\nm∈kp.map Prod.fst
  ·obtain ⟨nm,rfl,hm⟩:=hm;obtain ⟨e,he,rfl⟩:=mh.mp (hb.kept.nm ▸ hm);have hg:Y2 (Zs V.ref ke) (Y7 e.1)=some (.ref e.2):=Xy (by rw [hb.kept.nm];exact hb.nd) he;refine nX (fun σ H'=>σ=[some (.ref x),some (.ref kd),some (.int cell),some (.str "done"),some (.str e.1)]/\H'=upd H1 kd (.dK (Zs V.ref (ke.filter fun p=>decide (p.1≠e.1))))) (oi (Zt (Z4 (r:=vt K) (xT hr) (pv 4) (pv 1) (by with_unfolding_all rfl)) Zn Zk) (lP rfl (lP rfl (.inr (.inr (.inl ⟨kd,_,rfl,pp (k:=Y7 e.1) T2.kept.dct,_,rfl,?_⟩)))))) ?_
   ·rw [hg];refine W7 (lS (me 3 zR Ze) (lU (Zy (CV (pv 1) (pv 4) ⟨rfl,rfl,rfl,rfl⟩)) ⟨_,rfl,kd,rfl,.inl ⟨_,.inl T2.kept.dct⟩,_,rfl,_,Y7 e.1,_,T2.kept.dct,rfl,hg,rfl,?_⟩));rw [Dm]
   rintro σ H2 ⟨rfl,rfl⟩;have hw:=T2.k.setK (o:=.dK (Zs V.ref (ke.filter fun p=>decide (p.1≠e.1)))) T2.kept.dct hb.nF hb.nl hb.ns hb.n0;have U2:∀{b:kS} {o:HO},b≠kd->H b=some o->upd H1 kd (.dK (Zs V.ref (ke.filter fun p=>decide (p.1≠e.1)))) b=some o:=fun n z=>by rw [Zd n];exact s1.at z
   have J5:upd H1 kd (.dK (Zs V.ref (ke.filter fun p=>decide (p.1≠e.1)))) kd=some (.dK (Zs V.ref (ke.filter fun p=>decide (p.1≠e.1)))):=Zc;have p7:∀b,upd H1 kd (.dK (Zs V.ref (ke.filter fun p=>decide (p.1≠e.1)))) b=none->H b=none:=fun b z=>by
    cases y:H b with
    | none=>rfl
    | some o =>
     by_cases n:b=kd
     ·rw [n,Zc] at z;cases z
     ·rw [U2 n y] at z;cases z
   generalize upd H1 kd (.dK (Zs V.ref (ke.filter fun p=>decide (p.1≠e.1))))=H2 at hw U2 J5 p7;refine lU (Zm (rC hr (Wp (Ys T) hr.m (fun _=>rfl) rfl T.ae.m T.ae.F.kp T.ae.b (Zb (rS (Pt:=T.bc) rfl hL) Za)) (pv 3))) ⟨_,(tb.mono hw.same)._law_leave,mV,fun fl H3 s3 n3 cl=>Xf T cl (fs:=["_law_keeper", "_law_name"]) (fvs:=[.ref x,.str e.1]) (.cons ⟨0,_,rfl,rfl,rfl,rfl,rfl,rfl⟩ (.cons ⟨4,_,rfl,rfl,rfl,rfl,rfl,rfl⟩ .nil)) ?_ ?_ ?_ (fun _ _ _=>rfl) (by trivial) (by trivial) rfl rfl rfl fun G c A lJ s E sG _ hr=>pM (Z7 (pv 0) T.ac T.de (Ua T) hr.m T.aE.b .nil Z3 (Zb (pv 1) Za)) (lP rfl ⟨x,ad.dx,_,rfl,sG.at (s3.at hw.obj),rfl,_,rfl,H0,F,x,tr,ad,lw,val,nQ kp,e.1,rfl,hw.mono (s3.trans sG),by rw [Wt];exact hm,fun H4 x8 off k4 a H5 bk=>(lP rfl (.inl ⟨rfl,?_⟩))⟩)⟩
   ·simp
   ·simp;decide +kernel
   ·simp
   have at5:∀{b:kS} {o:HO},¬F b->H2 b=some o->H5 b=some o:=fun n z=>bk.old _ _ _ (s3.at z) (off _ _ n (sG.at (s3.at z)))
   have k5:=k4.back bk (hw.same.trans s3);rw [show (nQ kp).filter (fun p=>decide (p.1≠e.1))=nQ (kp.filter fun p=>decide (p.1≠e.1)) from by unfold nQ;rw [CA];rfl] at k5;have sub:∀p∈kp.filter (fun p=>decide (p.1≠e.1)),p∈kp:=fun p z=>(sy.mp z).1
   have kn:∀z∈ke,z.2≠kd:=fun z hz y=>by
    obtain ⟨p,_,z2⟩:=Paired.memL hb.kept.tup hz;rw [y,hb.kept.dct] at z2;cases z2.2
   refine q H5 _ x8 val _ _ ⟨k5,⟨at5 hb.nF J5,rJ.drop (Paired.mapM hb.kept.tup fun z p hz y=>⟨y.1,at5 (hb.nE z hz) (U2 (kn z hz) y.2)⟩)⟩,fun n hn=>?_,fun p hp=>hb.vl p (sub p hp),fun z=>hb.nF z.1,a.1 ▸ hb.nl,a.2.1 ▸ hb.ns,hb.n0,fun z hz y=>hb.nE z (sy.mp hz).1 y.1,fun p hp=>hb.gv p (sub p hp)⟩ (fun b z=>.inl z.1) (fun b o n z=>at5 (fun y=>n (.inl y)) (U2 (fun y=>n (.inr y)) z)) ⟨a.1,a.2.1,fun z hz=>(a.2.2 z hz).imp id fun y=>p7 _ ((s3.trans sG).free y)⟩;obtain ⟨p,hp,rfl⟩:=mh.mp hn;exact hb.in4 _ (ze (sub p hp))
  ·have odd:vC v (fun n=>n∈(nQ kp).map Prod.fst):=by
    rcases ho with rfl|⟨n,rfl⟩
    ·exact MN rfl fun _=>rfl
    ·exact Dx fun z=>hm ⟨n,rfl,by rw [<-Wt];exact z⟩
   have fin:∀{H2:Hp},lK H H2->Q (.bl true) H2:=fun {H2} s=>q H2 F ad val ke kp (hb.mono s) (fun b z=>.inl z) (fun b o _ z=>s.at z) ⟨rfl,rfl,fun _ z=>.inl z⟩
   let I23:IC:=fun σ H'=>σ=[some (.ref x),some (.ref kd),some (.int cell),some (.str "train"),some v]/\H'=H1
   refine nX I23 (oi (Zt (Z4 (r:=vt K) (xT hr) (pv 4) (pv 1) (by with_unfolding_all rfl)) Zn Zk) (lP rfl (lP rfl ?_))) ?_
   ·rcases ho with rfl|⟨n,rfl⟩
    ·exact .inl ⟨kd,_,rfl,rfl,T2.kept.dct,_,rfl,X0 ⟨rfl,rfl⟩⟩
    ·refine .inr (.inr (.inl ⟨kd,_,rfl,pp (k:=Y7 n) T2.kept.dct,_,rfl,?_⟩));rw [T2.kept.has hb.nd,mO fun z=>hm ⟨n,rfl,z⟩];exact X0 ⟨rfl,rfl⟩
   rintro σ H2 ⟨rfl,rfl⟩;refine lU (Zm (rC hr (Wp (Ys T) hr.m (fun _=>rfl) rfl T.ae.m T.ae.F.kp T.ae.b (Zb (rS (Pt:=T.bc) rfl hL) Za)) (pv 3))) ⟨_,(tb.mono T2.k.same)._law_leave,mV,fun fl H3 s3 n3 cl=>Xf T cl (fs:=["_law_keeper", "_law_name"]) (fvs:=[.ref x,v]) (.cons ⟨0,_,rfl,rfl,rfl,rfl,rfl,rfl⟩ (.cons ⟨4,_,rfl,rfl,rfl,rfl,rfl,rfl⟩ .nil)) ?_ ?_ ?_ (fun _ _ _=>rfl) (by trivial) (by trivial) rfl rfl rfl fun G c A lJ s E sG hE hr=>pM (Z7 (pv 0) T.ac T.de (PR T) hr T.aE.b .nil wr (Zb (pv 1) Za)) (lP rfl ⟨x,ad.dx,_,rfl,sG.at (s3.at T2.k.obj),rfl,_,rfl,H0,F,x,tr,ad,lw,val,nQ kp,v,rfl,T2.k.mono (s3.trans sG),odd,fun H4 s4=>hE 3 none none H4 (by left) rfl s4 rfl fun H5 s5=>⟨fun _=>(lP rfl (.inl ⟨rfl,fin (s1.trans (s3.trans s5))⟩)),fun _ z=>nomatch z⟩⟩)⟩
   ·simp
   ·simp;decide +kernel
   ·simp
def pC.offL(h:pC H C x nm)(hc:H c=some (.lst xs)):pC (upd H c o) C x nm:=by
 obtain ⟨dx,h⟩:=h;exact ⟨dx,(Zd fun z=>by rw [z,hc] at h;cases h).trans h⟩
def Ir(H:Hp)(t:kS)(ps:kQ Zh)(js:kQ (Zh×Zh))(sg:kQ (kR×kR×kR)):Prop:=∃pl jl sl,H t=some (.tup [.ref pl,.ref jl,.ref sl])/\Zv H pl ps/\Yl H jl js/\rB H sl sg
inductive JG:Sp
 | mk (t ps js sg):vs=[.ref t]->Ir H t ps js sg->oZ ps js sg->(∀x H',lK H H'->H x=none->Yf T H' x ps js sg->Q (.ref x) H')->JG vs H Q E
def Uu:T.dm.O P w mg lL 7 (JG T):=by
 refine T.dm.F.okA ?_;rfl'
 ·obtain ⟨t,ps,js,sg,rfl,⟨pl,jl,sl,ht,⟨ts,g8,d9⟩,u7,Q9⟩,yv,q⟩:=h;intro X D;have M4:=mv d9;have ylen:=yv.len;refine lU (Zm (X6 (Dr T) T.gA (Ld T) hr.m rfl T.gQ T.aX.b .nil Z3 (Ga T) (Zb (ph ["_law_kind_here", "_law_name"] (nZ 2 [] rfl) (Ym (ml (pv 0) Zf)) (ux (K:=K) (n:=2) rfl rfl (Zq (ng 0) (Zq (ng 1) Y9))) Wk (Zx (Qi T) hr (Zb (pv 0) (Zb (pv 1) Za)))) (Zb (ml (pv 0) Zf) (Zb (ml (pv 0) Zf) Za))))) (lP rfl (mQ ht 0 rfl ⟨lW g8,fun D hD=>Xv (K:=K) (xs:=ts.map V.ref) (fun i ys H'=>(∃xs:kQ kS,ys=xs.map V.ref/\Paired (PO T H') xs (ps.take i))/\H' D=some (.lst ys)/\lK H H') ⟨⟨[],rfl,.nil⟩,Zc,nY hD⟩ ?_ ?_ ?_⟩))
  ·rintro i ys H' _ ⟨_,_,sm⟩;exact lW (sm.at g8)
  ·rintro i v ys H1 hi ⟨⟨xs,rfl,hxs⟩,N2,s1⟩;rw [mG] at hi;obtain ⟨u,hu,rfl⟩:=mS.mp hi;obtain ⟨p,hp,hpu⟩:=oO d9 hu;have hpu:H u=some (.tup [.str p.1,.str p.2]):=hpu;have hm:p∈ps:=oE hp;have hxl:xs.length<=100:=by
    have:=mv hxs;rw [nI] at this;lia
   refine ⟨u,_,rfl,mD (s1.at hpu),rfl,_,_,rfl,_,_,rfl,rfl,(nS rfl).trans (nS rfl),_,rfl,_,rfl,p.1,p.2,rfl,yv.net.kind p hm,(yv.name p hm).2.1,fun x C H2 s2 n2 hC hO=>⟨s2.at N2,by rw [lV];exact Zp (by lia),⟨xs++[x],by rw [mq];rfl,?_⟩,Zc,fun b o z=>?_⟩⟩
   ·rw [nq,hp];exact oP (mw hxs fun _ _ ⟨C,z1,z2⟩=>⟨C,z1,(z2.mono s2).offL (s2.at N2)⟩) (.cons ⟨C,hC,hO.offL (s2.at N2)⟩ .nil)
   ·rw [Zd (Zg z hD)];exact s2.at (s1.at z)
  ·rintro ys H1 ⟨⟨xs,rfl,hxs⟩,N2,s1⟩;rw [lV,M4,ow] at hxs;exact ⟨_,rfl,(mQ (s1.at ht) 1 rfl ⟨_,rfl,(mQ (s1.at ht) 2 rfl ⟨D,jl,sl,xs,ps,js,sg,rfl,N2,hxs,u7.mono s1,Q9.mono s1,yv,fun x H2 s2 n2 tr=>q x H2 (s1.trans s2) (s1.free n2) tr⟩)⟩)⟩
def Wn(f:kR->Bool)(ps:kQ Zh):kQ kR:=(ps.filter fun p=>f p.1).map Prod.snd
def Ch(f:kR->Bool)(ps:kQ Zh):(Wn f ps).length<=ps.length:=by
 unfold Wn;rw [lV];exact xb _ _
def NR{f:kR->Bool}  :n∈Wn f ps↔∃k,((k,n):Zh)∈ps/\f k=true:=by
 unfold Wn
 constructor
 ·intro h;obtain ⟨p,hp,rfl⟩:=mh.mp h;obtain ⟨h1,h2⟩:=sy.mp hp;exact ⟨p.1,h1,h2⟩
 ·rintro ⟨k,h1,h2⟩;exact mh.mpr ⟨_,sy.mpr ⟨h1,h2⟩,rfl⟩
def Di{f:kR->Bool}(hl:H1 pl=some (.lst (ts.map V.ref)))(hp:Paired (Zr H1) ts ps)(hn:ps.length<=100)(hD:H1 D=none)(q:∀H',lK H1 H'->H' D=some (.lst ((Wn f ps).map V.str))->Q (.ref D) H'){fr:St->St}(p7:fr σ=[none,none])(htf:∀σ H Q k',σ[0]? =some (some (V.str k'))->Q (f k') H->tf σ H Q)(O8:te=qp 1) :
  pS (rc K pl) fr (EZ K 2 (Ev (pZ 0) (Ev (pZ 1) Jh))) tf te Q σ H1 D:=by
 refine Xv (xs:=ts.map V.ref) (fun i ys H'=>ys=(Wn f (ps.take i)).map V.str/\H' D=some (.lst ys)/\lK H1 H') ⟨rfl,Zc,nY hD⟩ ?_ ?_ ?_
 ·rintro i ys H' _ ⟨_,_,sm⟩;exact lW (sm.at hl)
 ·rintro j v ys H' hj ⟨rfl,v6,sm⟩;rw [mG] at hj;obtain ⟨t,htj,rfl⟩:=mS.mp hj;obtain ⟨⟨k',n'⟩,hq,P6⟩:=oO hp htj;have D9:=Ch f (ps.take j);rw [nI] at D9;have hsn:Wn f (ps.take (j+1))=Wn f (ps.take j)++if f k'=true then [n'] else []:=by
   unfold Wn;rw [nq,hq,wD,mq,show (some ((k',n'):Zh)).toList=[(k',n')] from rfl,sS];split <;>rfl
  unfold Wi;rw [p7,O8];refine ⟨t,_,rfl,mD (sm.at P6),rfl,_,_,rfl,_,_,rfl,rfl,(nS rfl).trans (nS rfl),htf _ _ _ k' rfl (Yj (fun z=>?_) (fun z=>?_))⟩
  ·rw [hsn,lZ z];refine (lP rfl ⟨v6,by rw [lV];exact Zp (by lia),by rw [mq];rfl,Zc,fun b o y=>?_⟩);rw [Zd (Zg y hD)];exact sm.at y
  ·rw [hsn,lY z,pz];exact ⟨rfl,v6,sm⟩
 ·rintro ys H6 ⟨rfl,E9,s6⟩;refine q H6 s6 ?_;rw [E9,lV,mv hp,ow]
def SH{v:V}{ss:kQ kR}(h:oo v (ss.map V.str)=true):∃m∈ss,v=.str m:=by
 unfold oo at h;rw [List.any_map] at h;obtain ⟨m,hm,e⟩:=List.any_eq_true.mp h;have e:qc (.str m) v=true:=e;refine ⟨m,hm,?_⟩;cases v with
 | str k=>rw [eq_of_beq (show (m ==k)=true from e)]
 | _=>cases e
def PU{fr:St->St}(Pv:Nat->kQ V->Hp->Prop)(h0:Pv 0 [] (upd H1 D (.lst [])))(hl:∀i ys H,i<=kvs.length->Pv i ys H->H d=some (.frz o (.dK kvs)))
  (hs:∀i kv ys H,kvs[i]? =some kv->Pv i ys H->Wi fr g tf te σ D (kV kv.1) ys H (Pv (i+1))) (hd:∀ys H,Pv kvs.length ys H->Q (.ref D) H):pS (wy d o kvs) fr g tf te Q σ H1 D:=by
 refine ⟨fun i m ys H=>m=kvs.length-i/\i<=kvs.length/\Pv i ys H,⟨kvs.length,by simp,oJ _,h0⟩,?_⟩;rintro i m ys H ⟨rfl,hi,p⟩;have q:=hl i ys H hi p
 by_cases c8:i<kvs.length
 ·refine .inr ⟨⟨q,c8⟩,Pv (i+1),fun V3 H' p'=>⟨kvs.length-(i+1),by lia,rfl,c8,p'⟩,fun x H' y=>?_⟩;obtain ⟨e,kv,A0,ex⟩:=y;subst e ex;exact hs i kv ys _ A0 p
 ·have e:i=kvs.length:=by lia
  subst e;exact .inl ⟨⟨q,mn _⟩,hd ys H p⟩
theorem Ca{α:Type}[DecidableEq α]:∀{l m:kQ α},l.Nodup->(∀x∈l,x∈m)->l.length<=m.length
 | [],_,_,_=>oJ _
 | a ::l,m,nd,h=>by
  obtain ⟨n1,n2⟩:=pj.mp nd;have ha:=h a mV;have:=Ca (m:=m.erase a) n2 fun x hx=>(List.mem_erase_of_ne fun z=>n1 (by rw [<-z];exact hx)).mpr (h x (nJ _ hx))
  rw [List.length_erase_of_mem ha] at this;have:=List.length_pos_of_mem ha;simp only [ou];lia
abbrev XF:kQ V:=[.str "ta",.str "b",.str "t2",.str "zug",.str "Z",.str "",.non,.str "abcdefg"]
abbrev yJ:kQ V:=[.str "Z",.str "",.non,.str "abcdefg"]
theorem Ur(T:Tx K mg):∀j,j<8->∃v,XF[j]? =some v/\qQ v=true/\(v=.non\/∃n:kR,v=.str n)/\((oo v yJ=true/\∀H,yV K H v false)\/(oo v yJ=false/\∃m:kR,v=.str m/\Yx m/\m∈[("ta" :kR), "b", "t2", "zug"]))
 | 0,_=>⟨_,rfl,rfl,.inr ⟨_,rfl⟩,.inr ⟨by trivial,_,rfl,by unfold Yx;decide +kernel,by trivial⟩⟩
 | 1,_=>⟨_,rfl,rfl,.inr ⟨_,rfl⟩,.inr ⟨by trivial,_,rfl,by unfold Yx;decide +kernel,by trivial⟩⟩
 | 2,_=>⟨_,rfl,rfl,.inr ⟨_,rfl⟩,.inr ⟨by trivial,_,rfl,by unfold Yx;decide +kernel,by trivial⟩⟩
 | 3,_=>⟨_,rfl,rfl,.inr ⟨_,rfl⟩,.inr ⟨by trivial,_,rfl,by unfold Yx;decide +kernel,by trivial⟩⟩
 | 4,_=>⟨_,rfl,rfl,.inr ⟨_,rfl⟩,.inl ⟨by trivial,fun _=>.inl ⟨_,rfl,by trivial,by trivial,by trivial⟩⟩⟩
 | 5,_=>⟨_,rfl,rfl,.inr ⟨_,rfl⟩,.inl ⟨by trivial,fun _=>.inl ⟨_,rfl,by trivial,by trivial,by trivial⟩⟩⟩
 | 6,_=>⟨_,rfl,rfl,.inl rfl,.inl ⟨by trivial,fun _=>.inr ⟨rfl,_,.non,T.ju⟩⟩⟩
 | 7,_=>⟨_,rfl,rfl,.inr ⟨_,rfl⟩,.inl ⟨by trivial,fun _=>.inl ⟨_,rfl,by trivial,by trivial,by trivial⟩⟩⟩
 | _+8,h=>absurd h (by lia)
abbrev WL:kQ V:=[.int 1,.int 2,.int 3,.int 4,.int 4,.int 3,.int 0,.int 5,.bl true,.non,.str "1",.int (-1)]
theorem Rz:∀j,j<12->∃v,WL[j]? =some v/\(5<j->BD v)/\(¬5<j->∃n:Nat,v=.int (n:Int)/\1<=n/\n<=4)
 | 0,_=>⟨_,rfl,fun z=>absurd z (by left),fun _=>⟨1,rfl,by left,by left⟩⟩
 | 1,_=>⟨_,rfl,fun z=>absurd z (by left),fun _=>⟨2,rfl,by left,by left⟩⟩
 | 2,_=>⟨_,rfl,fun z=>absurd z (by left),fun _=>⟨3,rfl,by left,by left⟩⟩
 | 3,_=>⟨_,rfl,fun z=>absurd z (by left),fun _=>⟨4,rfl,by left,by left⟩⟩
 | 4,_=>⟨_,rfl,fun z=>absurd z (by left),fun _=>⟨4,rfl,by left,by left⟩⟩
 | 5,_=>⟨_,rfl,fun z=>absurd z (by left),fun _=>⟨3,rfl,by left,by left⟩⟩
 | 6,_=>⟨_,rfl,fun _=>.inl ⟨0,rfl,by left⟩,fun z=>absurd (by left) z⟩
 | 7,_=>⟨_,rfl,fun _=>.inl ⟨5,rfl,by left⟩,fun z=>absurd (by left) z⟩
 | 8,_=>⟨_,rfl,fun _=>.inr (.inl ⟨_,rfl⟩),fun z=>absurd (by left) z⟩
 | 9,_=>⟨_,rfl,fun _=>.inr (.inr (.inl rfl)),fun z=>absurd (by left) z⟩
 | 10,_=>⟨_,rfl,fun _=>.inr (.inr (.inr ⟨_,rfl⟩)),fun z=>absurd (by left) z⟩
 | 11,_=>⟨_,rfl,fun _=>.inl ⟨-1,rfl,by left⟩,fun z=>absurd (by left) z⟩
 | _+12,h=>absurd h (by lia)
def vE{H:Hp}{l:kS}{ss:kQ kR}(h:H l=some (.lst (ss.map V.str))):Im K H 1 (.lst (ss.map Tr.str)) (.ref l):=tz (n:=0) (lW h) (Paired.strs _)
def wO(k:kR):Bool:=decide (V.str k=V.str "gate")
def Qk  :n∈Wn wO ps↔(("gate",n):Zh)∈ps:=by
 rw [NR]
 constructor
 ·rintro ⟨k,h1,h2⟩;rw [<-V.str.inj (nM h2)];exact h1
 ·exact fun h=>⟨_,h,mB rfl⟩
def Gj{val:kR->kQ Z0} (vl:∀p∈kp,val p.1=[((p.2.1, "", "a", ""):Z0)]):ur (nQ kp) val g↔g∈kp.map fun p=>p.2.1:=by
 unfold ur;rw [Wt]
 constructor
 ·rintro ⟨t,h1,h2⟩;obtain ⟨p,hp,rfl⟩:=mh.mp h1;rw [vl p hp] at h2;exact mh.mpr ⟨p,hp,(nW.mp h2).symm⟩
 ·intro h;obtain ⟨p,hp,rfl⟩:=mh.mp h;exact ⟨p.1,ze hp,by rw [vl p hp];exact nW.mpr rfl⟩
def On(h:rJ H kd ke kp)(nd:(kp.map Prod.fst).Nodup)(vk:v=.non\/∃n:kR,v=.str n)(yes:∀nm:kR,v=.str nm->nm∈kp.map Prod.fst->R (.bl true) H)(no:(∀nm:kR,v=.str nm->nm∉kp.map Prod.fst)->R (.bl false) H):vt K v (.ref kd) H R:=by
 rcases vk with rfl|⟨n,rfl⟩
 ·exact .inl ⟨kd,_,rfl,rfl,h.dct,no fun _ z=>nomatch z⟩
 ·refine .inr (.inr (.inl ⟨kd,_,rfl,pp (k:=Y7 n) h.dct,?_⟩));rw [h.has nd]
  by_cases z:n∈kp.map Prod.fst
  ·rw [mB z];exact yes n rfl z
  ·rw [mO z];exact no fun m y=>by rw [<-V.str.inj y];exact z
def Sb(H:Hp)(dv:V)(r:Nat):kW kR->Prop
 | none=>dv=.str (qF r)
 | some p=>∃t,dv=.ref t/\H t=some (.tup [.str (qF r),.str p])
def QT(H H7:Hp)(kd:kS)(ke:kQ (kR×kS))(val:kR->kQ Z0)(kp:kQ Kp)(td:kQ (kR×Bool))(ps:kQ Zh)(sg:kQ (kR×kR×kR))(v vl vg dv:V):Prop :=
 (∃r po,lK H H7/\r<6/\po.isSome=decide (4<=r)/\(∀G,DO T G val (nQ kp) td ps sg v vl vg (rf T r) po)/\Sb H7 dv r po) \/
 ∃(nm g:kR) (n:Nat) (tt:kS) (H6:Hp),v=.str nm/\vl=.int (n:Int)/\vg=.str g/\Gm val (nQ kp) td ps sg nm g n/\nm∈[("ta" :kR), "b", "t2", "zug"]/\dv=.str "done" /\lK H H6/\H tt=none/\H6 tt=some (.tup [.str g,.int (n:Int)])/\H7=upd H6 kd (.dK (Zs V.ref (ke++[(nm,tt)])))
structure LU(T:Tx K mg)(H0:Hp)(tr yd:Addr)(ps:List Zh)(js:List (Zh×Zh))(sg:List (Str×Str×Str)):Prop where
 tr:Yf T H0 tr ps js sg
 yv:oZ ps js sg
 tabs:pY T H0
 yd:Ir H0 yd ps js sg
inductive KH:Sp
 | mk (H0) (F:kS->Prop) (x tr yd kd dt ad lw) (val:kR->kQ Z0) (ke kp td ps js sg cell):vs=[.ref x,.ref yd,.ref kd,.int cell,.ref dt]->BK T H0 H F x tr ad lw val kd ke kp->LU T H0 tr yd ps js sg->H dt=some (.dK (Zs V.bl td))->¬F dt->dt≠kd->Fu T H0 H F x tr ad lw kd Q->KH vs H Q E
def Ux:T.cW.O P w mg lL 11 (KH T):=by
 refine T.cW.F.okL T.dQ Yk fun cdc A lJ s H vs Q E hL hr h=>?_
 ·obtain ⟨H0,F,x,tr,yd,kd,dt,ad,lw,val,ke,kp,td,ps,js,sg,cell,rfl,hb,g,E2,nFt,ndk,q⟩:=h;intro X D;obtain ⟨pl,jl,gl,y1,⟨us,y2,y2'⟩,y3,y4⟩:=id g.yd;have gH:=hb.k.same;have yv:=g.yv;have yl:=yv.len;let I24:IC:=fun σ H'=>∃al:kS,σ=[some (.ref x),some (.ref yd),some (.ref kd),some (.int cell),some (.ref dt),some (.ref al),none,none,none,none,none]/\lK H H'/\H' al=some (.lst ((Wn (fun _=>true) ps).map V.str))
  refine nX I24 ?_ ?_
  ·refine oi (vD 5 ["_law_kind_here", "_law_one"] Yk (nZ 2 [] rfl) (Ym (ml (pv 1) Zf)) (ux (K:=K) (n:=2) rfl rfl (Zq (ng 0) (Zq (ng 1) Y9))) Wk (pv 1)) (lP rfl (mQ (gH.at y1) 0 rfl ⟨lW (gH.at y2),fun D hD=>Di (f:=fun _=>true) (gH.at y2) (mw y2' fun _ _ r=>r.mono gH) (by lia) hD (fun HD sD eD=>⟨D,rfl,sD,eD⟩) ?aa (fun _ _ _ _ _ h=>h) ?cc⟩))
   case aa=>rfl
   case cc=>rfl
  rintro σ H1 ⟨al,rfl,s1,eal⟩;let I25:IC:=fun σ H'=>∃gt:kS,σ=[some (.ref x),some (.ref yd),some (.ref kd),some (.int cell),some (.ref dt),some (.ref al),some (.ref gt),none,none,none,none]/\lK H1 H'/\H' gt=some (.lst ((Wn wO ps).map V.str))
  refine nX I25 ?_ ?_
  ·have g1:=gH.trans s1;refine oi (vD 6 ["_law_kind_here", "_law_one"] Yk (nZ 2 [] rfl) (Ym (ml (pv 1) Zf)) (ux (K:=K) (n:=2) rfl rfl (Zq (ng 0) (Zq (ng 1) Y9))) (rP (Z4 (r:=zw K) (Df hr) (pv 0) Ze (Yw _))) (pv 1)) (lP rfl (mQ (g1.at y1) 0 rfl ⟨lW (g1.at y2),fun D hD=>Di (f:=wO) (g1.at y2) (mw y2' fun _ _ r=>r.mono g1) (by lia) hD (fun HD sD eD=>⟨D,rfl,sD,eD⟩) ?aa (fun _ _ _ _ e h=>⟨_,e,.inl ⟨rfl,_,rfl,h⟩⟩) ?cc⟩))
   case aa=>rfl
   case cc=>rfl
  rintro σ H2 ⟨gt,rfl,s2,egt⟩;have al1:=Ch (fun _=>true) ps;have gl1:=Ch wO ps;have gmem:∀n,n∈Wn wO ps↔(("gate",n):Zh)∈ps:=fun n=>Qk
  generalize Wn (fun _=>true) ps=as at eal al1;generalize Wn wO ps=gs at egt gl1 gmem;have s02:=s1.trans s2;obtain ⟨j3,hj3,hj33⟩:=tV (a:=cell / 8) (n:=3) (by left);have hj3:cell / 8%3=(j3:Int):=hj3;obtain ⟨m3,hm3,m38⟩:∃m:Nat,[V.int 4,.int 8,.int 4][j3]? =some (.int (m:Int))/\0<m/\m<=8:=by
   match j3,hj33 with
   | 0,_=>exact ⟨4,rfl,by left⟩
   | 1,_=>exact ⟨8,rfl,by left⟩
   | 2,_=>exact ⟨4,rfl,by left⟩
   | _+3,z=>exact absurd z (by lia)
  obtain ⟨j8,hj8,hj88⟩:=tV (a:=cell) (n:=m3) m38.1;obtain ⟨v,hv,fv,vk,vc⟩:=Ur T j8 (by lia);refine lS (me 10 Yk (ml (Zl (Zb Ze (Zb Ze (Zb Ze (Zb Ze (Zb Ze (Zb Ze (Zb rG (Zb Ze Za))))))))) (Zo Yi (pv 3) (ml (Zl (Zb Zf (Zb Zf (Zb Zf Za)))) (Zo Yi (Zo Yo (pv 3) Zf) Zf))))) ⟨lR,fun l3 H3 s3 n3 e3=>(lP rfl ⟨lR,fun l4 H4 s4 n4 e4=>(lP rfl (mz rfl rfl ⟨⟨by left,by left⟩,_,_,rfl,rfl,(by show (0:Int)<3;decide),.inl ⟨l4,_,_,.int (m3:Int),rfl,rfl,lW e4,by show nU _ (cell / 8%3)=_;rw [hj3];exact Xn hm3,_,_,rfl,rfl,(by lia),.inl ⟨l3,_,_,v,rfl,rfl,lW (s4.at e3),by rw [hj8];exact Xn hv,?_⟩⟩⟩))⟩)⟩;have P3:=s3.trans s4;obtain ⟨ja,hja,hjal⟩:=tV (a:=cell / 24) (n:=as.length+2) (by lia);obtain ⟨va,hva⟩:∃v,(as.map V.str++[V.str "zz",V.non])[ja]? =some v:=⟨_,oh (by rw [mY,lV];exact hjal)⟩
  have hak:va=.non\/∃n:kR,va=.str n:=by
   rcases mZ.mp (oE hva) with z|z
   ·obtain ⟨n,_,rfl⟩:=mh.mp z;exact .inr ⟨n,rfl⟩
   ·simp only [mI,uX,sR] at z;rcases z with rfl|rfl
    ·exact .inr ⟨_,rfl⟩
    ·exact .inl rfl
  refine lS (me 8 Yk (ml (Zo Wz (pv 5) (Zl (Zb Ze (Zb rG Za)))) (Zo Yi (Zo Yo (pv 3) Zf) (Zo Wz (oH T.bw (pv 5)) Zf)))) (lP rfl ⟨lR,fun l5 H5 s5 n5 e5=>.inr (.inr ⟨al,l5,_,_,rfl,rfl,(s2.trans (P3.trans s5)).at eal,e5,Zp (by show (List.map V.str as).length+1<=1000;rw [lV];lia),fun l6 H6 s6 n6 e6=>(lP rfl (mz rfl rfl ⟨⟨by left,by left⟩,_,rfl,.inl ⟨al,_,rfl,.inl (lW ((s2.trans (P3.trans (s5.trans s6))).at eal)),.inl (mz rfl rfl (mz rfl rfl ⟨?_,.inl ⟨l6,_,_,va,rfl,rfl,lW e6,?_,?_⟩⟩))⟩⟩))⟩)⟩)
  ·rw [lV];show (0:Int)<(as.length:Int)+2;lia
  ·rw [lV];show nU _ (cell / 24%((as.length:Int)+2))=_;rw [show ((as.length:Int)+2)=((as.length+2:Nat):Int) by lia,hja];exact Xn hva
  have s26:=P3.trans (s5.trans s6);let I26:IC:=fun σ H'=>∃vg,σ=[some (.ref x),some (.ref yd),some (.ref kd),some (.int cell),some (.ref dt),some (.ref al),some (.ref gt),none,some vg,none,some v]/\lK H2 H'/\(vg=.non\/∃n:kR,vg=.str n)
  refine nX I26 ?_ ?_
  ·refine oi (Zt (oM (xB (qi hr (pv 6) (Zl Za)) (wP (Z4 ug (Zo Yi (Zo Yo (pv 3) Zf) Zf) Zf (Yw _))))) Zn Zk) (lP rfl ⟨lR,fun le H7 s7 n7 e7=>.inr (.inl ⟨1,.lst (gs.map Tr.str),.lst [],by left,.inr ⟨_,_,rfl,rfl⟩,vE ((s26.trans s7).at egt),tz (n:=0) (lW e7) .nil,_,rfl,Yj (fun z=>?_) (fun z=>⟨va,rfl,s26.trans s7,hak⟩)⟩)⟩);have p0:0<gs.length:=Nat.pos_of_ne_zero fun y=>by
    rw [List.length_eq_zero_iff.mp y,lZ rfl,mB (show Tr.lst (List.map Tr.str [])=Tr.lst [] from rfl)] at z;cases z
   refine (lP rfl (mz rfl rfl ⟨⟨by left,by left⟩,_,_,rfl,rfl,(by show (0:Int)<4;decide),_,_,rfl,rfl,_,rfl,Yj (fun _=>?_) (fun _=>⟨va,rfl,s26.trans s7,hak⟩)⟩));have hg7:=(s26.trans s7).at egt;obtain ⟨j2,hj2,hj2l⟩:=tV (a:=cell / 96) (n:=gs.length) p0;refine lU (me 8 Yk (ml (pv 6) (Zo Yi (Zo Yo (pv 3) Zf) (oH T.bw (pv 6))))) (lP rfl (lP rfl (mz rfl rfl ⟨⟨by left,by left⟩,_,rfl,.inl ⟨gt,_,rfl,.inl (lW hg7),_,_,rfl,rfl,?_,.inl ⟨gt,_,_,.str gs[j2],rfl,rfl,lW hg7,?_,_,rfl,s26.trans s7,.inr ⟨_,rfl⟩⟩⟩⟩)))
   ·rw [lV];show (0:Int)<(gs.length:Int);lia
   ·rw [lV];show nU _ (cell / 96%(gs.length:Int))=_;rw [hj2];exact Xn (by rw [mG,oh hj2l];rfl)
  rintro σ H7 ⟨vg,rfl,s7,hgk⟩;obtain ⟨jl2,u7,hjl12⟩:=tV (a:=cell / 5000) (n:=12) (by left);have u7:cell / 5000%12=(jl2:Int):=u7;obtain ⟨vl,hvl,lodd,lok⟩:=Rz jl2 hjl12;refine lS (me 9 Yk (ml (Zl (Zb Zf (Zb Zf (Zb Zf (Zb Zf (Zb Zf (Zb Zf (Zb Zf (Zb Zf (Zb ri (Zb rG (Zb Ze (Zb (yQ xK Zf) Za))))))))))))) (Zo Yi (Zo Yo (pv 3) Zf) Zf))) (lP rfl ⟨lR,fun l8 H8 s8 n8 e8=>(lP rfl (mz rfl rfl ⟨⟨by left,by left⟩,_,_,rfl,rfl,(by show (0:Int)<12;decide),.inl ⟨l8,_,_,vl,rfl,rfl,lW e8,by show nU _ (cell / 5000%12)=_;rw [u7];exact Xn hvl,?_⟩⟩))⟩);refine lS (me 7 Yk Ze) ?_;have s08:=s02.trans (s7.trans s8);have hb8:=hb.mono s08;let I27:IC:=fun σ H'=>∃dv,σ=[some (.ref x),some (.ref yd),some (.ref kd),some (.int cell),some (.ref dt),some (.ref al),some (.ref gt),some dv,some vg,some vl,some v]/\QT T H H' kd ke val kp td ps sg v vl vg dv
  refine nX I27 ?_ ?_
  ·refine oi (Zt (oM (Wj (Z4 (r:=vt K) (xT hr) (pv 10) (pv 2) (by with_unfolding_all rfl)) (Wl (Z4 (r:=vt K) (xT hr) (pv 10) (Zl (Zb Ze (Zb Ze (Zb rG (Zb Ze Za))))) (by with_unfolding_all rfl))))) Zn Zn) (lP rfl (lP rfl (On hb8.kept hb.nd vk (fun nm e hm=>(lP rfl (W7 (W7 (lU (me 7 Yk Ze) (lP rfl (.inl ⟨0,none,s08,by left,rfl,fun _=>.inl ⟨rfl,rfl,.inr ⟨nm,e,?_,by rw [Wt];exact hm⟩⟩,rfl⟩))))))) fun A7=>(lP rfl (X0 (lP rfl ⟨lR,fun lb H9 s9 n9 e9=>.inr (.inl ⟨lb,_,rfl,.inl (lW e9),fv,rfl,_,rfl,Yj (fun z=>?_) (fun z=>?_)⟩)⟩))))))
   ·obtain ⟨p,hp,rfl⟩:=mh.mp (show nm∈(nQ kp).map Prod.fst by rw [Wt];exact hm);exact hb.k.ok p hp
   ·refine lU (me 7 Yk Ze) (lP rfl (.inl ⟨0,none,s08.trans s9,by left,rfl,fun G=>.inl ⟨rfl,rfl,.inl ?_⟩,rfl⟩));rcases vc with ⟨_,h⟩|⟨h,_⟩
    ·exact h G
    ·rw [show (if false=true then !oo v yJ else oo v yJ)=oo v yJ from rfl,h] at z;cases z
   obtain ⟨m,rfl,hm,hm4⟩:∃m:kR,v=.str m/\Yx m/\m∈[("ta" :kR), "b", "t2", "zug"]:=by
    rcases vc with ⟨h,_⟩|⟨_,h⟩
    ·exact absurd h z
    ·exact h
   have k8:m∉(nQ kp).map Prod.fst:=by rw [Wt];exact A7 m rfl
   have s79:=s7.trans (s8.trans s9);have s09:=s08.trans s9;refine lU (Zt (oM (Wj (sV hr (pv 8) (pv 6)) (Wl (om hr (Zx (Sc T) hr (Zb (ml (pv 1) Zf) (Zb (Zi (Zb (pv 8) (Zb Ze Za))) Za))) Ze)))) Zn Zn) (lP rfl (lP rfl (.inl ⟨gt,_,rfl,.inl (lW (s79.at egt)),?_,X5 _,_,rfl,Yj (fun y=>?_) (fun y=>?_)⟩)))
   ·rcases hgk with rfl|⟨n,rfl⟩ <;>rfl
   ·refine W7 (lU (me 7 Yk Ze) ⟨_,rfl,.inl ⟨1,none,s09,by left,rfl,fun _=>.inr ⟨m,rfl,hm,k8,.inl ⟨rfl,rfl,?_⟩⟩,rfl⟩⟩);rcases hgk with rfl|⟨n,rfl⟩
    ·exact MN rfl fun _=>rfl
    ·refine Dx fun w=>?_
     rw [show (if true=true then !oo (V.str n) (gs.map V.str) else oo (V.str n) (gs.map V.str))=!oo (V.str n) (gs.map V.str) from rfl,Wo,mB ((gmem n).mpr w)] at y;cases y
   obtain ⟨gg,hgg,rfl⟩:∃gg∈gs,vg=.str gg:=SH (by
    cases w:oo vg (gs.map V.str) with
    | true=>rfl
    | false=>exact absurd (show (if true=true then !oo vg (gs.map V.str) else oo vg (gs.map V.str))=true by rw [w];rfl) y)
   have hgg:=(gmem gg).mp hgg;have g9:=gH.trans s09;refine (lP rfl (mQ (g9.at y1) 2 rfl (lP rfl ⟨lR,fun t HA sA nA eA=>⟨gl,t,sg,(gg, "a"),rfl,y4.mono (g9.trans sA),eA,fun sn HB sB hq=>.inl ⟨rfl,_,rfl,?_⟩,fun HB sB hq=>.inl ⟨rfl,_,rfl,W7 (lU (me 7 Yk Ze) (lP rfl (.inl ⟨1,none,s09.trans (sA.trans sB),by left,rfl,fun _=>.inr ⟨m,rfl,hm,k8,.inr ⟨gg,rfl,hgg,.inl ⟨rfl,rfl,hq⟩⟩⟩,rfl⟩)))⟩⟩⟩)));obtain ⟨g3,hg3,eg3⟩:=mh.mp hq;have hsg:((gg, "a"):Zh)∈sg.map Prod.snd:=mh.mpr ⟨g3,hg3,(zN eg3).2⟩;have hsn:sn ≠ "" :=by rw [<-(zN eg3).1];exact yX (yv.sigs.name g3 hg3)
   rw [mO fun w=>hsn (V.str.inj w)];have U4:=s09.trans (sA.trans sB);refine X0 (lU (Zt (Z4 ug (Zo Yi (Zo Yo (pv 3) Zf) Zf) Zf (Yw _)) Zn Zn) ⟨_,rfl,_,_,rfl,rfl,⟨by left,by left⟩,_,_,rfl,rfl,(by show (0:Int)<12;decide),_,_,rfl,rfl,_,rfl,Yj (fun w=>?_) (fun w=>?_)⟩)
   ·have w:(5:Int)<cell / 5000%12:=nM w;exact lU (me 7 Yk Ze) (lP rfl (.inl ⟨2,none,U4,by left,rfl,fun _=>.inr ⟨m,rfl,hm,k8,.inr ⟨gg,rfl,hgg,.inr ⟨hsg,.inl ⟨rfl,rfl,lodd (by rw [u7] at w;lia)⟩⟩⟩⟩,rfl⟩))
   have w:¬(5:Int)<cell / 5000%12:=fun u=>w (mB u)
   obtain ⟨n,rfl,hn1,hn4⟩:=lok (by rw [u7] at w;lia);have hbB:=hb.mono U4;have hdB:=hbB.kept.dct;have enc:Zs V.ref ke=ke.map fun q=>(Sum.inr q.1,V.ref q.2):=rfl
   have kln:ke.length=kp.length:=mv hb.kept.tup;have k4:kp.length<=4:=by
    have:=Ca hb.nd hb.in4;rw [lV] at this;exact this
   refine lU (Zt (Z4 (r:=vt K) (xT hr) (pv 8) (AT (ph ["_law_one", "_law_kept"] (nZ 1 [2] rfl) (Lu (pv 2)) (ng 0) Wk (pR (K:=K) rfl (X9 (Xi hr) (pv 1) (pv 0) (fun _ _=>rfl)) Zf))) (by with_unfolding_all rfl)) Zn Zn) (lP rfl (lP rfl ⟨kd,_,rfl,hdB,fun o nf D hD=>PU (fun i ys H'=>ys=(kp.take i).map (fun p=>V.str p.2.1)/\H' D=some (.lst ys)/\lK (upd HB kd (.frz o (.dK (Zs V.ref ke)))) H') ⟨rfl,Zc,nY hD⟩ ?_ ?_ ?_⟩))
   ·rintro i ys H' _ ⟨_,_,sm⟩;exact sm.at Zc
   ·rintro i kv ys H' hi ⟨rfl,v6,sm⟩;rw [enc,mG] at hi;obtain ⟨e,he,rfl⟩:=mS.mp hi;obtain ⟨p,hp,h1,h2⟩:=oO hbB.kept.tup he;have g2:Xq H' kd (.str e.1) (some (.ref e.2)):=by
     rw [<-Xy (f:=V.ref) (by rw [hb.kept.nm];exact hb.nd) (oE he)];exact .inl ⟨_,Sum.inr e.1,.inr ⟨o,sm.at Zc⟩,rfl,rfl⟩
    have h3:H' e.2=some (.tup [.str p.2.1,.int (p.2.2:Int)]):=sm.at (by rw [Zd fun z=>by rw [z,hdB] at h2;cases h2];exact h2);have F8:i<kp.length:=(oj.mp hp).1;unfold Wi;refine ⟨nS rfl,_,rfl,_,rfl,kd,_,rfl,g2,(mQ h3 0 rfl ⟨v6,?_,?_,Zc,fun b o z=>?_⟩)⟩
    ·rw [lV,nI];exact Zp (by lia)
    ·rw [nq,hp,mq];rfl
    ·rw [Zd (Zg z hD)];exact sm.at z
   rintro ys HC ⟨rfl,hDC,sm⟩;refine ⟨kd,o,_,sm.at Zc,nf,?_⟩;have sC:lK HB (upd HC kd (.dK (Zs V.ref ke))):=wS hdB sm;have hDf:D≠kd:=fun z=>by rw [z,Zc] at hD;cases hD
   have eD:(upd HC kd (.dK (Zs V.ref ke))) D=some (.lst ((kp.map fun p=>p.2.1).map V.str)):=by
    rw [Zd hDf,hDC,show (Zs V.ref ke).length=ke.length from lV ..,kln,ow,og]
    rfl
   generalize upd HC kd (.dK (Zs V.ref ke))=HD at sC eD;clear hDC sm;have s0D:=U4.trans sC;refine .inr (.inl ⟨D,_,rfl,.inl (lW eD),rfl,X5 _,_,rfl,?_⟩);rw [show (if false=true then !oo (V.str gg) ((kp.map fun p=>p.2.1).map V.str) else oo (V.str gg) ((kp.map fun p=>p.2.1).map V.str))=_ from Wo gg _];have hK:∀(c:kS) (po:kW kR),po=some gg->((c=T.aS/\ur (nQ kp) val gg)\/(c=T.ba/\¬ur (nQ kp) val gg/\(td.lookup gg).getD false=true))->∀G,DO T G val (nQ kp) td ps sg (.str m) (.int (n:Int)) (.str gg) c po:=fun c po e h G=>.inr ⟨m,rfl,hm,k8,.inr ⟨gg,rfl,hgg,.inr ⟨hsg,.inr ⟨n,rfl,hn1,hn4,e,h⟩⟩⟩⟩
   by_cases hh:ur (nQ kp) val gg
   ·rw [mB ((Gj hb.vl).mp hh)];exact W7 (lU (me 7 Yk (Zi (Zb Ze (Zb (pv 8) Za)))) ⟨_,rfl,lR,fun t HE sE nE eE=>⟨_,rfl,.inl ⟨4,some gg,s0D.trans sE,by left,rfl,hK _ _ rfl (.inl ⟨rfl,hh⟩),t,rfl,eE⟩⟩⟩)
   rw [mO fun z=>hh ((Gj hb.vl).mpr z)];refine X0 (lU (Zt (Yn (xP (Xi hr) (pv 4) (pv 8) ri ⟨rfl,rfl,rfl,rfl⟩)) Zn Zn) ⟨_,rfl,dt,rfl,.inl ⟨_,.inl (s0D.at E2)⟩,_,rfl,_,pp (k:=Sum.inr gg) (s0D.at E2),(td.lookup gg).getD false,?_,Yj (fun u=>?_) (fun u=>?_)⟩)
   ·rw [MP];cases td.lookup gg <;>rfl
   ·exact lU (me 7 Yk (Zi (Zb Ze (Zb (pv 8) Za)))) (lP rfl ⟨lR,fun t HE sE nE eE=>(lP rfl (.inl ⟨5,some gg,s0D.trans sE,by left,rfl,hK _ _ rfl (.inr ⟨rfl,hh,u⟩),t,rfl,eE⟩))⟩)
   refine lU (rE (Xi hr) (pv 2) (pv 10) (Zi (Zb (pv 8) (Zb (pv 9) Za))) rfl) (lP rfl (lP rfl ⟨lR,fun t HE sE nE eE=>(lP rfl (lP rfl ⟨kd,_,rfl,pG.k (k:=Y7 m) ((s0D.trans sE).at hb.kept.dct) ?_,_,rfl,.inr ⟨m,gg,n,t,HE,rfl,rfl,rfl,⟨hm,k8,hgg,hsg,hn1,hn4,hh,by cases z:(td.lookup gg).getD false;rfl;exact absurd z u,?_⟩,hm4,rfl,s0D.trans sE,s0D.free nE,eE,?_⟩⟩))⟩))
   ·rw [show (Zs V.ref ke).length=ke.length from lV ..,kln];exact Zp (by lia)
   ·rw [show (nQ kp).length=kp.length from lV ..];lia
   ·rw [zm (f:=V.ref) (by rw [hb.kept.nm,<-Wt];exact k8)]
  rintro σ H9 ⟨dv,rfl,hdue⟩;rcases hdue with ⟨r,po,s9,hr6,M8,hK,hD⟩|⟨nm,gg,n,tt,H6,rfl,rfl,rfl,cg,hm4,rfl,s6,nt,et,rfl⟩
  ·have hb9:=hb.mono s9;have fin:∀{H2:Hp},lK H H2->Q (.bl true) H2:=fun {H2} s=>q H2 F ad val ke kp (hb.mono s) (fun b z=>.inl z) (fun b o _ z=>s.at z) ⟨rfl,rfl,fun _ z=>.inl z⟩
   refine lU (Zm (rC hr (Wp (Ys T) hr.m (fun _=>rfl) rfl T.ae.m T.ae.F.kp T.ae.b (Zb (rS (Pt:=T.bh) rfl hL) Za)) (pv 7))) ⟨_,(g.tabs.mono hb9.k.same)._law_come,mV,fun fl HA sA nA cl=>Xf T cl (fs:=["_law_keeper", "_law_name", "_law_long", "_law_gate", "_law_seen"]) (fvs:=[.ref x,v,vl,vg,.ref dt]) (.cons ⟨0,_,rfl,rfl,rfl,rfl,rfl,rfl⟩ (.cons ⟨10,_,rfl,rfl,rfl,rfl,rfl,rfl⟩ (.cons ⟨9,_,rfl,rfl,rfl,rfl,rfl,rfl⟩ (.cons ⟨8,_,rfl,rfl,rfl,rfl,rfl,rfl⟩ (.cons ⟨4,_,rfl,rfl,rfl,rfl,rfl,rfl⟩ .nil))))) ?_ ?_ ?_ (fun _ _ _=>rfl) (by trivial) (by trivial) rfl rfl rfl fun G c A lJ s E sG hE hr=>pM (Z7 (pv 0) T.ac T.bA (CK T) hr T.ao.b .nil wr (Zb (pv 1) (Zb (pv 2) (Zb (pv 3) (Zb (pv 4) Za))))) (lP rfl ⟨x,ad.dx,_,rfl,sG.at (sA.at hb9.k.obj),rfl,_,rfl,_,rfl,_,rfl,_,rfl,H0,F,x,tr,dt,ad,lw,val,nQ kp,td,ps,js,sg,v,vl,vg,rf T r,po,rfl,hb9.k.mono (sA.trans sG),g.tr,yv,g.tabs,(s9.trans (sA.trans sG)).at E2,hK G,?_⟩)⟩
   ·simp
   ·simp;decide +kernel
   ·simp;lia
   refine ⟨fun z H4 s4=>?_,fun p z d H4 s4 n4 e4=>?_⟩
   ·refine hE r po none H4 hr6 M8 s4 (by rw [z];rfl) fun H5 s5=>⟨fun _=>?_,fun p y=>nomatch z.symm.trans y⟩
    rw [z] at hD;exact ⟨_,rfl,.inl ⟨by rw [show dv=_ from hD];rfl,by rw [show dv=_ from hD,mB rfl];exact fin (s9.trans (sA.trans s5))⟩⟩
   ·refine hE r po (some d) H4 hr6 M8 s4 (by rw [z];exact ⟨d,rfl,e4⟩) fun H5 s5=>⟨(fun y=>nomatch z.symm.trans y),fun p' y t et=>?_⟩
    rw [z] at y hD;cases y;obtain ⟨t2,rfl,e2⟩:=hD;refine (lP rfl (.inr (.inl ⟨1,oq (qF r,p),oq (qF r,p),by left,.inl ⟨_,_,rfl,rfl⟩,vS et,vS (s5.at (sA.at e2)),?_⟩)));rw [lY mX,mB rfl];exact fin (s9.trans (sA.trans s5))
  ·have k6:=(hb.k.mono s6).setK (o:=.dK (Zs V.ref (ke++[(nm,tt)]))) (s6.at hb.kept.dct) hb.nF hb.nl hb.ns hb.n0;have at6:∀{b:kS} {o:HO},b≠kd->H6 b=some o->upd H6 kd (.dK (Zs V.ref (ke++[(nm,tt)]))) b=some o:=fun n z=>by rw [Zd n];exact z
   have ed:upd H6 kd (.dK (Zs V.ref (ke++[(nm,tt)]))) kd=some (.dK (Zs V.ref (ke++[(nm,tt)]))):=Zc;have p7:∀b,upd H6 kd (.dK (Zs V.ref (ke++[(nm,tt)]))) b=none->H b=none:=fun b z=>by
    cases y:H b with
    | none=>rfl
    | some o =>
     by_cases n:b=kd
     ·rw [n,Zc] at z;cases z
     ·rw [at6 n (s6.at y)] at z;cases z
   have tk:tt≠kd:=fun z=>by rw [z,hb.kept.dct] at nt;cases nt
   generalize upd H6 kd (.dK (Zs V.ref (ke++[(nm,tt)])))=H7 at k6 at6 ed p7;refine lU (Zm (rC hr (Wp (Ys T) hr.m (fun _=>rfl) rfl T.ae.m T.ae.F.kp T.ae.b (Zb (rS (Pt:=T.bh) rfl hL) Za)) (pv 7))) ⟨_,(g.tabs.mono k6.same)._law_come,mV,fun fl HA sA nA cl=>Xf T cl (fs:=["_law_keeper", "_law_name", "_law_long", "_law_gate", "_law_seen"]) (fvs:=[.ref x,.str nm,.int (n:Int),.str gg,.ref dt]) (.cons ⟨0,_,rfl,rfl,rfl,rfl,rfl,rfl⟩ (.cons ⟨10,_,rfl,rfl,rfl,rfl,rfl,rfl⟩ (.cons ⟨9,_,rfl,rfl,rfl,rfl,rfl,rfl⟩ (.cons ⟨8,_,rfl,rfl,rfl,rfl,rfl,rfl⟩ (.cons ⟨4,_,rfl,rfl,rfl,rfl,rfl,rfl⟩ .nil))))) ?_ ?_ ?_ (fun _ _ _=>rfl) (by trivial) (by trivial) rfl rfl rfl fun G c A lJ s E sG _ hr=>pM (Z7 (pv 0) T.ac T.bA (LY T) hr.m T.ao.b .nil Z3 (Zb (pv 1) (Zb (pv 2) (Zb (pv 3) (Zb (pv 4) Za))))) (lP rfl ⟨x,ad.dx,_,rfl,sG.at (sA.at k6.obj),rfl,_,rfl,_,rfl,_,rfl,_,rfl,H0,F,x,tr,dt,ad,lw,val,nQ kp,td,ps,js,sg,nm,gg,n,rfl,k6.mono (sA.trans sG),g.tr,yv,g.tabs,sG.at (sA.at (at6 ndk (s6.at E2))),nFt,cg,fun H4 F' x8 f1 f2 off k4 a H5 bk=>(lP rfl (.inl ⟨rfl,?_⟩))⟩)⟩
   ·simp
   ·simp;decide +kernel
   ·simp;lia
   have at5:∀{b:kS} {o:HO},¬F b->H7 b=some o->H5 b=some o:=fun n z=>bk.old _ _ _ (sA.at z) (off _ _ n (sG.at (sA.at z)))
   have k5:=k4.back bk (k6.same.trans sA);rw [show nQ kp++[(nm,n)]=nQ (kp++[(nm,gg,n)]) from by unfold nQ;rw [mq];rfl] at k5;have fF:∀{b:kS} {o:HO},¬F b->H7 b=some o->¬F' b:=fun n z y=>(f2 _ y).elim n fun w=>by rw [sG.at (sA.at z)] at w;cases w
   have kn:∀z∈ke,z.2≠kd:=fun z hz y=>by
    obtain ⟨p,_,z2⟩:=Paired.memL hb.kept.tup hz;rw [y,hb.kept.dct] at z2;cases z2.2
   have ntF:¬F tt:=hb.k.neF nt;have nE7:∀z∈ke++[(nm,tt)],∃o,¬F z.2/\H7 z.2=some o:=fun z hz=>by
    rcases mZ.mp hz with y|y
    ·obtain ⟨p,_,z2⟩:=Paired.memL hb.kept.tup y;exact ⟨_,hb.nE z y,at6 (kn z y) (s6.at z2.2)⟩
    ·rw [nW.mp y];exact ⟨_,ntF,at6 tk et⟩
   refine q H5 _ x8 _ _ _ ⟨k5,⟨at5 hb.nF ed,oP (Paired.mapM hb.kept.tup fun z p hz y=>⟨y.1,at5 (hb.nE z hz) (at6 (kn z hz) (s6.at y.2))⟩) (.cons ⟨rfl,at5 ntF (at6 tk et)⟩ .nil)⟩,fun m hm=>?_,fun p hp=>?_,fun z=>fF hb.nF ed z.1,a.1 ▸ hb.nl,a.2.1 ▸ hb.ns,hb.n0,fun z hz y=>let ⟨o,z1,z2⟩:=nE7 z hz;fF z1 z2 y.1,fun p hp=>(mZ.mp hp).elim (hb.gv p) fun z=>by rw [nW.mp z];exact yv.name _ cg.gt⟩ (fun b z=>(f2 b z.1).imp id fun y=>p7 b ((sA.trans sG).free y)) (fun b o nb z=>at5 (fun y=>nb (.inl y)) (at6 (fun y=>nb (.inr y)) (s6.at z))) ⟨a.1,a.2.1,fun z hz=>(a.2.2 z hz).imp id fun y=>p7 _ ((sA.trans sG).free y)⟩
   ·rw [mq] at hm;rcases mZ.mp hm with z|z
    ·exact hb.in4 m z
    ·rw [nW.mp z];exact hm4
   ·unfold W8;have p0:nm∉kp.map Prod.fst:=by rw [<-Wt];exact cg.new
    rcases mZ.mp hp with z|z
    ·rw [lY fun y=>p0 (by rw [<-y];exact ze z)];exact hb.vl p z
    ·rw [nW.mp z,lZ rfl,lY cg.new]
     rfl
mutual
theorem Bl(e:lK H H'):∀{d:PyData} {v:V},Rp H d v->Rp H' d v
 | _,_,.str x=>.str x
 | _,_,.bl b=>.bl b
 | _,_,.lst h1 h2=>.lst (e.at h1) (zP e h2)
 | _,_,.tup h1 h2=>.tup (e.at h1) (zP e h2)
 | _,_,.dk h1 h2=>.dk (e.at h1) (zP e h2)
theorem zP(e:lK H H'):∀{ds:kQ PyData} {vs:kQ V},pO H ds vs->pO H' ds vs
 | _,_,.nil=>.nil
 | _,_,.cons h1 h2=>.cons (Bl e h1) (zP e h2)
end
def Yu(n k:Nat)(d:PyData):Prop:=d.showable=true/\d.leavesShort 8=true/\d.depth<=k/\d.weight<=n
def Yu.shown(h:Yu n k d)(hn:n<=100000):d.shown.length<=sizeLine:=by
 have:=PyData.shown_le 8 (by left) d h.2.1;have:=h.2.2.2;have e:sizeLine=16777216:=rfl;lia
def Yu.str(hx:x.cps.toList.all oS=true)(hl:x.length<=6):Yu 6 0 (.str x):=by
 refine ⟨by simp [PyData.showable],?_,by simp [PyData.depth],by simp only [PyData.weight];exact hl⟩;simp only [PyData.leavesShort,uj,vY];exact fun c hc=>pV (Jt (uj.mp hx c hc)) (by left)
theorem Yu.all:∀{ds:kQ PyData},(∀d∈ds,Yu n k d)->PyData.showableAll ds=true/\PyData.leavesShortAll 8 ds=true/\PyData.depthAll ds<=k/\PyData.weightAll ds<=(n+1) * ds.length
 | [],_=>⟨by simp [PyData.showableAll],by simp [PyData.leavesShortAll],by simp [PyData.depthAll],by simp [PyData.weightAll]⟩
 | d ::ds,h=>by
  obtain ⟨a1,a2,a3,a4⟩:=h d mV;obtain ⟨b1,b2,b3,b4⟩:=Yu.all fun c hc=>h c (nJ _ hc)
  refine ⟨by simp [PyData.showableAll,a1,b1],by simp [PyData.leavesShortAll,a2,b2],by simp only [PyData.depthAll];lia,?_⟩;simp only [PyData.weightAll,ou,Nat.mul_add];lia
theorem Yu.kv:∀{ds:kQ (PyData×PyData)},(∀d∈ds,Yu n k d.1/\Yu n k d.2)->PyData.showableKv ds=true/\PyData.leavesShortKv 8 ds=true/\PyData.depthKv ds<=k/\PyData.weightKv ds<=(2 * n+2) * ds.length
 | [],_=>⟨by simp [PyData.showableKv],by simp [PyData.leavesShortKv],by simp [PyData.depthKv],by simp [PyData.weightKv]⟩
 | (x,y) ::ds,h=>by
  obtain ⟨⟨a1,a2,a3,a4⟩,c1,c2,c3,c4⟩:=h (x,y) mV;obtain ⟨b1,b2,b3,b4⟩:=Yu.kv fun c hc=>h c (nJ _ hc)
  refine ⟨by simp [PyData.showableKv,show x.showable=true from a1,show y.showable=true from c1,b1],by simp [PyData.leavesShortKv,show x.leavesShort 8=true from a2,show y.leavesShort 8=true from c2,b2],by simp only [PyData.depthKv];exact Nat.max_le.mpr ⟨Nat.max_le.mpr ⟨a3,c3⟩,b3⟩,?_⟩;simp only [PyData.weightKv,ou,Nat.mul_add];have a4:x.weight<=n:=a4;have c4:y.weight<=n:=c4;lia
def Yu.list(h:∀d∈ds,Yu n k d)(hm:ds.length<=m):Yu ((n+1) * m) (k+1) (.list ds):=by
 obtain ⟨b1,b2,b3,b4⟩:=Yu.all h;exact ⟨by simp only [PyData.showable];exact b1,by simp only [PyData.leavesShort];exact b2,by simp only [PyData.depth];lia,by simp only [PyData.weight];exact nj b4 (Cj _ hm)⟩
def Yu.tuple(h:∀d∈ds,Yu n k d)(hm:ds.length<=m):Yu ((n+1) * m) (k+1) (.tuple ds):=by
 obtain ⟨b1,b2,b3,b4⟩:=Yu.all h;exact ⟨by simp only [PyData.showable];exact b1,by simp only [PyData.leavesShort];exact b2,by simp only [PyData.depth];lia,by simp only [PyData.weight];exact nj b4 (Cj _ hm)⟩
def Yu.dict(h:∀d∈ds,Yu n k d.1/\Yu n k d.2)(hm:ds.length<=m):Yu ((2 * n+2) * m) (k+1) (.dict ds):=by
 obtain ⟨b1,b2,b3,b4⟩:=Yu.kv h;exact ⟨by simp only [PyData.showable];exact b1,by simp only [PyData.leavesShort];exact b2,by simp only [PyData.depth];lia,by simp only [PyData.weight];exact nj b4 (Cj _ hm)⟩
def Yu.up(h:Yu n k d)(hn:n<=m)(hk:k<=j):Yu m j d:=⟨h.1,h.2.1,nj h.2.2.1 hk,nj h.2.2.2 hn⟩
def d4(q:Z0):PyData:=.tuple [.str q.1,.str q.2.1,.str q.2.2.1,.str q.2.2.2]
def Bv(ss:kQ kR)(val:kR->kQ Z0):PyData:=.dict ((ss.map PyData.str).zip (ss.map fun t=>.list ((val t).map d4)))
def rh.rps(h:Paired (fun t (q:Z0)=>Ec H t q.1 q.2) ts ss):pO H (ss.map d4) (ts.map V.ref):=by
 induction h with
 | nil=>exact .nil
 | cons z _ ih=>exact .cons (.tup z (.cons (.str _) (.cons (.str _) (.cons (.str _) (.cons (.str _) .nil))))) ih
def Yg.rp{val:kR->kQ Z0}(h:Yg H d es val):Rp H (Bv (es.map Prod.fst) val) (.ref d):=by
 have r:pO H (es.map fun e=>.list ((val e.1).map d4)) ((Zs V.ref es).map Prod.snd):=by
  have hp:=h.2;clear h
  induction es with
  | nil=>exact .nil
  | cons e es ih =>
   obtain ⟨ts,h1,h2⟩:=hp e mV;exact .cons (.lst h1 (rh.rps h2)) (ih fun x hx=>hp x (nJ _ hx))
 have:=Rp.dk h.1 r;rw [show (Zs V.ref es).map (fun p=>kD p.1)=(es.map Prod.fst).map PyData.str from by rw [show Zs V.ref es=es.map fun q=>(Sum.inr q.1,V.ref q.2) from rfl,og,og];rfl] at this;unfold Bv;rw [show (es.map Prod.fst).map (fun t=>PyData.list ((val t).map d4))=es.map fun e=>.list ((val e.1).map d4) from by rw [og];rfl];exact this
def Nr{val:kR->kQ Z0} (hs:∀t∈ss,Yx t/\∃g:kR,Yx g/\val t=[((g, "", "a", ""):Z0)]) (hl:ss.length<=4):Yu 240 3 (Bv ss val):=by
 have nm:∀{n:kR},Yx n->Yu 6 0 (.str n):=fun z=>.str z.2.2.2 z.2.1
 refine Yu.dict (n:=29) (k:=2) (m:=4) (fun d hd=>?_) (by rw [List.length_zip,lV];lia);obtain ⟨a,b⟩:=d;obtain ⟨ha,hb⟩:=xD hd;obtain ⟨t,ht,rfl⟩:=mh.mp ha;obtain ⟨u,hu,rfl⟩:=mh.mp hb;refine ⟨(nm (hs t ht).1).up (by left) (by left),Yu.list (n:=28) (k:=1) (m:=1) (fun c hc=>?_) ?_⟩
 ·obtain ⟨g,hg,e⟩:=(hs u hu).2;rw [e] at hc;rw [nW.mp hc];refine Yu.tuple (n:=6) (k:=0) (m:=4) (fun c hc=>?_) (mn 4);simp only [mI,uX,sR] at hc;rcases hc with rfl|rfl|rfl|rfl
  ·exact nm hg
  ·exact .str (by trivial) (by trivial)
  ·exact .str (by trivial) (by trivial)
  ·exact .str (by trivial) (by trivial)
 ·obtain ⟨g,hg,e⟩:=(hs u hu).2;rw [e];exact mn 1
open Classical in
def sk (Z:kS->Prop) (H:Hp):Hp:=fun b=>if Z b then none else H b
def xX{Z:kS->Prop}(e:H b=some o)(n:¬Z b):sk Z H b=some o:=(lY n).trans e
def FW{Z:kS->Prop}(e:sk Z H b=some o):H b=some o/\¬Z b:=by
 unfold sk at e
 by_cases z:Z b
 ·rw [lZ z] at e;cases e
 ·rw [lY z] at e;exact ⟨e,z⟩
def KA{Z Z':kS->Prop}(k:∀b o,H b=some o->¬Z b->H' b=some o)(z:∀b,Z' b->Z b\/H b=none):lK (sk Z H) (sk Z' H'):=fun b o e=>by
 obtain ⟨h1,h2⟩:=FW e;refine xX (k b o h1 h2) fun y=>?_
 rcases z b y with w|w
 ·exact h2 w
 ·rw [h1] at w;cases w
def yD(H:Hp)(Z:kS->Prop)(hl:kS)(n:Nat):Prop:=∃us:kQ kS,H hl=some (.lst (us.map V.ref))/\us.length<=n/\∀u∈us,∃(l:kS) (d:PyData),sk Z H u=some (.tup [.ref l,.str d.shown])/\Rp (sk Z H) d (.ref l)/\Yu 240 3 d
def yD.on{Z Z':kS->Prop}(h:yD H Z hl n)(k:∀b o,H b=some o->¬Z b->H' b=some o)(z:∀b,Z' b->Z b\/H b=none)(e:H' hl=H hl):yD H' Z' hl n:=by
 obtain ⟨us,h1,h2,h3⟩:=h;have s:=KA k z;refine ⟨us,e.trans h1,h2,fun u hu=>?_⟩;obtain ⟨l,d,x1,x2,x3⟩:=h3 u hu;exact ⟨l,d,s.at x1,Bl s x2,x3⟩
def Yg.add{val:kR->kQ Z0}(h:Yg H d es val)(hl:Z8 H l (val t)):Yg (upd H d (.dK (Zs V.ref (es++[(t,l)])))) d (es++[(t,l)]) val:=by
 have ne:∀{l:kS} {ss:kQ Z0},Z8 H l ss->l≠d:=fun ⟨ts,y,_⟩ z=>by rw [z,h.1] at y;cases y
 refine ⟨Zc,fun e he=>?_⟩;have k:Z8 H e.2 (val e.1):=by
  rcases mZ.mp he with z|z
  ·exact h.2 e z
  ·rw [nW.mp z];exact hl
 exact k.off (ne k) fun xs z=>nomatch h.1.symm.trans z
def Ug{H:Hp}{a b:kS}{ss:kQ kR}{Q:VK}(ha:H a=some (.lst (ss.map V.str)))(hb:H b=some (.lst (ss.map V.str)))(q:Q (.bl false) H):ro K (.ref a) (.ref b) H Q:=.inr (.inl ⟨1,.lst (ss.map Tr.str),.lst (ss.map Tr.str),by left,.inr ⟨_,_,rfl,rfl⟩,vE ha,vE hb,by rw [lZ rfl,mB rfl];exact q⟩)
structure wT(H0 H:Hp)(F:Addr->Prop)(kd hl:Addr)(ad:pJ)(n:Nat):Prop where
 nF:¬F hl
 nk:hl≠kd
 nl:hl≠ad.ld
 ns:hl≠ad.sd
 n0:H0 hl=none
 ne:∀e∈ad.es,e.2≠hl
 held:yD H (fun b=>F b\/b=kd\/b=hl) hl n
inductive JK:Sp
 | mk (H0) (F:kS->Prop) (x tr kd hl ad lw) (val:kR->kQ Z0) (ke kp cell) (n:Nat):vs=[.ref x,.ref kd,.int cell,.ref hl]->BK T H0 H F x tr ad lw val kd ke kp->pY T H0->wT H0 H F kd hl ad n->n<=100->(∀H',BK T H0 H' F x tr ad lw val kd ke kp->wT H0 H' F kd hl ad (n+1)->qW (fun b=>b=hl) H H'->Q (.bl true) H')->JK vs H Q E
def QU(hb:∃mm,lL.Ns sysModules mm):T.cK.O P w mg lL 11 (JK T):=by
 refine T.cK.F.okL T.dz W2 fun cdc A lJ s H vs Q E hL hr h=>?_
 ·obtain ⟨H0,F,x,tr,kd,hl,ad,lw,val,ke,kp,cell,n,rfl,hk,tb,ho,hn,q⟩:=h;intro X D;have nm4:∀t∈kp.map Prod.fst,Yx t/\∃g:kR,Yx g/\val t=[((g, "", "a", ""):Z0)]:=fun t ht=>by
   obtain ⟨p,hp,rfl⟩:=mh.mp ht;exact ⟨hk.k.ok (p.1,p.2.2) (mh.mpr ⟨p,hp,rfl⟩),_,hk.gv p hp,hk.vl p hp⟩
  have k4:(kp.map Prod.fst).length<=4:=Ca hk.nd hk.in4;have keys:(Zs V.ref ke).map (fun p=>kV p.1)=(kp.map Prod.fst).map V.str:=by rw [Dy,hk.kept.nm]
  refine lS (me 4 W2 Xh) fun pd H1 s1 n1 e1=>?_
  have V6:=hk.mono s1;let I28:IC:=fun σ H'=>∃(o5:kW V) (ss:kQ kR) (es:kQ (kR×kS)),σ=[some (.ref x),some (.ref kd),some (.int cell),some (.ref hl),some (.ref pd),o5,none]/\lK H H'/\ss.Perm (kp.map Prod.fst)/\PyProof.Rows.sortedS ss=true/\es.map Prod.fst=ss/\Yg H' pd es val/\∀e∈es,H e.2=none
  refine nX I28 ?_ ?_
  ·refine oi (Xb ol rfl (Ym (Z2 (r:=ul) (wU rfl) (by rfl) T.bV tY (Zb (pv 1) Za))) (mP 5 W2) Zn) (lP rfl ⟨kd,_,_,rfl,.inl V6.kept.dct,keys,by lia,fun ss hp hs l H2 s2 n2 e2=>⟨lW e2,Wc (xs:=ss.map V.str) (fun i σ H'=>(∃o5,σ=[some (.ref x),some (.ref kd),some (.int cell),some (.ref hl),some (.ref pd),o5,none])/\(∀b o,b≠pd->H2 b=some o->H' b=some o)/\∃es,es.map Prod.fst=ss.take i/\Yg H' pd es val/\∀e∈es,H e.2=none) ⟨⟨none,rfl⟩,fun _ _ _ z=>z,[],rfl,⟨s2.at e1,fun _ z=>nomatch z⟩,fun _ z=>nomatch z⟩ ?_ ?_ ?_⟩⟩)
   ·rintro i σ H' _ ⟨_,off,_⟩;exact lW (off l _ (fun z=>by rw [z,e1] at n2;cases n2) e2)
   ·rintro i v σ H' hi ⟨⟨o5,rfl⟩,off,es,m9,hP,hf⟩;rw [mG] at hi;obtain ⟨t,ht,rfl⟩:=mS.mp hi;have off1:∀{b:kS} {o:HO},H b=some o->H' b=some o:=fun {b o} z=>off b o (fun y=>by rw [<-y,z] at n1;cases n1) (s2.at (s1.at z))
    have smH:lK H H':=fun _ _ z=>off1 z
    obtain ⟨e,he,rfl⟩:=mh.mp (hk.kept.nm ▸ hp.subset (oE ht));obtain ⟨p,hpp,h1,h2⟩:=Paired.memL hk.kept.tup he;have hg:Y2 (Zs V.ref ke) (Y7 e.1)=some (.ref e.2):=Xy (by rw [hk.kept.nm];exact hk.nd) he;have F8:i<ss.length:=(oj.mp ht).1;have sl:=hp.length_eq;refine lU (rE (Xi hr) (pv 4) (pv 5) (Zl (Zb (Zi (Zb (ml (X9 (Xi hr) (pv 1) (pv 5) (fun _ _=>rfl)) Zf) (Zb Ze (Zb Ze (Zb Ze Za))))) Za)) rfl) (lP rfl (lP rfl ⟨kd,.ref e.2,rfl,by rw [<-hg];exact pp (k:=Y7 e.1) (off1 hk.kept.dct),(mQ (off1 h2) 0 rfl ⟨lR,fun t1 J1 u1 v1 w1=>⟨lR,fun l1 J2 u2 v2 w2=>(lP rfl (lP rfl ⟨pd,_,rfl,pG.k (k:=Y7 e.1) ((u1.trans u2).at hP.1) ?_,⟨_,rfl⟩,?_,es++[(e.1,l1)],?_,?_,fun z hz=>(mZ.mp hz).elim (hf z) fun y=>by rw [nW.mp y];exact (smH.trans u1).free v2⟩))⟩⟩)⟩))
    ·have:=nV List.length m9;rw [lV,nI] at this;rw [show (Zs V.ref es).length=es.length from lV ..];exact Zp (by lia)
    ·exact fun b o nb z=>by rw [Zd nb];exact (u1.trans u2).at (off b o nb z)
    ·rw [mq,m9,nq,ht];rfl
    ·have p0:e.1∉es.map Prod.fst:=by
      rw [m9];intro z;obtain ⟨j,hj,hj2⟩:=sv z;rw [nI] at hj;rw [List.getElem_take] at hj2;have C2:ss.Nodup:=hp.nodup_iff.mpr hk.nd;have:=(CI C2 (h₀:=by lia) (h₁:=F8)).mp (hj2.trans ((oj.mp ht).2).symm);lia
     rw [zm (f:=V.ref) p0];refine (hP.mono (u1.trans u2)).add ?_;rw [h1,hk.vl p hpp];exact ⟨[t1],w2,.cons (u2.at w1) .nil⟩
   ·rintro σ H' ⟨⟨o5,rfl⟩,off,es,m9,hP,hf⟩;rw [lV,ow] at m9;exact ⟨o5,ss,es,rfl,fun b o z=>off b o (fun y=>by rw [<-y,z] at n1;cases n1) (s2.at (s1.at z)),hp,hs,m9,hP,hf⟩
  rintro σ H3 ⟨o5,ss,es,rfl,s3,hp,hs,m9,hP,hf⟩;have hk3:=hk.mono s3;have ssl:ss.length<=4:=by rw [hp.length_eq];exact k4
  have D4:∀{G:Hp} {R:VK},BK T H0 G F x tr ad lw val kd ke kp->(∀G',lK G G'->R (.bl false) G')->∀a,G a=some (.lst (ss.map V.str))->ul [.ref kd] G fun y H2=>ro K (.ref a) y H2 R:=fun {G R} hG r a e1=>⟨kd,_,_,rfl,.inl hG.kept.dct,keys,by lia,fun s2 p2 q2 b G2 t2 m2 f2=>by
   rw [Aa q2 hs (p2.trans hp.symm)] at f2;exact Ug (t2.at e1) f2 (r G2 t2)⟩
  have tell:∀{G:Hp} {R:VK},BK T H0 G F x tr ad lw val kd ke kp->(∀a G1,lK G G1->G1 a=some (.lst (ss.map V.str))->R (.ref a) G1)->Dj T [.ref x] G R E0:=fun {G R} hG r=>⟨H0,F,x,tr,ad,lw,val,nQ kp,rfl,hG.k,fun s2 p2 q2 a G1 t1 m1 f1=>r a G1 t1 (by
   rw [Wt] at p2;rw [Aa q2 hs (p2.trans hp.symm)] at f1;exact f1)⟩
  let I29:IC:=fun σ H'=>σ=[some (.ref x),some (.ref kd),some (.int cell),some (.ref hl),some (.ref pd),o5,none]/\lK H3 H'
  refine nX I29 ?_ ?_
  ·refine oi (Zt (oM (xB (om hr (Zo Yi (pv 2) Zf) Zf) (wP (qi hr (Xw (pv 0) T.ac T.aW (Xp T) hr.m T.aF.b .nil Z3) (Z2 (r:=ul) (wU rfl) (by rfl) T.bV tY (Zb (pv 1) Za)))))) Zn Zk) (lP rfl (mz rfl rfl ⟨(by show (0:Int)<2;decide),.inl ⟨rfl,_,rfl,Yj (fun _=>?_) (fun _=>⟨rfl,pH _⟩)⟩⟩));refine ⟨_,rfl,x,ad.dx,_,rfl,hk3.k.obj,rfl,tell hk3 fun a G1 t1 f1=>⟨_,rfl,D4 (hk3.mono t1) (fun G2 t2=>⟨_,rfl,X0 ⟨rfl,t1.trans t2⟩⟩) a f1⟩⟩
  rintro σ H4 ⟨rfl,s4⟩;have O6:=s3.trans s4;have hk4:=hk.mono O6;refine lS (me 6 W2 (Xw (pv 0) T.ac T.eU (VP T) hr.m T.bS.b .nil Z3)) (lP rfl ⟨x,ad.dx,_,rfl,hk4.k.obj,rfl,H0,F,x,tr,ad,lw,val,nQ kp,rfl,hk4.k,fun s5' D es' H5 p5 q5 s5 n5 P5 m5 f5=>?_⟩);rw [Wt] at p5;obtain rfl:s5'=ss:=Aa q5 hs (p5.trans hp.symm);have hP5:=hP.mono (s4.trans s5);have sh:=Nr (val:=val) (fun t ht=>nm4 t (hp.subset ht)) ssl;have rp:=hP5.rp;rw [m9] at rp;obtain ⟨us,U1,hu2,hu3⟩:=ho.held;have O7:=O6.trans s5;refine lS (Zy (pW (pv 3) (Zi (Zb (pv 6) (Zb (Z2 (r:=DM) (LD hb hr.gd hr.units) (by rfl) T.ik Mt (Zb (pv 4) Za)) Za))))) (lP rfl ⟨.inl ⟨rfl,_,lW (O7.at U1)⟩,_,rfl,_,rfl,pd,_,rfl,rp,sh.1,nj sh.2.2.1 (by left),sh.shown (by left),lR,fun t H6 s6 n6 e6=>⟨hl,_,_,rfl,rfl,s6.at (O7.at U1),by rw [lV];exact Zp (by lia),?_⟩⟩);have U7:=O7.trans s6;have hl6:=U7.at U1;have lne:∀{l:kS},H l=none->l≠hl:=fun z y=>by rw [y,U1] at z;cases z
  have dne:∀{l:kS},H l=none->¬(F l\/l=kd\/l=hl):=fun {l} z y=>by
   rcases y with y|y|y
   ·exact hk.k.neF z y
   ·rw [y,hk.kept.dct] at z;cases z
   ·exact lne z y
  have nD:=O6.free n5;have nt:=O7.free n6;have nes:∀e∈es',H e.2=none:=fun e he=>O6.free (f5 e he)
  have P7:=(hP5.mono s6).offC (o:=.lst (us.map V.ref++[.ref t])) (lne n1) (fun e he=>lne (hf e he)) hl6 (fun _ z=>nomatch z);have P8:=(P5.mono s6).offC (o:=.lst (us.map V.ref++[.ref t])) (lne nD) (fun e he=>lne (nes e he)) hl6 (fun _ z=>nomatch z);have at7:∀{b:kS} {o:HO},b≠hl->H b=some o->upd H6 hl (.lst (us.map V.ref++[.ref t])) b=some o:=fun nb z=>by rw [Zd nb];exact U7.at z
  have tne:∀{l:kS} {xs:kQ V},H6 l=some (.tup xs)->¬(F l\/l=kd\/l=hl):=fun {l xs} z y=>by
   rcases y with y|y|y
   ·obtain ⟨o,h1,h2⟩:=hk.k.live l y;rw [U7.at h1] at z;exact h2 xs (mW z)
   ·rw [y,U7.at hk.kept.dct] at z;cases z
   ·rw [y,hl6] at z;cases z
  have hk7:BK T H0 (upd H6 hl (.lst (us.map V.ref++[.ref t]))) F x tr ad lw val kd ke kp:=⟨(hk.k.mono U7).setU hl6 (fun _ z=>nomatch z) ho.ne ho.nF ho.nl ho.ns ho.n0,⟨at7 ho.nk.symm hk.kept.dct,mw hk.kept.tup fun _ _ z=>⟨z.1,at7 (fun y=>by rw [y,U1] at z;cases z.2) z.2⟩⟩,hk.in4,hk.vl,hk.nF,hk.nl,hk.ns,hk.n0,hk.nE,hk.gv⟩
  have ho7:wT H0 (upd H6 hl (.lst (us.map V.ref++[.ref t]))) F kd hl ad (n+1):=by
   refine ⟨ho.nF,ho.nk,ho.nl,ho.ns,ho.n0,ho.ne,us++[t],by rw [Zc,mq];rfl,by rw [mY];simp;lia,fun u hu=>?_⟩;rcases mZ.mp hu with z|z
   ·obtain ⟨l,d,x1,x2,x3⟩:=hu3 u z;have sm:lK (sk (fun b=>F b\/b=kd\/b=hl) H) (sk (fun b=>F b\/b=kd\/b=hl) (upd H6 hl (.lst (us.map V.ref++[.ref t])))):=KA (fun b o e w=>at7 (fun y=>w (.inr (.inr y))) e) fun b w=>.inl w
    exact ⟨l,d,sm.at x1,Bl sm x2,x3⟩
   ·rw [nW.mp z];refine ⟨D,_,xX (by rw [Zd (lne nt)];exact e6) (dne nt),?_,sh⟩;have:Yg (sk (fun b=>F b\/b=kd\/b=hl) (upd H6 hl (.lst (us.map V.ref++[.ref t])))) D es' val:=⟨xX P8.1 (dne nD),fun e he=>by
     obtain ⟨ts,w1,w2⟩:=(P5.mono s6).2 e he;exact ⟨ts,xX (by rw [Zd (lne (nes e he))];exact w1) (dne (nes e he)),mw w2 fun a _ w=>xX (by rw [Zd fun y=>tne w (.inr (.inr y))];exact w) (tne w)⟩⟩
    have:=this.rp;rw [m5] at this;exact this
  have of7:qW (fun b=>b=hl) H (upd H6 hl (.lst (us.map V.ref++[.ref t]))):=fun b o nb z=>at7 nb z
  generalize upd H6 hl (.lst (us.map V.ref++[.ref t]))=H7 at P7 P8 hk7 ho7 of7;clear at7 tne;have dk:∀e∈es',∃l,Y2 (Zs V.ref es) (Y7 e.1)=some (.ref l)/\Z8 H7 l (val e.1):=fun e he=>by
   obtain ⟨e2,h2,h3⟩:=mh.mp (show e.1∈es.map Prod.fst by rw [m9,<-m5];exact ze he);rw [<-h3];exact ⟨e2.2,Xy (by rw [m9];exact hp.nodup_iff.mpr hk.nd) h2,P7.2 e2 h2⟩
  let I30:IC:=fun σ H'=>σ=[some (.ref x),some (.ref kd),some (.int cell),some (.ref hl),some (.ref pd),o5,some (.ref D)]/\lK H7 H'
  refine nX I30 ?_ ?_
  ·refine oi (Zt (oM (Wj (qi hr (pv 6) (pv 4)) (Wj (qi hr (Y6 (r:=IZ) (WZ rfl) (by rfl) T.dU wR (Zb (pv 6) Za)) (Z2 (r:=ul) (wU rfl) (by rfl) T.bV tY (Zb (pv 1) Za))) (Wl (qi hr (Xw (pv 0) T.ac T.aW (Xp T) hr.m T.aF.b .nil Z3) (Z2 (r:=ul) (wU rfl) (by rfl) T.bV tY (Zb (pv 1) Za))))))) Zn Zk) (lP rfl (lP rfl (.inr (.inr ⟨D,pd,_,_,rfl,rfl,.inl P8.1,.inl P7.1,?_,fun kv A0=>?_,_,rfl,X0 ?_⟩))))
   ·rw [show (Zs V.ref es').length=es'.length from lV ..,show (Zs V.ref es).length=es.length from lV ..,<-lV (f:=Prod.fst),<-lV (f:=Prod.fst) (as:=es),m5,m9]
   ·obtain ⟨e,he,rfl⟩:=mh.mp A0;obtain ⟨l,h1,h2⟩:=dk e he;exact ⟨_,h1,.inr ⟨2,_,by left,(P8.2 e he).im,h2.im⟩⟩
   refine ⟨_,rfl,D,_,rfl,.inl P8.1,fun a G1 t1 m1 f1=>⟨_,rfl,D4 (hk7.mono t1) (fun G2 t2=>⟨_,rfl,X0 ⟨_,rfl,x,ad.dx,_,rfl,(hk7.mono (t1.trans t2)).k.obj,rfl,tell (hk7.mono (t1.trans t2)) fun a G3 t3 f3=>⟨_,rfl,D4 (hk7.mono (t1.trans (t2.trans t3))) (fun G4 t4=>⟨_,rfl,X0 ⟨rfl,t1.trans (t2.trans (t3.trans t4))⟩⟩) a f3⟩⟩⟩) a (by rw [Dy,m5] at f1;exact f1)⟩⟩
  rintro σ H8 ⟨rfl,s8⟩;have hk8:=hk7.mono s8;have P9:=P7.mono s8;let I31:IC:=fun σ H'=>(∃o5,σ=[some (.ref x),some (.ref kd),some (.int cell),some (.ref hl),some (.ref pd),o5,some (.ref D)])/\lK H8 H'
  refine nX I31 ?_ ?_
  ·refine oi (xU (Xb ol rfl (Lu (pv 1)) (mP 5 W2) Zn)) (lP rfl ⟨kd,_,rfl,hk8.kept.dct,fun o nf=>Qt (fun i σ H'=>(∃o5,σ=[some (.ref x),some (.ref kd),some (.int cell),some (.ref hl),some (.ref pd),o5,some (.ref D)])/\lK (upd H8 kd (.frz o (.dK (Zs V.ref ke)))) H') ⟨⟨o5,rfl⟩,pH _⟩ ?_ ?_ ?_⟩)
   ·rintro i σ H' _ ⟨_,sm⟩;exact sm.at Zc
   ·rintro i kv σ H' hi ⟨⟨o5,rfl⟩,sm⟩;rw [show Zs V.ref ke=ke.map fun q=>(Sum.inr q.1,V.ref q.2) from rfl,mG] at hi;obtain ⟨e,he,rfl⟩:=mS.mp hi;have he:=oE he;obtain ⟨p,hpp,h1,h2⟩:=Paired.memL hk8.kept.tup he;have kk:=(hk8.k.setK (o:=.frz o (.dK (Zs V.ref ke))) hk8.kept.dct hk.nF hk.nl hk.ns hk.n0).mono sm;have at9:∀{b:kS} {o:HO},b≠kd->H8 b=some o->H' b=some o:=fun nb z=>sm.at (by rw [Zd nb];exact z)
    have h3:=at9 (fun z=>by rw [z,hk8.kept.dct] at h2;cases h2) h2;have g2:∀{G:Hp},lK H' G->Xq G kd (.str e.1) (some (.ref e.2)):=fun s=>by
     rw [<-Xy (f:=V.ref) (by rw [hk.kept.nm];exact hk.nd) he];exact .inl ⟨_,Sum.inr e.1,.inr ⟨o,s.at (sm.at Zc)⟩,rfl,rfl⟩
    have N1:e.1∈kp.map Prod.fst:=by rw [h1];exact ze hpp
    obtain ⟨e2,he2,h4⟩:=mh.mp (show e.1∈es.map Prod.fst by rw [m9];exact hp.symm.subset N1);have g3:Y2 (Zs V.ref es) (Y7 e2.1)=some (.ref e2.2):=Xy (by rw [m9];exact hp.nodup_iff.mpr hk.nd) he2;rw [h4] at g3;have pdk:pd≠kd:=fun z=>by rw [z,hk.kept.dct] at n1;cases n1
    have P':Z8 H' e2.2 (val e.1):=by
     rw [<-h4];refine ((P9.2 e2 he2).off (o:=.frz o (.dK (Zs V.ref ke))) (fun z=>?_) fun xs z=>nomatch hk8.kept.dct.symm.trans z).mono sm;have:=hf e2 he2;rw [z,hk.kept.dct] at this;cases this
    refine lU (Zt (oM (Wj (qi hr (Z7 (pv 0) T.ac T.cS (Uw T) hr.m T.aB.b .nil Z3 (Zb (pv 5) Za)) (ml (X9 (Xi hr) (pv 1) (pv 5) (fun _ _=>rfl)) Zf)) (Wl (qi hr (Z7 (pv 0) T.ac T.ck (By T) hr.m T.aA.b .nil Z3 (Zb (pv 5) Za)) (X9 (Xi hr) (pv 4) (pv 5) (fun _ _=>rfl)))))) Zn Zk) (lP rfl ⟨x,ad.dx,_,rfl,kk.obj,rfl,_,rfl,H0,F,x,tr,ad,lw,val,nQ kp,(e.1,p.2.2),rfl,kk,mh.mpr ⟨p,hpp,by rw [h1]⟩,fun G1 t1=>(lP rfl (lP rfl ⟨kd,.ref e.2,rfl,g2 t1,(mQ (t1.at h3) 1 rfl (.inl ⟨rfl,_,rfl,?_⟩))⟩))⟩);rw [mB rfl];refine X0 ⟨_,rfl,x,ad.dx,_,rfl,t1.at kk.obj,rfl,_,rfl,H0,F,x,tr,ad,lw,val,nQ kp,e.1,rfl,kk.mono t1,by rw [Wt];exact N1,fun l G2 t2 m2 f2=>⟨_,rfl,_,rfl,pd,.ref e2.2,rfl,by rw [<-g3];exact pp (k:=Y7 e.1) ((t1.trans t2).at (at9 pdk P9.1)),.inr (.inl ⟨2,_,_,by left,.inr ⟨_,_,rfl,rfl⟩,f2.im,(P'.mono (t1.trans t2)).im,_,rfl,?_⟩)⟩⟩;rw [lZ rfl,mB rfl];exact X0 ⟨⟨_,rfl⟩,sm.trans (t1.trans t2)⟩
   ·rintro σ H' ⟨h,sm⟩;exact ⟨kd,o,_,sm.at Zc,nf,h,wS hk8.kept.dct sm⟩
  rintro σ H9 ⟨⟨o5,rfl⟩,s9⟩;have hk9:=hk8.mono s9;have no:vC (.str "no") (fun n=>n∈(nQ kp).map Prod.fst):=Dx fun z=>by
   rw [Wt] at z;exact absurd (hk.in4 _ z) (by trivial)
  refine lS (Zt (qi hr (Wp (Ys T) hr.m (fun _=>rfl) rfl T.ae.m T.ae.F.kp T.ae.b (Zb (rS (Pt:=T.bd) rfl hL) Za)) Ze) Zn Zk) ⟨_,(tb.mono hk9.k.same)._law_alike,mV,fun fl HA sA nA cl=>Xf T cl (fs:=["_law_keeper"]) (fvs:=[.ref x]) (.cons ⟨0,_,rfl,rfl,rfl,rfl,rfl,rfl⟩ .nil) ?_ ?_ ?_ (fun _ _ _=>rfl) (by trivial) (by trivial) rfl rfl rfl fun G c A' o' s' E' sG hE F3=>pM (Z7 (pv 0) T.ac T.ck (UZ T) F3 T.aA.b .nil wr (Zb Ze Za)) (lP rfl ⟨x,ad.dx,_,rfl,sG.at (sA.at hk9.k.obj),rfl,H0,F,x,tr,ad,lw,val,nQ kp,.str "no",rfl,hk9.k.mono (sA.trans sG),no,fun H4 s4=>hE 3 none none H4 (by left) rfl s4 rfl fun HB sB=>⟨fun _=>.inl ⟨rfl,_,rfl,Yj (fun z=>absurd z (by trivial)) (fun _=>?_)⟩,fun _ z=>nomatch z⟩⟩)⟩
  ·simp
  ·simp
  ·simp
  have s9B:=s9.trans (sA.trans sB);have hkB:=hk8.mono s9B;refine lU (Zm (rC hr (Wp (Ys T) hr.m (fun _=>rfl) rfl T.ae.m T.ae.F.kp T.ae.b (Zb (rS (Pt:=T.bd) rfl hL) Za)) Ze)) ⟨_,(tb.mono hkB.k.same)._law_alike,nJ _ mV,fun fl HC sC nC cl=>Xf T cl (fs:=["_law_keeper"]) (fvs:=[.ref x]) (.cons ⟨0,_,rfl,rfl,rfl,rfl,rfl,rfl⟩ .nil) ?_ ?_ ?_ (fun _ _ _=>rfl) (by trivial) (by trivial) rfl rfl rfl fun G c A lJ s E sG hE hr=>pM (Z7 (pv 0) T.ac T.cS (RX T) hr T.aB.b .nil wr (Zb Ze Za)) (lP rfl ⟨x,ad.dx,_,rfl,sG.at (sC.at hkB.k.obj),rfl,H0,F,x,tr,ad,lw,val,nQ kp,.str "no",rfl,hkB.k.mono (sC.trans sG),no,fun H4 s4=>hE 3 none none H4 (by left) rfl s4 rfl fun HD sD=>⟨fun _=>.inl ⟨rfl,?_⟩,fun _ z=>nomatch z⟩⟩)⟩
  ·simp
  ·simp
  ·simp
  have sE:=s8.trans (s9B.trans (sC.trans sD));exact q HD (hk7.mono sE) ⟨ho.nF,ho.nk,ho.nl,ho.ns,ho.n0,ho.ne,ho7.held.on (fun _ _ z _=>sE.at z) (fun b z=>.inl z) (by obtain ⟨_,z,_⟩:=ho7.held;rw [z];exact sE.at z)⟩ fun b o nb z=>sE.at (of7 b o nb z)
def oG:kQ Zh:=[("gate", "g"),("plain", "p"),("gate", "h")]
def pe:kQ (Zh×Zh):=[(("g", "a"),("p", "a")),(("p", "b"),("h", "a"))]
def oz:kQ (kR×kR×kR):=[("sg", "g", "a"),("sh", "h", "a")]
def rN:oZ oG pe oz:=by
 refine ⟨⟨?_,by trivial,by trivial,by trivial⟩,by left,?_,⟨?_,by trivial,by trivial,?_,by left⟩⟩
 ·rw [show Xo pe++[]=Yz oG from by trivial]
 ·unfold Yx;decide +kernel
 ·unfold Yx;decide +kernel
 ·decide +kernel
def Ei{fr:St->St}(hl:H1 l=some (.lst [x]))(hD:H1 D=none)(h:Wi fr g tf te σ D x [] (upd H1 D (.lst [])) fun _ H=>lK H1 H/\Q (.ref D) H):pS (rc K l) fr g tf te Q σ H1 D:=by
 refine Xv (xs:=[x]) (fun i ys H=>if i=0 then ys=[]/\H=upd H1 D (.lst []) else lK H1 H/\Q (.ref D) H) ⟨rfl,rfl⟩ (fun i ys H _ p=>?_) (fun i v ys H hi p=>?_) fun ys H p=>p.2
 ·by_cases z:i=0
  ·rw [lZ z] at p;rw [p.2];exact lW ((nY hD).at hl)
  ·rw [lY z] at p;exact lW (p.1.at hl)
 ·obtain ⟨h1,rfl⟩:=oj.mp hi;have:i=0:=Nat.lt_one_iff.mp h1;subst this;obtain ⟨rfl,rfl⟩:=p;exact h
inductive KG:Sp
 | mk (x):vs=[.ref x]->Yf T H x oG pe oz->(∀l t1 t2 H',lK H H'->H' l=some (.lst [.ref t1,.ref t2])->yw H' t1 ("sg", "g", "a")->yw H' t2 ("sh", "h", "a")->Q (.ref l) H')->KG vs H Q E
def WQ:T.bK.O P w mg lL 1 (KG T):=by
 refine T.bK.F.okA ?_;rfl'
 ·obtain ⟨x,rfl,tr,q⟩:=h;intro X D;obtain ⟨dx,po,jo,so,si,kp,ks,kj,ko,h1,_,_,_,_,h6,h7,_⟩:=tr.ex;have hks:ks.length=2:=h7.len;refine lU (Zm (Z2 (r:=Ar) Je (by rfl) T.bV tY (Zb (AT (ph ["name", "end"] (nZ 2 [] rfl) (vG (Yb (pv 0) rfl)) (ux (K:=K) (n:=2) rfl rfl (Zq (ng 0) (Zq (ng 1) Y9))) Wk (Zi (Zb (pv 0) (Zb (pR (K:=K) rfl (pv 1) Zf) (Zb (pR (K:=K) rfl (pv 1) Zf) Za)))))) Za))) (lP rfl ⟨h1,T.am,T.bv,rfl,so,ks,rfl,h6,fun o nf D hD=>Bz (fun i ys H'=>lK (upd H so (.frz o (.dK ks))) H'/\H' D=some (.lst ys)/\∃ts:kQ kS,ys=ts.map V.ref/\Paired (yw H') ts (oz.take i)) ⟨nY hD,Zc,[],rfl,.nil⟩ ?_ ?_ ?_⟩)
  ·rintro i ys H' _ ⟨z,_⟩;exact z.at Zc
  ·rintro i kv ys H2 hi ⟨s2,w4,ts,rfl,d9⟩ tp H3 s3 n3 e3;obtain ⟨⟨nm,e⟩,hq,hk,t,hv,ht⟩:=oO h7 hi;have hk:kv.1=Sum.inr nm:=hk;rw [hk,hv] at e3;have hg:oz[i]? =some (nm,e.1,e.2):=by
    unfold qS at hq;rw [mG] at hq;obtain ⟨⟨g1,g2,g3⟩,hg,e'⟩:=mS.mp hq;rw [hg];simp only [yI] at e';rw [<-e'.1,<-e'.2]
   have hto:t≠so:=fun z=>by rw [z] at ht;exact nomatch h6.symm.trans ht
   have htF:upd H so (.frz o (.dK ks)) t=some (.tup [.str e.1,.str e.2]):=by
    rw [Zd hto];exact ht
   have M4:ts.length<=2:=by
    rw [mv d9,nI];exact Nat.min_le_right _ _
   have ht3:=mD (K:=K) (s3.at (s2.at htF));refine ⟨tp,_,rfl,mD e3,rfl,_,_,rfl,_,_,rfl,rfl,(nS rfl).trans (nS rfl),_,rfl,_,rfl,.inr (.inl ⟨t,_,0,_,rfl,rfl,ht3,Xn (j:=0) rfl,_,rfl,.inr (.inl ⟨t,_,1,_,rfl,rfl,ht3,Xn (j:=1) rfl,lR,fun t' H4 s4 n4 e4=>⟨s4.at (s3.at w4),by rw [lV];exact Zp (by lia),?_,Zc,ts++[t'],by rw [mq];rfl,?_⟩⟩)⟩)⟩
   ·intro c u z;rw [Zd (Zg z hD)];exact s4.at (s3.at (s2.at z))
   ·have hD4:=s4.at (s3.at w4);have off:∀{c:kS} {xs:kQ V} {u:HO},H4 c=some (.tup xs)->upd H4 D u c=some (.tup xs):=fun {c xs u} z=>(Zd fun y=>by rw [y,hD4] at z;cases z).trans z
    rw [nq,hg];exact oP (mw d9 fun _ _ z=>off (s4.at (s3.at z))) (.cons (off e4) .nil)
  ·rintro ys H2 ⟨s2,w4,ts,rfl,d9⟩;rw [hks] at d9;have sT:lK H (upd H2 so (.dK ks)):=wS h6 s2;have Dso:D≠so:=fun z=>by rw [z,Zc] at hD;cases hD
   have off:∀{c:kS} {xs:kQ V},H2 c=some (.tup xs)->upd H2 so (.dK ks) c=some (.tup xs):=fun {c xs} z=>(Zd fun y=>by rw [y,s2.at Zc] at z;cases z).trans z
   obtain ⟨t1,t2,rfl,r1,r2⟩:=Bt d9;exact ⟨so,o,_,s2.at Zc,nf,D,[t1,t2],rfl,by rw [Zd Dso];exact w4,.inr ⟨t1,t2, "sg", "sh",_,_,rfl,off r1,off r2,by trivial,by trivial⟩,fun l H3 s3 n3 e3=>q l t1 t2 H3 (sT.trans s3) e3 (s3.at (off r1)) (s3.at (off r2))⟩
inductive FS:Sp
 | mk (x) (g:kR×Zh):vs=[.ref x,.str g.1]->Yf T H x oG pe oz->(g:kR×kR×kR)∈oz->(∀(t:kS) (H':Hp),lK H H'->Zr H' t g.2->Q (.ref t) H')->FS vs H Q E
def HN:T.bq.O P w mg lL 2 (FS T):=by
 refine T.bq.F.okA ?_;rfl'
 ·obtain ⟨x,⟨nm,e⟩,rfl,tr,hm,q⟩:=h;intro X D;obtain ⟨dx,po,jo,so,si,kp,ks,kj,ko,h1,_,_,_,_,h2,h3,_⟩:=tr.ex;have hq:((nm,e):kR×Zh)∈qS oz:=mh.mpr ⟨(nm,e),hm,rfl⟩;obtain ⟨v,hv,t,rfl,hO⟩:=h3.get uZ (by rw [Fp];exact rN.sigs.nd) hq;refine lS (Zt (oM (Wj (Y8 (Yn (Zx (yW T) hr (Zb (pv 1) Za)))) (Wl (sV hr (pv 1) (Yb (pv 0) rfl))))) Zn Zk) (lP rfl ⟨_,true,rfl,(rN.sigs.name _ hm).asked,fun H1 s1=>(lP rfl (Yj (fun z=>absurd z (by left)) (fun _=>(lP rfl (lP rfl ⟨s1.at h1,T.am,T.bv,rfl,.inr (.inl ⟨so,_,rfl,pp (k:=Y7 nm) (s1.at h2),_,rfl,Yj (fun z=>?_) (fun _=>?_)⟩)⟩)))))⟩)
  ·rw [hv] at z;exact absurd z (by simp)
  exact lU (Zm (X9 (Xi hr) (Yb (pv 0) rfl) (pv 1) (fun _ _=>rfl))) (lP rfl ⟨s1.at h1,T.am,T.bv,rfl,_,rfl,so,_,rfl,by rw [<-hv];exact pp (k:=Y7 nm) (s1.at h2),q t H1 s1 (hO.mono s1)⟩)
inductive MM:Sp
 | mk (x t k nm en):vs=[.ref x,.ref t]->Yf T H x oG pe oz->Zr H t (nm,en)->((k,nm):Zh)∈oG->en∈Yr k->(rM k en "" ≠ "" \/k = "gate")->(∀l t' H',lK H H'->H' l=some (.lst [.ref t'])->pi H' t' (nm,en,rM k en "", "")->Q (.ref l) H')->MM vs H Q E
def TH:T.dC.O P w mg lL 4 (MM T):=by
 refine T.dC.F.okW W4 ?_;rfl'
 ·obtain ⟨x,t,k,nm,en,rfl,tr,ht,hm,M0,hld,q⟩:=h;intro X D;obtain ⟨dx,_,_,_,_,_,_,_,_,h1,_⟩:=tr.ex;have imN:∀H':Hp,Im K H' 1 (oq ("", "")) (.ref T.dO):=fun H'=>sJ (n:=0) (T.ip H') (.cons (.str _) (.cons (.str _) .nil))
  have hl3:wj k=[("" :kR)]:=by
   have:∀p∈oG,wj p.1=[("" :kR)]:=by trivial
   exact this _ hm
  refine lS (Zt (om hr (Z7 (pv 0) T.am T.cP (HK T) hr.m T.bo.b .nil Z3 (Zb (pv 1) Za)) (Wa (v:=.ref T.dO) (by rfl) T.io rfl)) Zn Zk) (lP rfl ⟨x,dx,_,rfl,h1,rfl,_,rfl,x,t,(nm,en),oG,pe,oz,rfl,tr,rN,ht,.inl ⟨uz.mpr ⟨(k,nm),hm,mh.mpr ⟨en,M0,rfl⟩⟩,fun t' e' T9 ht'=>.inr (.inl ⟨1,oq e',oq ("", ""),by left,.inl ⟨_,_,rfl,rfl⟩,vS ht',imN _,_,rfl,Yj (fun z=>?_) (fun _=>?_)⟩)⟩⟩)
  ·have:∀p∈qJ pe,p.2≠((("", ""):kR×kR):Zh):=by trivial
   exact absurd (BZ (nM z)) (this _ T9)
  refine lS (me 2 W4 (ml (pv 1) Zf)) (lP rfl (mQ ht 0 rfl ?_));refine lS (me 3 W4 (ml (pv 1) Zf)) (lP rfl (mQ ht 1 rfl ?_));refine lS (me 4 W4 (Z7 (pv 0) T.am T.cA (DE T) hr.m T.bf.b .nil Z3 (Zb (pv 2) Za))) (lP rfl ⟨x,dx,_,rfl,h1,rfl,_,rfl,x,nm,k,oG,pe,oz,rfl,tr,rN,hm,fun y C H1 s1 hC hO=>?_⟩);obtain ⟨dy,hy⟩:=id hO;obtain ⟨f1,d1,m1,b1,g1⟩:=hC.lies;refine lS (vD 5 ["lie", "name", "entry", "part"] W4 (nZ 1 [2,3,4] rfl) (Ym yM) (ng 0) Wk (Zi (Zb (pv 1) (Zb (pv 2) (Zb (Z7 (pv 3) hC.cls.1 hC.cls.2.2 (WC T) hr.m T.aM.b .nil Z3 (Zb (pv 2) (Zb (pv 0) Za))) (Zb (pv 0) Za)))))) (pM (Xw (pv 4) hC.cls.1 m1 (g1 _ _ _ 3 (by left)) hr b1 .nil Z3) (lP rfl ⟨y,dy,_,rfl,hy,rfl,_,rfl,fun p H2 s2 n2 e2=>⟨lW e2,fun D hD=>?_⟩⟩));rw [hl3] at e2;have sD:lK H2 (upd H2 D (.lst [])):=nY hD;refine Ei e2 hD ⟨nS rfl,_,rfl,_,rfl,_,rfl,y,dy,_,rfl,sD.at (s2.at hy),rfl,_,rfl,_,rfl,k,y,C,nm,en, "",rfl,hC,⟨dy,sD.at (s2.at hy)⟩,fun H3 s3=>⟨_,rfl,lR,fun t3 H4 s4 n4 e4=>⟨s4.at (s3.at Zc),lR,?_⟩⟩⟩;have hD4:H4 D=some (.lst []):=s4.at (s3.at Zc);have P3:lK H2 (upd H4 D (.lst [.ref t3])):=fun b o z=>by rw [Zd (Zg z hD)];exact s4.at (s3.at (sD.at z))
  have e5:upd H4 D (.lst [.ref t3]) t3=some (.tup [.str nm,.str en,.str (rM k en ""),.str ""]):=by rw [Zd fun z=>by rw [z,hD4] at e4;cases e4];exact e4
  have d5:upd H4 D (.lst [.ref t3]) D=some (.lst [.ref t3]):=Zc;refine ⟨P3,?_⟩;show WSs _ _ _ _ (upd H4 D (.lst [.ref t3]));generalize upd H4 D (.lst [.ref t3])=H5 at P3 e5 d5;refine lU (Zm (Z2 (r:=Ar) Je (by rfl) T.bV tY (Zb (ph ["step", "part"] (nZ 1 [4] rfl) (Ym (pv 5)) (ng 0) (rP (oM (Wj (Z4 (r:=ro K) (uQ hr) (pR (K:=K) rfl (pv 0) Zf) Ze (Yw _)) (Wl (Yn (Z2 (r:=wF K) zy (by rfl) T.ag qx (Zb (pv 1) (Zb (Wa (v:=.ref T.br) (by rfl) T.iC rfl) Za)))))))) (pv 0)) Za))) (lP rfl ⟨lW d5,fun D2 w4=>?_⟩);have U8:lK H5 (upd H5 D2 (.lst [])):=nY w4;obtain ⟨ty,hty,hkit⟩:=hC.stop (((hO.mono s2).mono P3).mono U8);refine Ei d5 w4 ⟨nS rfl,_,rfl,(mQ (U8.at e5) 2 rfl (.inl ⟨rfl,_,rfl,?_⟩))⟩;have u8:lK H5 (upd (upd H5 D2 (.lst [])) D2 (.lst [.ref t3])):=fun b o z=>by rw [Zd (Zg z w4)];exact U8.at z
  have fin:Ar [.ref D2] (upd (upd H5 D2 (.lst [])) D2 (.lst [.ref t3])) Q:=⟨D2,[t3],rfl,Zc,.inl Nat.one_lt_two,fun l H7 s7 n7 e7=>q l t3 H7 (s1.trans (s2.trans (P3.trans (u8.trans s7)))) e7 (s7.at (u8.at e5))⟩
  by_cases hz:rM k en "" = ""
  ·rw [mB (by rw [hz])];have hg:k = "gate" :=hld.resolve_left fun w=>w hz
   rw [mB (.inl hg:k = "gate" \/k = "stop")] at hkit;exact X0 ⟨_,rfl,_,_,_,ty,rfl,hty,.inr ⟨_,rfl,hkit⟩,_,rfl,W7 ⟨_,rfl,Zc,lR,u8,fin⟩⟩
  ·rw [mO fun w=>hz (V.str.inj w)];exact W7 (W7 ⟨_,rfl,Zc,lR,u8,fin⟩)
structure HS(ss:List S4)(le:Zh)(k nm en:Str)(q:S4):Prop where
 las:(ss=[]/\le=(("g", "a"):Zh))\/∃r:S4,ss=[r]/\le=(r.1,r.2.2.1)
 mem:le∈Yz oG
 one:∀p∈qJ pe,p.1=le->p.2=(nm,en)
 part:((k,nm):Zh)∈oG
 ends:en∈Yr k
 leads:rM k en "" ≠ "" \/k = "gate"
 new:nm∉("g" :Str) ::ss.map Prod.fst
 eq:q=(nm,en,rM k en "",("" :Str))
inductive KU:Sp
 | mk (x t) (ts:kQ kS) (ss le k nm en q):vs=[.ref x,.ref t]->Yf T H x oG pe oz->H t=some (.tup (.str "sg" ::ts.map V.ref))->Paired (pi H) ts ss->HS ss le k nm en q->(∀l t' H',lK H H'->H' l=some (.lst [.ref t'])->pi H' t' q->Q (.ref l) H')->KU vs H Q E
def SC:T.eF.O P w mg lL 5 (KU T):=by
 refine T.eF.F.okW Ao ?_;rfl'
 ·obtain ⟨x,t,ts,ss,le,k,nm,en,r,rfl,tr,ht,d9,on,q⟩:=h;intro X D;have M4:=mv d9;have h1l:ts.length<=1:=by
   rcases on.las with ⟨z,_⟩|⟨_,z,_⟩ <;>rw [M4,z]
   ·exact oJ _
   ·exact mn _
  have tl1:((V.str "sg" ::ts.map V.ref).length:Int)=((ts.length+1:Nat):Int):=by rw [ou,lV]
  obtain ⟨dx,_,_,_,_,_,_,_,_,h1,_⟩:=tr.ex;refine lS (Zt (Z4 ug (oH T.bw (pv 1)) (Ws (by rfl) T.gi) (Yw _)) Zn Zk) (lP rfl (.inl ⟨t,_,rfl,.inr (mD ht),_,_,rfl,rfl,_,rfl,Yj (fun z=>absurd (nM z) (by rw [tl1];lia)) (fun _=>?_)⟩));refine lS (me 2 Ao (Z7 (pv 0) T.am T.cQ (HN T) hr.m T.bq.b .nil Z3 (Zb (ml (pv 1) Zf) Za))) (lP rfl ⟨x,dx,_,rfl,h1,rfl,_,rfl,(mQ ht 0 rfl ⟨x,("sg",("g", "a")),rfl,tr,mV,fun tp H1 s1 hp=>?_⟩)⟩);have ht1:=s1.at ht;let I32:IC:=fun σ H'=>∃tl,σ=[some (.ref x),some (.ref t),some (.ref tp),some (.ref tl),none]/\lK H1 H'/\Zr H' tl le
  refine nX I32 ?_ ?_
  ·refine oi (me 3 Ao (uD (om hr (oH T.bw (pv 1)) Zf) (pv 2) (Zx (EG T) hr (Zb (ml (pv 1) (yQ xK Zf)) Za)))) (lP rfl (.inl ⟨t,_,rfl,.inr (mD ht1),.inl ⟨rfl,_,rfl,?_⟩⟩));rcases on.las with ⟨rfl,rfl⟩|⟨r,rfl,rfl⟩
   ·cases d9;exact W7 ⟨_,rfl,tp,rfl,pH _,hp⟩
   ·obtain ⟨u,rfl,ru⟩:=DQ d9;exact X0 ⟨_,rfl,_,rfl,(wa ht1 rfl ⟨u,r,rfl,pi.mono s1 ru,fun t3 H3 s3 n3 e3=>⟨t3,rfl,s3,e3⟩⟩)⟩
  rintro σ H2 ⟨tl,rfl,s2,hl⟩;have ht2:=s2.at ht1;have hts2:=mw d9 fun _ _ r=>pi.mono (s1.trans s2) r
  refine lS (me 4 Ao (Zo Wz (Zl (Zb (ml (pv 2) Zf) Za)) (ph ["step"] (nZ 1 [] rfl) (yn (X7 (r:=qL K) qU (pv 1) (Wh Zf) Wr)) (ng 0) Wk (pR (K:=K) rfl (pv 0) Zf)))) (lP rfl (mQ (s2.at hp) 0 rfl ⟨lR,fun la H3 s3 n3 e3=>(lP rfl (lP rfl (.inl ⟨t,_,rfl,mD (s3.at ht2),?_,fun t4 H4 s4 n4 e4=>⟨mD e4,fun D hD=>?_⟩⟩)))⟩))
  ·rintro ⟨y,_⟩;have:HT.sIx (V.str "sg" ::ts.map V.ref).length 0 (some 1)=1:=by
    unfold HT.sIx;simp
   rw [this] at y;cases y
  have e4:H4 t4=some (.tup (ts.map V.ref)):=by
   have e4:H4 t4=some (.tup (qf (V.str "sg" ::ts.map V.ref) (some ((1:Nat):Int)) none)):=e4;rw [wu] at e4;exact e4
  refine BX (K:=K) (xs:=ts.map V.ref) (fun i ys H'=>ys=((ss.take i).map Prod.fst).map V.str/\H' D=some (.lst ys)/\lK H4 H') ⟨rfl,Zc,nY hD⟩ ?_ ?_ ?_
  ·rintro i ys H' _ ⟨_,_,sm⟩;exact mD (sm.at e4)
  ·rintro i v ys H5 hi ⟨rfl,T1,s5⟩;rw [mG] at hi;obtain ⟨tq,htq,rfl⟩:=mS.mp hi;obtain ⟨qq,hqq,rq⟩:=oO hts2 htq;have r5:=rq.mono (s3.trans (s4.trans s5));refine ⟨nS rfl,_,rfl,(mQ r5 0 rfl ⟨T1,by rw [lV,lV,nI];exact Zp (by lia),?_,Zc,fun b o y=>?_⟩)⟩
   ·rw [nq,hqq,mq,mq];rfl
   ·rw [Zd (Zg y hD)];exact s5.at y
  rintro ys H5 ⟨rfl,T1,s5⟩;rw [lV,M4,ow] at T1;refine .inr (.inr ⟨la,D,_,_,rfl,rfl,(s4.trans s5).at e3,T1,by rw [lV,lV];exact sz (by show 1+_<=_;lia),fun lp H6 s6 n6 e6=>?_⟩);have e6:H6 lp=some (.lst ((("g" :kR) ::ss.map Prod.fst).map V.str)):=e6;have s26:=s3.trans (s4.trans (s5.trans s6));have U7:=s1.trans (s2.trans s26);refine lU (Zm (ph ["step", "passed"] (nZ 1 [4] rfl) (Ym (Zx (TH T) hr (Zb (pv 0) (Zb (Z7 (pv 0) T.am T.cP (HK T) hr.m T.bo.b .nil Z3 (Zb (pv 3) Za)) Za)))) (ng 0) (rP (Z4 (r:=Cw K) (Gh hr) (pR (K:=K) rfl (pv 0) Zf) (pv 1) (by with_unfolding_all rfl))) (pv 0))) (lP rfl (lP rfl ⟨x,dx,_,rfl,U7.at h1,rfl,_,rfl,x,tl,le,oG,pe,oz,rfl,tr.mono U7,rN,hl.mono s26,.inl ⟨on.mem,fun t7 e' T9 e7=>?_⟩⟩));obtain rfl:e'=(nm,en):=on.one _ T9 rfl;refine ⟨x,t7,k,nm,en,rfl,tr.mono U7,e7,on.part,on.ends,on.leads,fun l8 t' H8 s8 h8 r8=>⟨lW h8,fun D2 w4=>?_⟩⟩;have U8:lK H8 (upd H8 D2 (.lst [])):=nY w4;refine Ei h8 w4 ⟨nS rfl,_,rfl,(mQ (U8.at r8) 0 rfl ⟨_,rfl,.inl ⟨lp,_,rfl,.inl (lW (U8.at (s8.at e6))),rfl,X5 _,_,rfl,?_⟩⟩)⟩;rw [lZ rfl,Wo,mO on.new];have u8:lK H8 (upd (upd H8 D2 (.lst [])) D2 (.lst [.ref t'])):=fun b o z=>by rw [Zd (Zg z w4)];exact U8.at z
  exact W7 ⟨_,rfl,Zc,lR,u8,q D2 t' _ (U7.trans (s8.trans u8)) Zc (by rw [on.eq];exact u8.at r8)⟩
def q1:S4:=("p", "a", "b", "")
def q2:S4:=("h", "a", "", "")
def pi.i1(h:pi H t q):Im K H 1 (yh q) (.ref t):=sJ (n:=0) (mD h) (.cons (.str _) (.cons (.str _) (.cons (.str _) (.cons (.str _) .nil))))
def RW{fr:St->St}(hl:H1 l=some (.lst [x,y]))(hD:H1 D=none)(h:Wi fr g tf te σ D x [] (upd H1 D (.lst [])) fun ys H=>lK H1 H/\Wi fr g tf te σ D y ys H fun _ H=>lK H1 H/\Q (.ref D) H):pS (rc K l) fr g tf te Q σ H1 D:=by
 refine Xv (xs:=[x,y]) (fun i ys H=>if i=0 then ys=[]/\H=upd H1 D (.lst []) else lK H1 H/\if i=1 then Wi fr g tf te σ D y ys H fun _ H=>lK H1 H/\Q (.ref D) H else Q (.ref D) H) ⟨rfl,rfl⟩ (fun i ys H _ p=>?_) (fun i v ys H hi p=>?_) fun ys H p=>p.2
 ·by_cases z:i=0
  ·rw [lZ z] at p;rw [p.2];exact lW ((nY hD).at hl)
  ·rw [lY z] at p;exact lW (p.1.at hl)
 ·match i,hi with
  | 0,hi =>
   cases hi;obtain ⟨rfl,rfl⟩:=p;exact h
  | 1,hi =>
   cases hi;exact p.2
inductive HU:Sp
 | mk (x a u1 u2):vs=[.ref x,.ref a]->Yf T H x oG pe oz->H a=some (.tup [.str "sg",.ref u1,.ref u2])->pi H u1 q1->pi H u2 q2->(∀H',lK H H'->Q (.bl true) H')->HU vs H Q E
def WX:T.eG.O P w mg lL 6 (HU T):=by
 refine T.eG.F.okW GV ?_;rfl'
 ·obtain ⟨x,a,u1,u2,rfl,tr,ha,h1,h2,q⟩:=h;intro X D;obtain ⟨dx,_,_,_,_,_,_,_,_,hx,_⟩:=tr.ex;refine lS (Zt (oM (Wj (Y8 (Yn (qg "tuple" T.ag T.gT Gu (pv 1)))) (Wl (Z4 uN (oH T.bw (pv 1)) Zf (Yw _))))) Zn Zk) (lP rfl ⟨_,_,true,_,rfl,Xl.tup ha,.inl (lP rfl T.jp),_,rfl,X0 (lP rfl (.inl ⟨a,_,rfl,.inr (mD ha),_,_,rfl,rfl,_,rfl,Yj (fun z=>absurd z (by show ¬decide ((3:Int)<2)=true;decide)) (fun _=>?_)⟩))⟩);refine lS (Zt (sV hr (ml (pv 1) Zf) (ph ["signal"] (nZ 1 [] rfl) (Ym (Xw (pv 0) T.am T.dR (WQ T) hr.m T.bK.b .nil Z3)) (ng 0) Wk (pR (K:=K) rfl (pv 0) Zf))) Zn Zk) (lP rfl (mQ ha 0 rfl (lP rfl ⟨x,dx,_,rfl,hx,rfl,x,rfl,tr,fun l t1 t2 H1 s1 e1 r1 r2=>⟨lW e1,fun D hD=>?_⟩⟩)));have sD:lK H1 (upd H1 D (.lst [])):=nY hD;have sD1:lK H1 (upd (upd H1 D (.lst [])) D (.lst [.str "sg"])):=fun b o z=>by rw [Zd (Zg z hD)];exact sD.at z
  have U8:lK H1 (upd (upd (upd H1 D (.lst [])) D (.lst [.str "sg"])) D (.lst [.str "sg",.str "sh"])):=fun b o z=>by rw [Zd (Zg z hD)];exact sD1.at z
  refine RW e1 hD ⟨nS rfl,_,rfl,(mQ (sD.at r1) 0 rfl ⟨Zc,lR,sD1,nS rfl,_,rfl,(mQ (sD1.at r2) 0 rfl ⟨Zc,lR,U8,.inl ⟨D,_,rfl,.inl (lW Zc),rfl,rfl,_,rfl,Yj (fun z=>absurd z (by trivial)) (fun _=>?_)⟩⟩)⟩)⟩;have s2:=s1.trans U8;show WSs _ _ _ _ (upd (upd (upd H1 D (.lst [])) D (.lst [.str "sg"])) D (.lst [.str "sg",.str "sh"]));generalize upd (upd (upd H1 D (.lst [])) D (.lst [.str "sg"])) D (.lst [.str "sg",.str "sh"])=H2 at s2;let I33:IC:=fun _ _=>False
  refine nX I33 (oi (Xb ol rfl (CZ rfl T.ek (Zb Zf (Zb (oH T.bw (pv 1)) Za))) (mP 2 GV) Zn) (lP rfl (.inl ⟨a,_,rfl,.inr (mD (s2.at ha)),1,_,rfl,⟨by left,by left,by simp only [ou,wL];lia,by simp only [ou,wL];lia⟩,ET (n:=2) (fun i σ H'=>i<2/\(∃o,σ=[some (.ref x),some (.ref a),o])/\lK H H') ⟨by left,⟨none,rfl⟩,s2⟩ ?_ fun _ _ z=>absurd z.1 (by left)⟩))) fun _ _ z=>z.elim
  rintro i σ H3 hi ⟨_,⟨o,rfl⟩,s3⟩;obtain ⟨u,r,le,k,nm,en,hu,hq,on,he⟩:∃u r le k nm en,[u1,u2][i]? =some u/\pi H u r/\HS ([q1,q2].take i) le k nm en r/\xr oz r=decide (i=1):=by
   match i,hi with
   | 0,_=>exact ⟨u1,q1,("g", "a"), "plain", "p", "a",rfl,h1,⟨.inl ⟨rfl,rfl⟩,by trivial,by trivial,by trivial,by trivial,.inl (by trivial),by trivial,by trivial⟩,by trivial⟩
   | 1,_=>exact ⟨u2,q2,("p", "b"), "gate", "h", "a",rfl,h2,⟨.inr ⟨q1,rfl,rfl⟩,by trivial,by trivial,by trivial,by trivial,.inr rfl,by trivial,by trivial⟩,by trivial⟩
  have e1i:(1+(i:Nat):Int)=((i+1:Nat):Int):=by lia
  have av:nU [V.str "sg",.ref u1,.ref u2] (1+(i:Nat):Int)=some (.ref u):=by
   rw [e1i];refine Xn ?_
   match i,hi,hu with
   | 0,_,hu=>cases hu;rfl
   | 1,_,hu=>cases hu;rfl
  refine lS (Zt (sV hr (ml (pv 1) (pv 2)) (Zx (SC T) hr (Zb (pv 0) (Zb (X7 (r:=qL K) qU (pv 1) Wr (Wh (pv 2))) Za)))) Zn Zk) (lP rfl (lP rfl (wa (s3.at ha) av (lP rfl (lP rfl (lP rfl (lP rfl (.inl ⟨a,_,rfl,mD (s3.at ha),?_,fun t4 H4 s4 n4 e4=>⟨x,t4,[u1,u2].take i,[q1,q2].take i,le,k,nm,en,r,rfl,tr.mono (s3.trans s4),?_,?_,on,fun l5 t5 H5 s5 e5 r5=>.inr (.inr ⟨l5,1,yh r,[yh r],[t5],rfl,lW e5,by left,((hq.mono (s3.trans (s4.trans s5))).i1),.cons r5.i1 .nil,_,rfl,?_⟩)⟩⟩))))))))
  ·rintro ⟨_,y⟩;rw [e1i,HT.sIx_nat] at y;have y:min (i+1) 3=3:=y;lia
  ·rw [e1i,xC] at e4;rw [e4]
   match i,hi with
   | 0,_=>rfl
   | 1,_=>rfl
  ·have sm:=s3.trans s4
   match i,hi with
   | 0,_=>exact .nil
   | 1,_=>exact .cons (pi.mono sm h1) .nil
  have s5':=s3.trans (s4.trans s5);rw [lZ rfl,mB (nW.mpr rfl)];refine X0 (lU (Zt (Yn (Zx (WU T) hr (Zb (pv 0) (Zb (ml (pv 1) (pv 2)) Za)))) Zn Zk) ⟨_,rfl,_,rfl,_,rfl,.inr (.inl ⟨a,_,_,_,rfl,rfl,mD (s5'.at ha),av,x,u,r,oG,pe,oz,rfl,tr.mono s5',rN,hq.mono s5',fun H6 s6=>⟨_,rfl,?_⟩⟩)⟩);rw [he]
  match i,hi with
  | 0,_=>exact X0 ⟨by left,⟨_,rfl⟩,s5'.trans s6⟩
  | 1,_=>exact W7 (lU (Zm (rC hr (pv 2) (Zo xF (oH T.bw (pv 1)) Zf))) ⟨_,rfl,_,rfl,.inl ⟨a,_,rfl,.inr (mD ((s5'.trans s6).at ha)),_,_,rfl,rfl,.inl ⟨rfl,q H6 (s5'.trans s6)⟩⟩⟩)
def zT(x:V)(xs:kQ V):qf (x ::xs) (some 1) none=xs:=by
 rw [show (1:Int)=((1:Nat):Int) from rfl,wu]
 rfl
def Du(x:V)(xs:kQ V):¬(HT.sIx (x ::xs).length 0 (some 1)=0/\HT.sIx (x ::xs).length (x ::xs).length none=(x ::xs).length):=by
 rintro ⟨h,_⟩;rw [show (1:Int)=((1:Nat):Int) from rfl,HT.sIx_nat] at h;rw [ou] at h;lia
structure ub(H:Hp)(a u1 u2:Addr):Prop where
 t:H a=some (.tup [.str "sg",.ref u1,.ref u2])
 s1:pi H u1 q1
 s2:pi H u2 q2
def ub.mono(e:lK H H')(h:ub H a u1 u2):ub H' a u1 u2:=⟨e.at h.t,h.s1.mono e,h.s2.mono e⟩
def NL(H H':Hp):Prop:=∀b u,H b=some u->(∀xs,u ≠ .lst xs)->H' b=some u
def NL.upd(h:H l=some (.lst xs)):NL H (upd H l o):=fun b u e n=>by
 rw [Zd fun z=>?_]
 ·exact e
 ·rw [z,h] at e;exact n xs (mW e).symm
def qD(H:Hp)(f:kS)(r:Bool×kR):Prop:=if r.1=true then uv T H f r.2 else ut T H f r.2
def qD.nl(e:NL H H')(h:qD U H f r):qD U H' f r:=by
 have clo:∀{Pt fl:kS} {q:kR} {la:Arguments} {lb:li} {ls:Scope} {clos:kQ (kR×kS)},qr H Pt fl q la lb ls clos->qr H' Pt fl q la lb ls clos:=fun ⟨pm,y7,c,oc,vs,tt,Pn,h1,h2,h3,h4,h5,h6⟩=>⟨pm,y7,c,oc,vs,tt,Pn,e _ _ h1 (fun _ z=>nomatch z),e _ _ h2 (fun _ z=>nomatch z),h3,h4,e _ _ h5 (fun _ z=>nomatch z),h6⟩
 have cel:∀{c:kS} {v:V},rD H c v->rD H' c v:=fun ⟨o,u,h1,h2⟩=>⟨o,u,e _ _ h1 (fun _ z=>nomatch z),h2⟩
 obtain ⟨b,x⟩:=r;cases b with
 | false=>exact let ⟨c,h1,h2⟩:=(show ut U H f x from h);show ut U H' f x from ⟨c,clo h1,cel h2⟩
 | true=>exact let ⟨c,h1,h2⟩:=(show uv U H f x from h);show uv U H' f x from ⟨c,clo h1,cel h2⟩
def qD.mono(e:lK H H')(h:qD U H f r):qD U H' f r:=h.nl fun _ _ z _=>e.at z
def wY(ss:kQ S4):kQ (Bool×kR):=ss.flatMap fun q=>[(false,q.1),(true,q.1)]
inductive Gv:Sp
 | mk (a u1 u2):vs=[.ref a]->pY T H->ub H a u1 u2->(∀l fs H',lK H H'->H' l=some (.lst (fs.map V.ref))->Paired (qD T H') fs (wY [q1,q2])->Q (.ref l) H')->Gv vs H Q E
def Ov:T.eI.O P w mg lL 3 (Gv T):=by
 refine T.eI.F.okW Dh ?_;rfl'
 ·obtain ⟨a,u1,u2,rfl,ht,rt,q⟩:=h;intro X D;refine lS (me 1 Dh (Zl Za)) ⟨lR,fun l H1 s1 n1 e1=>?_⟩;refine lS (Xb ol rfl (yn (X7 (r:=qL K) qU (pv 0) (Wh Zf) Wr)) (mP 2 Dh) Zn) (lP rfl (lP rfl (.inl ⟨a,_,rfl,mD (s1.at rt.t),Du _ _,fun p H2 s2 n2 e2=>?_⟩)));rw [zT] at e2;have npl:p≠l:=fun z=>by rw [z,e1] at n2;cases n2
  let I34:IF:=fun i σ H'=>(∃o2,σ=[some (.ref a),some (.ref l),o2])/\lK H H'/\H' p=some (.tup [.ref u1,.ref u2])/\∃fs,H' l=some (.lst (fs.map V.ref))/\Paired (qD T H') fs (wY ([q1,q2].take i))
  refine ⟨mD e2,Mr (xs:=[V.ref u1,.ref u2]) I34 ⟨⟨none,rfl⟩,s1.trans s2,e2,[],s2.at e1,.nil⟩ ?_ ?_ ?_⟩
  ·rintro i σ H' _ ⟨_,_,e,_⟩;exact mD e
  ·rintro i v σ H3 hi ⟨⟨o2,rfl⟩,s3,e3,fs,el,N6⟩;obtain ⟨t,r,rfl,hs,rt,hz⟩:∃t r,v=.ref t/\[q1,q2][i]? =some r/\pi H t r/\r.2.2.2 = "" :=by
    match i,hi with
    | 0,hi=>cases hi;exact ⟨u1,q1,rfl,rfl,rt.s1,rfl⟩
    | 1,hi=>cases hi;exact ⟨u2,q2,rfl,rfl,rt.s2,rfl⟩
   have tk:wY ([q1,q2].take (i+1))=wY ([q1,q2].take i)++[(false,r.1),(true,r.1)]:=by
    unfold wY;rw [nq,hs,wB]
    rfl
   have R1:fs.length<=300:=by
    rw [mv N6]
    match i with
    | 0=>decide
    | 1=>decide
    | _+2=>cases hs
   have put:∀{Ha Hb:Hp} {f:kS} {gs:kQ kS} {rs:kQ (Bool×kR)} {r':Bool×kR},lK H Ha->Ha p=some (.tup [.ref u1,.ref u2])->Ha l=some (.lst (gs.map V.ref))->Paired (qD T Ha) gs rs->lK Ha Hb->qD T Hb f r' ->
     lK H (upd Hb l (.lst (gs.map V.ref++[.ref f])))/\upd Hb l (.lst (gs.map V.ref++[.ref f])) p=some (.tup [.ref u1,.ref u2])/\upd Hb l (.lst (gs.map V.ref++[.ref f])) l=some (.lst ((gs++[f]).map V.ref))/\Paired (qD T (upd Hb l (.lst (gs.map V.ref++[.ref f])))) (gs++[f]) (rs++[r']):=by
    intro Ha Hb f gs rs r' a1 a2 a4 a5 b1 b2;have nl:NL Hb (upd Hb l (.lst (gs.map V.ref++[.ref f]))):=NL.upd (b1.at a4);exact ⟨fun b o z=>by rw [Zd (Zg z n1)];exact b1.at (a1.at z),by rw [Zd npl];exact b1.at a2,by rw [Zc,mq];rfl,oP (mw a5 fun _ _ z=>(z.mono b1).nl nl) (.cons (b2.nl nl) .nil)⟩
   refine lS (Zy (pW (pv 1) (Zx (EB T) hr (Zb (ml (pv 2) Zf) Za)))) (lP rfl ⟨.inl ⟨rfl,_,lW el⟩,_,rfl,(mQ (rt.mono s3) 0 rfl ⟨r.1,rfl,ht.mono s3,fun f1 H4 s4 n4 r4=>⟨l,_,_,rfl,rfl,s4.at el,by rw [lV];exact Zp (by lia),?_⟩⟩)⟩);obtain ⟨a1,a2,a4,a5⟩:=put s3 e3 el N6 s4 (show qD T H4 f1 (false,r.1) from r4);generalize upd H4 l (.lst (fs.map V.ref++[.ref f1]))=H5 at a1 a2 a4 a5;refine lS (Zy (pW (pv 1) (Zx (Cm T) hr (Zb (ml (pv 2) Zf) Za)))) (lP rfl ⟨.inl ⟨rfl,_,lW a4⟩,_,rfl,(mQ (rt.mono a1) 0 rfl ⟨r.1,rfl,ht.mono a1,fun f2 H6 s6 n6 r6=>⟨l,_,_,rfl,rfl,s6.at a4,by rw [lV];exact Zp (by rw [mY];simp;lia),?_⟩⟩)⟩);obtain ⟨b1,b2,b4,b5⟩:=put a1 a2 a4 a5 s6 (show qD T H6 f2 (true,r.1) from r6);generalize upd H6 l (.lst ((fs++[f1]).map V.ref++[.ref f2]))=H7 at b1 b2 b4 b5;refine lU (Zt (qi hr (ml (pv 2) Zf) Ze) Zn Zk) (lP rfl (mQ (rt.mono b1) 3 rfl (.inl ⟨rfl,_,rfl,?_⟩)));rw [hz,mB rfl];refine X0 ⟨⟨_,rfl⟩,b1,b2,_,b4,?_⟩;rw [tk];rw [qu (wY _)] at b5;exact b5
  ·rintro σ H3 ⟨⟨o2,rfl⟩,s3,_,fs,el,N6⟩;exact lU (Zm (pv 1)) (lP rfl (q l fs H3 s3 el N6))
inductive GZ:Sp
 | mk (a u1 u2):vs=[.ref a]->ub H a u1 u2->(∀l H',lK H H'->H' l=some (.lst [])->Q (.ref l) H')->GZ  vs H Q E
def Vp:T.fH.O P w mg lL 1 GZ:=by
 refine T.fH.F.okA ?_;rfl'
 ·obtain ⟨a,u1,u2,rfl,rt,q⟩:=h;intro X D;refine lU (Zm (ph ["step"] (nZ 1 [] rfl) (yn (X7 (r:=qL K) qU (pv 0) (Wh Zf) Wr)) (ng 0) (rP (Z4 (r:=ro K) (uQ hr) (pR (K:=K) rfl (pv 0) Zf) Ze (Yw _))) (Zi (Zb (pR (K:=K) rfl (pv 0) Zf) (Zb (pR (K:=K) rfl (pv 0) Zf) Za))))) (lP rfl (lP rfl (.inl ⟨a,_,rfl,mD rt.t,Du _ _,fun p H2 s2 n2 e2=>?_⟩)));rw [zT] at e2;refine ⟨mD e2,fun D hD=>BX (K:=K) (xs:=[V.ref u1,.ref u2]) (fun i ys H'=>ys=[]/\H' D=some (.lst ys)/\lK H2 H') ⟨rfl,Zc,nY hD⟩ (fun i ys H' _ z=>mD (z.2.2.at e2)) ?_ fun ys H' ⟨_,e,sm⟩=>?_⟩
  ·rintro i v ys H' hi ⟨rfl,v6,sm⟩;obtain ⟨t,r,rfl,rt,hz⟩:∃t r,v=.ref t/\pi H t r/\r.2.2.2 = "" :=by
    match i,hi with
    | 0,hi=>cases hi;exact ⟨u1,q1,rfl,rt.s1,rfl⟩
    | 1,hi=>cases hi;exact ⟨u2,q2,rfl,rt.s2,rfl⟩
   refine ⟨nS rfl,_,rfl,(mQ (rt.mono (s2.trans sm)) 3 rfl (.inl ⟨rfl,_,rfl,?_⟩))⟩;rw [hz,mB rfl];exact X0 ⟨rfl,v6,sm⟩
  ·subst ‹ys=[]›;exact q D H' (s2.trans sm) e
inductive Ko:Sp
 | mk (d a u1 u2) (kvs:kQ (md×V)):vs=[.ref d,.ref a]->H d=some (.dK kvs)->kvs.length<=100->ub H a u1 u2->(∀d' H',lK H H'->H d'=none->H' d'=some (.dK kvs)->Q (.ref d') H')->Ko  vs H Q E
def SN:T.hV.O P w mg lL 2 Ko:=by
 refine T.hV.F.okW Ib ?_;rfl'
 ·obtain ⟨d,a,u1,u2,kvs,rfl,hd,hkl,rt,q⟩:=h;intro X D;refine lS (me 2 Ib (Y6 (r:=Ef) MD (by rfl) T.dW wA (Zb (pv 0) Za))) (lP rfl ⟨d,_,rfl,.inl hd,fun d' H1 s1 n1 e1=>?_⟩);refine lS (Zy (QZ rfl (pv 2) (Zx (Vp T) hr (Zb (pv 1) Za)) ⟨rfl,rfl,rfl,rfl⟩)) (lP rfl ⟨d',rfl,.inl ⟨_,.inl e1⟩,_,rfl,a,u1,u2,rfl,rt.mono s1,fun l H2 s2 e2=>⟨l,[],_,[],rfl,s2.at e1,e2,.nil,tT (Zp (by simp;lia)),?_⟩⟩);exact lU (Zm (pv 2)) (lP rfl (q d' _ (fun b o z=>by rw [Zd (Zg z n1)];exact s2.at (s1.at z)) n1 Zc))
def g4:S4:=("g", "", "a", "")
inductive LK:Sp
 | mk (p d):vs=[.ref p,.int 1,.ref d]->Z8 H p [g4,q1,q2]->H d=some (.dK (Zs V.bl [("p",true)]))->(∀H',lK H H'->Q (.int 1) H')->LK  vs H Q E
def UP:T.dF.O P w mg lL 2 LK:=by
 refine T.dF.F.okW Gs ?_;rfl'
 ·obtain ⟨p,d,rfl,hp,hd,q⟩:=h;intro X D;refine lS (vD 3 ["place", "part", "seen"] Gs (nZ 2 [2] rfl) (xc rfl T.bP (Zb (Zx (AG T) hr (Zb (pv 0) Za)) Za)) (ux (K:=K) (n:=2) rfl rfl (Zq (ng 0) (Zq (ng 1) Y9))) (rP (Yn (xP (Xi hr) (pv 2) (pv 1) ri ⟨rfl,rfl,rfl,rfl⟩))) (pv 0)) (lP rfl ⟨p,_,rfl,hp.seq,by left,fun pf H1 s1 n1 e1=>⟨lW e1,fun D hD=>Pi (xs:=[V.str "g",.str "p",.str "h"]) (fun i ys H'=>ys=(if i<=1 then [] else [V.int 1])/\H' D=some (.lst ys)/\lK H1 H') ⟨rfl,Zc,nY hD⟩ ?_ ?_ ?_⟩⟩)
  ·rintro i ys H' _ ⟨_,_,sm⟩;exact lW (sm.at e1)
  ·rintro i v ys H' hi ⟨rfl,v6,sm⟩ t H3 s3 n3 e3;obtain ⟨x,rfl,hx,hi3⟩:∃x:kR,v=.str x/\(Y2 (Zs V.bl [("p",true)]) (Sum.inr x)).getD (.bl false)=.bl (decide (i=1))/\i<3:=by
    match i,hi with
    | 0,hi=>cases hi;exact ⟨_,rfl,by trivial,by left⟩
    | 1,hi=>cases hi;exact ⟨_,rfl,by trivial,by left⟩
    | 2,hi=>cases hi;exact ⟨_,rfl,by trivial,by left⟩
   have m7:=s1.trans (sm.trans s3);refine ⟨t,_,rfl,mD e3,rfl,_,_,rfl,_,_,rfl,rfl,(nS rfl).trans (nS rfl),_,rfl,d,rfl,.inl ⟨_,.inl (m7.at hd)⟩,_,rfl,_,pp (k:=Sum.inr x) (m7.at hd),_,hx,Yj (fun hc=>?_) (fun hc=>?_)⟩
   ·obtain rfl:i=1:=nM hc;refine (lP rfl ⟨s3.at v6,sz (by left),rfl,Zc,fun b o e=>?_⟩);rw [Zd (Zg e hD)];exact s3.at (sm.at e)
   ·have hc:i≠1:=fun z=>hc (mB z)
    refine ⟨?_,s3.at v6,sm.trans s3⟩
    by_cases z:i<=1
    ·rw [lZ z,lZ (by lia)]
    ·rw [lY z,lY (by lia)]
  ·rintro ys H2 ⟨rfl,w4,s2⟩;have B4:=s1.trans s2;have w4:H2 D=some (.lst [.int 1]):=w4;refine lS (Zt (Y8 (PZ (pv 3) (fun _=>rfl))) Zn Zk) (lP rfl ⟨_,.inl ⟨_,lW w4,rfl⟩,Yj (fun h=>absurd h (by simp)) (fun _=>?_)⟩);exact lU (Zm (Z2 (Gp rfl) (by rfl) T.iE Gq (Zb Zf (Zb (Z2 (Ku rfl) (by rfl) T.iF Kh (Zb (ml (pv 3) Zf) (Zb (Zo Wz (Zo xF (ml (pv 3) (yQ xK Zf)) (pv 1)) Zf) Za))) Za)))) (lP rfl (.inl ⟨D,_,0,_,rfl,rfl,lW w4,Xn (j:=0) rfl,_,rfl,_,rfl,.inl ⟨D,_,_,.int 1,rfl,rfl,lW w4,rfl,_,rfl,_,_,rfl,rfl,.inl (mz rfl rfl ⟨_,_,rfl,_,_,rfl,q H2 B4⟩)⟩⟩))
inductive Jc:Sp
 | mk (d dl ds l):vs=[.ref d,.ref dl,.ref ds]->H d=some (.dK (Zs V.ref [("ta",l)]))->Z8 H l [g4,q1,q2]->H dl=some (.dK (rL [("ta",1)]))->d≠dl->d≠ds->H ds=some (.dK (Zs V.bl [("p",true)]))->(∀d' l' H',lK H H'->H d'=none->H l'=none->H' d'=some (.dK (Zs V.ref [("ta",l')]))->Z8 H' l' [q1,q2]->Q (.ref d') H')->Jc  vs H Q E
def OJ:T.dY.O P w mg lL 3 Jc:=by
 refine T.dY.F.okW zp ?_;rfl'
 ·obtain ⟨d,dl,ds,l,rfl,hd,hp,hdl,nl,ns,hds,q⟩:=h;intro X D;refine lS (me 3 zp Xh) fun d' H1 s1 n1 e1=>?_
  have dd:d≠d':=fun z=>by rw [z,n1] at hd;cases hd
  refine lS (xU (Xb ol rfl (vG (pv 0)) (qG rfl (Zq (mP 4 zp) (Zq (mP 5 zp) Y9))) Zn)) (lP rfl ⟨d,_,rfl,s1.at hd,fun o nf=>AS (fun i σ H'=>(∃o4 o5,σ=[some (.ref d),some (.ref dl),some (.ref ds),some (.ref d'),o4,o5])/\(∀b u,b≠d'->upd H1 d (.frz o (.dK (Zs V.ref [("ta",l)]))) b=some u->H' b=some u)/\(i=0->H' d'=some (.dK []))/\(i=1->∃l',H l'=none/\H' d'=some (.dK (Zs V.ref [("ta",l')]))/\Z8 H' l' [q1,q2])) ⟨⟨none,none,rfl⟩,fun _ _ _ z=>z,fun _=>by rw [Zd dd.symm];exact e1,fun z=>absurd z (by left)⟩ ?_ ?_ ?_⟩)
  ·rintro i σ H' _ ⟨_,z,_⟩;exact z d _ dd Zc
  ·rintro i kv σ H2 hi ⟨⟨o4,o5,rfl⟩,sm,h0,_⟩ tp H3 s3 n3 e3;obtain ⟨rfl,rfl⟩:i=0/\kv=((Sum.inr "ta",V.ref l):md×V):=by
    match i,hi with
    | 0,hi=>cases hi;exact ⟨rfl,rfl⟩
   have at3:∀{b:kS} {u:HO},b≠d->H b=some u->H3 b=some u:=fun {b u} nb z=>s3.at (sm b u (fun y=>by rw [y,n1] at z;cases z) (by rw [Zd nb];exact s1.at z))
   have hp3:Z8 H3 l [g4,q1,q2]:=by
    obtain ⟨ts,h1,h2⟩:=hp;exact ⟨ts,at3 (fun z=>by rw [z,hd] at h1;cases h1) h1,mw h2 fun _ _ r=>at3 (fun z=>by rw [z] at r;exact nomatch hd.symm.trans r) r⟩
   obtain ⟨ts,h1,h2⟩:=id hp3;refine ⟨tp,_,rfl,mD e3,rfl,_,_,rfl,_,_,rfl,rfl,?_⟩;refine lU (rE (Xi hr) (pv 3) (pv 4) (X7 (r:=qL K) qU (pv 5) (Wh (Zx (UP T) hr (Zb (pv 5) (Zb (X9 (Xi hr) (pv 1) (pv 4) (fun _ _=>rfl)) (Zb (pv 2) Za))))) Wr) rfl) (lP rfl (lP rfl (lP rfl (lP rfl ⟨dl,.int 1,rfl,pp (k:=Sum.inr "ta") (at3 nl.symm hdl),_,rfl,l,ds,rfl,hp3,at3 ns.symm hds,fun H4 s4=>(lP rfl (.inr (.inl ⟨l,_,rfl,lW (s4.at h1),fun l' H5 s5 n5 e5=>(lP rfl (lP rfl ⟨d',_,rfl,pG.k (k:=Sum.inr "ta") (s5.at (s4.at (s3.at (h0 rfl)))) (Zp (by left)),⟨_,_,rfl⟩,fun b u nb z=>?_,fun z=>absurd z (by left),fun _=>⟨l',?_,Zc,?_⟩⟩))⟩)))⟩))))
   ·rw [Zd nb];exact s5.at (s4.at (s3.at (sm b u nb z)))
   ·cases z:H l' with
    | none=>rfl
    | some u =>
     by_cases y:l'=d
     ·have:=s4.at (s3.at (sm d _ dd Zc));rw [<-y,n5] at this;cases this
     ·rw [s4.at (at3 y z)] at n5;cases n5
   ·obtain ⟨t1,t2,t3,rfl,_,r2,r3⟩:=Jm h2;rw [show (([t1,t2,t3]:kQ kS).map V.ref)=.ref t1 ::[.ref t2,.ref t3] from rfl] at e5;have e5:H5 l'=some (.lst [.ref t2,.ref t3]):=by
     have e5:H5 l'=some (.lst (qf (.ref t1 ::[.ref t2,.ref t3]) (some 1) none)):=e5;rw [zT] at e5;exact e5
    have P0:=s5.at (s4.at (s3.at (h0 rfl)));refine Z8.off ⟨[t2,t3],e5,.cons (s5.at (s4.at r2)) (.cons (s5.at (s4.at r3)) .nil)⟩ (fun z=>by rw [z,P0] at e5;cases e5) fun xs z=>by rw [P0] at z;cases z
  ·rintro σ H2 ⟨⟨o4,o5,rfl⟩,sm,_,h1⟩;obtain ⟨l',n',e',P'⟩:=h1 rfl;have hf:=sm d _ dd Zc;refine ⟨d,o,_,hf,nf,lU (Zm (pv 3)) ⟨_,rfl,q d' l' _ (fun b u z=>?_) n1 n' (by rw [Zd dd.symm];exact e') (P'.off (fun z=>by obtain ⟨_,y,_⟩:=P';rw [z,hf] at y;cases y) fun xs z=>by rw [hf] at z;cases z)⟩⟩
   by_cases y:b=d
   ·rw [y,Zc,<-hd,<-y];exact z
   ·rw [Zd y];exact sm b u (fun w=>by rw [w,n1] at z;cases z) (by rw [Zd y];exact s1.at z)
inductive Jx:Sp
 | mk (da db l l'):vs=[.ref da,.ref db]->H da=some (.dK (Zs V.ref [("ta",l)]))->Z8 H l [g4,q1,q2]->da≠db->H db=some (.dK (Zs V.ref [("ta",l')]))->Z8 H l' [q1,q2]->(∀r H',lK H H'->H r=none->H' r=some (.lst [.str "g"])->Q (.ref r) H')->Jx  vs H Q E
def Vu:T.fK.O P w mg lL 2 Jx:=by
 refine T.fK.F.okW Ak ?_;rfl'
 ·obtain ⟨da,db,l,l',rfl,hd,hp,nd,hb,hp',q⟩:=h;intro X D;refine lS (me 2 Ak (Zl Za)) ⟨lR,fun pl H1 s1 n1 e1=>?_⟩;have dd:da≠pl:=fun z=>by rw [z,n1] at hd;cases hd
  refine lS (xU (Xb ol rfl (vG (pv 0)) (qG rfl (Zq (mP 3 Ak) (Zq (mP 4 Ak) Y9))) Zn)) (lP rfl ⟨da,_,rfl,s1.at hd,fun o nf=>AS (fun i σ H'=>(∃o3 o4,σ=[some (.ref da),some (.ref db),some (.ref pl),o3,o4])/\(∀b u,b≠pl->upd H1 da (.frz o (.dK (Zs V.ref [("ta",l)]))) b=some u->H' b=some u)/\H' pl=some (.lst (if i=0 then [] else [.str "g"]))) ⟨⟨none,none,rfl⟩,fun _ _ _ z=>z,by rw [Zd dd.symm];exact e1⟩ ?_ ?_ ?_⟩)
  ·rintro i σ H' _ ⟨_,z,_⟩;exact z da _ dd Zc
  ·rintro i kv σ H2 hi ⟨⟨o3,o4,rfl⟩,sm,h0⟩ tp H3 s3 n3 e3;obtain ⟨rfl,rfl⟩:i=0/\kv=((Sum.inr "ta",V.ref l):md×V):=by
    match i,hi with
    | 0,hi=>cases hi;exact ⟨rfl,rfl⟩
   have at3:∀{b:kS} {u:HO},b≠da->H b=some u->H3 b=some u:=fun {b u} nb z=>s3.at (sm b u (fun y=>by rw [y,n1] at z;cases z) (by rw [Zd nb];exact s1.at z))
   have pat:∀{c:kS} {ss:kQ S4},Z8 H c ss->Z8 H3 c ss:=fun ⟨ts,h1,h2⟩=>⟨ts,at3 (fun z=>by rw [z,hd] at h1;cases h1) h1,mw h2 fun _ _ r=>at3 (fun z=>by rw [z] at r;exact nomatch hd.symm.trans r) r⟩
   obtain ⟨ts,h1,h2⟩:=pat hp;obtain ⟨ts',h1',h2'⟩:=pat hp';obtain ⟨t1,t2,t3,rfl,r1,r2,r3⟩:=Jm h2;obtain ⟨t4,t5,rfl,_⟩:=Bt h2';refine ⟨tp,_,rfl,mD e3,rfl,_,_,rfl,_,_,rfl,rfl,?_⟩;refine lU (Zy (vX wK Lv PySem.F.type_list_extend Qu (pv 2) (Zb (Zx (AG T) hr (Zb (X7 (r:=qL K) qU (pv 4) Wr (Wh (Zo xF (oH T.bw (pv 4)) (oH T.bw (X9 (Xi hr) (pv 1) (pv 3) (fun _ _=>rfl)))))) Za)) Za))) (lP rfl ⟨.inl ⟨rfl,_,lW (s3.at h0)⟩,_,rfl,_,rfl,.inl ⟨l,_,rfl,.inl (lW h1),_,rfl,_,rfl,db,.ref l',rfl,pp (k:=Sum.inr "ta") (at3 nd.symm hb),.inl ⟨l',_,rfl,.inl (lW h1'),_,_,rfl,rfl,_,rfl,.inr (.inl ⟨l,_,rfl,lW h1,fun l5 H5 s5 n5 e5=>⟨l5,[g4],rfl,⟨[t1],.inl ?_,.cons (s5.at r1) .nil⟩,by left,fun p6 H6 s6 n6 e6=>⟨pl,p6,_,_,rfl,rfl,s6.at (s5.at (s3.at h0)),e6,sz (by left),⟨_,_,rfl⟩,fun b u nb z=>by rw [Zd nb];exact s6.at (s5.at (s3.at (sm b u nb z))),Zc⟩⟩⟩)⟩⟩⟩);have e5:H5 l5=some (.lst (qf [.ref t1,.ref t2,.ref t3] none (some ((1:Nat):Int)))):=e5;rw [xC] at e5;exact e5
  ·rintro σ H2 ⟨⟨o3,o4,rfl⟩,sm,h1⟩;have hf:=sm da _ dd Zc;have sT:lK H (upd H2 da (.dK (Zs V.ref [("ta",l)]))):=fun b u z=>by
    by_cases y:b=da
    ·rw [y,Zc,<-hd,<-y];exact z
    ·rw [Zd y];exact sm b u (fun w=>by rw [w,n1] at z;cases z) (by rw [Zd y];exact s1.at z)
   have h1:H2 pl=some (.lst [.str "g"]):=h1;refine ⟨da,o,_,hf,nf,lU (Zm (Z2 (r:=Kn K) Uk (by rfl) T.bV tY (Zb (pv 2) Za))) ⟨_,rfl,pl,["g"],rfl,lW (by rw [Zd dd.symm];exact h1),by left,fun ss hp _ r H3 s3 n3 e3=>q r H3 (sT.trans s3) (sT.free n3) ?_⟩⟩;rw [List.perm_singleton.mp hp] at e3;exact e3
section
variable {U:Tx K mg} {F:kS->Prop} {val:kR->kQ Z0}
def mF.path{vl:kR->kQ Z0}(hw:mF U H0 H F x tr ad lw val ln)(s1:lK H H1)(hd:H d=none)(hp:Yg H1 d es' vl)(m9:es'.map Prod.fst=ln.map Prod.fst)(hn:∀e∈es',H e.2=none)(hv:∀t,(vl t).length<=100):mF U H0 (upd H1 x (ww U ⟨ad.dx,ad.ld,ad.sd,ad.nd,d,es'⟩ tr)) (fun b=>F b\/b=d) x tr ⟨ad.dx,ad.ld,ad.sd,ad.nd,d,es'⟩ lw vl ln:=by
 have:=hw.move s1 hd hp m9 hn hw.lnd hw.len hw.ok hv;rw [Ue (show upd H1 x (ww U ⟨ad.dx,ad.ld,ad.sd,ad.nd,d,es'⟩ tr) ad.nd=some (.dK (rL ln)) by rw [Zd hw.xn.symm];exact s1.at hw.lens)] at this;exact this
def mF.lay(hw:mF U H0 H F x tr ad lw val ln)(s1:lK H H1)(hd:H d=none)(e:H1 d=some (.dK (Zs V.str lw))):mF U H0 (upd H1 x (ww U ⟨ad.dx,d,ad.sd,ad.nd,ad.pd,ad.es⟩ tr)) F x tr ⟨ad.dx,d,ad.sd,ad.nd,ad.pd,ad.es⟩ lw val ln:=by
 have t6:=hw.mono s1;have nx:∀{b:kS},¬F b->b≠x:=fun z y=>z (y ▸ hw.fx)
 have u:∀{b:kS} {o v:HO},b≠x->H1 b=some o->upd H1 x v b=some o:=fun n z=>by rw [Zd n];exact z
 refine ⟨Zc,u (nx (hw.neF hd)) e,u (nx hw.ns) t6.sti,u hw.xn.symm t6.lens,t6.pth.offC hw.xp.symm (fun e he=>nx (hw.ni e he)) t6.obj (fun _ z=>nomatch z),hw.nm,hw.lnd,hw.len,hw.vl,hw.ok,hw.fx,hw.fn,hw.fp,hw.ne,hw.neF hd,hw.ns,hw.ni,hw.free,fun b o z=>u (Zg z (hw.free x hw.fx)) (t6.same.at z),fun b z=>?_⟩
 by_cases y:b=x
 ·exact ⟨.ins _ _ _,by rw [y];exact Zc,fun _ z=>nomatch z⟩
 ·obtain ⟨o,z1,z2⟩:=t6.live b z;exact ⟨o,u y z1,z2⟩
end
def Kr (D4:kQ kR) (g:Gd) (r:Bool×kR):kW (kR×kR):=if r.1=true then vh g r.2 else vL D4 g r.2
def Qp(h:Paired (qD T H) fs rs)(G:sP T H gr es g dl ds dp dt):Paired (fun f a=>vz P w K mg lL 5 H f gr a) fs (rs.map (Kr (es.map Prod.fst) g)):=by
 induction h with
 | nil=>exact .nil
 | @cons f r _ _ z _ ih =>
  refine .cons ?_ ih;obtain ⟨b,y⟩:=r;cases b with
  | false=>exact (Cd T z G).up (by left)
  | true=>exact (Ey T z G).up (by left)
def mF.one{F:kS->Prop}{val:kR->kQ Z0} (h:mF U H0 H F x tr ad lw val [("ta",1)]):∃l:kS,ad.es=[(("ta" :kR),l)]:=by
 have:=h.nm;generalize ad.es=es at this
 match es,this with
 | [(t,l)],z =>
  have z:t = "ta" :=(Ad z).1;exact ⟨l,by rw [z]⟩
inductive Cu:Sp
 | mk (H0) (F:kS->Prop) (x tr a u1 u2 dt ad) (lw:kQ (kR×kR)) (val:kR->kQ Z0):vs=[.ref x,.str "ta",.ref a,.ref dt]->mF T H0 H F x tr ad lw val [("ta",1)]->val "ta" =[g4]->lw.length<=100->Yf T H0 tr oG pe oz->pY T H0->ub H a u1 u2->H dt=some (.dK (Zs V.bl []))->(∀H' F' x8,(∀b,F' b->F b\/H b=none)->qW F H H'->mF T H0 H' F' x tr x8 lw (W8 ["ta"] val "ta" [q1,q2]) [("ta",1)]->Q .non H')->Cu vs H Q E
def Re:T.bg.O P w mg lL 7 (Cu T):=by
 refine T.bg.F.okW FR ?_;rfl'
 ·obtain ⟨H0,F,x,tr,a,u1,u2,dt,ad,lw,val,rfl,hw,hv,hlw,ht,tb,rt,E2,q⟩:=h;intro X D;obtain ⟨dxt,po,jo,so,si,kp,ks,kj,ko,ht1,_⟩:=(ht.mono hw.same).ex;refine lS (me 4 FR (Z7 (pv 0) T.ac T.ck (By T) hr.m T.aA.b .nil Z3 (Zb (pv 1) Za))) (lP rfl ⟨x,ad.dx,_,rfl,hw.obj,rfl,_,rfl,H0,F,x,tr,ad,lw,val,_, "ta",rfl,hw,mV,fun l H1 s1 n1 P1=>?_⟩);have t6:=hw.mono s1;rw [hv] at P1;refine lS (Zt (Y8 (Yn (Zx (WX T) hr (Zb (Yb (pv 0) rfl) (Zb (pv 2) Za))))) Zn Zk) (lP rfl ⟨t6.obj,T.ac,T.aR,rfl,_,rfl,tr,a,u1,u2,rfl,ht.mono t6.same,s1.at rt.t,rt.s1.mono s1,rt.s2.mono s1,fun H2 s2=>(lP rfl (X0 ?_))⟩);have N9:=t6.mono s2;have s02:=s1.trans s2;obtain ⟨ts,hl,d9⟩:=P1.mono s2;obtain ⟨tg,rfl,rg⟩:=DQ d9;let I35:IC:=fun σ H'=>σ=[some (.ref x),some (.str "ta"),some (.ref a),some (.ref dt),some (.ref l)]/\lK H2 H'
  refine nX I35 (oi (Zt (qi hr (Z7 (Yb (pv 0) rfl) T.am T.cQ (HN T) hr.m T.bq.b .nil Z3 (Zb (ml (pv 2) Zf) Za)) (Zx (EG T) hr (Zb (ml (pv 4) (yQ xK Zf)) Za))) Zn Zk) (lP rfl ⟨N9.obj,T.ac,T.aR,rfl,tr,dxt,_,rfl,s02.at ht1,rfl,_,rfl,(mQ (s02.at rt.t) 0 rfl ⟨tr,("sg",("g", "a")),rfl,ht.mono N9.same,mV,fun t3 H3 s3 p3=>(lP rfl (lP rfl (.inl ⟨l,_,_,.ref tg,rfl,rfl,lW (s3.at hl),rfl,tg,g4,rfl,s3.at rg,fun t4 H4 s4 n4 p4=>.inr (.inl ⟨1,oq ("g", "a"),oq ("g", "a"),by left,.inl ⟨_,_,rfl,rfl⟩,vS (s4.at p3),vS p4,_,rfl,?_⟩)⟩)))⟩)⟩)) ?_
  ·rw [lZ rfl,mB rfl];exact X0 ⟨rfl,s3.trans s4⟩
  rintro σ H4 ⟨rfl,s4⟩;have O6:=s02.trans s4;have U9:=hw.mono O6;refine lS (Zy (Zx (Gy T) hr (Zb (Zx (EA T) hr (Zb (Zx (Ov T) hr (Zb (pv 2) Za)) (Zb (Z7 (pv 0) T.ac T.cm (DS T) hr.m T.aV.b .nil Z3 (Zb (pv 3) Za)) Za))) Za))) (lP rfl ⟨a,u1,u2,rfl,tb.mono U9.same,rt.mono O6,fun lr fs H5 s5 e5 hR=>(lP rfl ⟨x,ad.dx,_,rfl,s5.at U9.obj,rfl,_,rfl,H0,F,x,tr,dt,ad,lw,val,_,[],rfl,U9.mono s5,(O6.trans s5).at E2,fun gr H6 s6 n6 G6=>⟨lr,gr,fs,_,rfl,lW (s6.at e5),Qp T (mw hR fun _ _ z=>z.mono s6) G6,fun v7 H7 s7 wd=>?_⟩⟩)⟩);have nob:∀y∈[("p" :kR), "h"],¬∃t∈[("ta" :kR)],y∈(val t).map Prod.fst:=fun y hy ⟨t,ht,hm⟩=>by
   rw [nW.mp ht,hv] at hm;rw [nW.mp hm] at hy;exact absurd hy (by trivial)
  have D3:ad.es.map Prod.fst=[("ta" :kR)]:=hw.nm;rw [zk fun c hc=>?_] at wd;rotate_left
  ·obtain ⟨r,hr,rfl⟩:=mh.mp hc;have hr:r∈[((false, "p"):Bool×kR),(true, "p"),(false, "h"),(true, "h")]:=hr;unfold Kr;simp only [mI,uX,sR] at hr;rcases hr with rfl|rfl|rfl|rfl
   ·rw [lY (by left),D3];exact lY (nob _ (by trivial))
   ·rfl
   ·rw [lY (by left),D3];exact lY (nob _ (by trivial))
   ·rfl
  obtain rfl:v7=.non:=wd;refine ⟨rfl,?_⟩;have J6:=O6.trans (s5.trans (s6.trans s7));have hw7:=hw.mono J6;refine lS (Wg (pv 0) (X1 (MB T) hr.m rfl T.bL.m T.bL.F.kp T.bL.b .nil GO (Zb (Yb (pv 0) rfl) (Zb (pv 1) (Zb (X7 (r:=qL K) qU (pv 2) (Wh Zf) Wr) Za)))) rfl) (lP rfl ⟨hw7.obj,T.ac,T.ak,rfl,_,rfl,_,rfl,_,rfl,.inl ⟨a,_,rfl,mD (J6.at rt.t),Du _ _,fun p9 H9 s9 n9 e9=>⟨ad.pd,p9, "ta",ad.es,val,[q1,q2],rfl,hw7.pth.mono s9,by rw [hw.nm];exact hw.lnd,?_,hw.vl,?_,⟨[u1,u2],.inr (by rw [zT] at e9;exact e9),.cons (rt.s1.mono (J6.trans s9)) (.cons (rt.s2.mono (J6.trans s9)) .nil)⟩,by left,fun d' HB es' gt sB nB pB eB xg fB=>(lP rfl ⟨x,_,ad.dx,_,rfl,(s9.trans sB).at hw7.obj,T.ac,T.ak,(by show 5<1000;decide),?_⟩),fun dx HB y sB nB fb eB=>?_⟩⟩⟩)
  ·obtain ⟨l0,e0⟩:=hw.one;rw [e0];exact Nat.le_add_left 1 99
  ·intro t ht;rw [D3] at ht;rw [nW.mp ht];decide +kernel
  ·have U4:=J6.trans (s9.trans sB);have es1:es'.map Prod.fst=[((("ta",1):kR×Nat))].map Prod.fst:=by
    rw [eB,D3];exact lZ mV
   rw [D3] at pB;have fB':∀e∈es',H e.2=none:=fun e he=>(J6.trans s9).free (fB e he)
   have k1:=hw.path U4 ((J6.trans s9).free nB) pB es1 fB' fun t=>by
    unfold W8;split
    ·rw [lZ mV,hv];decide
    ·exact hw.vl t
   have rtx:∀{o:HO},ub (upd HB x o) a u1 u2:=fun {o}=>by
    have r:=rt.mono U4;have n:∀{c:kS} {xs:kQ V},HB c=some (.tup xs)->upd HB x o c=some (.tup xs):=fun {c xs} z=>(Zd fun y=>by rw [y,U4.at hw.obj] at z;cases z).trans z
    exact ⟨n r.t,n r.s1,n r.s2⟩
   refine lU (Wg (pv 0) (Zx (SN T) hr (Zb (Yb (pv 0) rfl) (Zb (pv 2) Za))) rfl) (lP rfl ⟨Zc,T.ac,T.bU,rfl,_,rfl,ad.ld,a,u1,u2,_,rfl,k1.lies,by rw [show (Zs V.str lw).length=lw.length from lV ..];exact hlw,rtx,fun d5 HC sC nC eC=>(lP rfl ⟨x,_,ad.dx,_,rfl,sC.at Zc,T.ac,T.bU,(by show 5<1000;decide),?_⟩)⟩);have k2:=k1.lay sC nC eC;refine q _ _ _ (fun b z=>z.imp id fun y=>by rw [y];exact (J6.trans s9).free nB) (fun b o nb z=>?_) k2;have nx:b≠x:=fun y=>nb (y ▸ hw.fx)
   rw [Zd nx];exact sC.at (by rw [Zd nx];exact U4.at z)
  ·obtain ⟨i,hi,hb,_⟩:=fb;have hi:[("p" :kR), "h"][i]? =some y:=hi;rcases hb with z|z
   ·match i,hi,z with
    | 0,_,z=>exact absurd z (by simp)
    | 1,hi,z=>cases hi;exact absurd z (by trivial)
   ·rw [D3] at z;exact nob y (oE hi) z
def TC(h:7<=k:=by left):T.bg.O P w mg lL k (Cu T):=(Re T).mono h
inductive Gc:Sp
 | mk (H0) (F:kS->Prop) (x tr dt ad lw) (val:kR->kQ Z0):vs=[.ref x,.ref dt]->mF T H0 H F x tr ad lw val [("ta",1)]->val "ta" =[g4,q1,q2]->¬F dt->H dt=some (.dK (Zs V.bl [("p",true)]))->(∀r H' F' x8,(∀b,F' b->F b\/H b=none)->qW F H H'->H r=none->¬F' r->H' r=some (.lst [.str "g"])->mF T H0 H' F' x tr x8 lw (fun _=>[q1,q2]) [("ta",1)]->Q (.ref r) H')->Gc vs H Q E
def Sw:T.ci.O P w mg lL 4 (Gc T):=by
 refine T.ci.F.okW IH ?_;rfl'
 ·obtain ⟨H0,F,x,tr,dt,ad,lw,val,rfl,hw,hv,nF,E2,q⟩:=h;intro X D;obtain ⟨l,m9⟩:=hw.one;have hp:=hw.pth;rw [m9] at hp;have P1:Z8 H l [g4,q1,q2]:=hv ▸ hp.2 _ mV;refine lS (me 2 IH (Yb (pv 0) rfl)) (lP rfl ⟨hw.obj,T.ac,T.ak,rfl,?_⟩);refine lS (Wg (pv 0) (Zx (OJ T) hr (Zb (pv 2) (Zb (Yb (pv 0) rfl) (Zb (pv 1) Za)))) rfl) (lP rfl (lP rfl ⟨hw.obj,T.ac,T.aZ,rfl,_,rfl,ad.pd,ad.nd,dt,l,rfl,hp.1,P1,hw.lens,hw.ne.symm,fun z=>nF (z ▸ hw.fp),E2,fun d' l' H1 s1 nd nl' e' P'=>(lP rfl ⟨x,_,ad.dx,_,rfl,s1.at hw.obj,T.ac,T.ak,(by show 5<1000;decide),?_⟩)⟩));have k1:=hw.path (es':=[("ta",l')]) (vl:=fun _=>[q1,q2]) s1 nd ⟨e',fun e he=>by rw [nW.mp he];exact P'⟩ rfl (fun e he=>by rw [nW.mp he];exact nl') fun _=>by left
  have nx:∀{b:kS} {u o:HO},b≠x->H1 b=some u->upd H1 x o b=some u:=fun n z=>by rw [Zd n];exact z
  have P2:∀{c:kS} {ss:kQ Z0} {o:HO},Z8 H1 c ss->Z8 (upd H1 x o) c ss:=fun {c ss o} z=>z.off (fun y=>by obtain ⟨_,w,_⟩:=z;rw [y,s1.at hw.obj] at w;cases w) fun xs y=>by rw [s1.at hw.obj] at y;cases y
  refine lU (Zm (Zx (Vu T) hr (Zb (pv 2) (Zb (Yb (pv 0) rfl) Za)))) (lP rfl (lP rfl ⟨Zc,T.ac,T.ak,rfl,ad.pd,d',l,l',rfl,nx hw.xp.symm (s1.at hp.1),P2 (P1.mono s1),(fun z=>by rw [<-z,hp.1] at nd;cases nd),nx (fun z=>by rw [z,hw.obj] at nd;cases nd) e',P2 P',fun r H2 s2 n2 e2=>?_⟩));have nr:H r=none:=by
   cases z:H r with
   | none=>rfl
   | some u =>
    by_cases y:r=x
    ·rw [y,Zc] at n2;cases n2
    ·rw [nx y (s1.at z)] at n2;cases n2
  exact q r H2 _ _ (fun b z=>z.imp id fun y=>by rw [y];exact nd) (fun b o nb z=>s2.at (nx (fun y=>nb (y ▸ hw.fx)) (s1.at z))) nr (k1.neF n2) e2 (k1.mono s2)
section
variable {U:Tx K mg} {H0 H H':Hp} {F F':kS->Prop} {x tr wl:kS} {ad x8:pJ} {lw:kQ (kR×kR)} {val D7:kR->kQ Z0} {ln ln':kQ (kR×Nat)} {ts:kQ Tr} {ws:kQ V}
structure sW(H:Hp)(F:Addr->Prop)(wl a:Addr)(o:HO):Prop where
 at_:H a=some o
 nF:¬F a
 nw:a≠wl
def sW.next(h:sW H F wl a o)(f:∀b,F' b->F b\/H b=none)(off:qW F H H'):sW H' F' wl a o:=⟨off _ _ h.nF h.at_,(fun z=>(f _ z).elim h.nF fun y=>nomatch h.at_.symm.trans y),h.nw⟩
def Wd(H:Hp)(F:kS->Prop)(wl:kS):Tr->V->Prop:=fun t v=>(∃s,v=.str s/\t=.str s)\/(∃a p q,v=.ref a/\t=.tup [.str p,.str q]/\sW H F wl a (.tup [.str p,.str q]))\/∃a s,v=.ref a/\t=.lst [.str s]/\sW H F wl a (.lst [.str s])
def Wd.next(h:Wd H F wl t v)(f:∀b,F' b->F b\/H b=none)(off:qW F H H'):Wd H' F' wl t v:=h.imp id (.imp (fun ⟨a,p,q,h1,h2,h3⟩=>⟨a,p,q,h1,h2,h3.next f off⟩) fun ⟨a,s,h1,h2,h3⟩=>⟨a,s,h1,h2,h3.next f off⟩)
def Wd.im(h:Wd H F wl t v):Im K H 1 t v:=by
 rcases h with ⟨s,rfl,rfl⟩|⟨a,p,q,rfl,rfl,h⟩|⟨a,s,rfl,rfl,h⟩
 ·exact .str _
 ·exact sJ (n:=0) (mD h.at_) (.cons (.str _) (.cons (.str _) .nil))
 ·exact tz (n:=0) (lW h.at_) (.cons (.str _) .nil)
structure TG(T:Tx K mg)(H0 H:Hp)(F:Addr->Prop)(x tr wl:Addr)(ad:pJ)(lw:List (Str×Str))(val:Str->List Z0)(ln:List (Str×Nat))(ts:List Tr)(ws:List V):Prop where
 k:mF T H0 H F x tr ad lw val ln
 w:H wl=some (.lst (.str "done" ::ws))
 nF:¬F wl
 n0:H0 wl=none
 ps:Paired (Wd H F wl) ts ws
 len:ws.length<=10
def TG.next(h:TG U H0 H F x tr wl ad lw val ln ts ws)(k:mF U H0 H' F' x tr x8 lw D7 ln')(f:∀b,F' b->F b\/H b=none)(off:qW F H H'):TG U H0 H' F' x tr wl x8 lw D7 ln' ts ws :=
 ⟨k,off _ _ h.nF h.w,(fun z=>(f _ z).elim h.nF fun y=>nomatch h.w.symm.trans y),h.n0,mw h.ps fun _ _ z=>z.next f off,h.len⟩
def TG.mono(e:lK H H')(h:TG U H0 H F x tr wl ad lw val ln ts ws):TG U H0 H' F x tr wl ad lw val ln ts ws:=h.next (h.k.mono e) (fun _ z=>.inl z) (zr e)
def TG.deed(h:TG U H0 H F x tr wl ad lw val ln ts ws)(sG:lK H G)(off:qW F G H4)(f:∀b,F' b->F b\/G b=none)(k4:mF U H0 H4 F' x tr x8 lw D7 ln')(bk:Bk H H4 H5):TG U H0 H5 (fun a=>F' a/\∃o,H4 a=some o/\H5 a=some o) x tr wl x8 lw D7 ln' ts ws:=h.next (k4.back bk h.k.same) (fun b z=>(f b z.1).imp id sG.free) (fun b o n e=>bk.old b o o e (off b o n (sG.at e)))
def sW.off(h:sW H F wl a o):sW (upd H wl u) F wl a o:=⟨by rw [Zd h.nw];exact h.at_,h.nF,h.nw⟩
def Wd.off(h:Wd H F wl t v):Wd (upd H wl u) F wl t v:=h.imp id (.imp (fun ⟨a,p,q,h1,h2,h3⟩=>⟨a,p,q,h1,h2,h3.off⟩) fun ⟨a,s,h1,h2,h3⟩=>⟨a,s,h1,h2,h3.off⟩)
def TG.add(h:TG U H0 H F x tr wl ad lw val ln ts ws)(hv:Wd H F wl t v)(hl:ws.length<10):TG U H0 (upd H wl (.lst (.str "done" ::ws++[v]))) F x tr wl ad lw val ln (ts++[t]) (ws++[v]) :=
 ⟨h.k.setU h.w (fun _ z=>nomatch z) (fun e he z=>by
  obtain ⟨us,y,_⟩:=h.k.pth.2 e he;rw [z,h.w] at y;cases us <;>cases y) h.nF (fun z=>by have:=h.k.lies;rw [<-z,h.w] at this;cases this) (fun z=>by have:=h.k.sti;rw [<-z,h.w] at this;cases this) h.n0,Zc,h.nF,h.n0,oP (mw h.ps fun _ _ z=>z.off) (.cons hv.off .nil),by rw [mY];exact hl⟩
def TG.tup(h:TG U H0 H F x tr wl ad lw val ln ts ws)(e:H a=some (.tup [.str p,.str q])):Wd H F wl (.tup [.str p,.str q]) (.ref a):=.inr (.inl ⟨a,p,q,rfl,rfl,e,fun z=>by
 obtain ⟨o,h1,h2⟩:=h.k.live a z;rw [e] at h1;exact h2 _ (mW h1).symm,fun z=>by rw [z,h.w] at e;cases e⟩)
def KC(ht:Yf U H0 tr oG pe oz)(tb:pY U H0) (k:mF U H0 H F x tr ad lw val [("ta",1)])   (hd:H dt=some (.dK (Zs V.bl []))) (hg:(("gate",g):Zh)∈oG/\((g, "a"):Zh)∈oz.map Prod.snd) (hh:g∈(val "ta").map Prod.fst) (q:∀dx H',lK H H'->H' dx=some (.xd [("part",.str g)])->E (.ref U.aS) (some dx) H'):zV U [.ref x,.str "tb",.int 2,.str g,.ref dt] H Q E :=
 ⟨H0,F,x,tr,dt,ad,lw,val,_,[],oG,pe,oz,.str "tb",.int 2,.str g,U.aS,some g,rfl,k,ht,rN,tb,hd,.inr ⟨"tb",rfl,by unfold Yx;decide +kernel,by trivial,.inr ⟨g,rfl,hg.1,.inr ⟨hg.2,.inr ⟨2,rfl,by left,by left,rfl,.inl ⟨rfl, "ta",mV,hh⟩⟩⟩⟩⟩,(fun z=>nomatch z),fun p z dx H' s' _ e=>by cases z;exact q dx H' s' e⟩
end
inductive GX:Sp
 | mk  :vs=[]->pY T H->(∀H',lK H H'->Q (.bl true) H')->GX vs H Q E
def Rx:T.aU.O P w mg lL 12 (GX T):=by
 refine T.aU.F.okL T.cG Yq fun cdc A lJ s H vs Q E hL hr h=>?_
 ·obtain ⟨rfl,tb,q⟩:=h;intro X D;refine lS (me 0 Yq (Zl (Zb (Zi (Zb (Zi (Zb Ze (Zb Ze Za))) (Zb (Zi (Zb Ze (Zb Ze Za))) Za))) (Zb (Zi (Zb (Zi (Zb Ze (Zb Ze Za))) (Zb (Zi (Zb Ze (Zb Ze Za))) Za))) Za)))) ⟨lR,fun a1 G1 s1 n1 e1=>⟨lR,fun a2 G2 s2 n2 e2=>⟨lR,fun a3 G3 s3 n3 e3=>⟨lR,fun a4 G4 s4 n4 e4=>⟨lR,fun a5 G5 s5 n5 e5=>⟨lR,fun a6 G6 s6 n6 e6=>⟨lR,fun jl G7 s7 n7 e7=>?_⟩⟩⟩⟩⟩⟩⟩;have U5:=s4.trans (s5.trans (s6.trans s7));have hJ:Yl G7 jl pe:=⟨[a3,a6],e7,.cons ⟨a1,a2,U5.at e3,(s2.trans (s3.trans U5)).at e1,(s3.trans U5).at e2⟩ (.cons ⟨a4,a5,s7.at e6,(s5.trans (s6.trans s7)).at e4,(s6.trans s7).at e5⟩ .nil)⟩
  refine lS (me 1 Yq (Zl (Zb (Zi (Zb Ze (Zb Ze (Zb Ze Za)))) (Zb (Zi (Zb Ze (Zb Ze (Zb Ze Za)))) Za)))) ⟨lR,fun b1 G8 s8 n8 e8=>⟨lR,fun b2 G9 s9 n9 e9=>⟨lR,fun sl GA sA nA eA=>?_⟩⟩⟩;have s7A:=s8.trans (s9.trans sA);have hS:rB GA sl oz:=⟨[b1,b2],eA,.cons ((s9.trans sA).at e8) (.cons (sA.at e9) .nil)⟩
  have s0A:=(s1.trans (s2.trans (s3.trans U5))).trans s7A;refine lS (me 5 Yq (X6 (ED T) T.gB (Ge T) hr.m rfl T.gR T.aY.b .nil Z3 (FU T) (Zb (X6 (Dr T) T.gA (Ld T) hr.m rfl T.gQ T.aX.b .nil Z3 (Ga T) (Zb (Zl (Zb (X6 (zL T) T.gE (Y1 T) hr.m rfl T.gO T.ah.b .nil Z3 (DD T) (Zb Ze Za)) (Zb (X6 (DI T) T.gN (Y1 T) hr.m rfl T.hW T.ah.b .nil Z3 (LG T) (Zb Ze Za)) (Zb (X6 (zL T) T.gE (Y1 T) hr.m rfl T.gO T.ah.b .nil Z3 (DD T) (Zb Ze Za)) Za)))) (Zb (pv 0) (Zb (pv 1) Za)))) Za))) ⟨"g",rfl,fun x1 GB sB nB oB=>⟨"p",rfl,fun x2 GC sC nC oC=>⟨"h",rfl,fun x3 GD sD nD oD=>⟨lR,fun pl GE sE nE eE=>(lP rfl (lP rfl ⟨pl,jl,sl,[x1,x2,x3],oG,pe,oz,rfl,eE,.cons ⟨_,.inr (.inr (.inl ⟨rfl,rfl⟩)),((oB.mono sC).mono sD).mono sE⟩ (.cons ⟨_,.inr (.inr (.inr (.inr ⟨rfl,.inr rfl⟩))),(oC.mono sD).mono sE⟩ (.cons ⟨_,.inr (.inr (.inl ⟨rfl,rfl⟩)),oD.mono sE⟩ .nil)),hJ.mono (s7A.trans (sB.trans (sC.trans (sD.trans sE)))),hS.mono (sB.trans (sC.trans (sD.trans sE))),rN,fun tr H0 s0 n0 ht=>⟨tr,oG,pe,oz,rfl,ht,rN,fun x H3 F ad lw hx hlw hw=>?_⟩⟩))⟩⟩⟩⟩;have sH0:=s0A.trans (sB.trans (sC.trans (sD.trans (sE.trans s0))));have tb0:=tb.mono sH0;refine lS (me 2 Yq (Zl (Zb (Wp (Ys T) hr.m (fun _=>rfl) rfl T.ae.m T.ae.F.kp T.ae.b (Zb (rS (Pt:=T.ap) rfl hL) Za)) Za))) ⟨_,(tb0.mono hw.same)._law_two_gates,mV,fun fl H4 s4 n4 cl=>Xf T cl (fs:=["_law_keeper"]) (fvs:=[.ref x]) (.cons ⟨5,_,rfl,rfl,rfl,rfl,rfl,rfl⟩ .nil) ?_ ?_ ?_ (fun _ _ _=>rfl) (by trivial) (by trivial) rfl rfl rfl fun G c A' o' s' E' sG _ F3=>pM (Z7 (pv 0) T.ac T.bA (Kz T) F3 T.ao.b .nil Z3 (Zb Ze (Zb Zf (Zb Ze (Zb Xh Za))))) (lP rfl ⟨x,ad.dx,_,rfl,sG.at (s4.at hw.obj),rfl,fun dt H5 s5 n5 e5=>⟨H0,F,x,tr,dt,ad,lw,fun _=>[],[],[],oG,pe,oz, "ta", "g",1,rfl,hw.mono (s4.trans (sG.trans s5)),ht,rN,tb0,e5,(hw.mono (s4.trans sG)).neF n5,⟨by unfold Yx;decide +kernel,uX,by trivial,by trivial,by left,by left,(fun ⟨t,z,_⟩=>nomatch z),rfl,by left⟩,fun H6 F' x8 f1 f2 off k6 on H7 bk=>⟨lR,fun wl H8 s8 n8 e8=>?_⟩⟩⟩)⟩
  ·simp
  ·simp
  ·simp
  have k7:=k6.back bk (hw.same.trans s4);have hv1:W8 [] (fun _=>[]) "ta" [g4] "ta" =[g4]:=by
   unfold W8;rw [lZ rfl,lY uX];rfl
  have tg8:TG T H0 H8 _ x tr wl x8 lw (W8 [] (fun _=>[]) "ta" [g4]) [("ta",1)] [] []:=⟨k7.mono s8,e8,k7.neF n8,k7.same.free n8,.nil,by left⟩
  clear k7 k6 off f2 f1 on bk;generalize W8 [] (fun _=>[]) "ta" [g4]=val at tg8 hv1;generalize (fun a=>F' a/\∃o,H6 a=some o/\H7 a=some o)=F1 at tg8;refine lS (me 6 Yq (Zi (Zb Ze (Zb (Zi (Zb Ze (Zb Ze (Zb Ze (Zb Ze Za))))) (Zb (Zi (Zb Ze (Zb Ze (Zb Ze (Zb Ze Za))))) Za))))) ⟨lR,fun u1 G1 t1 m1 p1=>⟨lR,fun u2 G2 t2 m2 p2=>⟨lR,fun a G3 t3 m3 p3=>?_⟩⟩⟩;have rt:ub G3 a u1 u2:=⟨p3,(t2.trans t3).at p1,t3.at p2⟩
  have tg9:=tg8.mono (t1.trans (t2.trans t3));refine lS (Zy (pW (pv 2) (Wp (Ys T) hr.m (fun _=>rfl) rfl T.ae.m T.ae.F.kp T.ae.b (Zb (rS (Pt:=T.ap) rfl hL) Za)))) (lP rfl ⟨.inl ⟨rfl,_,lW tg9.w⟩,_,(tb0.mono tg9.k.same)._law_two_gates,nJ _ mV,fun fl H4 s4 n4 cl=>Xf T cl (fs:=["_law_keeper", "_law_way"]) (fvs:=[.ref x,.ref a]) (.cons ⟨5,_,rfl,rfl,rfl,rfl,rfl,rfl⟩ (.cons ⟨6,_,rfl,rfl,rfl,rfl,rfl,rfl⟩ .nil)) ?_ ?_ ?_ (fun _ _ _=>rfl) (by trivial) (by trivial) rfl rfl rfl fun G c A' o' s' E' sG _ F3=>pM (Z7 (pv 0) T.ac T.dS (TC T) F3 T.bg.b .nil Z3 (Zb Ze (Zb (pv 1) (Zb Xh Za)))) (lP rfl ⟨x,_,_,rfl,sG.at (s4.at tg9.k.obj),rfl,_,rfl,fun dt H5 s5 n5 e5=>⟨H0,F1,x,tr,a,u1,u2,dt,x8,lw,val,rfl,tg9.k.mono (s4.trans (sG.trans s5)),hv1,hlw,ht,tb0,rt.mono (s4.trans (sG.trans s5)),e5,fun H6 F' ad2 f2 off k6 H7 bk=>⟨wl,_,_,rfl,rfl,((tg9.mono s4).deed (sG.trans s5) off f2 k6 bk).w,sz (by left),?_⟩⟩⟩)⟩)
  ·simp
  ·simp;decide +kernel
  ·simp
  have tgA:=((tg9.mono s4).deed (sG.trans s5) off f2 k6 bk).add (t:=.str "done") (v:=.str "done") (.inl ⟨_,rfl,rfl⟩) (by left);have V9:W8 ["ta"] val "ta" [q1,q2] "ta" =[g4,q1,q2]:=by
   unfold W8;rw [lZ rfl,lZ mV,hv1];rfl
  clear k6 off f2 bk;generalize W8 ["ta"] val "ta" [q1,q2]=val2 at tgA V9;generalize (fun a=>F' a/\∃o,H6 a=some o/\H7 a=some o)=F2 at tgA;show WSs _ _ _ _ (upd H7 wl (.lst (.str "done" ::[]++[.str "done"])));generalize upd H7 wl (.lst (.str "done" ::[]++[.str "done"]))=HA at tgA;have hgs:∀g∈[("h" :kR), "g"],((("gate",g):Zh)∈oG/\((g, "a"):Zh)∈oz.map Prod.snd)/\g∈[g4,q1,q2].map Prod.fst:=by trivial
  let I36:IC:=fun σ H'=>(∃o4,σ=[some (.ref jl),some (.ref sl),some (.ref wl),none,o4,some (.ref x),some (.ref a)])/\∃ws,TG T H0 H' F2 x tr wl ad2 lw val2 [("ta",1)] [.str "done",.tup [.str "held",.str "h"],.tup [.str "held",.str "g"]] ws/\ws.length=3
  refine nX I36 (oi (Xb ol rfl (Ym (Zl (Zb Ze (Zb Ze Za)))) (mP 4 Yq) Zn) ⟨lR,fun ll HL sL nL eL=>⟨lW eL,Wc (xs:=[V.str "h",.str "g"]) (fun i σ H'=>(∃o4,σ=[some (.ref jl),some (.ref sl),some (.ref wl),none,o4,some (.ref x),some (.ref a)])/\sW H' F2 wl ll (.lst [.str "h",.str "g"])/\∃ws,TG T H0 H' F2 x tr wl ad2 lw val2 [("ta",1)] (.str "done" ::[Tr.tup [.str "held",.str "h"],.tup [.str "held",.str "g"]].take i) ws/\ws.length=i+1) ⟨⟨none,rfl⟩,⟨eL,tgA.k.neF nL,fun z=>by rw [z,tgA.w] at nL;cases nL⟩,_,tgA.mono sL,rfl⟩ (fun i σ H' _ z=>lW z.2.1.at_) ?_ fun σ H' z=>⟨z.1,z.2.2⟩⟩⟩) ?_
  ·rintro i v σ HB hi ⟨⟨o4,rfl⟩,kp,ws,tg,O3⟩;obtain ⟨g,rfl,hg,htk⟩:∃g:kR,v=.str g/\g∈[("h" :kR), "g"]/\[Tr.tup [.str "held",.str "h"],.tup [.str "held",.str "g"]].take (i+1)=[Tr.tup [.str "held",.str "h"],.tup [.str "held",.str "g"]].take i++[.tup [.str "held",.str g]]/\i<2:=by
    match i,hi with
    | 0,hi=>cases hi;exact ⟨_,rfl,mV,rfl,by left⟩
    | 1,hi=>cases hi;exact ⟨_,rfl,nJ _ mV,rfl,by left⟩
   obtain ⟨hg1,hg2⟩:=hgs g hg;refine lU (Zy (pW (pv 2) (Wp (Ys T) hr.m (fun _=>rfl) rfl T.ae.m T.ae.F.kp T.ae.b (Zb (rS (Pt:=T.ap) rfl hL) Za)))) (lP rfl ⟨.inl ⟨rfl,_,lW tg.w⟩,_,(tb0.mono tg.k.same)._law_two_gates,nJ _ (nJ _ mV),fun fl H4 s4 n4 cl=>Xf T cl (fs:=["_law_keeper", "_law_gate"]) (fvs:=[.ref x,.str g]) (.cons ⟨5,_,rfl,rfl,rfl,rfl,rfl,rfl⟩ (.cons ⟨4,_,rfl,rfl,rfl,rfl,rfl,rfl⟩ .nil)) ?_ ?_ ?_ (fun _ _ _=>rfl) (by trivial) (by trivial) rfl rfl rfl fun G c A' o' s' E' sG hE F3=>pM (Z7 (pv 0) T.ac T.bA (CK T) F3 T.ao.b .nil wr (Zb Ze (Zb Zf (Zb (pv 1) (Zb Xh Za))))) (lP rfl ⟨x,_,_,rfl,sG.at (s4.at tg.k.obj),rfl,_,rfl,fun dt H5 s5 n5 e5=>KC ht tb0 (tg.k.mono (s4.trans (sG.trans s5))) e5 hg1 (V9 ▸ hg2) fun dx H6 s6 e6=>hE 4 (some g) (some dx) H6 (by left) rfl (s5.trans s6) ⟨dx,rfl,e6⟩ fun H7 s7=>⟨(fun z=>nomatch z),fun p z t et=>?_⟩⟩)⟩)
   ·simp
   ·simp;decide +kernel
   ·simp
   cases z;have V0:=tg.mono (s4.trans s7);refine ⟨wl,_,_,rfl,rfl,V0.w,Zp (by rw [ou];lia),⟨_,rfl⟩,(kp.next (fun _ z=>.inl z) (zr (s4.trans s7))).off,ws++[.ref t],?_,by rw [mY,O3];rfl⟩;have:=V0.add (V0.tup et) (by lia);rw [htk.1,<-List.cons_append];exact this
  rintro σ HB ⟨⟨o4,rfl⟩,ws,tgB,O3⟩;have sD:∀{dt:kS} {o u:HO},HB dt=none->lK HB (upd (upd HB dt o) dt u):=fun hd b o z=>by rw [Zd (Zg z hd),Zd (Zg z hd)];exact z
  refine lS (Zy (pW (pv 2) (Z7 (pv 5) T.ac T.fA (Sw T) hr.m T.ci.b .nil Z3 (Zb (Tl Ze ri) Za)))) (lP rfl ⟨.inl ⟨rfl,_,lW tgB.w⟩,_,rfl,x,ad2.dx,_,rfl,tgB.k.obj,rfl,fun dt E2=>⟨Zc,[(Sum.inr "p",.bl true)],rfl,by left,H0,F2,x,tr,dt,ad2,lw,val2,rfl,tgB.k.mono (sD E2),V9,tgB.k.neF E2,Zc,fun r HC F' ad3 f off nr nFr er k'=>⟨wl,_,_,rfl,rfl,((tgB.mono (sD E2)).next k' f off).w,Zp (by rw [ou];lia),?_⟩⟩⟩);have tgN:=(tgB.mono (sD E2)).next k' f off;have tgC:=tgN.add (t:=.lst [.str "g"]) (v:=.ref r) (.inr (.inr ⟨r, "g",rfl,rfl,er,nFr,fun z=>by
   rw [z,tgN.w] at er;rw [(Ad (HO.lst.inj (mW er))).2] at O3;cases O3⟩)) (by lia)
  have hwC:(ws++[V.ref r]).length=4:=by rw [mY,O3];rfl
  show WSs _ _ _ _ (upd HC wl (.lst (.str "done" ::ws++[.ref r])));generalize upd HC wl (.lst (.str "done" ::ws++[.ref r]))=HD at tgC;generalize ws++[V.ref r]=ws4 at tgC hwC;clear tgN tgB er nFr nr k' off f O3 tgA tg8 tg9 sD;let I37:IC:=fun σ H'=>(∃o4,σ=[some (.ref jl),some (.ref sl),some (.ref wl),none,o4,some (.ref x),some (.ref a)])/\∃F ad val ws,TG T H0 H' F x tr wl ad lw val [("ta",1),("tb",2)] [.str "done",.tup [.str "held",.str "h"],.tup [.str "held",.str "g"],.lst [.str "g"],.tup [.str "held",.str "h"],.str "done"] ws
  refine nX I37 (oi (Xb ol rfl (Ym (Zl (Zb Ze (Zb Ze Za)))) (mP 4 Yq) Zn) ⟨lR,fun ll HL sL nL eL=>⟨lW eL,Wc (xs:=[V.str "h",.str "g"]) (fun i σ H'=>(∃o4,σ=[some (.ref jl),some (.ref sl),some (.ref wl),none,o4,some (.ref x),some (.ref a)])/\(i<2->sW H' F' wl ll (.lst [.str "h",.str "g"])/\∃ws,TG T H0 H' F' x tr wl ad3 lw (fun _=>[q1,q2]) [("ta",1)] ([.str "done",.tup [.str "held",.str "h"],.tup [.str "held",.str "g"],.lst [.str "g"]]++[Tr.tup [.str "held",.str "h"]].take i) ws/\ws.length=4+i)/\(i=2->H' ll=some (.lst [.str "h",.str "g"])/\∃F ad val ws,TG T H0 H' F x tr wl ad lw val [("ta",1),("tb",2)] [.str "done",.tup [.str "held",.str "h"],.tup [.str "held",.str "g"],.lst [.str "g"],.tup [.str "held",.str "h"],.str "done"] ws)) ⟨⟨_,rfl⟩,fun _=>⟨⟨eL,tgC.k.neF nL,fun z=>by rw [z,tgC.w] at nL;cases nL⟩,_,tgC.mono sL,hwC⟩,fun z=>absurd z (by left)⟩ (fun i σ H' hi z=>?_) ?_ fun σ H' z=>⟨z.1,(z.2.2 rfl).2⟩⟩⟩) ?_
  ·rcases xM i 2 with y|y
   ·exact lW (z.2.1 y).1.at_
   ·exact lW (z.2.2 (Nat.le_antisymm hi y)).1
  ·rintro i v σ HB hi ⟨⟨o4,rfl⟩,c8,_⟩;have hi2:i<2:=(oj.mp hi).1;obtain ⟨kp,ws,tg,O3⟩:=c8 hi2;clear c8;have tabs:=(tb0.mono tg.k.same)._law_two_gates
   match i,hi,hi2 with
   | 0,hi,_ =>
    cases hi;refine lU (Zy (pW (pv 2) (Wp (Ys T) hr.m (fun _=>rfl) rfl T.ae.m T.ae.F.kp T.ae.b (Zb (rS (Pt:=T.ap) rfl hL) Za)))) (lP rfl ⟨.inl ⟨rfl,_,lW tg.w⟩,_,tabs,nJ _ (nJ _ (nJ _ mV)),fun fl H4 s4 n4 cl=>Xf T cl (fs:=["_law_keeper", "_law_gate"]) (fvs:=[.ref x,.str "h"]) (.cons ⟨5,_,rfl,rfl,rfl,rfl,rfl,rfl⟩ (.cons ⟨4,_,rfl,rfl,rfl,rfl,rfl,rfl⟩ .nil)) ?_ ?_ ?_ (fun _ _ _=>rfl) (by trivial) (by trivial) rfl rfl rfl fun G c A' o' s' E' sG hE F3=>pM (Z7 (pv 0) T.ac T.bA (CK T) F3 T.ao.b .nil wr (Zb Ze (Zb Zf (Zb (pv 1) (Zb Xh Za))))) (lP rfl ⟨x,_,_,rfl,sG.at (s4.at tg.k.obj),rfl,_,rfl,fun dt H5 s5 n5 e5=>KC ht tb0 (tg.k.mono (s4.trans (sG.trans s5))) e5 (hgs "h" mV).1 (by trivial) fun dx H6 s6 e6=>hE 4 (some "h") (some dx) H6 (by left) rfl (s5.trans s6) ⟨dx,rfl,e6⟩ fun H7 s7=>⟨(fun z=>nomatch z),fun p z t et=>?_⟩⟩)⟩)
    ·simp
    ·simp;decide +kernel
    ·simp
    cases z;have V0:=tg.mono (s4.trans s7);have et:H7 t=some (.tup [.str "held",.str "h"]):=et;have tg8:TG T H0 (upd H7 wl (.lst (.str "done" ::ws++[.ref t]))) F' x tr wl ad3 lw (fun _=>[q1,q2]) [("ta",1)] ([.str "done",.tup [.str "held",.str "h"],.tup [.str "held",.str "g"],.lst [.str "g"]]++[Tr.tup [.str "held",.str "h"]].take (0+1)) (ws++[.ref t]):=V0.add (ts:=[.str "done",.tup [.str "held",.str "h"],.tup [.str "held",.str "g"],.lst [.str "g"]]) (V0.tup et) (by lia);exact ⟨wl,_,_,rfl,rfl,V0.w,Zp (by rw [ou];lia),⟨_,rfl⟩,fun _=>⟨(kp.next (fun _ z=>.inl z) (zr (s4.trans s7))).off,ws++[.ref t],tg8,by rw [mY,O3];rfl⟩,fun z=>absurd z (by left)⟩
   | 1,hi,_ =>
    cases hi;refine lU (Zy (pW (pv 2) (Wp (Ys T) hr.m (fun _=>rfl) rfl T.ae.m T.ae.F.kp T.ae.b (Zb (rS (Pt:=T.ap) rfl hL) Za)))) (lP rfl ⟨.inl ⟨rfl,_,lW tg.w⟩,_,tabs,nJ _ (nJ _ (nJ _ mV)),fun fl H4 s4 n4 cl=>Xf T cl (fs:=["_law_keeper", "_law_gate"]) (fvs:=[.ref x,.str "g"]) (.cons ⟨5,_,rfl,rfl,rfl,rfl,rfl,rfl⟩ (.cons ⟨4,_,rfl,rfl,rfl,rfl,rfl,rfl⟩ .nil)) ?_ ?_ ?_ (fun _ _ _=>rfl) (by trivial) (by trivial) rfl rfl rfl fun G c A' o' s' E' sG _ F3=>pM (Z7 (pv 0) T.ac T.bA (Kz T) F3 T.ao.b .nil Z3 (Zb Ze (Zb Zf (Zb (pv 1) (Zb Xh Za))))) (lP rfl ⟨x,_,_,rfl,sG.at (s4.at tg.k.obj),rfl,_,rfl,fun dt H5 s5 n5 e5=>⟨H0,F',x,tr,dt,ad3,lw,fun _=>[q1,q2],[("ta",1)],[],oG,pe,oz, "tb", "g",2,rfl,tg.k.mono (s4.trans (sG.trans s5)),ht,rN,tb0,e5,(tg.k.mono (s4.trans sG)).neF n5,⟨by unfold Yx;decide +kernel,by trivial,by trivial,by trivial,by left,by left,(fun ⟨t,z,y⟩=>absurd (show ("g" :kR)∈[q1,q2].map Prod.fst from y) (by trivial)),rfl,by left⟩,fun H6 F6 ad6 f1 f2 off k6 on H7 bk=>?_⟩⟩)⟩)
    ·simp
    ·simp;decide +kernel
    ·simp
    have kq:=kp.next (F':=F') (H':=H4) (fun _ z=>.inl z) (zr s4);have V0:=(tg.mono s4).deed (sG.trans s5) off f2 k6 bk;have tg8:=V0.add (t:=.str "done") (v:=.str "done") (.inl ⟨_,rfl,rfl⟩) (by lia);refine ⟨wl,_,_,rfl,rfl,V0.w,Zp (by rw [ou];lia),⟨_,rfl⟩,fun z=>absurd z (by left),fun _=>⟨?_,_,_,_,_,tg8⟩⟩;rw [Zd kp.nw];exact bk.old _ _ _ kq.at_ (off _ _ kp.nF (s5.at (sG.at kq.at_)))
  rintro σ HE ⟨⟨o4,rfl⟩,F9,ad9,val9,ws9,tgE⟩;refine lS (me 3 Yq (Zl (Zb Ze (Zb Ze (Zb (Zi (Zb Ze (Zb Ze Za))) (Zb (Zi (Zb Ze (Zb Ze Za))) (Zb (Zl (Zb Ze Za)) (Zb (Zi (Zb Ze (Zb Ze Za))) (Zb Ze Za))))))))) ⟨lR,fun d1 G1 t1 m1 p1=>⟨lR,fun d2 G2 t2 m2 p2=>⟨lR,fun d3 G3 t3 m3 p3=>⟨lR,fun d4 G4 t4 m4 p4=>⟨lR,fun dl G5 t5 m5 p5=>?_⟩⟩⟩⟩⟩;have t45:=t4.trans t5;have t35:=t3.trans t45;have t25:=t2.trans t35;have tgF:=tgE.mono (t1.trans t25);have tt:∀{a:kS} {p q:kR},G5 a=some (.tup [.str p,.str q])->Im K G5 1 (.tup [.str p,.str q]) (.ref a):=fun e=>sJ (n:=0) (mD e) (.cons (.str _) (.cons (.str _) .nil))
  have imW:Im K G5 2 (.lst (.str "done" ::[.str "done",.tup [.str "held",.str "h"],.tup [.str "held",.str "g"],.lst [.str "g"],.tup [.str "held",.str "h"],.str "done"])) (.ref wl):=tz (n:=1) (lW tgF.w) (.cons (.str _) (mw tgF.ps fun _ _ z=>z.im));have imD:Im K G5 2 (.lst (.str "done" ::[.str "done",.tup [.str "held",.str "h"],.tup [.str "held",.str "g"],.lst [.str "g"],.tup [.str "held",.str "h"],.str "done"])) (.ref dl):=tz (n:=1) (lW p5) (.cons (.str _) (.cons (.str _) (.cons (tt (t25.at p1)) (.cons (tt (t35.at p2)) (.cons (tz (n:=0) (lW (t45.at p3)) (.cons (.str _) .nil)) (.cons (tt (t5.at p4)) (.cons (.str _) .nil)))))));refine lU (Zm (vd (rC hr (pv 2) (pv 3)) (wg (rC hr (Xw (pv 5) T.ac T.aW (Xp T) hr.m T.aF.b .nil Z3) (Zl (Zb Ze (Zb Ze Za))))))) (lP rfl (lP rfl (.inr (.inl ⟨2,_,_,by left,.inr ⟨_,_,rfl,rfl⟩,imW,imD,?_⟩))));rw [lY mX,mB rfl];have hp2:PyProof.Rows.sortedS ["ta", "tb"]=true:=by trivial
  refine (lP rfl (W7 (lP rfl ⟨x,ad9.dx,_,rfl,tgF.k.obj,rfl,H0,F9,x,tr,ad9,lw,val9,_,rfl,tgF.k,fun ss p1 p2 l H1 s1 n1 f1=>⟨lR,fun l2 H2 s2 n2 f2=>?_⟩⟩)));rw [Aa p2 hp2 p1] at f1;refine .inr (.inl ⟨1,.lst ([("ta" :kR), "tb"].map Tr.str),.lst ([("ta" :kR), "tb"].map Tr.str),by left,.inr ⟨_,_,rfl,rfl⟩,vE (s2.at f1),vE f2,?_⟩);rw [lY mX,mB rfl];exact q H2 (sH0.trans (tgF.k.same.trans (s1.trans s2)))
def wX{l:kQ kR}{i:Nat}{a:kR}(h:l.Nodup)(e:l[i]? =some a):a∉l.take i:=fun z=>by
 obtain ⟨j,hj,hj2⟩:=sv z;rw [nI] at hj;rw [List.getElem_take] at hj2;obtain ⟨hi,e⟩:=oj.mp e;have:=(CI h (h₀:=by lia) (h₁:=hi)).mp (hj2.trans e.symm);lia
def UJ(nd:(L.map Prod.fst).Nodup):∀kv∈Zs V.bl L,∃v,Y2 (Zs V.bl L) kv.1=some v/\vT K H kv.2 v:=fun kv A0=>by
 obtain ⟨e,he,rfl⟩:=mh.mp A0;exact ⟨V.bl e.2,Xy nd he,.inl ⟨rfl,rfl,by show (e.2 ==e.2)=true;simp⟩⟩
structure LS(T:Tx K mg)(H0 H:Hp)(x tr:Addr)(lw:List (Str×Str))(kd hl sd hd:Addr)(td:List (Str×Bool))(n:Nat)(F:Addr->Prop)(ad:pJ)(val:Str->List Z0)(ke:List (Str×Addr))(kp:List Kp):Prop where
 b:BK T H0 H F x tr ad lw val kd ke kp
 h:wT H0 H F kd hl ad n
 s:H sd=some (.dK (Zs V.bl td))
 d:H hd=some (.dK (Zs V.bl td))
 fs:¬F sd
 fd:¬F hd
def LS.next{F F':kS->Prop}{val D7:kR->kQ Z0}(h:LS U H0 H x tr lw kd hl sd hd td n F ad val ke kp)(ns:sd≠kd)(nd:hd≠kd)(b:BK U H0 H' F' x tr x8 lw D7 kd ke' kp')(f:∀b,F' b->F b\/H b=none)(o:qW (fun b=>F b\/b=kd) H H')(on:ad.on H x8):LS U H0 H' x tr lw kd hl sd hd td n F' x8 D7 ke' kp':=by
 have nf:∀{b:kS} {u:HO},¬F b->H b=some u->¬F' b:=fun n e y=>(f _ y).elim n fun w=>by rw [e] at w;cases w
 obtain ⟨us,h1,_⟩:=id h.h.held;have ehl:H' hl=H hl:=by rw [h1];exact o _ _ (fun z=>z.elim h.h.nF h.h.nk) h1
 refine ⟨b,⟨nf h.h.nF h1,h.h.nk,on.1 ▸ h.h.nl,on.2.1 ▸ h.h.ns,h.h.n0,fun e he=>?_,h.h.held.on (fun c u e z=>o c u (fun y=>z (y.imp id .inl)) e) (fun c z=>?_) ehl⟩,o _ _ (fun z=>z.elim h.fs ns) h.s,o _ _ (fun z=>z.elim h.fd nd) h.d,nf h.fs h.s,nf h.fd h.d⟩
 ·rcases on.2.2 e he with z|z
  ·exact h.h.ne e z
  ·exact fun y=>by rw [y,h1] at z;cases z
 ·rcases z with z|z
  ·exact (f c z).imp .inl id
  ·exact .inl (.inr z)
def PN  (F:pQ K "law" "law" tR f fd) (T:Tx K mg) (hb:∃mm,lL.Ns sysModules mm):Xe P w K mg lL nH 13 f fd ["_law_script"] (xq K T.tabs):=by
 refine F.okW rY ?_;rfl'
 ·obtain ⟨a,ns,rfl,hS,Q0,htb,q⟩:=h;intro X D;have tb:=pY.of htb;refine lS (me 1 rY (Zx (OC T) hr (Zb (Zx (Nf T) hr (Zb (pv 0) (Zb Zf (Zb Zf Za)))) (Zb (X1 (KI T) hr rfl T.aJ.m T.aJ.F.kp T.aJ.b .nil Z3 (Zb (pv 0) (Zb Zf Za))) Za)))) (lP rfl ⟨a,ns,14,28,rfl,hS,Q0,by left,by left,fun cl H1 cs s1 n1 e1 hc u9=>(lP rfl ⟨a,ns,0,rfl,s1.seq hS,cl,_,cs,rfl,lW e1,fun c h=>(hc c h).1,u9,fun t pl jl gl H2 ps js sg s2 ht hP hJ hG yo=>?_⟩)⟩);have B4:=s1.trans s2;have yv:=yo.v;have ylen:=yv.len;refine lS (me 2 rY (X6 (ED T) T.gB (Ge T) hr.m rfl T.gR T.aY.b .nil Z3 (FU T) (Zb (Zx (Uu T) hr (Zb (pv 1) Za)) Za))) (lP rfl ⟨t,ps,js,sg,rfl,⟨pl,jl,gl,ht,hP,hJ,hG⟩,yv,fun tr H0 s0 n0 ht0=>⟨tr,ps,js,sg,rfl,ht0,yv,fun x H3 Fr ad lw hx _ hw=>?_⟩⟩);have g:LU T H0 tr t ps js sg:=⟨ht0,yv,tb.mono (B4.trans s0),pl,jl,gl,s0.at ht,hP.mono s0,hJ.mono s0,hG.mono s0⟩
  have hS0:=(B4.trans s0).seq hS;refine lS (Zt (Y8 (Yn (UE (Rx T) hr.m rfl T.aU.m T.aU.F.kp T.aU.b .nil Z3))) Zn Zk) ⟨rfl,g.tabs.mono hw.same,fun H4 s4=>(lP rfl (X0 ?_))⟩;have U9:=hw.mono s4;refine lS (me 3 rY Xh) fun kd H5 s5 n5 e5=>?_
  have hw5:=U9.mono s5;refine lS (me 4 rY (Zl Za)) ⟨lR,fun hl H6 s6 n6 e6=>?_⟩;have hw6:=hw5.mono s6;have ne5:∀{b:kS} {o:HO},H4 b=some o->kd≠b:=fun z y=>by rw [<-y,n5] at z;cases z
  have ne6:∀{b:kS} {o:HO},H5 b=some o->hl≠b:=fun z y=>by rw [<-y,n6] at z;cases z
  have hb6:BK T H0 H6 Fr x tr ad lw (fun _=>[]) kd [] []:=⟨hw6,⟨s6.at e5,.nil⟩,(fun _ z=>nomatch z),(fun _ z=>nomatch z),U9.neF n5,ne5 U9.lies,ne5 U9.sti,U9.same.free n5,(fun _ z=>nomatch z),fun _ z=>nomatch z⟩
  have hl6:wT H0 H6 Fr kd hl ad 0:=⟨hw5.neF n6,ne6 e5,ne6 hw5.lies,ne6 hw5.sti,hw5.same.free n6,fun e he=>let ⟨_,y,_⟩:=hw5.pth.2 e he;(ne6 y).symm,[],e6,mn _,fun _ z=>nomatch z⟩
  generalize (fun _=>[]:kR->kQ Z0)=val at hb6;clear e6 hw U9 hw5 hw6 ne5 ne6;let I38:IC:=fun σ H'=>(∃o5 o6 o7 o8 o9 J7,σ=[some (.ref a),some (.ref t),some (.ref x),some (.ref kd),some (.ref hl),o5,o6,o7,o8,o9,J7])/\∃Z:kS->Prop,yD H' Z hl 12
  refine nX I38 ?_ ?_
  ·let I39:IF:=fun i σ H'=>(∃o5 o6 o7 o8 o9 J7,σ=[some (.ref a),some (.ref t),some (.ref x),some (.ref kd),some (.ref hl),o5,o6,o7,o8,o9,J7])/\∃Fr ad val ke kp,BK T H0 H' Fr x tr ad lw val kd ke kp/\wT H0 H' Fr kd hl ad i
   refine oi (Xb ol rfl (CZ rfl T.ek (Zb Zf (Zb Zf Za))) (mP 5 rY) Zn) ⟨1,13,rfl,by left,ET (lo:=1) (n:=12) I39 ⟨⟨_,_,_,_,_,_,rfl⟩,Fr,ad,val,[],[],hb6,hl6⟩ ?_ ?_⟩
   ·clear hb6 hl6;rintro i σ H1 hi ⟨⟨o5,o6,o7,o8,o9,J7,rfl⟩,Fr,ad,val,ke,kp,hB,hL⟩;refine lS (me 6 rY (X1 (KI T) hr rfl T.aJ.m T.aJ.F.kp T.aJ.b .nil Z3 (Zb (pv 0) (Zb (pv 5) Za)))) (lP rfl (lP rfl ⟨a,ns,1+i,rfl,hB.k.same.seq hS0,?_⟩));generalize AY ns (1+i)=cell;refine lS (me 7 rY Xh) fun sd H2 s2 n2 e2=>?_
    let I40:IC:=fun σ H'=>∃o8 o9 td,σ=[some (.ref a),some (.ref t),some (.ref x),some (.ref kd),some (.ref hl),some (.int ((1+i:Nat):Int)),some (.int cell),some (.ref sd),o8,o9,J7]/\lK H1 H'/\H' sd=some (.dK (Zs V.bl td))/\(td.map Prod.fst).Nodup
    refine nX I40 ?_ ?_
    ·have g2:=hB.k.same.trans s2;obtain ⟨pl,jl,gl,y1,⟨us,y2,y2'⟩,y3,y4⟩:=id g.yd;refine oi (Xb ol rfl (xc rfl T.bP (Zb (ph ["_law_kind_here", "_law_name"] (nZ 2 [] rfl) (Ym (ml (pv 1) Zf)) (ux (K:=K) (n:=2) rfl rfl (Zq (ng 0) (Zq (ng 1) Y9))) Wk (pv 1)) Za)) (qG rfl (Zq (mP 8 rY) (Zq (mP 9 rY) Y9))) Zn) (lP rfl (mQ (g2.at y1) 0 rfl ⟨lW (g2.at y2),fun D hD=>Di (f:=fun _=>true) (g2.at y2) (mw y2' fun _ _ r=>r.mono g2) (by lia) hD (fun HD sD eD=>?qq) ?aa (fun _ _ _ _ _ h=>h) ?cc⟩))
     case aa=>rfl
     case cc=>rfl
     rw [show Wn (fun _=>true) ps=ps.map Prod.snd from by unfold Wn;rw [IP.mpr fun _ _=>rfl]] at eD;have hn:=yv.net.nd;have hln:(ps.map Prod.snd).length<=40:=by rw [lV];exact ylen
     generalize ps.map Prod.snd=as at eD hn hln;have Ds:D≠sd:=fun z=>by rw [z,e2] at hD;cases hD
     have sdH:∀{b:kS} {o:HO},H1 b=some o->b≠sd:=fun z y=>by rw [y,n2] at z;cases z
     let I41:IF:=fun j σ H'=>(∃o8 o9,σ=[some (.ref a),some (.ref t),some (.ref x),some (.ref kd),some (.ref hl),some (.int ((1+i:Nat):Int)),some (.int cell),some (.ref sd),o8,o9,J7])/\H' D=some (.lst (as.map V.str))/\lK H1 H'/\∃td,H' sd=some (.dK (Zs V.bl td))/\(td.map Prod.fst).Nodup/\(∀n∈td.map Prod.fst,n∈as.take j)/\td.length<=j
     refine ⟨lW eD,xN (K:=K) (xs:=as.map V.str) I41 ⟨⟨_,_,rfl⟩,eD,s2.trans sD,[],sD.at e2,.nil,(fun _ z=>nomatch z),oJ _⟩ ?_ ?_ ?_⟩
     ·rintro j σ H' _ ⟨_,z,_⟩;exact lW z
     ·rintro j v σ H4 hj ⟨⟨o8,o9,rfl⟩,hD4,s4,td,htd,C2,hsub,d7⟩ p H5 s5 n5 e5;rw [mG] at hj;obtain ⟨nm,D3,rfl⟩:=mS.mp hj;have u7:=(oj.mp D3).1;have k8:nm∉td.map Prod.fst:=fun z=>wX hn D3 (hsub nm z)
      have hsn:as.take (j+1)=as.take j++[nm]:=by rw [nq,D3];rfl
      refine ⟨p,_,rfl,mD e5,rfl,_,_,rfl,_,_,rfl,rfl,?_⟩;refine lU (Zt (Z4 uN (Zo Yi (X1 (Wq T) hr rfl T.aj.m T.aj.F.kp T.aj.b .nil Z3 (Zb (pv 6) (Zb (pv 8) Za))) Zf) Zf (Yw _)) Zn Zk) (lP rfl (lP rfl ⟨cell,j,rfl,_,_,rfl,rfl,(by show (0:Int)<4;decide),_,_,rfl,rfl,_,rfl,Yj (fun _=>?_) (fun _=>⟨⟨_,_,rfl⟩,s5.at hD4,s4.trans s5,td,s5.at htd,C2,fun n hn=>by rw [hsn];exact xf _ (hsub n hn),by lia⟩)⟩));refine lU (rE (Xi hr) (pv 7) (pv 9) (rC hr (Zo Yi (X1 (Wq T) hr rfl T.aj.m T.aj.F.kp T.aj.b .nil Z3 (Zb (pv 6) (Zb (pv 8) Za))) Zf) Zf) rfl) (lP rfl (lP rfl ⟨cell,j,rfl,_,_,rfl,rfl,(by show (0:Int)<4;decide),.inl ⟨rfl,_,rfl,_,rfl,sd,_,rfl,pG.k (k:=Y7 nm) (s5.at htd) ?_,⟨_,_,rfl⟩,by rw [Zd Ds];exact s5.at hD4,fun b o z=>by rw [Zd (sdH z)];exact s5.at (s4.at z),td++[(nm,decide (V.int (rV cell j%4)=V.int 1))],?_,?_,?_,?_⟩⟩))
      ·rw [show (Zs V.bl td).length=td.length from lV ..];exact Zp (by lia)
      ·rw [Zc,zm (f:=V.bl) k8]
      ·rw [mq,pP];exact ⟨C2,Fv _ _,fun c hc d hd e=>by rw [e,nW.mp hd] at hc;exact k8 hc⟩
      ·intro n hn;rw [mq] at hn;rw [hsn];rcases mZ.mp hn with z|z
       ·exact xf _ (hsub n z)
       ·rw [nW.mp z];exact pq _ (nW.mpr rfl)
      ·rw [mY];simp;lia
     ·rintro σ H' ⟨⟨o8,o9,rfl⟩,_,s4,td,htd,C2,_⟩;exact ⟨o8,o9,td,rfl,s4,htd,C2⟩
    rintro σ H3 ⟨o8,o9,td,rfl,s3,htd,C2⟩;have sdn:sd≠kd:=fun z=>by rw [z,hB.kept.dct] at n2;cases n2
    refine lS (me 10 rY (Y6 (r:=Ef) MD (by rfl) T.dW wA (Zb (pv 7) Za))) (lP rfl ⟨sd,_,rfl,.inl htd,fun hd H4 s4 n4 e4=>?_⟩);have u6:=s3.trans s4;have hdn:hd≠kd:=fun z=>by have:=s3.at hB.kept.dct;rw [<-z,n4] at this;cases this
    have nh:∀{b:kS} {o:HO},H1 b=some o->H4 b=some o:=fun z=>u6.at z
    have L4:LS T H0 H4 x tr lw kd hl sd hd td i Fr ad val ke kp:=⟨hB.mono u6,⟨hL.nF,hL.nk,hL.nl,hL.ns,hL.n0,hL.ne,hL.held.on (fun _ _ z _=>nh z) (fun b z=>.inl z) (by obtain ⟨_,z,_⟩:=hL.held;rw [z];exact nh z)⟩,s4.at htd,e4,hB.k.neF n2,hB.k.neF (s3.free n4)⟩
    let I42:IC:=fun σ H'=>σ=[some (.ref a),some (.ref t),some (.ref x),some (.ref kd),some (.ref hl),some (.int ((1+i:Nat):Int)),some (.int cell),some (.ref sd),o8,o9,some (.ref hd)]/\∃Fr ad val ke kp,LS T H0 H' x tr lw kd hl sd hd td i Fr ad val ke kp
    refine nX I42 ?_ ?_
    ·refine oi (Zt (oM (xB (om hr (Zo Yi (pv 6) Zf) Zf) (wP (Y8 (Yn (Zx (To T) hr (Zb (pv 2) (Zb (pv 3) (Zb (Zo Yo (pv 6) Zf) Za))))))))) Zn Zk) (lP rfl (mz rfl rfl ⟨(by show (0:Int)<4;decide),.inl ⟨rfl,_,rfl,Yj (fun _=>?_) (fun _=>⟨rfl,_,_,_,_,_,L4⟩)⟩⟩));exact ⟨_,rfl,_,rfl,_,rfl,_,_,rfl,rfl,⟨by left,by left⟩,H0,Fr,x,tr,kd,ad,lw,val,ke,kp,_,rfl,L4.b,g.tabs,fun H5 F5 ad5 val5 ke5 kp5 b5 f5 o5 on=>⟨_,rfl,X0 ⟨rfl,_,_,_,_,_,L4.next sdn hdn b5 f5 o5 on⟩⟩⟩
    clear L4 nh hB hL;rintro σ H5 ⟨rfl,Fr,ad,val,ke,kp,L5⟩;let I43:IC:=fun σ H'=>σ=[some (.ref a),some (.ref t),some (.ref x),some (.ref kd),some (.ref hl),some (.int ((1+i:Nat):Int)),some (.int cell),some (.ref sd),o8,o9,some (.ref hd)]/\∃Fr ad val ke kp,LS T H0 H' x tr lw kd hl sd hd td i Fr ad val ke kp
    refine nX I43 ?_ ?_
    ·refine oi (Zt (oM (xB (qi hr (Zo Yi (pv 6) Zf) Zf) (wP (Y8 (Yn (Zx (Ux T) hr (Zb (pv 2) (Zb (pv 1) (Zb (pv 3) (Zb (Zo Yo (pv 6) Zf) (Zb (pv 10) Za))))))))))) Zn Zk) (lP rfl (mz rfl rfl ⟨(by show (0:Int)<4;decide),.inl ⟨rfl,_,rfl,Yj (fun _=>?_) (fun _=>⟨rfl,_,_,_,_,_,L5⟩)⟩⟩));exact ⟨_,rfl,_,rfl,_,rfl,_,rfl,_,_,rfl,rfl,⟨by left,by left⟩,_,rfl,H0,Fr,x,tr,t,kd,hd,ad,lw,val,ke,kp,td,ps,js,sg,_,rfl,L5.b,g,L5.d,L5.fd,hdn,fun H6 F6 ad6 val6 ke6 kp6 b6 f6 o6 on=>⟨_,rfl,X0 ⟨rfl,_,_,_,_,_,L5.next sdn hdn b6 f6 o6 on⟩⟩⟩
    rintro σ H6 ⟨rfl,Fr,ad,val,ke,kp,L6⟩;exact lU (Zt (oM (Wj (qi hr (pv 10) (pv 7)) (Wl (Y8 (Yn (Zx (QU T hb) hr (Zb (pv 2) (Zb (pv 3) (Zb (Zo Yo (pv 6) Zf) (Zb (pv 4) Za)))))))))) Zn Zk) (lP rfl (lP rfl (.inr (.inr ⟨hd,sd,_,_,rfl,rfl,.inl L6.d,.inl L6.s,rfl,UJ C2,_,rfl,X0 (lP rfl (lP rfl (lP rfl (mz rfl rfl ⟨⟨by left,by left⟩,_,rfl,H0,Fr,x,tr,kd,hl,ad,lw,val,ke,kp,_,i,rfl,L6.b,g.tabs,L6.h,by lia,fun H7 b7 h7 _=>(lP rfl (X0 ⟨⟨_,_,_,_,_,_,rfl⟩,Fr,ad,val,ke,kp,b7,h7⟩))⟩))))⟩))))
   ·rintro σ H' ⟨h1,Fr,ad,val,ke,kp,_,hL⟩;exact ⟨h1,_,hL.held⟩
  rintro σ H9 ⟨⟨o5,o6,o7,o8,o9,J7,rfl⟩,Z9,us,eh,hul,y8⟩;refine lU (Zm (rC hr (ph ["_law_pair"] (nZ 1 [] rfl) (Ym (pv 4)) (ng 0) (rP (Z4 (r:=ro K) (uQ hr) (Z2 (r:=DM) (LD hb hr.gd hr.units) (by rfl) T.ik Mt (Zb (pR (K:=K) rfl (pv 0) Zf) Za)) (pR (K:=K) rfl (pv 0) Zf) (Yw _))) (pv 0)) (Zl Za))) (lP rfl ⟨lW eh,fun C hC=>Xv (xs:=us.map V.ref) (fun i ys H'=>ys=[]/\H' C=some (.lst ys)/\lK H9 H') ⟨rfl,Zc,nY hC⟩ ?_ ?_ ?_⟩)
  ·rintro i ys H' _ ⟨_,_,sm⟩;exact lW (sm.at eh)
  ·rintro i v ys H' hi ⟨rfl,hC',sm⟩;rw [mG] at hi;obtain ⟨u,hu,rfl⟩:=mS.mp hi;obtain ⟨l,d,x1,x2,x3⟩:=y8 u (oE hu);have s9:lK (sk Z9 H9) H':=fun b o e=>sm.at (FW e).1
   have x1:=s9.at x1;have x2:=Bl s9 x2;unfold Wi;refine ⟨nS rfl,_,rfl,(mQ x1 0 rfl ⟨l,d,rfl,x2,x3.1,nj x3.2.2.1 (by left),x3.shown (by left),_,rfl,(mQ x1 1 rfl (.inl ⟨rfl,_,rfl,?_⟩))⟩)⟩;rw [mB rfl];exact X0 ⟨rfl,hC',sm⟩
  ·rintro ys H' ⟨rfl,hC',sm⟩;refine ⟨lR,fun le H2 s2 n2 e2=>.inr (.inl ⟨1,.lst [],.lst [],by left,.inr ⟨_,_,rfl,rfl⟩,?_,?_,?_⟩)⟩
   ·exact vE (ss:=[]) (s2.at hC')
   ·exact vE (ss:=[]) e2
   ·rw [mB rfl];exact q H2
end
end K61
end
namespace K61
open PySem L2 NM YM
section
end
def VL{α:Type}{us:kQ α}(h:us.length=2):∃a b,us=[a,b]:=by
 rcases us with _|⟨a,_|⟨b,_|_⟩⟩ <;>first|exact ⟨_,_,rfl⟩|cases h
def He{α:Type}{us:kQ α}(h:us.length=3):∃a b c,us=[a,b,c]:=by
 rcases us with _|⟨a,_|⟨b,_|⟨c,_|_⟩⟩⟩ <;>first|exact ⟨_,_,_,rfl⟩|cases h
def VR{α:Type}{us:kQ α}(h:us.length=4):∃a b c d,us=[a,b,c,d]:=by
 rcases us with _|⟨a,_|⟨b,_|⟨c,_|⟨d,_|_⟩⟩⟩⟩ <;>first|exact ⟨_,_,_,_,rfl⟩|cases h
def UR{us:kQ kT}{n:Nat}(h:us.length=n):us=(List.range n).map (fun i=>us.getD i .none):=by
 subst h;apply List.ext_getElem?;intro i
 by_cases h:i<us.length <;>simp [h]
def mR {K:kX} {f:kS} {x q:kR} {st:kY} {oc kV dc pm cd ct:kT} {od an:kW kS} {sl:Array (kW kT)} {ps:kQ kR} (l:K.lookup f=some ⟨oc,od,.func (fnOf x q (Wu st) (Y4 st) (Zj st) .none kV dc pm an cd ct),sl⟩) (e:codeIn K cd q=true) (k:keepIn K (.ref f)=true) (b:∀kV w5 pm an c6 ct (v:Nat->kT),bindArgs (fnOf x q (Wu st) (Y4 st) (Zj st) .none kV w5 pm an c6 ct) ⟨(List.range ps.length).map v,[]⟩=pure (ps.zip ((List.range ps.length).map v))):Dn K x q st ps:=⟨f,_,BG l e k,(BG l e k).binds fun _ _ _ _ _ _ us h=>by rw [UR h];exact b ..⟩
def Ah {K:kX} {f td:kS} {oc kV dc pm cd ct w5:kT} {od an dod:kW kS} {sl dsl:Array (kW kT)} {dn:Nat} {tk:Tok} (l:K.lookup f=some ⟨oc,od,.func (fnOf "leads" "Part.leads" (Wu Wb) (Y4 Wb) (Zj Wb) (.ref td) kV dc pm an cd ct),sl⟩) (ld:K.lookup td=some ⟨w5,dod,.seq #[.str "" tk] dn,dsl⟩) (e:codeIn K cd "Part.leads" =true) (k:keepIn K (.ref f)=true):xz K "leads" "Part.leads" Wb ["self", "end", "lie"] (.str "") :=
 ⟨f,_,_,IJ (st:=Wb) l e k,fun s us KX hl=>by
   rw [pz] at hl ⊢;obtain ⟨_,_,_,rfl⟩:=He hl;exact zg rfl (KX _ _ ld) rfl rfl rfl,.str "" tk,⟨tk,rfl⟩,fun s us KX hl=>by
   have h2:us.length=2:=by simpa using hl
   obtain ⟨_,_,rfl⟩:=VL h2;exact zg rfl (KX _ _ ld) rfl rfl rfl⟩
def Ba {K:kX} {f td:kS} {oc kV dc pm cd ct w5:kT} {od an dod:kW kS} {sl dsl:Array (kW kT)} {dn:Nat} (l:K.lookup f=some ⟨oc,od,.func (fnOf "__init__" "Tracks.__init__" (Wu Y3) (Y4 Y3) (Zj Y3) (.ref td) kV dc pm an cd ct),sl⟩) (ld:K.lookup td=some ⟨w5,dod,.seq #[.none] dn,dsl⟩) (e:codeIn K cd "Tracks.__init__" =true) (k:keepIn K (.ref f)=true):xz K "__init__" "Tracks.__init__" Y3 ["self", "parts", "joins", "signals"] .non :=
 ⟨f,_,_,IJ (st:=Y3) l e k,fun s us KX hl=>by
   rw [pz] at hl ⊢;obtain ⟨_,_,_,_,rfl⟩:=VR hl;exact zg rfl (KX _ _ ld) rfl rfl rfl,.none,rfl,fun s us KX hl=>by
   have h2:us.length=3:=by simpa using hl
   obtain ⟨_,_,_,rfl⟩:=He h2;exact zg rfl (KX _ _ ld) rfl rfl rfl⟩
def NT{K:kX}{C Y f nN:kS}{x nm qn:kR}{bs sub:kQ kT}{sn:kQ kR}{ab:Bool}{col:kW Bool}{dd:kW kS}{k0 k1 k2 k3 k5:kW kT} (lk:K.lookup C=some (excClassObj nm qn C nN bs (.ref Y ::uO) true sn sub ab col dd k0 k1 k2 k3 k5 "ValueError.__new__")) (kp:keepIn K (.ref C)=true) (ia:findIn K (.ref C) "__init__" =some (some (.ref f))) (fn:PySem.W.typeIn K (.ref f)=some (.type "function")) (sa:findIn K (.ref C) "__setattr__" =some (some (.builtin "object.__setattr__"))) (na:findIn K (.ref C) x=some none) (g:XG K C):XI K C Y f x:=⟨⟨_,_,_,_,_,_,_,_,_,_,_,_,_,_,lk⟩,kp,ia,fn,sa,g.xa,na⟩
def Ju(vs:Array kT)(p:kS):Prop:=vs[11]? =some (.ref p)
def mL{K:kX}{fd:lv}{c p:kS}{od:kW kS}{vs:Array kT}{sl:Array (kW kT)}(e:fd.code=.ref c) (_:K.lookup c=some ⟨.type "code",od,.fields vs,sl⟩) (_:Ju vs p) (h:PySem.W.codeHdIn K c p=true):tH K fd p:=⟨c,e,h⟩
abbrev Tx.pts{K:kX}{mg:kR->kW kT}(T:Tx K mg):kQ kS:=[T.bH,T.bi,T.bh,T.bc,T.bd,T.ap]
def qZ{K:kX}{a:kS}{od:kW kS}{sl:Array (kW kT)}{n:Nat}{t0 t1:Tok} (h:K.lookup a=some ⟨.type "tuple",od,.seq #[.str "" t0,.str "" t1] n,sl⟩) (H:Hp):SqT K H a ([.str "",.str ""]:kQ V):=.inr ⟨_,_,_,h,rfl,rfl,by simp [qT],.cons ⟨_,rfl⟩ (.cons ⟨_,rfl⟩ .nil)⟩
def mE{α:Type}{p:α->Prop}{a:α}(h:p a):∃x,p x:=⟨a,h⟩
def fin{l:PySem.W.OpenLaw}{w:lh}{K:kX}{h:kZ}{mg:kR->kW kT}{fa f:kS}{oc kV dc pm cd ct:kT}{od an:kW kS}{sl:Array (kW kT)}(X:K.In h)(G:h.Ns mainGlobals mg) (hfa:mg "law" =some (.ref fa)) (T:Tx K mg) (a:nsIn K mainGlobals "law" =some (some (.ref f))) (lk:K.lookup f=some ⟨oc,od,.func (fnOf "law" "law" (Wu tR) (Y4 tR) (Zj tR) .none kV dc pm an cd ct),sl⟩) (e:codeIn K cd "law" =true) (k:keepIn K (.ref f)=true) (tm:∀p∈T.pts,h.get? p=some (PySem.W.tabObj #[])) (tn:T.pts.Nodup) (tq:PySem.W.noTabs K=true)
  :∃(fd:lv) (tabs:kQ (kS×Array kT)),Ac K h tabs/\(∀(s:kU) (v:kT),BindsTo s fd ⟨[v],[]⟩ [("_law_script",v)])/\∀lL:kZ,K.In lL->lL.Ns mainGlobals mg->(∃mm,lL.Ns sysModules mm)->Xe l.prog w K mg lL nH 13 fa fd ["_law_script"] (xq K tabs):=by
 have e:=hfa.symm.trans (mg_of X G a);cases e;exact ⟨fnOf "law" "law" (Wu tR) (Y4 tR) (Zj tR) .none kV dc pm an cd ct,T.tabs,⟨pN.mpr ⟨T.dP.imp fun _ z=>z.2,pN.mpr ⟨T.du.imp fun _ z=>z.2,pN.mpr ⟨T.dQ.imp fun _ z=>z.2,pN.mpr ⟨T.dw.imp fun _ z=>z.2,pN.mpr ⟨T.dz.imp fun _ z=>z.2,pN.mpr ⟨T.cG.imp fun _ z=>z.2,fun _ z=>nomatch z⟩⟩⟩⟩⟩⟩,pN.mpr ⟨tm T.bH (by simp [Tx.pts]),pN.mpr ⟨tm T.bi (by simp [Tx.pts]),pN.mpr ⟨tm T.bh (by simp [Tx.pts]),pN.mpr ⟨tm T.bc (by simp [Tx.pts]),pN.mpr ⟨tm T.bd (by simp [Tx.pts]),pN.mpr ⟨tm T.ap (by simp [Tx.pts]),fun _ z=>nomatch z⟩⟩⟩⟩⟩⟩,pN.mpr ⟨⟨_,rfl,by left⟩,pN.mpr ⟨⟨_,rfl,by left⟩,pN.mpr ⟨⟨_,rfl,by left⟩,pN.mpr ⟨⟨_,rfl,by left⟩,pN.mpr ⟨⟨_,rfl,by left⟩,pN.mpr ⟨⟨_,rfl,by left⟩,fun _ z=>nomatch z⟩⟩⟩⟩⟩⟩,tn,tq⟩,fun s v=>.of_eq rfl,fun lL _ _=>PN (BG (st:=tR) lk ‹_› k) T⟩
def sr{K:Params->kX}{as:kQ kS}{e:∀P,as=(K P).map (·.1)}{ts ps:kQ kS}{w:lh}{h:kZ}(Y:(PySem.W.kmHook K as e ts).says w h)(i:(ps.all fun p=>ts.contains p)=true:=by left):∀p∈ps,h.get? p=some (PySem.W.tabObj #[]):=fun p hp =>
 PySem.W.km_tabs_of Y p (JR.mp (uj.mp i p hp))
def walk{l:PySem.W.OpenLaw}{q:lq}{C6:kQ kR}{XP:(kR->kW kT)->kZ->Prop}{YP:lh->kZ->Prop}{d:DefRec}{K:Params->kX}(hn:l.most=some 63)(hdf:d.params.defaults=[])
  (hY:∀(w:lh) (h:kZ),YP w h->(K w.params).In h)
  (F:∀(w:lh) (mg:kR->kW kT) (fa:kS) (h:kZ),YP w h->(K w.params).In h->h.Ns mainGlobals mg->mg d.name=some (.ref fa) ->
   ∃(fd:lv) (tabs:kQ (kS×Array kT)),Ac (K w.params) h tabs/\(∀(s:kU) (u:kT),BindsTo s fd ⟨[u],[]⟩ [("_law_script",u)])/\∀lL:kZ,(K w.params).In lL->lL.Ns mainGlobals mg->(∃mm,lL.Ns sysModules mm)->Xe l.prog w (K w.params) mg lL nH 13 fa fd ["_law_script"] (xq (K w.params) tabs)) (hq:PyProof.Rows.importsNone q=true) :
  PySem.W.WalkO q C6 XP YP l.row.toRowW d [] (fun f vs=>PySem.call f vs):=L2.walk_ofS (k:=13) (x := "_law_script") hn hdf ⟨rfl,by left,by left,rfl⟩ hY F hq
end K61
namespace PySem.W.Fast
def tw14483632252196544474:=True
lay_quick env_41 heap_1145 heap_39 heap_46 sts_101 sts_1079 sts_116 sts_131 sts_153 sts_175 sts_197 sts_212 sts_232 sts_291 sts_306 sts_335 sts_350 sts_393 sts_443 sts_49 sts_494 sts_556 sts_601 sts_649 sts_71 sts_725 sts_769 sts_86 sts_996 tree_100 tree_1078 tree_1144 tree_115 tree_130 tree_152 tree_174 tree_196 tree_211 tree_231 tree_290 tree_305 tree_334 tree_349 tree_392 tree_442 tree_47 tree_493 tree_555 tree_600 tree_648 tree_70 tree_724 tree_768 tree_85 tree_908 tree_992 view_39
end PySem.W.Fast
open PySem PySem.W PyProof.Rows L2 K61
set_option maxRecDepth 100000 in
set_option maxHeartbeats 0 in
theorem PySem.Challenge.cw_yardkeep_k61_come_and_leave_holds : PySem.Challenge.rw_yardkeep_k61_come_and_leave.Holds := by
  w_on; o_law; k_head; (case hw=>w_witness2)
  k_fill
  refine K61.walk (l:=PySem.Challenge.rw_yardkeep_k61_come_and_leave) rfl rfl (fun w h Y=>km_in_of Y) ?F ?Qz
  case Qz=>kernel_rfl
  case F=>
   intro w mg fa h Y X G hm
   have g:=fun{n v}=>@mg_of _ _ mg n v X G
   have n:=fun{n}=>@mg_none_of _ _ mg n X G
   refine' K61.fin X G hm ?T ?_ ?_ ?_ ?_ ?tm ?tn ?tq
   case' T=>apply Tx.mk
   all_goals try first|refine' mR ?_ ?_ ?_ ?_|refine' ⟨mR ?_ ?_ ?_ ?_,g ?_⟩|refine' Ah ?_ ?_ ?_ ?_|refine' Ba ?_ ?_ ?_ ?_
   all_goals try (intro _ _ _ _ _ _ u;rfl)
   all_goals try (refine g ?_;k_is)
   all_goals try (refine n ?_;k_is)
   all_goals try refine' mE (g ?_)
   all_goals try refine' rQ (g ?_) ?_
   all_goals try refine' NT ?_ ?_ ?_ ?_ ?_ ?_ ?_
   all_goals try refine' mL ?_ ?_ ?_ ?_
   all_goals try refine' qZ ?_
   all_goals try k_is
   all_goals try (refine ⟨?_,?_,?_,?_⟩<;>(try dsimp only [mR,Ah,Ba])<;>k_is)
   all_goals try (refine ⟨?_,?_,?_⟩<;>(try dsimp only [mR,Ah,Ba])<;>k_is)
   all_goals try dsimp only [mR,Ah,Ba,lX,kB,cB]
   all_goals try k_is
   all_goals try kit_is
   all_goals try k_exc
   all_goals try (refine ⟨⟨?_,?_,?_⟩,?_,?_,?_,?_,?_⟩<;>first|k_is|(show isClsIn _ _=true;k_is))
   all_goals try k_is
   all_goals try (delta Ju;rfl)
   all_goals try first|kernel_rfl|rfl
   case tm=>dsimp only [Tx.pts];exact sr Y
   case tn=>dsimp only [Tx.pts];decide
