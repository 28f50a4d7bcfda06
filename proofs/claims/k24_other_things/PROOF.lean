import PyProof.Rows.All
import Wide.All
import OpenK.AllK
import Wide.FinOn
import Lean
import PyProof.EqAt
import PyProof.EqKinds
import PyProof.TupleCall
import PyProof.NeKinds
import KE.KEqDict
import KE.KPairComp
import PyProof.EnumStmt
import PyProof.EnumMake
import PyProof.Rows.EnumRows
import KE.KDictList
import PyProof.ListRange
import PyProof.StationsW
import PyProof.Rows.SortStr
import KE.KDictSum
import PyProof.InstStoreFacts
import KE.KIsAll
import PyProof.ExcAttrAll.ValueError
import PyProof.ExcClass2
import PyProof.RulesAs
import KE.KDictOf
import PyProof.IsiH_list
import KE.KLam
import KE.KNestM
import PyProof.Rows.ZipGen
import PyProof.Rows.FactsT2
import PyProof.Rows.TupAssign
import PyProof.StrOps2
import PyProof.FitsStr
import PyProof.SumWalkG
import KE.KRevSl
import KE.KRevIter
import PyProof.Rows.SortRuns
import KE.KSortTup
import PyProof.FactsAll.tuple_2
import PyProof.TupleKey
import PySem.Challenge.RW_yardkeep_k24_other_things
set_option Elab.async false
set_option linter.all false
set_option maxRecDepth 100000
set_option maxHeartbeats 4000000
local macro_rules|`(tactic|trivial)=>`(tactic|decide +kernel)
open PySem.W (Frag kitOne keepIn findIn nsIn mg_of fnOf codeIn)
namespace L2
open PySem PySem.Spec PyProof.Rows
abbrev Key:=Sum Int Str
def Zju:Key->Value->Bool
 | .inl k,v=>Value.isInt k v
 | .inr x,v=>Value.isStrOf x v
def Ybs(w:World):Key->Int
 | .inl k=>hashInt k
 | .inr x=>hashStr w x
theorem Xh:∀{k:Key} {v:Value},Zju k v=true->(∃i t,k=Sum.inl i/\v=Value.int i t)\/(∃x t,k=Sum.inr x/\v=Value.str x t)
 | .inl i,v,h=>by
  obtain ⟨t,e⟩:=Value.isInt_shape (k:=i) (v:=v) h
  exact .inl ⟨i,t,rfl,e⟩
 | .inr x,v,h=>by
  obtain ⟨t,e⟩:=Value.isStrOf_shape (x:=x) (v:=v) h
  exact .inr ⟨x,t,rfl,e⟩
theorem Zr5(i:Int)(t:Tok):Zju (.inl i) (.int i t)=true:=by simp [Zju,Value.isInt]
theorem Zsd(x:Str)(t:Tok):Zju (.inr x) (.str x t)=true:=by simp [Zju,Value.isStrOf]
theorem Zy2(a b:Int):decide ((Sum.inl a:Key)=Sum.inl b)=(a ==b):=by
 by_cases e:a=b
 ·subst e;simp
 ·have h:¬(Sum.inl a:Key)=Sum.inl b:=fun q=>e (Sum.inl.inj q)
  rw [decide_eq_false h]
  exact (beq_eq_false_iff_ne.mpr e).symm
theorem Zzn(a b:Str):decide ((Sum.inr a:Key)=Sum.inr b)=decide (a=b):=by
 by_cases e:a=b
 ·subst e;simp
 ·have h:¬(Sum.inr a:Key)=Sum.inr b:=fun q=>e (Sum.inr.inj q)
  rw [decide_eq_false h,decide_eq_false e]
theorem Zzb(a:Int)(b:Str):decide ((Sum.inl a:Key)=Sum.inr b)=false:=decide_eq_false (fun q=>nomatch q)
theorem Zx3(a:Str)(b:Int):decide ((Sum.inr a:Key)=Sum.inl b)=false:=decide_eq_false (fun q=>nomatch q)
def Yg(prog:Program)(w:World):PySem.KeyKind prog w Key where
 is:=Zju
 hash:=Ybs w
 inj:=fun v a b ha hb=>by
  rcases Xh ha with ⟨i,t,rfl,rfl⟩|⟨x,t,rfl,rfl⟩
  ·rcases Xh hb with ⟨j,u,rfl,e⟩|⟨y,u,rfl,e⟩
   ·injection e with e1 _;rw [e1]
   ·exact nomatch e
  ·rcases Xh hb with ⟨j,u,rfl,e⟩|⟨y,u,rfl,e⟩
   ·exact nomatch e
   ·injection e with e1 _;rw [e1]
 byValue:=fun k v h=>by
  rcases Xh h with ⟨i,t,rfl,rfl⟩|⟨x,t,rfl,rfl⟩ <;>rfl
 pyHash:=fun hv h=>by
  rcases Xh hv with ⟨i,t,rfl,rfl⟩|⟨x,t,rfl,rfl⟩
  ·exact wpAny_pyHash_int h
  ·exact wpAny_pyHash_str h
 eqBool:=fun hu hv h=>by
  rcases Xh hu with ⟨i,t,rfl,rfl⟩|⟨x,t,rfl,rfl⟩
  ·rcases Xh hv with ⟨j,u,rfl,rfl⟩|⟨y,u,rfl,rfl⟩
   ·rw [Zy2] at h;exact wpAny_eqBool_int h
   ·rw [Zzb] at h;exact SeqAt.EqAt.int_str i t y u _ _ _ _ h
  ·rcases Xh hv with ⟨j,u,rfl,rfl⟩|⟨y,u,rfl,rfl⟩
   ·rw [Zx3] at h;exact SeqAt.EqAt.str_int x t j u _ _ _ _ h
   ·rw [Zzn] at h;exact wpAny_eqBool_str h
 «strs» :=fun k x t v h=>by
  rcases Xh h with ⟨i,u,rfl,e⟩|⟨y,u,rfl,e⟩
  ·exact nomatch e
  ·injection e with e1 _
   subst e1
   cases v <;>rfl
theorem Zoc(prog:Program)(w:World)(i:Int)(t:Tok):(Yg prog w).is (.inl i) (.int i t)=true:=Zr5 i t
theorem Znz(prog:Program)(w:World)(x:Str)(t:Tok):(Yg prog w).is (.inr x) (.str x t)=true:=Zsd x t
end L2
namespace L2
open PySem PySem.Spec PyProof.Rows
inductive V where
 | non | bl (b:Bool) | int (i:Int) | str (x:Str) | byt (b:Array UInt8) | flt (b:UInt64) | ref (a:Addr) | ty (n:String)
 deriving DecidableEq
def Yl:V->Value->Prop
 | .non,u=>u=Value.none
 | .bl b,u=>u=Value.bool b
 | .int i,u=>∃t,u=Value.int i t
 | .str x,u=>∃t,u=Value.str x t
 | .byt b,u=>∃t,u=Value.bytes b t
 | .flt b,u=>∃t,u=Value.float b t
 | .ref a,u=>u=Value.ref a
 | .ty n,u=>u=Value.type n
abbrev Yd:List V->List Value->Prop:=Paired Yl
theorem Yd.length{xs:List V}{us:List Value}(r:Yd xs us):xs.length=us.length:=Paired.length r
theorem Yd.get:∀{xs:List V} {us:List Value} {i:Nat} {x:V},Yd xs us->xs[i]? =some x->∃u,us[i]? =some u/\Yl x u
 | _,_,_,_,.nil,e=>by simp at e
 | _,_,0,_,.cons r _,e=>by simp at e;subst e;exact ⟨_,rfl,r⟩
 | _,_,i+1,x,.cons _ t,e=>by
  obtain ⟨u,h1,h2⟩:=Yd.get (i:=i) (x:=x) t (by simpa using e)
  exact ⟨u,by simpa using h1,h2⟩
theorem Yd.set{x:V}{u:Value}(r:Yl x u):∀{xs:List V} {us:List Value} (i:Nat),Yd xs us->Yd (xs.set i x) (us.set i u)
 | _,_,_,.nil=>.nil
 | _,_,0,.cons _ t=>.cons r t
 | _,_,i+1,.cons q t=>.cons q (Yd.set r i t)
theorem Yd.append:∀{xs ys:List V} {us ws:List Value},Yd xs us->Yd ys ws->Yd (xs++ys) (us++ws)
 | _,_,_,_,.nil,s=>s
 | _,_,_,_,.cons r t,s=>.cons r (Yd.append t s)
theorem Yd.take:∀{xs:List V} {us:List Value} (n:Nat),Yd xs us->Yd (xs.take n) (us.take n)
 | _,_,0,_=>.nil
 | _,_,_+1,.nil=>.nil
 | _,_,n+1,.cons r t=>.cons r (Yd.take n t)
theorem Yd.drop:∀{xs:List V} {us:List Value} (n:Nat),Yd xs us->Yd (xs.drop n) (us.drop n)
 | _,_,0,r=>r
 | _,_,_+1,.nil=>.nil
 | _,_,n+1,.cons _ t=>Yd.drop n t
def Zdr:Option V->Option Value->Prop
 | some v,some u=>Yl v u
 | none,none=>True
 | _,_=>False
def KV{κ:Type}:List (κ×V)->List (κ×Value)->Prop:=Paired fun (p:κ×V) (q:κ×Value)=>p.1=q.1/\Yl p.2 q.2
def kV:Key->V
 | .inl i=>.int i
 | .inr x=>.str x
inductive HO where
  | lst (xs:List V)
  | tup (xs:List V)
  | dK (kvs:List (Key×V)) | dT (kvs:List (List Key×V))
  | set (S:Int->Bool) (n:Nat)
  | ins (C dx:Addr) (fs:List (Str×V))
  | own (x:Addr)
  | xd (fs:List (Str×V))
  | met (f x:Addr)
  | rng (lo hi:Int)
  | frz (o:Obj) (u:HO)
  | tbl (ps:Array Value)
  | ext (φ:Heap->Prop)
abbrev Hp:=Addr->Option HO
def upd(H:Hp)(a:Addr)(o:HO):Hp:=fun b=>if b=a then some o else H b
theorem Zh{H:Hp}{a:Addr}{o:HO}:upd H a o a=some o:=by unfold upd;rw [if_pos rfl]
theorem Zj{H:Hp}{a b:Addr}{o:HO}(h:b≠a):upd H a o b=H b:=by unfold upd;rw [if_neg h]
theorem Zh5{H:Hp}{a:Addr}{o u:HO}:upd (upd H a o) a u=upd H a u:=by
 funext b;unfold upd;split <;>rfl
theorem Zxm{H:Hp}{a b:Addr}{o u:HO}(h:H a=some o)(h':H b=some u)(d:o≠u):a≠b:=by
 intro e;subst e;rw [h] at h';exact d (Option.some.inj h')
theorem Zi{H:Hp}{a b:Addr}{o:HO}(h:H a=some o)(h':H b=none):a≠b:=by
 intro e;subst e;rw [h] at h';cases h'
section
variable (P:Program) (w:World)
def Yn(H:Hp)(h:Heap)(a:Addr):HO->Prop
 | .lst xs=>xs.length<=sizeLine/\∃(its:List Value) (n:Nat),Yd xs its/\h.get? a=some { cls:=.type "list",data:=.seq its.toArray n }
 | .tup xs=>xs.length<=sizeLine/\∃its:List Value,Yd xs its/\IsTup h a its.toArray
 | .dK kvs=>kvs.length<=sizeLine/\(a ==sysModules)=false/\∃vs,KV kvs vs/\h.DictOf (Yg P w) a vs
 | .dT kvs=>kvs.length<=sizeLine/\(a ==sysModules)=false/\∃xs:List (List Key×Addr×Value),
   Paired (fun (p:List Key×V) (q:List Key×Addr×Value)=>p.1=q.1/\H q.2.1=some (.tup (p.1.map kV))/\Yl p.2 q.2.2) kvs xs /\
   ∃o es ep,h.get? a=some o/\o.ExactDict/\o.data=.dict es ep/\es.toList=xs.map (entryOfKey (tupleKind (Yg P w)))/\(xs.map (·.1)).Nodup
 | .set S n=>h.SetOf (intKind P w) a S n
 | .ins C dx fs=>H dx=some (.own a)/\fs.length<=1000/\dx≠a/\h.get? a=some (PySem.W.instObj C dx) /\
   ∃mA,h.Ns1 dx mA/\(∀f,Zdr (fs.lookup f) (mA f))/\PySem.Within mA (fs.map (·.1))
 | .own _=>∃o,h.get? a=some o
 | .xd fs=>∃mA,h.Ns1 a mA/\∀f,Zdr (fs.lookup f) (mA f)
 | .rng lo hi=>∃t u v,h.get? a=some { cls:=.type "range",data:=.fields #[.int lo t,.int hi u,.int 1 v] }
 | .frz o u=>h.get? a=some o/\Yn H h a u
 | .tbl ps=>∃(ln cl:Value) (q:Str) (t:Nat),ps[0]? =some ln/\ps[1]? =some cl/\ps[2]? =some (.str q t) /\
   (h.get? a=some { cls:=.none,data:=.fields #[] }\/∃(c:Addr) (oc:Obj) (vs:Array Value) (tt:Nat),H c=some (.frz oc (.own a))/\oc.data=.fields vs/\vs[1]? =some (.str q tt) /\
    h.get? a=some { cls:=.none,data:=.fields #[ln,cl,.ref c] })
 | .met f x=>h.get? a=some (PySem.W.methodObj (.ref f) (.ref x))
 | .ext φ=>φ h/\(∃o,h.get? a=some o)/\∀h1 h2:Heap,φ h1->(∀o,h1.get? a=some o->h2.get? a=some o)->φ h2
def HOk(H:Hp)(h:Heap):Prop:=∀a o,H a=some o->Yn P w H h a o
end
section
variable {P:Program} {w:World} {H H':Hp} {h h':Heap} {a:Addr} {o:HO}
theorem Yn.lt(x:Yn P w H h a o):a<h.objs.size:=by
 cases o with
 | lst xs=>obtain ⟨_,_,_,_,e⟩:=x;exact Heap.lt_size e
 | tup xs=>obtain ⟨_,_,_,p⟩:=x;exact p.lt
 | dK kvs=>obtain ⟨_,_,_,_,o,_,_,e,_⟩:=x;exact Heap.lt_size e
 | dT kvs=>obtain ⟨_,_,_,_,o,_,_,e,_⟩:=x;exact Heap.lt_size e
 | set S n=>obtain ⟨o,_,_,_,e,_⟩:=x;exact Heap.lt_size e
 | ins C dx fs=>obtain ⟨_,_,_,e,_⟩:=x;exact Heap.lt_size e
 | own y=>obtain ⟨_,e⟩:=x;exact Heap.lt_size e
 | xd fs=>obtain ⟨_,⟨_,_,_,e,_⟩,_⟩:=x;exact Heap.lt_size e
 | rng lo hi=>obtain ⟨_,_,_,e⟩:=x;exact Heap.lt_size e
 | frz ob u=>obtain ⟨e,_⟩:=x;exact Heap.lt_size e
 | tbl ps =>
  obtain ⟨_,_,_,_,_,_,_,e | ⟨_,_,_,_,_,_,_,e⟩⟩:=x
  ·exact Heap.lt_size e
  ·exact Heap.lt_size e
 | met f y=>exact Heap.lt_size (show h.get? a=some _ from x)
 | ext φ=>obtain ⟨_,⟨_,e⟩,_⟩:=x;exact Heap.lt_size e
theorem Paired.mapP{α β:Type}{F G:α->β->Prop}:∀{l₁:List α} {l₂:List β},Paired F l₁ l₂->(∀a b,F a b->G a b)->Paired G l₁ l₂
 | _,_,.nil,_=>.nil
 | _,_,.cons r t,f=>.cons (f _ _ r) (Paired.mapP t f)
theorem Yn.stay(x:Yn P w H h a o)(k:∀b u,(b=a\/H b=some (.own a))->h.get? b=some u->h'.get? b=some u)
  (ho:∀b,H b=some (.own a)->H' b=some (.own a)) (ht:∀b xs,H b=some (.tup xs)->H' b=some (.tup xs))
  (hz:∀b o,H b=some (.frz o (.own a))->H' b=some (.frz o (.own a)):=by first | exact fun _ _ q=>q | (intro b o q;rw [Zj (Zi q (by assumption))];exact q)):Yn P w H' h' a o:=by
 induction o with
 | lst xs=>obtain ⟨z,its,n,r,e⟩:=x;exact ⟨z,its,n,r,k _ _ (.inl rfl) e⟩
 | tup xs=>obtain ⟨z,its,r,ob,e,c⟩:=x;exact ⟨z,its,r,ob,k _ _ (.inl rfl) e,c⟩
 | dK kvs=>obtain ⟨z,y,vs,r,ob,es,ep,e,c⟩:=x;exact ⟨z,y,vs,r,ob,es,ep,k _ _ (.inl rfl) e,c⟩
 | dT kvs =>
  obtain ⟨z,y,xs,r,ob,es,ep,e,c⟩:=x
  exact ⟨z,y,xs,Paired.mapP r fun p q z=>⟨z.1,ht _ _ z.2.1,z.2.2⟩,ob,es,ep,k _ _ (.inl rfl) e,c⟩
 | set S n=>obtain ⟨ob,es,ep,t,e,c⟩:=x;exact ⟨ob,es,ep,t,k _ _ (.inl rfl) e,c⟩
 | ins C dx fs =>
  obtain ⟨d,z,ne,e,mA,⟨od,es,ep,e2,c⟩,r⟩:=x
  exact ⟨ho _ d,z,ne,k _ _ (.inl rfl) e,mA,⟨od,es,ep,k _ _ (.inr d) e2,c⟩,r⟩
 | own y=>obtain ⟨ob,e⟩:=x;exact ⟨ob,k _ _ (.inl rfl) e⟩
 | xd fs=>obtain ⟨mA,⟨od,es,ep,e,c⟩,r⟩:=x;exact ⟨mA,⟨od,es,ep,k _ _ (.inl rfl) e,c⟩,r⟩
 | rng lo hi=>obtain ⟨t,u,v,e⟩:=x;exact ⟨t,u,v,k _ _ (.inl rfl) e⟩
 | frz ob u ih=>obtain ⟨e,q⟩:=x;exact ⟨k _ _ (.inl rfl) e,ih q⟩
 | tbl ps =>
  obtain ⟨ln,cl,q,t,e1,e2,e3,e | ⟨c,oc,vs,tt,f1,f2,f3,e⟩⟩:=x
  ·exact ⟨ln,cl,q,t,e1,e2,e3,.inl (k a _ (.inl rfl) e)⟩
  ·exact ⟨ln,cl,q,t,e1,e2,e3,.inr ⟨c,oc,vs,tt,hz _ _ f1,f2,f3,k a _ (.inl rfl) e⟩⟩
 | met f y =>
  have e:h.get? a=some (PySem.W.methodObj (.ref f) (.ref y)):=x
  show h'.get? a=some (PySem.W.methodObj (.ref f) (.ref y))
  exact k a _ (.inl rfl) e
 | ext φ=>obtain ⟨p,⟨o,e⟩,st⟩:=x;exact ⟨st _ _ p fun o q=>k _ _ (.inl rfl) q,⟨o,k _ _ (.inl rfl) e⟩,st⟩
theorem HOk.lt(x:HOk P w H h)(e:H a=some o):a<h.objs.size:=(x a o e).lt
theorem HOk.fresh(x:HOk P w H h)(e:h.objs.size<=a):H a=none:=by
 cases q:H a with
 | none=>rfl
 | some u=>exact absurd (Nat.lt_of_lt_of_le (x.lt q) e) (Nat.lt_irrefl _)
theorem HOk.kept(x:HOk P w H h)(k:∀b u,h.get? b=some u->h'.get? b=some u):HOk P w H h':=fun a o e =>
 (x a o e).stay (fun b u _ q=>k b u q) (fun _ q=>q) fun _ _ q=>q
theorem HOk.laid(x:HOk P w H h)(k:∀b u,h.get? b=some u->h'.get? b=some u)(hp:h.objs.size<=a)(new:Yn P w (upd H a o) h' a o):HOk P w (upd H a o) h':=fun b u e=>by
 have hn:=x.fresh hp
 by_cases hb:b=a
 ·subst hb;rw [Zh] at e;cases e;exact new
 ·rw [Zj hb] at e
  exact (x b u e).stay (fun c v _ q=>k c v q) (fun c q=>by rw [Zj (Zi q hn)];exact q) fun c xs q=>by rw [Zj (Zi q hn)];exact q
end
def Rd(H:Hp)(a:Addr)(u:HO):Prop:=H a=some u\/∃o,H a=some (.frz o u)
theorem Rd.ok{P:Program}{w:World}{H:Hp}{h:Heap}{a:Addr}{u:HO}(r:Rd H a u)(x:HOk P w H h):Yn P w H h a u:=by
 rcases r with r|⟨o,r⟩
 ·exact x a u r
 ·obtain ⟨_,q⟩:=x a _ r
  exact q
def Mut:Option HO->Prop
 | some (.lst _)=>True
 | some (.dK _)=>True
 | some (.dT _)=>True
 | some (.set _ _)=>True
 | some (.ins _ _ _)=>True
 | some (.ext _)=>True
 | _=>False
section
variable {P:Program} {w:World} {H:Hp} {h h':Heap} {x e:Addr} {o':HO}
theorem HOk.write(ok:HOk P w H h)(mu:Mut (H x))(he:e=x\/H e=some (.own x))(k:∀b u,b≠e->h.get? b=some u->h'.get? b=some u)(heo:∃u,h'.get? e=some u)
  (new:Yn P w (upd H x o') h' x o'):HOk P w (upd H x o') h':=fun b u q=>by
 have nown:∀c y,H c=some (.own y)->c≠x:=fun c y r z=>by subst z;rw [r] at mu;exact mu
 have ntup:∀c xs,H c=some (.tup xs)->c≠x:=fun c xs r z=>by subst z;rw [r] at mu;exact mu
 have nfrz:∀c o y,H c=some (.frz o (.own y))->c≠x:=fun c o y r z=>by subst z;rw [r] at mu;exact mu
 by_cases hb:b=x
 ·subst hb;rw [Zh] at q;cases q;exact new
 ·rw [Zj hb] at q
  by_cases hbe:b=e
  ·have q':H b=some (.own x):=by
    rcases he with z|z
    ·exact absurd (hbe.trans z) hb
    ·rw [hbe];exact z
   rw [q] at q';cases q'
   obtain ⟨v,hv⟩:=heo
   exact ⟨v,by rw [hbe];exact hv⟩
  ·refine (ok b u q).stay (fun c v hc r=>k c v ?_ r) (fun c r=>by rw [Zj (nown c b r)];exact r) (fun c xs r=>by rw [Zj (ntup c xs r)];exact r) (fun c o r=>by rw [Zj (nfrz c o b r)];exact r)
   rcases hc with rfl|hc
   ·exact hbe
   ·rintro rfl
    rcases he with z|z
    ·exact nown c b hc z
    ·rw [hc] at z;cases z;exact hb rfl
end
structure Un(fs ex:List Addr)(H H':Hp)(h h':Heap):Prop where
 keep:∀b o,h.get? b=some o->H b=none->b∉fs->b∉ex->h'.get? b=some o
 slot:∀b o,h.get? b=some o->H b=none->b∈fs->b∉ex->∃sl,h'.get? b=some { o with slots:=sl }
 free:∀b o,h.get? b=some o->H b=none->b∉ex->H' b=none
 there:∀b o,h.get? b=some o->b∉ex->∃o',h'.get? b=some o'
 tups:∀b xs,H b=some (.tup xs)->H' b=some (.tup xs)
 frzs:∀b o u,H b=some (.frz o u)->H' b=some (.frz o u)
 tbls:∀b ps,H b=some (.tbl ps)->∃more,H' b=some (.tbl (ps++more))
section
variable {fs fs' ex ex':List Addr} {H H1 H2:Hp} {h h1 h2 h':Heap} {a x e:Addr} {o:HO}
theorem Un.any(u:Un fs ex H H1 h h1){b:Addr}{ob:Obj}(q:h.get? b=some ob)(n:H b=none)(hx:b∉ex):∃sl,h1.get? b=some { ob with slots:=sl }:=by
 by_cases hb:b∈fs
 ·exact u.slot b ob q n hb hx
 ·exact ⟨ob.slots,u.keep b ob q n hb hx⟩
theorem Un.kept(k:∀b u,h.get? b=some u->h'.get? b=some u):Un fs ex H H h h' :=
 ⟨fun b ob q _ _ _=>k b ob q,fun b ob q _ _ _=>⟨ob.slots,k b ob q⟩,fun _ _ _ n _=>n,fun b ob q _=>⟨ob,k b ob q⟩,fun _ _ q=>q,fun _ _ _ q=>q,fun _ ps q=>⟨#[],by rw [q];simp⟩⟩
theorem Un.refl:Un fs ex H H h h:=Un.kept fun _ _ q=>q
theorem Un.laid(k:∀b u,h.get? b=some u->h'.get? b=some u)(hp:h.objs.size<=a)(hn:H a=none):Un fs ex H (upd H a o) h h' where
 keep:=fun b u q _ _ _=>k b u q
 slot:=fun b u q _ _ _=>⟨u.slots,k b u q⟩
 free:=fun b u q n _=>by rw [Zj (Nat.ne_of_lt (Nat.lt_of_lt_of_le (Heap.lt_size q) hp))];exact n
 there:=fun b u q _=>⟨u,k b u q⟩
 tups:=fun b xs q=>by rw [Zj (Zi q hn)];exact q
 frzs:=fun b u xs q=>by rw [Zj (Zi q hn)];exact q
 tbls:=fun b ps q=>⟨#[],by rw [Zj (Zi q hn),q];simp⟩
theorem Un.write(mu:Mut (H x))(he:e=x\/H e=some (.own x))(k:∀b u,b≠e->h.get? b=some u->h'.get? b=some u)(heo:∃u,h'.get? e=some u):Un fs ex H (upd H x o) h h':=by
 have hx:∀b,H b=none->b≠x:=fun b n z=>by subst z;rw [n] at mu;exact mu
 have hb:∀b,H b=none->b≠e:=fun b n z=>by
  subst z
  rcases he with r|r
  ·exact hx b n r
  ·rw [n] at r;cases r
 have hm:∀b u,H b=some u->¬Mut (some u)->b≠x:=fun b u q nm z=>by subst z;rw [q] at mu;exact nm mu
 refine ⟨fun b u q n _ _=>k b u (hb b n) q,fun b u q n _ _=>⟨u.slots,k b u (hb b n) q⟩,fun b u q n _=>by rw [Zj (hx b n)];exact n,fun b u q _=>?_,
  fun b xs q=>by rw [Zj (hm b _ q fun z=>z)];exact q,fun b u xs q=>by rw [Zj (hm b _ q fun z=>z)];exact q,fun b ps q=>⟨#[],by rw [Zj (hm b _ q fun z=>z),q];simp⟩⟩
 by_cases hbe:b=e
 ·subst hbe;exact heo
 ·exact ⟨u,k b u hbe q⟩
end
def trk(h:Heap)(H:Hp):List Addr:=(List.range h.objs.size).filter fun a=>(H a).isSome
def Zmr(h:Heap)(H:Hp):Heap:=PySem.W.hideAll h (trk h H)
theorem Zri(h:Heap)(H:Hp):(Zmr h H).objs.size=h.objs.size:=PySem.W.hideAll_size _ _
theorem Zul{h:Heap}{H:Hp}{b:Addr}{o:Obj}(e:h.get? b=some o)(n:H b=none):(Zmr h H).get? b=some o :=
 PySem.W.hideAll_get _ e fun hm=>by
  have q:(H b).isSome=true:=(List.mem_filter.mp hm).2
  rw [n] at q;simp at q
theorem Zvf{h:Heap}{H:Hp}{b:Addr}{o:Obj}(e:(Zmr h H).get? b=some o):h.get? b=some o/\H b=none:=by
 have e':h.get? b=some o:=PySem.W.of_hideAll (trk h H) e
 refine ⟨e',?_⟩
 cases q:H b with
 | none=>rfl
 | some x =>
  have hm:b∈trk h H:=List.mem_filter.mpr ⟨List.mem_range.mpr (Heap.lt_size e'),by simp [q]⟩
  have z:(Zmr h H).get? b=none:=PySem.W.hideAll_none (trk h H) hm
  rw [z] at e;cases e
def Zv8(g h:Heap)(L:Addr):List (Addr×Obj):=(List.range h.objs.size).filterMap fun a=>if a=L\/(g.get? a).isSome=true then none else (h.get? a).map fun o=>(a,o)
def Z5(g h:Heap)(L d:Addr):List (Addr×Obj):=(Zv8 g h L).filter fun p=>decide (p.1≠d)
end L2
namespace L2
open PySem PySem.Spec PyProof.Rows
def Zx0(mg:Str->Option Value)(h:Heap):Prop:=∃bm ob,mg "__builtins__" =some (.ref bm)/\bm≠builtinsNs/\h.get? bm=some ob/\ob.cls=.type "module" /\ob.dict=some builtinsNs/\ob.data=.plain
structure Mod(K:Frag)(mg:Str->Option Value)(base:Heap):Prop where
 kin:K.In base
 glob:base.Ns mainGlobals mg
 blt:∃mb,base.Ns builtinsNs mb/\∀x:Str,x ≠ "__name__" ->mb x=bootBuiltins x
 nolimit:base.NoLimit
 bm:Zx0 mg base
structure Cx where
 prog:Program
 w:World
 K:Frag
 mg:Str->Option Value
 base:Heap
 A:Around
 N:List Str
 s₀:Shared
 H₀:Hp
 env:Env
 outer:List Env
 stack:List Env
 ex:List Addr
 fn:Str->Bool
 calm:Bool
 pn:List (Addr×Obj)
 xe:Value->Shared->Prop
def frs(l:List Env):List Addr:=l.filterMap (·.frame)
abbrev Cx.fs(X:Cx):List Addr:=frs X.outer
def Vis(sc:Scope)(x:Str):Prop:=sc.names.lookup x=some .local\/sc.names.lookup x=some .cell\/sc.names.lookup x=some .free
def Loc(sc:Scope)(x:Str):Prop:=sc.names.lookup x=some .local\/sc.names.lookup x=some .cell
def Ybk(env:Env)(h:Heap)(m:Str->Option Value)(x:Str)(u:Value):Prop :=
 (env.kindOf x=some .local/\m x=some u)\/((env.kindOf x=some .cell\/env.kindOf x=some .free)/\∃c,env.cells.lookup x=some c/\h.IsCell c (some u))
structure Cx.Ok(X:Cx):Prop where
 mod:Mod X.K X.mg X.base
 kind:X.env.scope.kind=.function
 glob:X.env.globals=mainGlobals
 blt:X.env.builtins=builtinsNs
 above:X.s₀.heap.objs.size<=X.env.locals
 inj:∀x y c,X.env.cells.lookup x=some c->X.env.cells.lookup y=some c->x=y
 has:∀x,(X.env.kindOf x=some .cell\/X.env.kindOf x=some .free)->∃c,X.env.cells.lookup x=some c
 cab:∀x c,X.fn x=true->X.env.cells.lookup x=some c->X.s₀.heap.objs.size<=c
 hd:X.calm=true->X.A.handled=none
 frames:X.A.frames=some X.stack
 stk:X.stack=X.outer\/(X.stack=X.env ::X.outer/\X.env.frame=some X.env.locals)
 exf:∀b∈X.ex,b≠X.env.locals/\∀x c,X.env.cells.lookup x=some c->c≠b
 bs:∀b o,X.base.get? b=some o->X.s₀.heap.get? b=some o/\X.H₀ b=none
 bsz:X.base.objs.size<=X.s₀.heap.objs.size
 noex:∀b o,X.base.get? b=some o->b∉X.ex
 exfs:∀b∈X.ex,b∉X.fs
 funs:X.s₀.heap.FunFrames X.base X.outer
 frf:∀b∈X.fs,X.H₀ b=none
structure Inv(X:Cx)(pins:List (Addr×Obj))(σ:List (Option V))(H:Hp)(s:Shared):Prop where
 ok:X.Ok
 os:s.os=X.s₀.os
 bare:AllBare s.gens
 base:Un X.fs X.ex X.H₀ H X.s₀.heap s.heap
 loc:∃m,s.heap.Ns X.env.locals m/\∀(i:Nat) (x:Str) (v:V),X.N[i]? =some x->σ[i]? =some (some v)->Vis X.env.scope x->∃u,Yl v u/\Ybk X.env s.heap m x u
 cell:∀x c,X.env.cells.lookup x=some c->∃v,s.heap.IsCell c v
 free:H X.env.locals=none
 freeC:∀x c,X.env.cells.lookup x=some c->H c=none
 pin:∀p∈X.pn++pins,s.heap.get? p.1=some p.2/\H p.1=none/\p.1≠X.env.locals/\p.1∉X.fs/\∀v,p.2.data ≠ .cell v
 hok:HOk X.prog X.w H s.heap
 len:σ.length=X.N.length
section
variable {X:Cx} {pins:List (Addr×Obj)} {σ:List (Option V)} {H H':Hp} {s:Shared} {h':Heap}
theorem Cx.Ok.nofr(ok:X.Ok){b:Addr}{o:Obj}(e:X.base.get? b=some o):b∉X.fs:=fun hb=>by
 have:=(ok.funs.mem hb).1
 rw [e] at this;cases this
theorem Inv.bs(I:Inv X pins σ H s):∀b o,X.base.get? b=some o->s.heap.get? b=some o/\H b=none:=fun b o e =>
 ⟨I.base.keep b o (I.ok.bs b o e).1 (I.ok.bs b o e).2 (I.ok.nofr e) (I.ok.noex b o e),I.base.free b o (I.ok.bs b o e).1 (I.ok.bs b o e).2 (I.ok.noex b o e)⟩
theorem Inv.bk(I:Inv X pins σ H s):∀b o,X.base.get? b=some o->s.heap.get? b=some o:=fun b o e=>(I.bs b o e).1
theorem Inv.mod(I:Inv X pins σ H s):Mod X.K X.mg X.base:=I.ok.mod
theorem Inv.kIn(I:Inv X pins σ H s):X.K.In s.heap:=I.ok.mod.kin.keeps I.bk
theorem Inv.fr(I:Inv X pins σ H s):∃m,Fr X.base X.env.locals s.heap m :=
 let ⟨m,hn,_⟩:=I.loc
 ⟨m,hn,I.bk,Nat.le_trans I.ok.bsz I.ok.above⟩
theorem Inv.lt(I:Inv X pins σ H s):X.env.locals<s.heap.objs.size:=let ⟨_,hn,_⟩:=I.loc;hn.lt
theorem Inv.sz(I:Inv X pins σ H s):X.s₀.heap.objs.size<=s.heap.objs.size:=Nat.le_trans I.ok.above (Nat.le_of_lt I.lt)
theorem Inv.nofs(I:Inv X pins σ H s){a:Addr}(h:s.heap.objs.size<=a):a∉X.fs:=fun hb=>by
 obtain ⟨_,o,ho,_⟩:=I.ok.funs.mem hb
 exact absurd (Nat.lt_of_lt_of_le (Heap.lt_size ho) (Nat.le_trans I.sz h)) (Nat.lt_irrefl _)
theorem Inv.cne(I:Inv X pins σ H s):∀x c,X.env.cells.lookup x=some c->c≠X.env.locals:=fun x c e z=>by
 obtain ⟨v,o,ho,hd⟩:=I.cell x c e
 obtain ⟨m,⟨o',es,ep,ho',hd',_⟩,_⟩:=I.loc
 rw [z,ho'] at ho;cases ho;rw [hd'] at hd;cases hd
theorem Inv.funs(I:Inv X pins σ H s):s.heap.FunFrames X.base X.outer:=by
 have all:∀(l:List Env),(∀b∈frs l,b∈X.fs)->X.s₀.heap.FunFrames X.base l->s.heap.FunFrames X.base l:=by
  intro l
  induction l with
  | nil=>intro _ _;trivial
  | cons env r ih =>
   intro hs hl
   obtain ⟨hk,⟨L,o,hf,hn,ho,hd⟩,hr⟩:=hl
   have hL:L∈X.fs:=hs L (by unfold frs;rw [List.filterMap_cons,hf];exact List.mem_cons_self)
   obtain ⟨sl,e⟩:=I.base.slot L o ho (I.ok.frf L hL) hL fun z=>I.ok.exfs L z hL
   exact ⟨hk,⟨L,_,hf,hn,e,hd⟩,ih (fun b hb=>hs b (by unfold frs;rw [List.filterMap_cons,hf];exact List.mem_cons_of_mem _ hb)) hr⟩
 exact all X.outer (fun _ hb=>hb) I.ok.funs
theorem Inv.stack(I:Inv X pins σ H s):s.heap.FunFrames X.base X.stack:=by
 rcases I.ok.stk with e|⟨e,hf⟩
 ·rw [e];exact I.funs
 ·rw [e]
  obtain ⟨m,hn,_⟩:=I.loc
  refine .cons (by rw [I.ok.kind];decide) hf hn ?_ I.funs
  exact Heap.get?_none_of_le (Nat.le_trans I.ok.bsz I.ok.above)
theorem Inv.stkSub(I:Inv X pins σ H s):∀b∈frs X.stack,b∈X.env.locals ::X.fs:=fun b hb=>by
 rcases I.ok.stk with e|⟨e,hf⟩
 ·rw [e] at hb;exact List.mem_cons_of_mem _ hb
 ·rw [e] at hb
  unfold frs at hb
  rw [List.filterMap_cons,hf] at hb
  exact hb
theorem Inv.stkFree(I:Inv X pins σ H s):∀b∈frs X.stack,H b=none:=fun b hb=>by
 rcases List.mem_cons.mp (I.stkSub b hb) with e|hb
 ·rw [e];exact I.free
 ·obtain ⟨_,o,ho,_⟩:=I.ok.funs.mem hb
  exact I.base.free b o ho (I.ok.frf b hb) fun z=>I.ok.exfs b z hb
theorem Inv.step{g':Array GenState}{t':Nat}{d':Drawn}{ch:List Addr}(I:Inv X pins σ H s)
  (hch:∀b∈ch,(b∈X.ex\/X.s₀.heap.objs.size<=b)/\b≠X.env.locals/\(∀x c,X.env.cells.lookup x=some c->c≠b)/\∀p∈X.pn++pins,p.1≠b)
  (keep:∀b o,b≠X.env.locals->b∉X.fs->b∉ch->s.heap.get? b=some o->H b=none->h'.get? b=some o)
  (slot:∀b o,b≠X.env.locals->b∈X.fs->b∉ch->s.heap.get? b=some o->H b=none->∃sl,h'.get? b=some { o with slots:=sl }) (free:∀b o,b∉ch->s.heap.get? b=some o->H b=none->H' b=none)
  (there:∀b o,b∉ch->s.heap.get? b=some o->∃o',h'.get? b=some o')
  (tups:∀b xs,H b=some (.tup xs)->H' b=some (.tup xs)) (frzs:∀b o u,H b=some (.frz o u)->H' b=some (.frz o u)) (tbls:∀b ps,H b=some (.tbl ps)->∃more,H' b=some (.tbl (ps++more)))
  (ns:∀m,s.heap.Ns X.env.locals m->h'.Ns X.env.locals m) (hok:HOk X.prog X.w H' h') (hg:AllBare g') :
  Inv X pins σ H' { s with heap:=h',gens:=g',drawn:=d',toks:=t' }:=by
 have neL:∀b o,X.s₀.heap.get? b=some o->b≠X.env.locals:=fun b o e=>Nat.ne_of_lt (Nat.lt_of_lt_of_le (Heap.lt_size e) I.ok.above)
 have neC:∀b o,X.s₀.heap.get? b=some o->b∉X.ex->b∉ch:=fun b o e hx hb=>by
  rcases (hch b hb).1 with z|z
  ·exact hx z
  ·exact absurd (Nat.lt_of_lt_of_le (Heap.lt_size e) z) (Nat.lt_irrefl _)
 have cellK:∀x c,X.env.cells.lookup x=some c->∀v,s.heap.IsCell c v->h'.IsCell c v:=fun x c e v ⟨o,ho,hd⟩=>by
  have nch:c∉ch:=fun z=>(hch c z).2.2.1 x c e rfl
  by_cases hc:c∈X.fs
  ·obtain ⟨sl,q⟩:=slot c o (I.cne x c e) hc nch ho (I.freeC x c e)
   exact ⟨_,q,hd⟩
  ·exact ⟨o,keep c o (I.cne x c e) hc nch ho (I.freeC x c e),hd⟩
 refine ⟨I.ok,I.os,hg,⟨fun b o e n hb hx=>?_,fun b o e n hb hx=>?_,fun b o e n hx=>?_,fun b o e hx=>?_,fun b xs e=>tups b xs (I.base.tups b xs e),fun b o xs e=>frzs b o xs (I.base.frzs b o xs e),fun b ps e=>?_⟩,?_,fun x c e=>?_,?_,fun x c e=>?_,fun p hp=>?_,hok,I.len⟩
 ·exact keep b o (neL b o e) hb (neC b o e hx) (I.base.keep b o e n hb hx) (I.base.free b o e n hx)
 ·obtain ⟨sl,e1⟩:=I.base.slot b o e n hb hx
  obtain ⟨sl',e2⟩:=slot b _ (neL b o e) hb (neC b o e hx) e1 (I.base.free b o e n hx)
  exact ⟨sl',e2⟩
 ·obtain ⟨o',e1⟩:=I.base.there b o e hx
  exact free b o' (neC b o e hx) e1 (I.base.free b o e n hx)
 ·obtain ⟨o',e1⟩:=I.base.there b o e hx
  exact there b o' (neC b o e hx) e1
 ·obtain ⟨m1,e1⟩:=I.base.tbls b ps e
  obtain ⟨m2,e2⟩:=tbls b _ e1
  exact ⟨m1++m2,by rw [e2,Array.append_assoc]⟩
 ·obtain ⟨m,hn,hl⟩:=I.loc
  refine ⟨m,ns m hn,fun i x v e1 e2 e3=>?_⟩
  obtain ⟨u,r,l⟩:=hl i x v e1 e2 e3
  refine ⟨u,r,?_⟩
  rcases l with l|⟨k,c,e,z⟩
  ·exact .inl l
  ·exact .inr ⟨k,c,e,cellK x c e _ z⟩
 ·obtain ⟨v,z⟩:=I.cell x c e
  exact ⟨v,cellK x c e v z⟩
 ·obtain ⟨m,⟨o,_,_,ho,_⟩,_⟩:=I.loc
  exact free _ o (fun z=>(hch _ z).2.1 rfl) ho I.free
 ·obtain ⟨v,o,ho,hd⟩:=I.cell x c e
  exact free c o (fun z=>(hch c z).2.2.1 x c e rfl) ho (I.freeC x c e)
 ·obtain ⟨e,n,ne,nf,d⟩:=I.pin p hp
  have nch:p.1∉ch:=fun z=>(hch p.1 z).2.2.2 p hp rfl
  exact ⟨keep p.1 p.2 ne nf nch e n,free p.1 p.2 nch e n,ne,nf,d⟩
theorem Inv.un{t':Nat}(I:Inv X pins σ H s)(u:Un X.fs [] H H' s.heap h')(hok:HOk X.prog X.w H' h'):Inv X pins σ H' { s with heap:=h',toks:=t' }:=by
 obtain ⟨m,⟨o,es,ep,ho,r⟩,_⟩:=id I.loc
 obtain ⟨sl,hL⟩:=u.any ho I.free (by simp)
 exact I.step (g':=s.gens) (d':=s.drawn) (ch:=[]) (fun _ z=>nomatch z) (fun b o _ hb _ e n=>u.keep b o e n hb (by simp)) (fun b o _ hb _ e n=>u.slot b o e n hb (by simp)) (fun b o _ e n=>u.free b o e n (by simp)) (fun b o _ e=>u.there b o e (by simp)) u.tups u.frzs u.tbls (fun m' hm=>by
  obtain ⟨o',es',ep',ho',r'⟩:=hm
  rw [ho] at ho';cases ho'
  exact ⟨_,es',ep',hL,r'⟩) hok I.bare
theorem Inv.call{g':Array GenState}{t':Nat}{d':Drawn}{ch:List Addr}(I:Inv X pins σ H s)(u:Un (frs X.stack) ch H H' s.heap h')(hok:HOk X.prog X.w H' h')(hg:AllBare g')
  (hch:∀b∈ch,(b∈X.ex\/X.s₀.heap.objs.size<=b)/\b≠X.env.locals/\(∀x c,X.env.cells.lookup x=some c->c≠b)/\∀p∈X.pn++pins,p.1≠b) :
  Inv X pins σ H' { s with heap:=h',gens:=g',drawn:=d',toks:=t' }:=by
 obtain ⟨m,⟨o,es,ep,ho,r⟩,_⟩:=id I.loc
 obtain ⟨sl,hL⟩:=u.any ho I.free fun z=>(hch _ z).2.1 rfl
 exact I.step (ch:=ch) hch (fun b o hL hb hc e n=>u.keep b o e n (fun z=>(List.mem_cons.mp (I.stkSub b z)).elim hL hb) hc) (fun b o _ _ hc e n=>u.any e n hc) (fun b o hc e n=>u.free b o e n hc) (fun b o hc e=>u.there b o e hc) u.tups u.frzs u.tbls (fun m' hm=>by
  obtain ⟨o',es',ep',ho',r'⟩:=hm
  rw [ho] at ho';cases ho'
  exact ⟨_,es',ep',hL,r'⟩) hok hg
theorem Inv.turned{t':Nat}{it:Addr}(I:Inv X pins σ H s)(k:∀b o,b≠it->s.heap.get? b=some o->h'.get? b=some o)(hn:H it=none)(hL:it≠X.env.locals)
  (h1:it∈X.ex\/X.s₀.heap.objs.size<=it) (h2:∀x c,X.env.cells.lookup x=some c->c≠it) (h3:∀p∈X.pn++pins,p.1≠it):Inv X pins σ H { s with heap:=h',toks:=t' }:=by
 have nit:∀b u,H b=some u->b≠it:=fun b u e z=>by rw [z,hn] at e;cases e
 refine I.step (g':=s.gens) (d':=s.drawn) (ch:=[it]) (fun b hb=>?_) (fun b o _ _ hc e _=>k b o (fun z=>hc (by simp [z])) e) (fun b o _ _ hc e _=>⟨o.slots,k b o (fun z=>hc (by simp [z])) e⟩) (fun _ _ _ _ n=>n)
  (fun b o hc e=>⟨o,k b o (fun z=>hc (by simp [z])) e⟩) (fun _ _ e=>e) (fun _ _ _ e=>e) (fun b ps e=>⟨#[],by rw [e];simp⟩) (fun m hm=>?_) (fun b u e=>?_) I.bare
 ·have e:b=it:=by simpa using hb
  subst e
  exact ⟨h1,hL,h2,h3⟩
 ·obtain ⟨o,es,ep,ho,r⟩:=hm
  exact ⟨o,es,ep,k _ o (Ne.symm hL) ho,r⟩
 ·refine (I.hok b u e).stay (fun c v hc q=>k c v ?_ q) (fun _ q=>q) fun _ _ q=>q
  rcases hc with z|z
  ·rw [z];exact nit b u e
  ·exact nit c _ z
theorem Inv.tok(I:Inv X pins σ H s)(t:Nat):Inv X pins σ H { s with toks:=t }:=I.un (h':=s.heap) (t':=t) Un.refl I.hok
theorem Inv.kept{t':Nat}(I:Inv X pins σ H s)(k:∀b u,s.heap.get? b=some u->h'.get? b=some u):Inv X pins σ H { s with heap:=h',toks:=t' }:=I.un (Un.kept k) (I.hok.kept k)
theorem Inv.laid{a:Addr}{o:HO}{t':Nat}(I:Inv X pins σ H s)(k:∀b u,s.heap.get? b=some u->h'.get? b=some u)(hp:s.heap.objs.size<=a)(new:Yn X.prog X.w (upd H a o) h' a o) :
  Inv X pins σ (upd H a o) { s with heap:=h',toks:=t' }:=I.un (Un.laid k hp (I.hok.fresh hp)) (I.hok.laid k hp new)
theorem Inv.write{x e:Addr}{o:HO}{t':Nat}(I:Inv X pins σ H s)(mu:Mut (H x))(he:e=x\/H e=some (.own x))(k:∀b u,b≠e->s.heap.get? b=some u->h'.get? b=some u)(heo:∃u,h'.get? e=some u)
  (new:Yn X.prog X.w (upd H x o) h' x o):Inv X pins σ (upd H x o) { s with heap:=h',toks:=t' }:=I.un (Un.write mu he k heo) (I.hok.write mu he k heo new)
theorem Inv.weak{σ':List (Option V)}(I:Inv X pins σ H s)(hl:σ'.length=σ.length)(w:∀(i:Nat) v,σ'[i]? =some (some v)->σ[i]? =some (some v)):Inv X pins σ' H s :=
 ⟨I.ok,I.os,I.bare,I.base,let ⟨m,hn,hl'⟩:=I.loc;⟨m,hn,fun i x v e1 e2 e3=>hl' i x v e1 (w i v e2) e3⟩,I.cell,I.free,I.freeC,I.pin,I.hok,hl.trans I.len⟩
theorem Inv.pins_of{pins':List (Addr×Obj)}(I:Inv X pins σ H s)(h:∀p∈pins',s.heap.get? p.1=some p.2/\H p.1=none/\p.1≠X.env.locals/\p.1∉X.fs/\∀v,p.2.data ≠ .cell v):Inv X pins' σ H s :=
 ⟨I.ok,I.os,I.bare,I.base,I.loc,I.cell,I.free,I.freeC,fun p hp=>(List.mem_append.mp hp).elim (fun z=>I.pin p (List.mem_append_left _ z)) (h p),I.hok,I.len⟩
theorem Zny{N:List Str}(hN:N.Nodup){i j:Nat}{x:Str}(a:N[i]? =some x)(b:N[j]? =some x):i=j:=by
 obtain ⟨h1,e1⟩:=List.getElem?_eq_some_iff.mp a
 obtain ⟨h2,e2⟩:=List.getElem?_eq_some_iff.mp b
 exact (List.getElem_inj hN).mp (e1.trans e2.symm)
theorem Zss{M:Model}{A:Around}{E:Value->Shared->Prop}{i:Nat}{x:Str}{v:V}{u:Value}{Q:Unit->Shared->Prop}(I:Inv X pins σ H s)(hN:X.N.Nodup)(hi:X.N[i]? =some x)(hx:Loc X.env.scope x)(r:Yl v u)
  (h:∀s',Inv X pins (σ.set i (some v)) H s'->(∃a,Heap.SameBut a s.heap s'.heap/\(a=X.env.locals\/X.env.cells.lookup x=some a))->Q () s') (hf:X.fn x=true\/X.env.scope.names.lookup x=some .local:=by first | exact .inl rfl | exact .inr rfl | assumption):wpAny M A (storeName X.env x u) Q E s:=by
 obtain ⟨m,hn,hl⟩:=id I.loc
 have hcls:(X.env.scope.kind ==.class || (X.env.scope.kind ==.module && X.env.locals !=X.env.globals))=false:=by rw [I.ok.kind];rfl
 have hiσ:i<σ.length:=by rw [I.len];exact (List.getElem?_eq_some_iff.mp hi).1
 have cne:=I.cne
 have tracked:∀{a:Addr} {h':Heap},(∃o,s.heap.get? a=some o/\H a=none)->Heap.SameBut a s.heap h'->HOk X.prog X.w H h':=fun {a h'} ha hs b ob e=>by
  obtain ⟨_,_,hfree⟩:=ha
  refine (I.hok b ob e).stay (fun c w' hc q=>(hs.2 c ?_).trans q) (fun _ q=>q) fun _ _ q=>q
  rintro rfl
  rcases hc with rfl|hc
  ·rw [hfree] at e;cases e
  ·rw [hfree] at hc;cases hc
 rcases hx with hk|hk
 ·refine wpAny_storeName_local hk hn (fun h' hn' hs=>?_) hcls
  obtain ⟨oL,_,_,hoL,_⟩:=id hn
  refine h _ ⟨I.ok,I.os,I.bare,⟨fun b o e n hb hx=>?_,fun b o e n hb hx=>?_,I.base.free,fun b o e hx=>?_,I.base.tups,I.base.frzs,I.base.tbls⟩,⟨_,hn',fun j y v' e1 e2 e3=>?_⟩,fun y c e=>?_,I.free,I.freeC,fun p hp=>?_,tracked ⟨oL,hoL,I.free⟩ hs,by simpa using I.len⟩ ⟨_,hs,.inl rfl⟩
  ·exact (hs.2 b (Nat.ne_of_lt (Nat.lt_of_lt_of_le (Heap.lt_size e) I.ok.above))).trans (I.base.keep b o e n hb hx)
  ·obtain ⟨sl,e1⟩:=I.base.slot b o e n hb hx
   exact ⟨sl,(hs.2 b (Nat.ne_of_lt (Nat.lt_of_lt_of_le (Heap.lt_size e) I.ok.above))).trans e1⟩
  ·obtain ⟨o',e1⟩:=I.base.there b o e hx
   exact ⟨o',(hs.2 b (Nat.ne_of_lt (Nat.lt_of_lt_of_le (Heap.lt_size e) I.ok.above))).trans e1⟩
  ·by_cases hj:j=i
   ·subst hj
    rw [hi] at e1;cases e1
    rw [List.getElem?_set_self hiσ] at e2
    cases e2
    exact ⟨u,r,.inl ⟨hk,by simp⟩⟩
   ·rw [List.getElem?_set_ne (Ne.symm hj)] at e2
    obtain ⟨u',r',q⟩:=hl j y v' e1 e2 e3
    refine ⟨u',r',?_⟩
    rcases q with ⟨k,e⟩|⟨k,c,e,z⟩
    ·refine .inl ⟨k,?_⟩
     have:y≠x:=fun e=>hj (Zny hN e1 (e ▸ hi))
     simp [this,e]
    ·exact .inr ⟨k,c,e,z.sameBut hs (cne y c e)⟩
  ·obtain ⟨w',z⟩:=I.cell y c e
   exact ⟨w',z.sameBut hs (cne y c e)⟩
  ·obtain ⟨e,n,ne,nf,d⟩:=I.pin p hp
   exact ⟨(hs.2 p.1 ne).trans e,n,ne,nf,d⟩
 ·have hfn:X.fn x=true:=by
   rcases hf with z|z
   ·exact z
   ·rw [z] at hk;cases hk
  obtain ⟨c,hc⟩:=I.ok.has x (.inl hk)
  obtain ⟨w',z⟩:=I.cell x c hc
  refine wpAny_storeName_cell I.ok.kind hk hc z (fun h' hc' hs=>?_)
  obtain ⟨oc,hoc,hocd⟩:=id z
  refine h { s with heap:=h' } ⟨I.ok,I.os,I.bare,⟨fun b o e n hb hx=>?_,fun b o e n hb hx=>?_,I.base.free,fun b o e hx=>?_,I.base.tups,I.base.frzs,I.base.tbls⟩,⟨m,hn.sameBut hs (Ne.symm (cne x c hc)),fun j y v' e1 e2 e3=>?_⟩,fun y c' e=>?_,I.free,I.freeC,fun p hp=>?_,tracked ⟨oc,hoc,I.freeC x c hc⟩ hs,by simpa using I.len⟩ ⟨c,hs,.inr hc⟩
  ·exact (hs.2 b (Nat.ne_of_lt (Nat.lt_of_lt_of_le (Heap.lt_size e) (I.ok.cab x c hfn hc)))).trans (I.base.keep b o e n hb hx)
  ·obtain ⟨sl,e1⟩:=I.base.slot b o e n hb hx
   exact ⟨sl,(hs.2 b (Nat.ne_of_lt (Nat.lt_of_lt_of_le (Heap.lt_size e) (I.ok.cab x c hfn hc)))).trans e1⟩
  ·obtain ⟨o',e1⟩:=I.base.there b o e hx
   exact ⟨o',(hs.2 b (Nat.ne_of_lt (Nat.lt_of_lt_of_le (Heap.lt_size e) (I.ok.cab x c hfn hc)))).trans e1⟩
  ·by_cases hj:j=i
   ·subst hj
    rw [hi] at e1;cases e1
    rw [List.getElem?_set_self hiσ] at e2
    cases e2
    exact ⟨u,r,.inr ⟨.inl hk,c,hc,hc'⟩⟩
   ·rw [List.getElem?_set_ne (Ne.symm hj)] at e2
    obtain ⟨u',r',q⟩:=hl j y v' e1 e2 e3
    refine ⟨u',r',?_⟩
    rcases q with q|⟨k,c',e,z'⟩
    ·exact .inl q
    ·refine .inr ⟨k,c',e,z'.sameBut hs ?_⟩
     rintro rfl
     exact hj (Zny hN e1 (I.ok.inj _ _ _ e hc ▸ hi))
  ·by_cases hcc:c'=c
   ·subst hcc;exact ⟨_,hc'⟩
   ·obtain ⟨w2,z2⟩:=I.cell y c' e
    exact ⟨w2,z2.sameBut hs hcc⟩
  ·obtain ⟨e,n,ne,nf,d⟩:=I.pin p hp
   refine ⟨(hs.2 p.1 ?_).trans e,n,ne,nf,d⟩
   intro q
   rw [q,hoc] at e
   have q':oc=p.2:=Option.some.inj e
   exact d w' (by rw [<-q'];exact hocd)
theorem Znw{M:Model}{A:Around}{E:Value->Shared->Prop}{i:Nat}{x:Str}{v:V}{u:Value}{Q:Unit->Shared->Prop}(I:Inv X pins σ H s)(hN:X.N.Nodup)(hi:X.N[i]? =some x)(hx:Loc X.env.scope x)(r:Yl v u)
  (h:∀s',Inv X pins (σ.set i (some v)) H s'->Q () s') (hf:X.fn x=true\/X.env.scope.names.lookup x=some .local:=by first | exact .inl rfl | exact .inr rfl | assumption):wpAny M A (storeName X.env x u) Q E s :=
 Zss I hN hi hx r (fun s' I' _=>h s' I') hf
theorem Inv.call'{s':Shared}{ch:List Addr}(I:Inv X pins σ H s)(ho:s'.os=s.os)(u:Un (frs X.stack) ch H H' s.heap s'.heap)(hok:HOk X.prog X.w H' s'.heap)(hg:AllBare s'.gens)
  (hch:∀b∈ch,(b∈X.ex\/X.s₀.heap.objs.size<=b)/\b≠X.env.locals/\(∀x c,X.env.cells.lookup x=some c->c≠b)/\∀p∈X.pn++pins,p.1≠b):Inv X pins σ H' s':=by
 obtain ⟨h',g',d',t',o'⟩:=s'
 have e:o'=s.os:=ho
 subst e
 exact I.call (g':=g') (t':=t') (d':=d') u hok hg hch
end
abbrev XK:=Value->Option Addr->Hp->Prop
abbrev St:=List (Option V)
abbrev VK:=V->Hp->Prop
abbrev TE:=St->Hp->VK->Prop
abbrev TT:=St->Hp->(Bool->Hp->Prop)->Prop
abbrev TA:=St->Hp->(List V->Hp->Prop)->Prop
structure Zfl where
 nx:St->Hp->Prop
 rt:VK
 bk:St->Hp->Prop:=fun _ _=>False
 ct:St->Hp->Prop:=fun _ _=>False
abbrev TS:=Zfl->St->Hp->Prop
def EP(X:Cx)(pins:List (Addr×Obj))(σ:St)(Q:VK)(u:Value)(s':Shared):Prop:=∃v H',Inv X pins σ H' s'/\Yl v u/\Q v H'
def TP(X:Cx)(pins:List (Addr×Obj))(σ:St)(Q:Bool->Hp->Prop)(b:Bool)(s':Shared):Prop:=∃H',Inv X pins σ H' s'/\Q b H'
def AP(X:Cx)(pins:List (Addr×Obj))(σ:St)(Q:List V->Hp->Prop)(us:List Value)(s':Shared):Prop:=∃vs H',Inv X pins σ H' s'/\Yd vs us/\Q vs H'
def SP(X:Cx)(pins:List (Addr×Obj))(D:Zfl)(f:Flow)(s':Shared):Prop :=
 match f with
 | .next=>∃σ' H',Inv X pins σ' H' s'/\D.nx σ' H'
 | .brk=>∃σ' H',Inv X pins σ' H' s'/\D.bk σ' H'
 | .cont=>∃σ' H',Inv X pins σ' H' s'/\D.ct σ' H'
 | .ret u=>∃v σ' H',Inv X pins σ' H' s'/\Yl v u/\D.rt v H'
def PE(X:Cx)(e:Expr)(t:TE):Prop :=
 ∀(pins:List (Addr×Obj)) (s:Shared) (σ:St) (H:Hp) (Q:VK),Inv X pins σ H s->t σ H Q->wpAny (model X.prog X.w) X.A (eval e X.env) (EP X pins σ Q) X.xe s
def PT(X:Cx)(e:Expr)(t:TT):Prop :=
 ∀(pins:List (Addr×Obj)) (s:Shared) (σ:St) (H:Hp) (Q:Bool->Hp->Prop),Inv X pins σ H s->t σ H Q->wpAny (model X.prog X.w) X.A (isTrue e X.env (eval e X.env)) (TP X pins σ Q) X.xe s
def PW(X:Cx)(e:Expr)(t:TT):Prop :=
 ∀(whole:Sem Value) (pins:List (Addr×Obj)) (s:Shared) (σ:St) (H:Hp) (Q:Bool->Hp->Prop),Inv X pins σ H s->t σ H Q->wpAny (model X.prog X.w) X.A (isTrue e X.env whole) (TP X pins σ Q) X.xe s
theorem PW.pt{X:Cx}{e:Expr}{t:TT}(h:PW X e t):PT X e t:=h _
def PA(X:Cx)(es:List Expr)(t:TA):Prop :=
 ∀(pos:Pos) (pins:List (Addr×Obj)) (s:Shared) (σ:St) (H:Hp) (Q:List V->Hp->Prop),Inv X pins σ H s->t σ H Q->wpAny (model X.prog X.w) X.A (spliced (backTo pos (starEach es X.env))) (AP X pins σ Q) X.xe s
def PS(X:Cx)(st:Stmt)(t:TS):Prop :=
 ∀(pins:List (Addr×Obj)) (s:Shared) (σ:St) (H:Hp) (D:Zfl),Inv X pins σ H s->t D σ H->wpAny (model X.prog X.w) X.A (exec st X.env) (SP X pins D) X.xe s
def PSs(X:Cx)(st:List Stmt)(t:TS):Prop :=
 ∀(pins:List (Addr×Obj)) (s:Shared) (σ:St) (H:Hp) (D:Zfl),Inv X pins σ H s->t D σ H->wpAny (model X.prog X.w) X.A (execs st X.env) (SP X pins D) X.xe s
theorem thn{α:Type}{t:Sem α}{Q Q':α->Shared->Prop}{M:Model}{A:Around}{E:Value->Shared->Prop}{s:Shared}(h:wpAny M A t Q E s)(hQ:∀a s,Q a s->Q' a s):wpAny M A t Q' E s:=wpAny_mono h hQ fun _ _ x=>x
end L2
namespace L2
open PySem PySem.Spec PyProof.Rows
section
variable {X:Cx}
theorem bin{a b:Expr}{ta tb:TE}(ha:PE X a ta)(hb:PE X b tb){pins:List (Addr×Obj)}{s:Shared}{σ:St}{H:Hp}{R:V->V->Hp->Prop}(I:Inv X pins σ H s)(h:ta σ H fun x H1=>tb σ H1 fun y H2=>R x y H2)
  {α:Type} {Q:α->Shared->Prop} {f:Value->Value->Sem α}
  (hf:∀v u s2 x y H2,Inv X pins σ H2 s2->Yl x v->Yl y u->R x y H2->wpAny (model X.prog X.w) X.A (f v u) Q X.xe s2) :
  wpAny (model X.prog X.w) X.A (eval a X.env) (fun v s₁=>wpAny (model X.prog X.w) X.A (eval b X.env) (fun u s₂=>wpAny (model X.prog X.w) X.A (f v u) Q X.xe s₂) X.xe s₁) X.xe s:=by
 refine thn (ha pins s σ H _ I h) fun v s1 ⟨x,H1,I1,r1,q1⟩=>?_
 refine thn (hb pins s1 σ H1 _ I1 q1) fun u s2 ⟨y,H2,I2,r2,q2⟩=>?_
 exact hf v u s2 x y H2 I2 r1 r2 q2
def Zka(i:Nat):TE:=fun σ H Q=>∃v,σ[i]? =some (some v)/\Q v H
def tC(v:V):TE:=fun _ H Q=>Q v H
theorem Zx2{i:Nat}{x:Str}{pos:Pos}(hN:X.N[i]? =some x)(hv:Vis X.env.scope x) (hd:(x ==("__debug__" :Str))=false:=by decide) (hcd:(x ==("__classdict__" :Str))=false:=by decide):PE X (.Name x pos) (Zka i):=by
 intro pins s σ H Q I h
 obtain ⟨v,e,h⟩:=h
 obtain ⟨m,hn,hl⟩:=I.loc
 obtain ⟨u,r,l⟩:=hl i x v hN e hv
 have fin:EP X pins σ Q u s:=⟨v,H,I,r,h⟩
 rcases l with ⟨hk,hm⟩|⟨hk,c,hc,hcell⟩
 ·exact wpAny_Name (wpAny_loadName_local I.ok.kind hk hn hm fin) hd
 ·rcases hk with hk|hk
  ·exact wpAny_Name (wpAny_loadName_cell I.ok.kind hk hc hcell fin) hd
  ·exact wpAny_Name (wpAny_loadName_free I.ok.kind hk hc hcell fin hcd) hd
theorem Ze{i j pos}:PE X (.Constant (.int i) j pos) (tC (.int i)):=fun _ _ _ H _ I h=>wpAny_Constant_int ⟨.int i,H,I.tok _,⟨_,rfl⟩,h⟩
theorem Zcw{b j pos}:PE X (.Constant (.bool b) j pos) (tC (.bl b)):=fun _ _ _ H _ I h=>Constant_bool ⟨.bl b,H,I,rfl,h⟩
theorem Zp2{j pos}:PE X (.Constant .none j pos) (tC .non):=fun _ _ _ H _ I h=>Constant_none ⟨.non,H,I,rfl,h⟩
theorem Zf{x j pos}:PE X (.Constant (.str x) j pos) (tC (.str x)):=fun _ _ _ H _ I h=>Calls.Constant_str ⟨.str x,H,I.tok _,⟨_,rfl⟩,h⟩
def Gl(X:Cx)(x:Str):Prop:=X.env.kindOf x=some .globalImplicit
theorem Zl2{E:Value->Shared->Prop}{pins:List (Addr×Obj)}{s:Shared}{σ:St}{H:Hp}{x:Str}{u:Value}{pos:Pos}{Q:Value->Shared->Prop}(I:Inv X pins σ H s)(hg:Gl X x)(hm:X.mg x=some u)(h:Q u s)
  (hd:(x ==("__debug__" :Str))=false:=by decide):wpAny (model X.prog X.w) X.A (eval (.Name x pos) X.env) Q E s :=
 Calls.Name_function_global I.ok.kind hg (Calls.loadGlobal_global (by rw [I.ok.glob];exact I.mod.glob.keeps I.bk) hm h) hd
theorem Ze6{E:Value->Shared->Prop}{pins:List (Addr×Obj)}{s:Shared}{σ:St}{H:Hp}{x:Str}{u:Value}{pos:Pos}{Q:Value->Shared->Prop}(I:Inv X pins σ H s)(hg:Gl X x)(hm:X.mg x=none)(hv:bootBuiltins x=some u)(h:Q u s)
  (hn:x ≠ "__name__" :=by decide) (hd:(x ==("__debug__" :Str))=false:=by decide):wpAny (model X.prog X.w) X.A (eval (.Name x pos) X.env) Q E s:=by
 obtain ⟨mb,h1,h2⟩:=I.mod.blt
 exact Calls.Name_function_global I.ok.kind hg (Calls.loadGlobal_builtin (by rw [I.ok.glob];exact I.mod.glob.keeps I.bk) hm (by rw [I.ok.blt];exact h1.keeps I.bk) ((h2 x hn).trans hv) h) hd
theorem Zf0{x:Str}{v:V}{u:Value}{pos:Pos}(hg:Gl X x)(hm:X.mg x=some u)(r:Yl v u) (hd:(x ==("__debug__" :Str))=false:=by decide):PE X (.Name x pos) (tC v) :=
 fun _ _ _ H _ I h=>Zl2 I hg hm ⟨v,H,I,r,h⟩ hd
theorem Zd9{x:Str}{v:V}{u:Value}{pos:Pos}(hg:Gl X x)(hm:X.mg x=none)(hv:bootBuiltins x=some u)(r:Yl v u) (hn:x ≠ "__name__" :=by decide) (hd:(x ==("__debug__" :Str))=false:=by decide):PE X (.Name x pos) (tC v) :=
 fun _ _ _ H _ I h=>Ze6 I hg hm hv ⟨v,H,I,r,h⟩ hn hd
variable {a b:Expr} {ta tb:TE} {pos:Pos}
def PC(X:Cx)(op:CmpOp)(a b:Expr)(t:TE):Prop :=
 ∀(pins:List (Addr×Obj)) (s:Shared) (σ:St) (H:Hp) (Q:VK),Inv X pins σ H s->t σ H Q ->
  wpAny (model X.prog X.w) X.A (eval a X.env) (fun v s₁=>wpAny (model X.prog X.w) X.A (eval b X.env) (fun u s₂=>wpAny (model X.prog X.w) X.A (compareOp op v u) (EP X pins σ Q) X.xe s₂) X.xe s₁) X.xe s
def tB(t:TE):TT:=fun σ H Q=>t σ H fun x H1=>∃c,x=.bl c/\Q c H1
theorem Ybz{op:CmpOp}{t:TE}(h:PC X op a b t)(h1:behindInMarks op b=false:=by first | exact nobehind _ (by decide) (by decide) | rfl):PT X (.Compare a [op] [b] pos) (tB t):=by
 intro pins s σ H Q I hw
 refine wpAny_isTrue_Compare1 (thn (h pins s σ H _ I hw) fun v s1 h1=>thn h1 fun u s2 h2=>thn h2 fun c s3 ⟨x,H1,I1,r1,q1⟩=>?_) h1
 obtain ⟨d,rfl,q⟩:=q1
 cases r1
 exact wpAny_truthy_bool ⟨H1,I1,q⟩
theorem Wz{e:Expr}{t:TE}(h:PE X e t)(he:∀whole,isTrue e X.env whole=(do let v <-whole;standAt e.pos;holding [v] (truthy v)):=by intro _;rfl):PT X e (tB t):=by
 intro pins s σ H Q I hw
 refine isTrue_plain (thn (h pins s σ H _ I hw) fun v s1 ⟨x,H1,I1,r1,q1⟩=>?_) (he _)
 obtain ⟨d,rfl,q⟩:=q1
 cases r1
 exact wpAny_truthy_bool ⟨H1,I1,q⟩
variable {tA tB':TT} {Z5:List Expr}
def Ycb(t u:TT):TT:=fun σ H Q=>t σ H fun c H1=>if c=true then u σ H1 Q else Q false H1
def tOr(t u:TT):TT:=fun σ H Q=>t σ H fun c H1=>if c=true then Q true H1 else u σ H1 Q
def Yb7(t:TT):TT:=fun σ H Q=>t σ H fun c H1=>Q (!c) H1
theorem Zh4(ha:PT X a tA):PW X (.BoolOp .And [a] pos) tA:=by
 intro wh pins s σ H Q I h
 refine isTrue_and (thn (ha pins s σ H Q I h) fun c s1 e=>?_)
 cases c with
 | true=>exact isTrue_and_nil e
 | false=>exact e
theorem Zd6(ha:PT X a tA):PW X (.BoolOp .Or [a] pos) tA:=by
 intro wh pins s σ H Q I h
 refine isTrue_or (thn (ha pins s σ H Q I h) fun c s1 e=>?_)
 cases c with
 | false=>exact isTrue_or_nil e
 | true=>exact e
theorem Zmm(ha:PT X a tA)(hb:PW X (.BoolOp .And (b ::Z5) pos) tB'):PW X (.BoolOp .And (a ::b ::Z5) pos) (Ycb tA tB'):=by
 intro wh pins s σ H Q I h
 refine isTrue_and (thn (ha pins s σ H _ I h) fun c s1 ⟨H1,I1,q1⟩=>?_)
 cases c with
 | true=>exact hb wh pins s1 σ H1 Q I1 q1
 | false=>exact ⟨H1,I1,q1⟩
theorem Zg6(ha:PT X a tA)(hb:PW X (.BoolOp .Or (b ::Z5) pos) tB'):PW X (.BoolOp .Or (a ::b ::Z5) pos) (tOr tA tB'):=by
 intro wh pins s σ H Q I h
 refine isTrue_or (thn (ha pins s σ H _ I h) fun c s1 ⟨H1,I1,q1⟩=>?_)
 cases c with
 | true=>exact ⟨H1,I1,q1⟩
 | false=>exact hb wh pins s1 σ H1 Q I1 q1
theorem Zc9(ha:PT X a tA):PT X (.UnaryOp .Not a pos) (Yb7 tA):=by
 intro pins s σ H Q I h
 exact isTrue_not (ha pins s σ H (fun c H1=>Q (!c) H1) I h)
def Yaw(ta tb:TE):TE:=fun σ H Q=>ta σ H fun x H1=>∃c,x=.bl c/\if c=true then tb σ H1 Q else Q (.bl false) H1
def Ybx(ta tb:TE):TE:=fun σ H Q=>ta σ H fun x H1=>∃c,x=.bl c/\if c=true then Q (.bl true) H1 else tb σ H1 Q
theorem Zfa{op}{t:TE}(h:PE X a t):PE X (.BoolOp op [a] pos) t:=fun pins s σ H Q I hw=>BoolOp_one (h pins s σ H Q I hw)
theorem Zdu(ha:PE X a ta)(hb:PE X (.BoolOp .And (b ::Z5) pos) tb):PE X (.BoolOp .And (a ::b ::Z5) pos) (Yaw ta tb):=by
 intro pins s σ H Q I h
 refine BoolOp_and (thn (ha pins s σ H _ I h) fun v s1 ⟨x,H1,I1,r1,q1⟩=>?_)
 obtain ⟨c,rfl,q1⟩:=q1
 cases r1
 refine wpAny_truthy_bool ?_
 cases c with
 | true=>exact hb pins s1 σ H1 Q I1 q1
 | false=>exact ⟨.bl false,H1,I1,rfl,q1⟩
theorem Zxh(ha:PE X a ta)(hb:PE X (.BoolOp .Or (b ::Z5) pos) tb):PE X (.BoolOp .Or (a ::b ::Z5) pos) (Ybx ta tb):=by
 intro pins s σ H Q I h
 refine BoolOp_or (thn (ha pins s σ H _ I h) fun v s1 ⟨x,H1,I1,r1,q1⟩=>?_)
 obtain ⟨c,rfl,q1⟩:=q1
 cases r1
 refine wpAny_truthy_bool ?_
 cases c with
 | false=>exact hb pins s1 σ H1 Q I1 q1
 | true=>exact ⟨.bl true,H1,I1,rfl,q1⟩
def tIf(t:TT)(ta tb:TE):TE:=fun σ H Q=>t σ H fun c H1=>if c=true then ta σ H1 Q else tb σ H1 Q
theorem Zde{c:Expr}(hc:PT X c tA)(ha:PE X a ta)(hb:PE X b tb):PE X (.IfExp c a b pos) (tIf tA ta tb):=by
 intro pins s σ H Q I h
 refine wpAny_IfExp (thn (hc pins s σ H _ I h) fun d s1 ⟨H1,I1,q1⟩=>?_)
 cases d with
 | true=>exact ha pins s1 σ H1 Q I1 q1
 | false=>exact hb pins s1 σ H1 Q I1 q1
end
end L2
namespace L2
open PySem PySem.Spec PyProof.Rows
def SqL(K:Frag)(H:Hp)(a:Addr)(xs:List V):Prop :=
 Rd H a (.lst xs) \/
  ∃(o:Obj) (its:Array Value) (n:Nat),K.lookup a=some o/\o.cls=.type "list" /\o.dict=none/\o.data=.seq its n/\its.size<=sizeLine/\Yd xs its.toList
def SqT(K:Frag)(H:Hp)(a:Addr)(xs:List V):Prop :=
 Rd H a (.tup xs) \/
  ∃(o:Obj) (its:Array Value) (n:Nat),K.lookup a=some o/\o.cls=.type "tuple" /\o.data=.seq its n/\its.size<=sizeLine/\Yd xs its.toList
def Yca:Value->Option V
 | .none=>some .non
 | .bool b=>some (.bl b)
 | .int i _=>some (.int i)
 | .str x _=>some (.str x)
 | .bytes b _=>some (.byt b)
 | .float b _=>some (.flt b)
 | .ref a=>some (.ref a)
 | .type n=>some (.ty n)
 | _=>none
theorem Yl.abs{x:V}{u:Value}(r:Yl x u):Yca u=some x:=by
 cases x with
 | non=>cases r;rfl
 | bl _=>cases r;rfl
 | int _=>obtain ⟨t,rfl⟩:=r;rfl
 | str _=>obtain ⟨t,rfl⟩:=r;rfl
 | byt _=>obtain ⟨t,rfl⟩:=r;rfl
 | flt _=>obtain ⟨t,rfl⟩:=r;rfl
 | ref _=>cases r;rfl
 | ty _=>cases r;rfl
theorem Yl.inj{x y:V}{u:Value}(r:Yl x u)(q:Yl y u):x=y:=Option.some.inj (r.abs.symm.trans q.abs)
theorem Yd.inj:∀{xs ys:List V} {us:List Value},Yd xs us->Yd ys us->xs=ys
 | _,_,_,.nil,.nil=>rfl
 | _,_,_,.cons r t,.cons r' t'=>by rw [r.inj r',Yd.inj t t']
section
variable {X:Cx} {pins:List (Addr×Obj)} {σ:St} {H:Hp} {s:Shared} {a:Addr} {xs ys:List V}
theorem SqL.of{K:Frag}(h:H a=some (.lst xs)):SqL K H a xs:=.inl (.inl h)
theorem SqT.of{K:Frag}(h:H a=some (.tup xs)):SqT K H a xs:=.inl (.inl h)
theorem Inv.list(I:Inv X pins σ H s)(h:SqL X.K H a xs):∃its:List Value,Yd xs its/\PlainL s.heap a its.toArray/\xs.length<=sizeLine:=by
 rcases h with h|⟨o,its,n,hk,hc,hd,hs,hz,r⟩
 ·obtain ⟨z,its,n,r,e⟩:=h.ok I.hok
  exact ⟨its,r,⟨_,n,e,rfl,rfl,rfl⟩,z⟩
 ·refine ⟨its.toList,r,⟨o,n,I.kIn a o hk,hc,hd,by simpa using hs⟩,?_⟩
  have e:=r.length
  simp only [Array.length_toList] at e
  omega
theorem Inv.tuple(I:Inv X pins σ H s)(h:SqT X.K H a xs):∃its:List Value,Yd xs its/\IsTup s.heap a its.toArray/\xs.length<=sizeLine:=by
 rcases h with h|⟨o,its,n,hk,hc,hs,hz,r⟩
 ·obtain ⟨z,its,r,p⟩:=h.ok I.hok
  exact ⟨its,r,p,z⟩
 ·refine ⟨its.toList,r,⟨o,I.kIn a o hk,hc,n,by simpa using hs⟩,?_⟩
  have e:=r.length
  simp only [Array.length_toList] at e
  omega
theorem Inv.list_inj(I:Inv X pins σ H s)(h:SqL X.K H a xs)(h':SqL X.K H a ys):xs=ys:=by
 obtain ⟨its,r,⟨o,n,e,_,_,d⟩,_⟩:=I.list h
 obtain ⟨its',r',⟨o',n',e',_,_,d'⟩,_⟩:=I.list h'
 rw [e] at e';cases e'
 rw [d] at d'
 injection d' with d1 _
 have:its=its':=by simpa using congrArg Array.toList d1
 subst this
 exact r.inj r'
theorem Inv.tuple_inj(I:Inv X pins σ H s)(h:SqT X.K H a xs)(h':SqT X.K H a ys):xs=ys:=by
 obtain ⟨its,r,⟨o,e,_,n,d⟩,_⟩:=I.tuple h
 obtain ⟨its',r',⟨o',e',_,n',d'⟩,_⟩:=I.tuple h'
 rw [e] at e';cases e'
 rw [d] at d'
 injection d' with d1 _
 have:its=its':=by simpa using congrArg Array.toList d1
 subst this
 exact r.inj r'
end
abbrev Cx.wish(X:Cx)(E:Value->Shared->Prop):Cx:={ X with xe:=E }
abbrev Cx.nox(X:Cx):Cx:=X.wish fun _ _=>False
theorem Cx.Ok.wish{X:Cx}(ok:X.Ok)(E:Value->Shared->Prop):(X.wish E).Ok :=
 ⟨ok.mod,ok.kind,ok.glob,ok.blt,ok.above,ok.inj,ok.has,ok.cab,ok.hd,ok.frames,ok.stk,ok.exf,ok.bs,ok.bsz,ok.noex,ok.exfs,ok.funs,ok.frf⟩
theorem Cx.Ok.unwish{X:Cx}{E:Value->Shared->Prop}(ok:(X.wish E).Ok):X.Ok :=
 ⟨ok.mod,ok.kind,ok.glob,ok.blt,ok.above,ok.inj,ok.has,ok.cab,ok.hd,ok.frames,ok.stk,ok.exf,ok.bs,ok.bsz,ok.noex,ok.exfs,ok.funs,ok.frf⟩
section
variable {X:Cx} {pins:List (Addr×Obj)} {σ:St} {H:Hp} {s:Shared} {E:Value->Shared->Prop}
theorem Inv.wish(I:Inv X pins σ H s)(E:Value->Shared->Prop):Inv (X.wish E) pins σ H s:=⟨I.ok.wish E,I.os,I.bare,I.base,I.loc,I.cell,I.free,I.freeC,I.pin,I.hok,I.len⟩
theorem Inv.unwish(I:Inv (X.wish E) pins σ H s):Inv X pins σ H s:=⟨I.ok.unwish,I.os,I.bare,I.base,I.loc,I.cell,I.free,I.freeC,I.pin,I.hok,I.len⟩
theorem SP.unwish{D:Zfl}{f:Flow}{s':Shared}(h:SP (X.wish E) pins D f s'):SP X pins D f s':=by
 cases f with
 | next=>obtain ⟨σ',H',I,q⟩:=h;exact ⟨σ',H',I.unwish,q⟩
 | brk=>obtain ⟨σ',H',I,q⟩:=h;exact ⟨σ',H',I.unwish,q⟩
 | cont=>obtain ⟨σ',H',I,q⟩:=h;exact ⟨σ',H',I.unwish,q⟩
 | ret u=>obtain ⟨v,σ',H',I,r,q⟩:=h;exact ⟨v,σ',H',I.unwish,r,q⟩
theorem PSs.nox{st:List Stmt}{t:TS}(h:PSs X.nox st t):PSs X st t:=fun pins s σ H D I hw =>
 wpAny_mono (h pins s σ H D (I.wish _) hw) (fun _ _ q=>q.unwish) fun _ _ z=>False.elim z
end
section
variable {X:Cx} {st:Stmt} {Z5:List Stmt} {t u:TS} {e:Expr} {te:TE} {pos:Pos}
def Yar:TS:=fun D σ H=>D.nx σ H
def Ybh(t u:TS):TS:=fun D σ H=>t { D with nx:=u D } σ H
theorem Zv:PSs X [] Yar:=fun _ _ σ H _ I h=>wpAny_execs_nil ⟨σ,H,I,h⟩
theorem Zug(h1:PS X st t)(h2:PSs X Z5 u):PSs X (st ::Z5) (Ybh t u):=by
 intro pins s σ H D I h
 refine wpAny_execs_cons (thn (h1 pins s σ H { D with nx:=u D } I h) fun f s1 q=>?_)
 cases f with
 | next =>
  obtain ⟨σ',H',I',q⟩:=q
  exact h2 pins s1 σ' H' D I' q
 | ret v=>exact q
 | brk=>exact q
 | cont=>exact q
theorem Zve(h1:PS X st t):PSs X [st] t:=by
 intro pins s σ H D I h
 refine wpAny_execs_cons (thn (h1 pins s σ H D I h) fun f s1 q=>?_)
 cases f with
 | next=>exact wpAny_execs_nil q
 | ret v=>exact q
 | brk=>exact q
 | cont=>exact q
def Zyw:TS:=fun D σ H=>D.bk σ H
def Yap:TS:=fun D σ H=>D.ct σ H
theorem Ztb:PS X (.Break pos) Zyw:=fun _ _ σ H _ I h=>wpAny_Break ⟨σ,H,I,h⟩
theorem Znj:PS X (.Continue pos) Yap:=fun _ _ σ H _ I h=>wpAny_Continue ⟨σ,H,I,h⟩
theorem Inv.quiet{pins:List (Addr×Obj)}{σ:St}{H:Hp}{s:Shared}(I:Inv X pins σ H s):interactive X.env=false:=by simp [interactive,I.ok.kind]
def Zz4(te:TE):TS:=fun D σ H=>te σ H fun _ H1=>D.nx σ H1
theorem Wk(he:PE X e te)(hs:swapsWith e none pos.line X.env=pure false:=by rfl):PS X (.Expr e pos) (Zz4 te):=by
 intro pins s σ H D I h
 exact wpAny_Expr_any (thn (he pins s σ H _ I h) fun v s1 ⟨x,H1,I1,r1,q1⟩=>⟨σ,H1,I1,q1⟩) I.quiet hs
def Yb3(te:TE):TS:=fun D σ H=>te σ H D.rt
theorem Zq(he:PE X e te):PS X (.Return (some e) pos) (Yb3 te):=by
 intro pins s σ H D I h
 exact wpAny_Return_some (thn (he pins s σ H _ I h) fun v s1 ⟨x,H1,I1,r1,q1⟩=>⟨x,σ,H1,I1,r1,q1⟩)
def Ybv(c:TT)(t u:TS):TS:=fun D σ H=>c σ H fun b H1=>if b=true then t D σ H1 else u D σ H1
theorem Ye{c:Expr}{a b:List Stmt}{tc:TT}(hc:PT X c tc)(ha:PSs X a t)(hb:PSs X b u):PS X (.If c a b pos) (Ybv tc t u):=by
 intro pins s σ H D I h
 refine wpAny_If (thn (hc pins s σ H _ I h) fun d s1 ⟨H1,I1,q1⟩=>?_)
 cases d with
 | true=>exact ha pins s1 σ H1 D I1 q1
 | false=>exact hb pins s1 σ H1 D I1 q1
end
abbrev TG:=V->St->Hp->(St->Hp->Prop)->Prop
abbrev TGs:=List V->St->Hp->(St->Hp->Prop)->Prop
def PG(X:Cx)(target:Expr)(t:TG):Prop :=
 ∀(pins:List (Addr×Obj)) (s:Shared) (σ:St) (H:Hp) (v:V) (u:Value) (Q:St->Hp->Prop),Inv X pins σ H s->Yl v u->t v σ H Q ->
  wpAny (model X.prog X.w) X.A (assign target X.env u) (fun _ s'=>∃σ' H',Inv X pins σ' H' s'/\Q σ' H') X.xe s
def PGs(X:Cx)(ts:List Expr)(t:TGs):Prop :=
 ∀(pins:List (Addr×Obj)) (s:Shared) (σ:St) (H:Hp) (vs:List V) (us:List Value) (Q:St->Hp->Prop),Inv X pins σ H s->Yd vs us->t vs σ H Q ->
  wpAny (model X.prog X.w) X.A (assignInOrder ((assignEach ts X.env).map (·.2)) us) (fun _ s'=>∃σ' H',Inv X pins σ' H' s'/\Q σ' H') X.xe s
section
variable {X:Cx} {pos:Pos}
def Zd8(i:Nat):TG:=fun v σ H Q=>Q (σ.set i (some v)) H
theorem Zmv{i:Nat}{x:Str}(hN:X.N.Nodup)(hi:X.N[i]? =some x)(hx:Loc X.env.scope x)(hf:X.fn x=true\/X.env.scope.names.lookup x=some .local:=by first | exact .inl rfl | exact .inr rfl | assumption):PG X (.Name x pos) (Zd8 i):=by
 intro pins s σ H v u Q I r h
 exact wpAny_assign_Name (Znw I hN hi hx r (fun s' I'=>⟨_,H,I',h⟩) hf)
def Yce:TGs:=fun vs σ H Q=>vs=[]/\Q σ H
def Ya0(t:TG)(u:TGs):TGs:=fun vs σ H Q=>∃v r,vs=v ::r/\t v σ H fun σ' H'=>u r σ' H' Q
theorem X2:PGs X [] Yce:=by
 intro pins s σ H vs us Q I r h
 obtain ⟨e,h⟩:=h
 subst e
 cases r
 exact assignInOrder_nil ⟨σ,H,I,h⟩
theorem Z6{e:Expr}{es:List Expr}{t:TG}{u:TGs}(h1:PG X e t)(h2:PGs X es u)
  (hs:(assignEach (e ::es) X.env).map (·.2)=assign e X.env ::(assignEach es X.env).map (·.2):=by rfl):PGs X (e ::es) (Ya0 t u):=by
 intro pins s σ H vs us Q I r h
 obtain ⟨v,vr,e1,h⟩:=h
 subst e1
 cases r with
 | cons r rr =>
  rw [hs]
  refine assignInOrder_cons (thn (h1 pins s σ H _ _ _ I r h) fun _ s1 ⟨σ1,H1,I1,q1⟩=>?_)
  exact h2 pins s1 σ1 H1 _ _ Q I1 rr q1
def Ybb(K:Frag)(n:Nat)(t:TGs):TG:=fun v σ H Q=>∃a xs,v=.ref a/\SqT K H a xs/\xs.length=n/\t xs σ H Q
theorem Zbt{es:List Expr}{k:Nat}{t:TGs}{n:Nat}(hc:X.calm=true)(h:PGs X es t)
  (hn:(assignEach es X.env).length=n:=by rfl) (hst:(assignEach es X.env).findIdx? (·.1)=none:=by rfl):PG X (.Tuple es k pos) (Ybb X.K n t):=by
 intro pins s σ H v u Q I r hw
 obtain ⟨a,xs,e1,hq,hl,hw⟩:=hw
 subst e1
 cases r
 obtain ⟨its,rv,ht,hz⟩:=I.tuple hq
 refine assign_Tuple_tuple (I.ok.hd hc) ht (by simp [hn,<-hl,rv.length]) hst fun h' hx=>?_
 have I1:Inv X pins σ H { s with heap:=h' }:=I.kept (t':=s.toks) fun b o e=>hx b o (Nat.ne_of_lt (Heap.lt_size e)) e
 exact h pins _ σ H xs _ Q I1 (by simpa using rv) hw
def Zvt(te:TE)(g:TG):TS:=fun D σ H=>te σ H fun x H1=>g x σ H1 D.nx
theorem Zp7{tg e:Expr}{te:TE}{g:TG}(he:PE X e te)(hg:PG X tg g)(hs:swapsWithSole [tg] e pos.line X.env=pure false:=by rfl)(hw:swappedStores [tg] e X.env=pure none:=by rfl)
  (h1:(assignEach [tg] X.env).map (·.2)=[assign tg X.env]:=by rfl):PS X (.Assign [tg] e pos) (Zvt te g):=by
 intro pins s σ H D I h
 refine wpAny_Assign_stores (thn (he pins s σ H _ I h) fun v s1 ⟨x,H1,I1,r1,q1⟩=>?_) hs hw
 rw [h1]
 exact thn (hg pins s1 σ H1 x v _ I1 r1 q1) fun _ s2 q=>q
theorem Zyq{i:Nat}{x:Str}{e:Expr}{te:TE}{pos':Pos}(hN:X.N.Nodup)(hi:X.N[i]? =some x)(hx:Loc X.env.scope x)(he:PE X e te)(hs:swapsWith e (some (.Name x pos')) pos.line X.env=pure false:=by rfl)(hf:X.fn x=true\/X.env.scope.names.lookup x=some .local:=by first | exact .inl rfl | exact .inr rfl | assumption) :
  PS X (.Assign [.Name x pos'] e pos) (Zvt te (Zd8 i)):=by
 intro pins s σ H D I h
 refine wpAny_Assign_Name (thn (he pins s σ H _ I h) fun v s1 ⟨y,H1,I1,r1,q1⟩=>?_) hs
 exact Znw I1 hN hi hx r1 (fun s2 I2=>⟨_,H1,I2,q1⟩) hf
theorem Zx{i:Nat}{x:Str}{e:Expr}{te:TE}{pos':Pos}(hN:X.N.Nodup)(he:PE X e te)(hi:X.N[i]? =some x:=by rfl)(hx:Loc X.env.scope x:=by first | exact Or.inl rfl | exact Or.inr rfl)(hs:swapsWith e (some (.Name x pos')) pos.line X.env=pure false:=by rfl)(hf:X.fn x=true\/X.env.scope.names.lookup x=some .local:=by first | exact .inl rfl | exact .inr rfl | assumption):PS X (.Assign [.Name x pos'] e pos) (Zvt te (Zd8 i)):=Zyq hN hi hx he hs hf
theorem Y5{i:Nat}{x:Str}(hN:X.N.Nodup)(hi:X.N[i]? =some x:=by rfl)(hx:Loc X.env.scope x:=by first | exact Or.inl rfl | exact Or.inr rfl)(hf:X.fn x=true\/X.env.scope.names.lookup x=some .local:=by first | exact .inl rfl | exact .inr rfl | assumption):PG X (.Name x pos) (Zd8 i):=Zmv hN hi hx hf
theorem Zbn{i:Nat}{x:Str}(hN:X.N.Nodup)(hi:X.N[i]? =some x:=by rfl)(hx:Loc X.env.scope x:=by exact Or.inl (lookup_relabel_local rfl))(hf:X.fn x=true\/X.env.scope.names.lookup x=some .local:=by exact Or.inr (lookup_relabel_local rfl)):PG X (.Name x pos) (Zd8 i):=Zmv hN hi hx hf
end
section
variable {X:Cx} {pos:Pos}
def Zyv(c:TT)(tb:TS):TS:=fun D σ H=>∃W:Nat->St->Hp->Prop,(∃m,W m σ H)/\∀m σ H,W m σ H ->
 c σ H fun b H1=>if b=true then ∃N:St->Hp->Prop,(∀σ' H',N σ' H'->∃m',m'<m/\W m' σ' H')/\tb { D with nx:=N,ct:=N,bk:=D.nx } σ H1 else D.nx σ H1
theorem Zs8{c:Expr}{body:List Stmt}{tc:TT}{tb:TS}(hp:PassesOwn (model X.prog X.w) X.A X.env X.xe)(hc:PT X c tc)(hb:PSs X body tb):PS X (.While c body [] pos) (Zyv tc tb):=by
 intro pins s σ H D I h
 obtain ⟨W,⟨m0,w0⟩,turn⟩:=h
 refine wpAny_While (codeAny_whileLoop (fun n s'=>∃σ' H',Inv X pins σ' H' s'/\W n σ' H') ?_ m0 ⟨σ,H,I,w0⟩)
 rintro n s1 ⟨σ1,H1,I1,w1⟩
 refine wpAny_passesOwn hp (thn (hc pins s1 σ1 H1 _ I1 (turn n σ1 H1 w1)) fun b s2 ⟨H2,I2,q2⟩=>?_)
 cases b with
 | true =>
  obtain ⟨N,hN,q2⟩:=q2
  rw [if_pos rfl]
  refine wpAny_passesOwn hp (thn (hb pins s2 σ1 H2 _ I2 q2) fun f s3 q3=>?_)
  cases f with
  | next =>
   obtain ⟨σ3,H3,I3,n3⟩:=q3
   obtain ⟨m',hm,w3⟩:=hN σ3 H3 n3
   exact ⟨m',hm,σ3,H3,I3,w3⟩
  | cont =>
   obtain ⟨σ3,H3,I3,n3⟩:=q3
   obtain ⟨m',hm,w3⟩:=hN σ3 H3 n3
   exact ⟨m',hm,σ3,H3,I3,w3⟩
  | brk=>exact q3
  | ret v=>exact q3
 | false =>
  rw [if_neg Bool.false_ne_true]
  exact wpAny_execs_nil ⟨σ1,H2,I2,q2⟩
end
structure It where
 go:Nat->Hp->Prop
 yld:Nat->Hp->V->Hp->Prop
 stop:Nat->Hp->Prop
def Zhf(X:Cx)(pins:List (Addr×Obj))(H:Hp)(b:Addr):Prop :=
 H b=none/\b≠X.env.locals/\b∉X.fs/\(b∈X.ex\/X.s₀.heap.objs.size<=b)/\(∀x c,X.env.cells.lookup x=some c->c≠b)/\∀p∈X.pn++pins,p.1≠b
theorem Inv.fpOk{X:Cx}{pins:List (Addr×Obj)}{σ:St}{H H':Hp}{s:Shared}{b:Addr}(I:Inv X pins σ H s)(hb:s.heap.objs.size<=b)(hn:H' b=none):Zhf X pins H' b:=by
 refine ⟨hn,Nat.ne_of_gt (Nat.lt_of_lt_of_le I.lt hb),I.nofs hb,.inr (Nat.le_trans I.sz hb),fun x c e z=>?_,fun p hp z=>?_⟩
 ·obtain ⟨v,q⟩:=I.cell x c e
  exact absurd (Nat.lt_of_lt_of_le q.lt (by rw [z];exact hb)) (Nat.lt_irrefl _)
 ·exact absurd (Nat.lt_of_lt_of_le (Heap.lt_size (I.pin p hp).1) (by rw [z];exact hb)) (Nat.lt_irrefl _)
structure Zng(P:Program)(w:World)(K:Frag)(tg:Expr)(J:It)(fp:List Addr)(it:Addr)(tn:Nat->Heap->Prop):Prop where
 mem:it∈fp
 obj:∀i h,tn i h->∀b∈fp,∃o,h.get? b=some o/\∀v,o.data ≠ .cell v
 keep:∀i h h',tn i h->(∀b∈fp,∀o,h.get? b=some o->h'.get? b=some o)->tn i h'
 item:∀(X:Cx),X.prog=P->X.w=w->X.K=K->X.calm=true->∀(i:Nat) (pins:List (Addr×Obj)) (s:Shared) (σ:St) (H:Hp) (E:Value->Shared->Prop),Inv X pins σ H s->(∀b∈fp,Zhf X pins H b)->tn i s.heap->J.go i H ->
  wpAny (model P w) X.A (pyNext (.ref it)) (fun r s1=>∃u,r=some u /\
   wpAny (model P w) X.A (letOwnedTupleGo tg (.ref it) u) (fun _ s2=>∃x H',Inv X pins σ H' s2/\Yl x u/\J.yld i H x H'/\tn (i+1) s2.heap/\∀b∈fp,H' b=none) E s1) E s
 done:∀(X:Cx),X.prog=P->X.w=w->X.K=K->X.calm=true->∀(i:Nat) (pins:List (Addr×Obj)) (s:Shared) (σ:St) (H:Hp) (E:Value->Shared->Prop),Inv X pins σ H s->(∀b∈fp,Zhf X pins H b)->tn i s.heap->J.stop i H ->
  wpAny (model P w) X.A (pyNext (.ref it)) (fun r s1=>r=none/\Inv X pins σ H s1) E s
 self:∀(A:Around) (i:Nat) (s:Shared) (Q:Value->Shared->Prop) (E:Value->Shared->Prop),tn i s.heap->Q (.ref it) s->wpAny (model P w) A (pyIter (.ref it)) Q E s
abbrev TI:=St->Hp->(It->Hp->Prop)->Prop
def PIE(X:Cx)(pins:List (Addr×Obj))(σ:St)(tg:Expr)(R:It->Hp->Prop)(itv:Value)(s2:Shared):Prop :=
 ∃(it:Addr) (fp:List Addr) (tn:Nat->Heap->Prop) (J:It) (H':Hp),itv=.ref it/\Inv X pins σ H' s2/\Zng X.prog X.w X.K tg J fp it tn/\tn 0 s2.heap/\(∀b∈fp,Zhf X pins H' b)/\R J H'
def PI(X:Cx)(tg iter:Expr)(wi:TI):Prop :=
 ∀(pins:List (Addr×Obj)) (s:Shared) (σ:St) (H:Hp) (R:It->Hp->Prop),Inv X pins σ H s->wi σ H R ->
  wpAny (model X.prog X.w) X.A (eval iter X.env) (fun v s1=>wpAny (model X.prog X.w) X.A (pyIter v) (PIE X pins σ tg R) X.xe s1) X.xe s
theorem Znf{M:Model}{A:Around}{E:Value->Shared->Prop}{s:Shared}{tg:Expr}{it:Addr}{u:Value}{o:Obj}{n:String}{vs:Array Value}{Q:Unit->Shared->Prop}(ho:s.heap.get? it=some o)(hc:o.cls=.type n)(hd:o.data=.fields vs)
    (hn:["enumerate", "zip", "dict_itemiterator", "dict_reverseitemiterator", "odict_iterator", "itertools.zip_longest", "itertools.pairwise"].contains n=false) (hQ:Q () s):wpAny M A (letOwnedTupleGo tg (.ref it) u) Q E s:=by
  unfold letOwnedTupleGo
  cases tg <;>first
    | exact wpAny_pure hQ
    | (cases u <;>first
        | exact wpAny_pure hQ
        | (refine wpAny_bind (wpAny_load ho ?_)
           rw [hc,hd]
           show wpAny M A (if (["enumerate", "zip", "dict_itemiterator", "dict_reverseitemiterator", "odict_iterator", "itertools.zip_longest", "itertools.pairwise"].contains n && vs[0]? ==some (rawInt _))=true then _ else _) Q E s
           rw [if_neg (by intro h;rw [hn,Bool.false_and] at h;cases h)]
           exact wpAny_pure hQ))
def Itl(K:Frag)(a:Addr):It :=
 ⟨fun i H=>∃xs x,SqL K H a xs/\xs[i]? =some x,fun i H x H'=>H'=H/\∀xs,SqL K H a xs->xs[i]? =some x,fun i H=>∃xs,SqL K H a xs/\xs.length<=i⟩
def Itt(K:Frag)(a:Addr):It :=
 ⟨fun i H=>∃xs x,SqT K H a xs/\xs[i]? =some x,fun i H x H'=>H'=H/\∀xs,SqT K H a xs->xs[i]? =some x,fun i H=>∃xs,SqT K H a xs/\xs.length<=i⟩
def Itr(lo:Int)(n:Nat):It:=⟨fun i _=>i<n,fun i H x H'=>H'=H/\x=.int (lo+i),fun i _=>n<=i⟩
theorem Zsg{P:Program}{w:World}{K:Frag}{tg:Expr}(a it:Addr):Zng P w K tg (Itl K a) [it] it (fun i h=>h.IsListIter it a i) where
 mem:=by simp
 obj:=fun i h st b hb=>by
  have e:b=it:=by simpa using hb
  subst e
  obtain ⟨o,e,c,d⟩:=st
  exact ⟨o,e,fun v z=>by rw [d] at z;cases z⟩
 keep:=fun i h h' st k=>st.at fun o e=>k it (by simp) o e
 item:=by
  intro X hP hw hK hc i pins s σ H E I hf st hg
  subst hP hw hK
  obtain ⟨xs,x,hq,hx⟩:=hg
  obtain ⟨its,rv,p,hz⟩:=I.list hq
  obtain ⟨u,hu,ru⟩:=rv.get hx
  obtain ⟨f0,f1,f2,f3,f4,f5⟩:=hf it (by simp)
  refine wpAny_pyNext_list_item st p.isList (x:=u) (by simpa using hu) fun h' st' sb=>?_
  have I1:Inv X pins σ H { s with heap:=h' }:=I.turned (t':=s.toks) (fun b o hb e=>(sb.2 b hb).trans e) f0 f1 f3 f4 f5
  obtain ⟨o,e,c,d⟩:=id st'
  exact ⟨u,rfl,Znf (s:={ s with heap:=h' }) e c d (by decide) ⟨x,H,I1,ru,⟨rfl,fun ys hy=>by rw [I.list_inj hy hq];exact hx⟩,st',fun b hb=>(hf b hb).1⟩⟩
 done:=by
  intro X hP hw hK hc i pins s σ H E I hf st hg
  subst hP hw hK
  obtain ⟨xs,hq,hx⟩:=hg
  obtain ⟨its,rv,p,hz⟩:=I.list hq
  obtain ⟨f0,f1,f2,f3,f4,f5⟩:=hf it (by simp)
  have hl:=rv.length
  exact wpAny_pyNext_list_end (I.ok.hd hc) st p.isList (by simp;omega) fun h' eb=>⟨rfl,I.turned (t':=s.toks) (fun b o hb e=>eb b o hb e) f0 f1 f3 f4 f5⟩
 self:=fun _ _ _ _ _ st h=>wpAny_pyIter_listiter st h
theorem Zpf{P:Program}{w:World}{K:Frag}{tg:Expr}(a it:Addr):Zng P w K tg (Itt K a) [it] it (fun i h=>h.IsTupleIter it a i) where
 mem:=by simp
 obj:=fun i h st b hb=>by
  have e:b=it:=by simpa using hb
  subst e
  obtain ⟨o,e,c,d⟩:=st
  exact ⟨o,e,fun v z=>by rw [d] at z;cases z⟩
 keep:=fun i h h' st k=>st.at fun o e=>k it (by simp) o e
 item:=by
  intro X hP hw hK hc i pins s σ H E I hf st hg
  subst hP hw hK
  obtain ⟨xs,x,hq,hx⟩:=hg
  obtain ⟨its,rv,p,hz⟩:=I.tuple hq
  obtain ⟨u,hu,ru⟩:=rv.get hx
  obtain ⟨f0,f1,f2,f3,f4,f5⟩:=hf it (by simp)
  refine wpAny_pyNext_tuple_item st (show s.heap.IsTuple a its.toArray from p) (x:=u) (by simpa using hu) fun h' st' sb=>?_
  have I1:Inv X pins σ H { s with heap:=h' }:=I.turned (t':=s.toks) (fun b o hb e=>(sb.2 b hb).trans e) f0 f1 f3 f4 f5
  obtain ⟨o,e,c,d⟩:=id st'
  exact ⟨u,rfl,Znf (s:={ s with heap:=h' }) e c d (by decide) ⟨x,H,I1,ru,⟨rfl,fun ys hy=>by rw [I.tuple_inj hy hq];exact hx⟩,st',fun b hb=>(hf b hb).1⟩⟩
 done:=by
  intro X hP hw hK hc i pins s σ H E I hf st hg
  subst hP hw hK
  obtain ⟨xs,hq,hx⟩:=hg
  obtain ⟨its,rv,p,hz⟩:=I.tuple hq
  obtain ⟨f0,f1,f2,f3,f4,f5⟩:=hf it (by simp)
  have hl:=rv.length
  exact wpAny_pyNext_tuple_end (I.ok.hd hc) st (show s.heap.IsTuple a its.toArray from p) (by simp;omega) fun h' eb=>⟨rfl,I.turned (t':=s.toks) (fun b o hb e=>eb b o hb e) f0 f1 f3 f4 f5⟩
 self:=fun _ _ _ _ _ st h=>wpAny_pyIter_tupleiter st h
theorem Zo7{P:Program}{w:World}{K:Frag}{tg:Expr}(it:Addr)(lo:Int)(n:Nat):Zng P w K tg (Itr lo n) [it] it (fun i h=>IsRangeIter h it (lo+(i:Nat) * 1) ((n:Int)-(i:Nat)) 1) where
 mem:=by simp
 obj:=fun i h st b hb=>by
  have e:b=it:=by simpa using hb
  subst e
  exact ⟨_,st,fun v z=>by
   have z':Data.fields _=Data.cell v:=z
   cases z'⟩
 keep:=fun i h h' st k=>k it (by simp) _ st
 item:=by
  intro X hP hw hK hc i pins s σ H E I hf st hg
  subst hP hw hK
  obtain ⟨f0,f1,f2,f3,f4,f5⟩:=hf it (by simp)
  have W:=Walks.range (prog:=X.prog) (w:=X.w) (I.ok.hd hc) it lo 1 n
  refine W.item i s _ _ hg st fun v h' tk hv st' kk=>?_
  obtain ⟨t,rfl⟩:=hv
  have I1:Inv X pins σ H { s with heap:=h',toks:=tk }:=I.turned (fun b o hb e=>kk b o (by simpa using hb) e) f0 f1 f3 f4 f5
  refine ⟨_,rfl,Znf (s:={ s with heap:=h',toks:=tk }) (n := "range_iterator") st' rfl rfl (by decide) ⟨.int (lo+i),H,I1,⟨t,?_⟩,⟨rfl,rfl⟩,st',fun b hb=>(hf b hb).1⟩⟩
  rw [Int.mul_one]
 done:=by
  intro X hP hw hK hc i pins s σ H E I hf st hg
  subst hP hw hK
  obtain ⟨f0,f1,f2,f3,f4,f5⟩:=hf it (by simp)
  exact wpAny_pyNext_range_end (I.ok.hd hc) st (by have:n<=i:=hg;omega) fun h' eb=>⟨rfl,I.turned (t':=s.toks) (fun b o hb e=>eb b o hb e) f0 f1 f3 f4 f5⟩
 self:=fun _ _ _ _ _ st h=>wpAny_pyIter_rangeiter st h
end L2
namespace L2
open PySem PySem.Spec PyProof.Rows
section
variable {X:Cx} {tg:Expr}
def Zz3(K:Frag)(tl:TE):TI:=fun σ H R=>tl σ H fun x H1=>∃a,x=.ref a/\(∃xs,SqL K H1 a xs)/\R (Itl K a) H1
def Yb9(K:Frag)(tl:TE):TI:=fun σ H R=>tl σ H fun x H1=>∃a,x=.ref a/\(∃xs,SqT K H1 a xs)/\R (Itt K a) H1
theorem Yx{l:Expr}{tl:TE}(hl:PE X l tl):PI X tg l (Zz3 X.K tl):=by
 intro pins s σ H R I h
 refine thn (hl pins s σ H _ I h) fun v s1 ⟨x,H1,I1,r1,q1⟩=>?_
 obtain ⟨a,e,⟨xs,hq⟩,q⟩:=q1
 subst e
 cases r1
 obtain ⟨its,rv,p,hz⟩:=I1.list hq
 refine wpAny_pyIter_list p.isList ?_
 refine ⟨s1.heap.objs.size,[s1.heap.objs.size],_,_,H1,rfl,I1.kept (t':=s1.toks) fun b o e=>Heap.get?_push_of_some _ e,Zsg a _,⟨_,Heap.get?_push_size _ rfl,rfl,rfl⟩,fun b hb=>?_,q⟩
 have e:b=s1.heap.objs.size:=by simpa using hb
 subst e
 exact I1.fpOk (Nat.le_refl _) (I1.hok.fresh (Nat.le_refl _))
theorem Zp6{l:Expr}{tl:TE}(hl:PE X l tl):PI X tg l (Yb9 X.K tl):=by
 intro pins s σ H R I h
 refine thn (hl pins s σ H _ I h) fun v s1 ⟨x,H1,I1,r1,q1⟩=>?_
 obtain ⟨a,e,⟨xs,hq⟩,q⟩:=q1
 subst e
 cases r1
 obtain ⟨its,rv,p,hz⟩:=I1.tuple hq
 refine wpAny_pyIter_tuple (show s1.heap.IsTuple a its.toArray from p) ?_
 refine ⟨s1.heap.objs.size,[s1.heap.objs.size],_,_,H1,rfl,I1.kept (t':=s1.toks) fun b o e=>Heap.get?_push_of_some _ e,Zpf a _,⟨_,Heap.get?_push_size _ rfl,rfl,rfl⟩,fun b hb=>?_,q⟩
 have e:b=s1.heap.objs.size:=by simpa using hb
 subst e
 exact I1.fpOk (Nat.le_refl _) (I1.hok.fresh (Nat.le_refl _))
theorem Zog{pins:List (Addr×Obj)}{σ:St}{H:Hp}{s:Shared}{R:It->Hp->Prop}{E:Value->Shared->Prop}{lo hi:Int}{t u v:Tok}{tk:Nat}(I:Inv X pins σ H s)(h1:-(2 ^ 62)<=lo)(h2:lo<2 ^ 62)(h3:-(2 ^ 62)<=hi)(h4:hi<2 ^ 62)
  (q:R (Itr lo (hi-lo).toNat) H):wpAny (model X.prog X.w) X.A (pyIter (.ref s.heap.objs.size)) (PIE X pins σ tg R) E { s with heap:=s.heap.push { cls:=.type "range",data:=.fields #[.int lo t,.int hi u,.int 1 v] },toks:=tk }:=by
 refine wpAny_pyIter_range (IsRange.new ..) (small_one h1 h2 h3 h4) ?_
 have I1:Inv X pins σ H { s with heap:=s.heap.push { cls:=.type "range",data:=.fields #[.int lo t,.int hi u,.int 1 v] },toks:=tk }:=I.kept fun b o e=>Heap.get?_push_of_some _ e
 refine ⟨(s.heap.push { cls:=.type "range",data:=.fields #[.int lo t,.int hi u,.int 1 v] }).objs.size,[(s.heap.push { cls:=.type "range",data:=.fields #[.int lo t,.int hi u,.int 1 v] }).objs.size],_,_,H,rfl,
  I1.kept (t':=tk) fun b o e=>Heap.get?_push_of_some _ e,Zo7 _ lo (hi-lo).toNat,?_,fun b hb=>?_,q⟩
 ·have e1:lo+((0:Nat):Int) * 1=lo:=by simp
  have e2:(((hi-lo).toNat:Nat):Int)-((0:Nat):Int)=Builtin.Range.rangeSize lo hi 1:=by rw [rangeSize_one];split <;>omega
  show IsRangeIter _ _ (lo+((0:Nat):Int) * 1) ((((hi-lo).toNat:Nat):Int)-((0:Nat):Int)) 1
  rw [e1,e2]
  exact Heap.get?_push_size _ rfl
 ·have e:b=(s.heap.push { cls:=.type "range",data:=.fields #[.int lo t,.int hi u,.int 1 v] }).objs.size:=by simpa using hb
  subst e
  exact I1.fpOk (Nat.le_refl _) (I1.hok.fresh (Nat.le_refl _))
def Yat(ta:TA):TI:=fun σ H R=>ta σ H fun vs H1=>∃j:Int,vs=[.int j]/\-(2 ^ 62)<=j/\j<2 ^ 62/\R (Itr 0 j.toNat) H1
def Yab(ta:TA):TI:=fun σ H R=>ta σ H fun vs H1=>∃i j:Int,vs=[.int i,.int j]/\(-(2 ^ 62)<=i/\i<2 ^ 62/\-(2 ^ 62)<=j/\j<2 ^ 62)/\R (Itr i (j-i).toNat) H1
theorem Zeh{a:Expr}{ta:TA}{p pos:Pos} (hg:Gl X "range") (hm:X.mg "range" =none) (ha:PA X [a] ta) (hs:starEach [a] X.env=[(false,eval a X.env)]:=by rfl):PI X tg (.Call (.Name "range" p) [a] [] pos) (Yat ta):=by
 intro pins s σ H R I h
 refine Call_ (Ze6 I hg hm boot_range (PyProof.Rows.callWith_type1 (thn (ha pos pins s σ H _ I h) fun us s1 ⟨vs,H1,I1,r1,q1⟩=>?_) hs rfl))
 obtain ⟨j,e,q1,q2,q⟩:=q1
 subst e
 cases r1 with
 | cons r rr =>
  cases rr
  obtain ⟨t,rfl⟩:=r
  exact call_range_1 (Zog I1 (by omega) (by omega) q1 q2 (by simpa using q))
theorem Zgj{a b:Expr}{ta:TA}{p pos:Pos} (hg:Gl X "range") (hm:X.mg "range" =none) (ha:PA X [a,b] ta) (hs:starEach [a,b] X.env=[(false,eval a X.env),(false,eval b X.env)]:=by rfl) (hs2:starEach [b] X.env=[(false,eval b X.env)]:=by rfl) :
  PI X tg (.Call (.Name "range" p) [a,b] [] pos) (Yab ta):=by
 intro pins s σ H R I h
 refine Call_ (Ze6 I hg hm boot_range (PyProof.Rows.callWith_type1 (thn (ha pos pins s σ H _ I h) fun us s1 ⟨vs,H1,I1,r1,q1⟩=>?_) (by rw [hs,hs2]) (by rw [hs2];rfl)))
 obtain ⟨i,j,e,⟨q1,q2,q3,q4⟩,q⟩:=q1
 subst e
 cases r1 with
 | cons r rr =>
  cases rr with
  | cons r' rr =>
   cases rr
   obtain ⟨t,rfl⟩:=r
   obtain ⟨t',rfl⟩:=r'
   exact call_range_2 (Zog I1 q1 q2 q3 q4 q)
def Yby(wi:TI)(g:TG)(tb:TS):TS:=fun D σ H=>wi σ H fun J H1=>∃W:Nat->Nat->St->Hp->Prop,(∃m,W 0 m σ H1)/\∀i m σ H,W i m σ H ->
 (J.stop i H/\D.nx σ H)\/(J.go i H/\∃N:St->Hp->Prop,(∀σ' H',N σ' H'->∃m',m'<m/\W (i+1) m' σ' H')/\∀x H',J.yld i H x H'->g x σ H' fun σ2 H2=>tb { D with nx:=N,ct:=N,bk:=D.nx } σ2 H2)
def Zgb(fp:List Addr)(h:Heap):List (Addr×Obj):=fp.filterMap fun b=>(h.get? b).map fun o=>(b,o)
theorem Zbv{fp:List Addr}{h:Heap}{b:Addr}{o:Obj}(hb:b∈fp)(e:h.get? b=some o):(b,o)∈Zgb fp h:=List.mem_filterMap.mpr ⟨b,hb,by rw [e];rfl⟩
theorem Zsk{fp:List Addr}{h:Heap}{p:Addr×Obj}(hp:p∈Zgb fp h):p.1∈fp/\h.get? p.1=some p.2:=by
 obtain ⟨b,hb,e⟩:=List.mem_filterMap.mp hp
 cases q:h.get? b with
 | none=>rw [q] at e;cases e
 | some o =>
  rw [q] at e
  have e':(b,o)=p:=Option.some.inj e
  subst e'
  exact ⟨hb,q⟩
theorem Inv.pinned{pins:List (Addr×Obj)}{σ:St}{H:Hp}{s:Shared}{fp:List Addr}(I:Inv X pins σ H s)(hf:∀b∈fp,Zhf X pins H b)(ho:∀b∈fp,∃o,s.heap.get? b=some o/\∀v,o.data ≠ .cell v):Inv X (pins++Zgb fp s.heap) σ H s :=
 I.pins_of fun p hp=>(List.mem_append.mp hp).elim (fun z=>I.pin p (List.mem_append_right _ z)) fun z=>by
  obtain ⟨hb,e⟩:=Zsk z
  obtain ⟨f0,f1,f2,_⟩:=hf p.1 hb
  obtain ⟨o,e',d⟩:=ho p.1 hb
  rw [e] at e';cases e'
  exact ⟨e,f0,f1,f2,d⟩
theorem Inv.unpinned{pins pl:List (Addr×Obj)}{σ:St}{H:Hp}{s:Shared}(I:Inv X (pins++pl) σ H s):Inv X pins σ H s:=I.pins_of fun p hp=>I.pin p (List.mem_append_right _ (List.mem_append_left _ hp))
theorem Wi{iter:Expr}{body:List Stmt}{wi:TI}{g:TG}{tb:TS}{pos:Pos}(hp:PassesOwn (model X.prog X.w) X.A X.env X.xe)(hc:X.calm=true)(hi:PI X tg iter wi)(hg:PG X tg g)(hb:PSs X body tb)
  (hs:∀x,foldedSetIterable iter X.env x=pure x:=by intro _;rfl):PS X (.For tg iter body [] pos) (Yby wi g tb):=by
 intro pins s σ H D I h
 refine wpAny_For (thn (hi pins s σ H _ I h) fun v s1 h1=>thn h1 fun itv s2 h2=>?_) hs
 obtain ⟨it,fp,tn,J,H2,e,I2,T,st2,f2,W,⟨m0,w0⟩,turn⟩:=h2
 subst e
 have stat:∀{H':Hp},(∀b∈fp,H' b=none)->∀b∈fp,Zhf X pins H' b:=fun hn b hb=>⟨hn b hb,(f2 b hb).2⟩
 refine codeAny_forLoop_any (fun n s'=>∃i σ' H',Inv X pins σ' H' s'/\tn i s'.heap/\(∀b∈fp,H' b=none)/\W i n σ' H') ?_ m0 ⟨0,σ,H2,I2,st2,fun b hb=>(f2 b hb).1,w0⟩
 rintro n s3 ⟨i,σ3,H3,I3,st3,fr3,w3⟩
 rcases turn i n σ3 H3 w3 with ⟨stop,qn⟩|⟨go,N,hN,step⟩
 ·refine wpAny_passesOwn hp (thn (T.done X rfl rfl rfl hc i pins s3 σ3 H3 X.xe I3 (stat fr3) st3 stop) fun r s4 ⟨hr,I4⟩=>?_)
  subst hr
  exact wpAny_execs_nil ⟨σ3,H3,I4,qn⟩
 ·refine wpAny_passesOwn hp (thn (T.item X rfl rfl rfl hc i pins s3 σ3 H3 X.xe I3 (stat fr3) st3 go) fun r s4 ⟨u,hr,h4⟩=>?_)
  subst hr
  refine wpAny_passesOwn hp (thn h4 fun _ s5 ⟨x,H5,I5,r5,y5,st5,fr5⟩=>?_)
  have I5':=I5.pinned (stat fr5) (T.obj _ _ st5)
  refine wpAny_passesOwn hp (thn (hg _ s5 σ3 H5 x u _ I5' r5 (step x H5 y5)) fun _ s6 ⟨σ6,H6,I6,q6⟩=>?_)
  refine wpAny_passesOwn hp (thn (hb _ s6 σ6 H6 _ I6 q6) fun f s7 q7=>?_)
  have again:∀{σ7:St} {H7:Hp},Inv X (pins++Zgb fp s5.heap) σ7 H7 s7->N σ7 H7->∃m,m<n/\∃i σ' H',Inv X pins σ' H' s7/\tn i s7.heap/\(∀b∈fp,H' b=none)/\W i m σ' H':=fun {σ7 H7} I7 n7=>by
   obtain ⟨m',hm,w7⟩:=hN σ7 H7 n7
   refine ⟨m',hm,i+1,σ7,H7,I7.unpinned,T.keep _ _ _ st5 fun b hb o e=>(I7.pin (b,o) (List.mem_append_right _ (List.mem_append_right _ (Zbv hb e)))).1,fun b hb=>?_,w7⟩
   obtain ⟨o,e,d⟩:=T.obj _ _ st5 b hb
   exact (I7.pin (b,o) (List.mem_append_right _ (List.mem_append_right _ (Zbv hb e)))).2.1
  cases f with
  | next=>obtain ⟨σ7,H7,I7,n7⟩:=q7;exact again I7 n7
  | cont=>obtain ⟨σ7,H7,I7,n7⟩:=q7;exact again I7 n7
  | brk=>obtain ⟨σ7,H7,I7,q7⟩:=q7;exact ⟨σ7,H7,I7.unpinned,q7⟩
  | ret v=>obtain ⟨x7,σ7,H7,I7,r7,q7⟩:=q7;exact ⟨x7,σ7,H7,I7.unpinned,r7,q7⟩
end
theorem W6{K:Frag}{a:Addr}{xs:List V}{g:TG}{tb:TS}{D:Zfl}{σ:St}{H:Hp}(Pv:Nat->St->Hp->Prop)(h0:Pv 0 σ H)(hl:∀i σ H,i<=xs.length->Pv i σ H->SqL K H a xs)
  (hs:∀i x σ H,xs[i]? =some x->Pv i σ H->g x σ H fun σ2 H2=>tb { D with nx:=Pv (i+1),ct:=Pv (i+1),bk:=D.nx } σ2 H2) (hd:∀σ H,Pv xs.length σ H->D.nx σ H) :
  ∃W:Nat->Nat->St->Hp->Prop,(∃m,W 0 m σ H)/\∀i m σ H,W i m σ H ->
   ((Itl K a).stop i H/\D.nx σ H)\/((Itl K a).go i H/\∃N:St->Hp->Prop,(∀σ' H',N σ' H'->∃m',m'<m/\W (i+1) m' σ' H')/\∀x H',(Itl K a).yld i H x H'->g x σ H' fun σ2 H2=>tb { D with nx:=N,ct:=N,bk:=D.nx } σ2 H2):=by
 refine ⟨fun i m σ H=>m=xs.length-i/\i<=xs.length/\Pv i σ H,⟨xs.length,by simp,Nat.zero_le _,h0⟩,?_⟩
 rintro i m σ H ⟨rfl,hi,p⟩
 have q:=hl i σ H hi p
 by_cases hlt:i<xs.length
 ·refine .inr ⟨⟨xs,xs[i],q,by simp [hlt]⟩,Pv (i+1),fun σ' H' p'=>⟨xs.length-(i+1),by omega,rfl,hlt,p'⟩,fun x H' y=>?_⟩
  obtain ⟨e,y⟩:=y
  subst e
  exact hs i x σ _ (y xs q) p
 ·have e:i=xs.length:=by omega
  subst e
  exact .inl ⟨⟨xs,q,Nat.le_refl _⟩,hd σ H p⟩
theorem Zvy{K:Frag}{a:Addr}{xs:List V}{g:TG}{tb:TS}{D:Zfl}{σ:St}{H:Hp}(Pv:Nat->St->Hp->Prop)(h0:Pv 0 σ H)(hl:∀i σ H,i<=xs.length->Pv i σ H->SqT K H a xs)
  (hs:∀i x σ H,xs[i]? =some x->Pv i σ H->g x σ H fun σ2 H2=>tb { D with nx:=Pv (i+1),ct:=Pv (i+1),bk:=D.nx } σ2 H2) (hd:∀σ H,Pv xs.length σ H->D.nx σ H) :
  ∃W:Nat->Nat->St->Hp->Prop,(∃m,W 0 m σ H)/\∀i m σ H,W i m σ H ->
   ((Itt K a).stop i H/\D.nx σ H)\/((Itt K a).go i H/\∃N:St->Hp->Prop,(∀σ' H',N σ' H'->∃m',m'<m/\W (i+1) m' σ' H')/\∀x H',(Itt K a).yld i H x H'->g x σ H' fun σ2 H2=>tb { D with nx:=N,ct:=N,bk:=D.nx } σ2 H2):=by
 refine ⟨fun i m σ H=>m=xs.length-i/\i<=xs.length/\Pv i σ H,⟨xs.length,by simp,Nat.zero_le _,h0⟩,?_⟩
 rintro i m σ H ⟨rfl,hi,p⟩
 have q:=hl i σ H hi p
 by_cases hlt:i<xs.length
 ·refine .inr ⟨⟨xs,xs[i],q,by simp [hlt]⟩,Pv (i+1),fun σ' H' p'=>⟨xs.length-(i+1),by omega,rfl,hlt,p'⟩,fun x H' y=>?_⟩
  obtain ⟨e,y⟩:=y
  subst e
  exact hs i x σ _ (y xs q) p
 ·have e:i=xs.length:=by omega
  subst e
  exact .inl ⟨⟨xs,q,Nat.le_refl _⟩,hd σ H p⟩
theorem Zlq{lo:Int}{n:Nat}{g:TG}{tb:TS}{D:Zfl}{σ:St}{H:Hp}(Pv:Nat->St->Hp->Prop)(h0:Pv 0 σ H)
  (hs:∀i σ H,i<n->Pv i σ H->g (.int (lo+i)) σ H fun σ2 H2=>tb { D with nx:=Pv (i+1),ct:=Pv (i+1),bk:=D.nx } σ2 H2) (hd:∀σ H,Pv n σ H->D.nx σ H) :
  ∃W:Nat->Nat->St->Hp->Prop,(∃m,W 0 m σ H)/\∀i m σ H,W i m σ H ->
   ((Itr lo n).stop i H/\D.nx σ H)\/((Itr lo n).go i H/\∃N:St->Hp->Prop,(∀σ' H',N σ' H'->∃m',m'<m/\W (i+1) m' σ' H')/\∀x H',(Itr lo n).yld i H x H'->g x σ H' fun σ2 H2=>tb { D with nx:=N,ct:=N,bk:=D.nx } σ2 H2):=by
 refine ⟨fun i m σ H=>m=n-i/\i<=n/\Pv i σ H,⟨n,by simp,Nat.zero_le _,h0⟩,?_⟩
 rintro i m σ H ⟨rfl,hi,p⟩
 by_cases hlt:i<n
 ·refine .inr ⟨hlt,Pv (i+1),fun σ' H' p'=>⟨n-(i+1),by omega,rfl,hlt,p'⟩,fun x H' y=>?_⟩
  obtain ⟨e,y⟩:=y
  subst e y
  exact hs i σ _ hlt p
 ·have e:i=n:=by omega
  subst e
  exact .inl ⟨Nat.le_refl _,hd σ H p⟩
end L2
namespace L2
open PySem PySem.Spec PyProof.Rows
abbrev R2:=V->V->Hp->VK->Prop
def OpR(X:Cx)(f:Value->Value->Sem Value)(r:R2):Prop :=
 ∀(pins:List (Addr×Obj)) (s:Shared) (σ:St) (H:Hp) (x y:V) (v u:Value) (Q:VK),Inv X pins σ H s->Yl x v->Yl y u->r x y H Q ->
  wpAny (model X.prog X.w) X.A (f v u) (EP X pins σ Q) X.xe s
def UnR(X:Cx)(f:Value->Sem Value)(r:V->Hp->VK->Prop):Prop :=
 ∀(pins:List (Addr×Obj)) (s:Shared) (σ:St) (H:Hp) (x:V) (v:Value) (Q:VK),Inv X pins σ H s->Yl x v->r x H Q ->
  wpAny (model X.prog X.w) X.A (f v) (EP X pins σ Q) X.xe s
def Xo(X:Cx)(f:Value)(r:List V->Hp->VK->Prop):Prop :=
 ∀(pins:List (Addr×Obj)) (s:Shared) (σ:St) (H:Hp) (xs:List V) (us:List Value) (Q:VK),Inv X pins σ H s->Yd xs us->r xs H Q ->
  wpAny (model X.prog X.w) X.A (call f us) (EP X pins σ Q) X.xe s
def Yb2(X:Cx)(r:V->Hp->(Bool->Hp->Prop)->Prop):Prop :=
 ∀(pins:List (Addr×Obj)) (s:Shared) (σ:St) (H:Hp) (x:V) (v:Value) (Q:Bool->Hp->Prop),Inv X pins σ H s->Yl x v->r x H Q ->
  wpAny (model X.prog X.w) X.A (truthy v) (TP X pins σ Q) X.xe s
def tOp(r:R2)(ta tb:TE):TE:=fun σ H Q=>ta σ H fun x H1=>tb σ H1 fun y H2=>r x y H2 Q
def tUn(r:V->Hp->VK->Prop)(ta:TE):TE:=fun σ H Q=>ta σ H fun x H1=>r x H1 Q
def rI(C:Int->Int->Prop)(g:Int->Int->V):R2:=fun x y H Q=>∃i j,x=.int i/\y=.int j/\C i j/\Q (g i j) H
def rI0(g:Int->Int->V):R2:=fun x y H Q=>∃i j,x=.int i/\y=.int j/\Q (g i j) H
def rU(g:Int->V):V->Hp->VK->Prop:=fun x H Q=>∃i,x=.int i/\Q (g i) H
section
variable {X:Cx} {a b c:Expr} {ta tb tc:TE} {pos:Pos}
theorem Zy7(ha:PE X a ta)(hb:PE X b tb){pins:List (Addr×Obj)}{s:Shared}{σ:St}{H:Hp}{R:V->V->Hp->Prop}(I:Inv X pins σ H s)
  (h:ta σ H fun x H1=>tb σ H1 fun y H2=>R x y H2) {Q:Value->Shared->Prop} {f:Value->Value->Sem Value}
  (hf:∀v u s2 x y H2,Inv X pins σ H2 s2->Yl x v->Yl y u->R x y H2->wpAny (model X.prog X.w) X.A (f v u) Q X.xe s2) :
  wpAny (model X.prog X.w) X.A (eval a X.env) (fun v s₁=>wpAny (model X.prog X.w) X.A (eval b X.env) (fun u s₂=>wpAny (model X.prog X.w) X.A (f v u) Q X.xe s₂) X.xe s₁) X.xe s:=by
 refine thn (ha pins s σ H _ I h) fun v s1 ⟨x,H1,I1,r1,q1⟩=>?_
 refine thn (hb pins s1 σ H1 _ I1 q1) fun u s2 ⟨y,H2,I2,r2,q2⟩=>?_
 exact hf v u s2 x y H2 I2 r1 r2 q2
theorem Zl{op:Operator}{r:R2}(ho:OpR X (binaryOp op) r)(ha:PE X a ta)(hb:PE X b tb):PE X (.BinOp a op b pos) (tOp r ta tb):=by
 intro pins s σ H Q I h
 exact wpAny_BinOp (Zy7 ha hb I h fun v u s2 x y H2 I2 rx ry q=>ho pins s2 σ H2 x y v u Q I2 rx ry q)
theorem Zfu{op:UnaryOp}{r:V->Hp->VK->Prop}(ho:UnR X (unaryOp op) r)(ha:PE X a ta):PE X (.UnaryOp op a pos) (tUn r ta):=by
 intro pins s σ H Q I h
 exact UnaryOp_ (thn (ha pins s σ H _ I h) fun v s1 ⟨x,H1,I1,r1,q1⟩=>ho pins s1 σ H1 x v Q I1 r1 q1)
theorem opI{f:Value->Value->Sem Value}{C:Int->Int->Prop}{g:Int->Int->Int}
  (rule:∀(i j:Int) (t u:Tok) (s:Shared) (Q:Value->Shared->Prop) (E:Value->Shared->Prop),C i j->Q (.int (g i j) s.toks) { s with toks:=s.toks+1 }->wpAny (model X.prog X.w) X.A (f (.int i t) (.int j u)) Q E s) :
  OpR X f (rI C fun i j=>.int (g i j)):=by
 intro pins s σ H x y v u Q I rx ry h
 obtain ⟨i,j,rfl,rfl,hc,q⟩:=h
 obtain ⟨t,rfl⟩:=rx
 obtain ⟨t',rfl⟩:=ry
 exact rule i j t t' s _ _ hc ⟨.int (g i j),H,I.tok _,⟨_,rfl⟩,q⟩
theorem Yag{f:Value->Value->Sem Value}{g:Int->Int->Int}
  (rule:∀(i j:Int) (t u:Tok) (s:Shared) (Q:Value->Shared->Prop) (E:Value->Shared->Prop),Q (.int (g i j) s.toks) { s with toks:=s.toks+1 }->wpAny (model X.prog X.w) X.A (f (.int i t) (.int j u)) Q E s) :
  OpR X f (rI0 fun i j=>.int (g i j)):=by
 intro pins s σ H x y v u Q I rx ry h
 obtain ⟨i,j,rfl,rfl,q⟩:=h
 obtain ⟨t,rfl⟩:=rx
 obtain ⟨t',rfl⟩:=ry
 exact rule i j t t' s _ _ ⟨.int (g i j),H,I.tok _,⟨_,rfl⟩,q⟩
theorem Yaj{f:Value->Value->Sem Value}{g:Int->Int->Bool}
  (rule:∀(i j:Int) (t u:Tok) (s:Shared) (Q:Value->Shared->Prop) (E:Value->Shared->Prop),Q (.bool (g i j)) s->wpAny (model X.prog X.w) X.A (f (.int i t) (.int j u)) Q E s) :
  OpR X f (rI0 fun i j=>.bl (g i j)):=by
 intro pins s σ H x y v u Q I rx ry h
 obtain ⟨i,j,rfl,rfl,q⟩:=h
 obtain ⟨t,rfl⟩:=rx
 obtain ⟨t',rfl⟩:=ry
 exact rule i j t t' s _ _ ⟨.bl (g i j),H,I,rfl,q⟩
def Yb1(i j:Int):Prop:=0<j/\j<1073741824
def Zzf(i j:Int):Prop:=(-(2 ^ 64)<i/\i<2 ^ 64)\/(-(2 ^ 64)<j/\j<2 ^ 64)
theorem Zzf.ok{i j:Int}(h:Zzf i j):IntMulOk i j:=by
 rcases h with ⟨h1,h2⟩|⟨h1,h2⟩
 ·exact .of_left (intBits_le_64 h1 h2)
 ·exact .of_right (intBits_le_64 h1 h2)
theorem Zym:OpR X (binaryOp .Add) (rI0 fun i j=>.int (i+j)):=Yag fun _ _ _ _ _ _ _ q=>add_int q
theorem Zi6:OpR X (binaryOp .Sub) (rI0 fun i j=>.int (i-j)):=Yag fun _ _ _ _ _ _ _ q=>sub_int q
theorem Zgy:OpR X (binaryOp .Mult) (rI Zzf fun i j=>.int (i * j)):=opI fun _ _ _ _ _ _ _ hc q=>mul_int q hc.ok
theorem Yt:OpR X (binaryOp .FloorDiv) (rI Yb1 fun i j=>.int (i / j)):=opI fun i j _ _ _ _ _ hc q=>by
 have h1:(0:Int)<j:=hc.1
 have h2:j<1073741824:=hc.2
 exact floordiv_int (by omega) (by rw [Int.fdiv_eq_ediv_of_nonneg i (by omega)];exact q) (.inl (PyProof.noPylong_small (by omega)))
theorem Yo:OpR X (binaryOp .Mod) (rI (fun _ j=>0<j) fun i j=>.int (i%j)):=opI fun i j _ _ _ _ _ hc q=>by
 have h1:(0:Int)<j:=hc
 exact mod_int' (by omega) (by rw [Int.fmod_eq_emod_of_nonneg i (by omega)];exact q)
theorem unI{f:Value->Sem Value}{g:Int->Int}
  (rule:∀(i:Int) (t:Tok) (s:Shared) (Q:Value->Shared->Prop) (E:Value->Shared->Prop),Q (.int (g i) s.toks) { s with toks:=s.toks+1 }->wpAny (model X.prog X.w) X.A (f (.int i t)) Q E s) :
  UnR X f (rU fun i=>.int (g i)):=by
 intro pins s σ H x v Q I rx h
 obtain ⟨i,rfl,q⟩:=h
 obtain ⟨t,rfl⟩:=rx
 exact rule i t s _ _ ⟨.int (g i),H,I.tok _,⟨_,rfl⟩,q⟩
theorem Zdm:UnR X (unaryOp .USub) (rU fun i=>.int (-i)):=unI fun _ _ _ _ _ q=>neg_int q
end
def Ya1:V->V->Bool
 | .non,.non=>true | .non,.int _=>true | .int _,.non=>true | .non,.bl _=>true | .bl _,.non=>true | .non,.str _=>true | .str _,.non=>true
 | .int _,.int _=>true | .bl _,.bl _=>true | .str _,.str _=>true | .byt _,.byt _=>true
 | .int _,.str _=>true | .str _,.int _=>true | .bl _,.str _=>true | .str _,.bl _=>true
 | _,_=>false
def rEq:R2:=fun x y H Q=>Ya1 x y=true/\Q (.bl (decide (x=y))) H
def rNe:R2:=fun x y H Q=>Ya1 x y=true/\Q (.bl (!decide (x=y))) H
theorem Zq8{i j:Int}:decide (V.int i=V.int j)=(i ==j):=by
 rw [Bool.eq_iff_iff]
 simp
theorem Zs1{i j:Bool}:decide (V.bl i=V.bl j)=(i ==j):=by
 rw [Bool.eq_iff_iff]
 simp
theorem Zq5{i j:Str}:decide (V.str i=V.str j)=(i ==j):=by
 rw [Bool.eq_iff_iff]
 simp
theorem Zqf{i j:Array UInt8}:decide (V.byt i=V.byt j)=(i.toList ==j.toList):=by
 rw [Bool.eq_iff_iff]
 cases i
 cases j
 simp
section
variable {X:Cx} {a b c:Expr} {ta tb tc:TE} {pos:Pos}
theorem Yw{pins:List (Addr×Obj)}{σ:St}{H:Hp}{s:Shared}{Q:VK}{k k':Bool}(I:Inv X pins σ H s)(q:Q (.bl k) H)(e:k=k'):EP X pins σ Q (.bool k') s:=by
 subst e
 exact ⟨.bl k,H,I,rfl,q⟩
theorem Yay:OpR X (compareOp .Eq) rEq:=by
 intro pins s σ H x y v u Q I rx ry h
 obtain ⟨hs,q⟩:=h
 cases x with
 | non =>
  cases rx
  cases y with
  | non=>cases ry;exact PySem.EqNone.eq_none_none (Yw I q (by simp))
  | bl j=>cases ry;exact PySem.EqNone.eq_none_bool (Yw I q (by simp))
  | int j=>obtain ⟨t',rfl⟩:=ry;exact PySem.EqNone.eq_none_int (Yw I q (by simp))
  | str j=>obtain ⟨t',rfl⟩:=ry;exact PySem.EqNone.eq_none_str (Yw I q (by simp))
  | _=>exact absurd (show false=true from hs) Bool.false_ne_true
 | bl i =>
  cases rx
  cases y with
  | non=>cases ry;exact PySem.EqNone.eq_bool_none (Yw I q (by simp))
  | bl j=>cases ry;exact eq_bool (Yw I q Zs1)
  | str j=>obtain ⟨t',rfl⟩:=ry;exact PySem.EqMixed.eq_bool_str (Yw I q (by simp))
  | _=>exact absurd (show false=true from hs) Bool.false_ne_true
 | int i =>
  obtain ⟨t,rfl⟩:=rx
  cases y with
  | non=>cases ry;exact PySem.EqNone.eq_int_none (Yw I q (by simp))
  | int j=>obtain ⟨t',rfl⟩:=ry;exact eq_int (Yw I q Zq8)
  | str j=>obtain ⟨t',rfl⟩:=ry;exact PySem.EqMixed.eq_int_str (Yw I q (by simp))
  | _=>exact absurd (show false=true from hs) Bool.false_ne_true
 | str i =>
  obtain ⟨t,rfl⟩:=rx
  cases y with
  | non=>cases ry;exact PySem.EqNone.eq_str_none (Yw I q (by simp))
  | bl j=>cases ry;exact PySem.EqMixed.eq_str_bool (Yw I q (by simp))
  | int j=>obtain ⟨t',rfl⟩:=ry;exact PySem.EqMixed.eq_str_int (Yw I q (by simp))
  | str j=>obtain ⟨t',rfl⟩:=ry;exact eq_str (Yw I q Zq5)
  | _=>exact absurd (show false=true from hs) Bool.false_ne_true
 | byt i =>
  obtain ⟨t,rfl⟩:=rx
  cases y with
  | byt j=>obtain ⟨t',rfl⟩:=ry;exact PySem.W.eq_bytes (Yw I q Zqf)
  | _=>exact absurd (show false=true from hs) Bool.false_ne_true
 | _=>cases y <;>exact absurd (show false=true from hs) Bool.false_ne_true
theorem Ybf:OpR X (compareOp .NotEq) rNe:=by
 intro pins s σ H x y v u Q I rx ry h
 obtain ⟨hs,q⟩:=h
 cases x with
 | non =>
  cases rx
  cases y with
  | non=>cases ry;exact PySem.EqNone.ne_none_none (Yw I q (by simp))
  | bl j=>cases ry;exact PySem.EqNone.ne_none_bool (Yw I q (by simp))
  | int j=>obtain ⟨t',rfl⟩:=ry;exact PySem.EqNone.ne_none_int (Yw I q (by simp))
  | str j=>obtain ⟨t',rfl⟩:=ry;exact PySem.EqNone.ne_none_str (Yw I q (by simp))
  | _=>exact absurd (show false=true from hs) Bool.false_ne_true
 | bl i =>
  cases rx
  cases y with
  | non=>cases ry;exact PySem.EqNone.ne_bool_none (Yw I q (by simp))
  | bl j=>cases ry;exact ne_bool (Yw I q (congrArg not Zs1))
  | str j=>obtain ⟨t',rfl⟩:=ry;exact PySem.EqMixed.ne_bool_str (Yw I q (by simp))
  | _=>exact absurd (show false=true from hs) Bool.false_ne_true
 | int i =>
  obtain ⟨t,rfl⟩:=rx
  cases y with
  | non=>cases ry;exact PySem.EqNone.ne_int_none (Yw I q (by simp))
  | int j=>obtain ⟨t',rfl⟩:=ry;exact ne_int (Yw I q (congrArg not Zq8))
  | str j=>obtain ⟨t',rfl⟩:=ry;exact PySem.EqMixed.ne_int_str (Yw I q (by simp))
  | _=>exact absurd (show false=true from hs) Bool.false_ne_true
 | str i =>
  obtain ⟨t,rfl⟩:=rx
  cases y with
  | non=>cases ry;exact PySem.EqNone.ne_str_none (Yw I q (by simp))
  | bl j=>cases ry;exact PySem.EqMixed.ne_str_bool (Yw I q (by simp))
  | int j=>obtain ⟨t',rfl⟩:=ry;exact PySem.EqMixed.ne_str_int (Yw I q (by simp))
  | str j=>obtain ⟨t',rfl⟩:=ry;exact ne_str (Yw I q (congrArg not Zq5))
  | _=>exact absurd (show false=true from hs) Bool.false_ne_true
 | byt i =>
  obtain ⟨t,rfl⟩:=rx
  cases y with
  | byt j=>obtain ⟨t',rfl⟩:=ry;exact PySem.W.ne_bytes (Yw I q (congrArg not Zqf))
  | _=>exact absurd (show false=true from hs) Bool.false_ne_true
 | _=>cases y <;>exact absurd (show false=true from hs) Bool.false_ne_true
theorem Zfx:OpR X (compareOp .Lt) (rI0 fun i j=>.bl (decide (i<j))):=Yaj fun _ _ _ _ _ _ _ q=>lt_int q
theorem Zkq:OpR X (compareOp .Gt) (rI0 fun i j=>.bl (decide (j<i))):=Yaj fun _ _ _ _ _ _ _ q=>gt_int q
theorem Zsw:OpR X (compareOp .In) (fun x y H Q=>∃i j,x=.str i/\y=.str j/\Q (.bl (!(Builtin.Str.occurrences j i 0 j.length 1).isEmpty)) H):=by
 intro pins s σ H x y v u Q I rx ry h
 obtain ⟨i,j,rfl,rfl,q⟩:=h
 obtain ⟨t,rfl⟩:=rx
 obtain ⟨t',rfl⟩:=ry
 exact in_str (Yw I q rfl)
theorem Zyx:OpR X (compareOp .Is) (fun x y H Q=>y=.non/\Q (.bl (decide (x=.non))) H):=by
 intro pins s σ H x y v u Q I rx ry h
 obtain ⟨rfl,q⟩:=h
 cases ry
 refine is_none_gen (Yw I q ?_)
 cases x <;>first
  | (cases rx;rfl)
  | (obtain ⟨t,rfl⟩:=rx;rfl)
theorem OpR.or{f:Value->Value->Sem Value}{r r':R2}(h:OpR X f r)(h':OpR X f r'):OpR X f (fun x y H Q=>r x y H Q\/r' x y H Q):=by
 intro pins s σ H x y v u Q I rx ry q
 rcases q with q|q
 ·exact h pins s σ H x y v u Q I rx ry q
 ·exact h' pins s σ H x y v u Q I rx ry q
theorem Z4(b:Expr){op:CmpOp}(h:op ≠ .In:=by decide)(h2:op ≠ .NotIn:=by decide):behindInMarks op b=false:=by
 have e1:(op ==CmpOp.In)=false:=by cases op <;>first | rfl | exact absurd rfl h
 have e2:(op ==CmpOp.NotIn)=false:=by cases op <;>first | rfl | exact absurd rfl h2
 cases b <;>simp [behindInMarks,e1,e2]
theorem W1{op:CmpOp}{r:R2}(ho:OpR X (compareOp op) r)(ha:PE X a ta)(hb:PE X b tb)(hm:behindInMarks op b=false):PE X (.Compare a [op] [b] pos) (tOp r ta tb):=by
 intro pins s σ H Q I h
 exact wpAny_Compare1 (Zy7 ha hb I h fun v u s2 x y H2 I2 rx ry q=>ho pins s2 σ H2 x y v u Q I2 rx ry q) hm
def Zxl(t:TE):TT:=fun σ H Q=>t σ H fun x H'=>∃k,x=.bl k/\Q k H'
theorem Zs{op:CmpOp}{r:R2}(ho:OpR X (compareOp op) r)(ha:PE X a ta)(hb:PE X b tb)(hm:behindInMarks op b=false):PT X (.Compare a [op] [b] pos) (Zxl (tOp r ta tb)):=by
 intro pins s σ H Q I h
 refine wpAny_isTrue_Compare1 (thn (ha pins s σ H _ I h) fun v s1 ⟨x,H1,I1,r1,q1⟩=>thn (hb pins s1 σ H1 _ I1 q1) fun u s2 ⟨y,H2,I2,r2,q2⟩ =>
  thn (ho pins s2 σ H2 x y v u _ I2 r1 r2 q2) fun c s3 ⟨z,H3,I3,r3,k,e,q3⟩=>?_) hm
 subst e
 cases r3
 exact wpAny_truthy_bool ⟨H3,I3,q3⟩
def Zz6(K:Frag)(x:V)(H:Hp)(k:Bool):Prop :=
 match x with
 | .non=>k=false
 | .bl b=>k=b
 | .int i=>k=(i !=0)
 | .str y=>y.length<=sizeLine/\k=((y.length:Int) !=0)
 | .byt y=>y.size<=sizeLine/\k=((y.size:Int) !=0)
 | .ref p=>(∃xs,SqL K H p xs/\k=!xs.isEmpty)\/(∃xs,SqT K H p xs/\k=!xs.isEmpty)\/∃kvs,H p=some (.dK kvs)/\k=!kvs.isEmpty
 | _=>False
theorem Zpt{κ:Type}{kvs:List (κ×V)}{vs:List (κ×Value)}(r:KV kvs vs):(!vs.isEmpty)=!kvs.isEmpty:=by
 cases r <;>rfl
theorem Ziv{xs:List V}{its:List Value}(r:Yd xs its):(!its.toArray.isEmpty)=!xs.isEmpty:=by
 cases r <;>simp
theorem Zgm:(sizeLine:Nat)<2 ^ 63:=by rw [sizeLine_eq];decide
theorem Zzp:Yb2 X (fun x H Q=>∃k,Zz6 X.K x H k/\Q k H):=by
 intro pins s σ H x v Q I rx h
 obtain ⟨k,e,q⟩:=h
 have hl:=Zgm
 have hs:sizeLine=16777216:=sizeLine_eq
 cases x with
 | non =>
  cases rx
  have e':k=false:=e
  subst e'
  exact truthy_none ⟨H,I,q⟩
 | bl b =>
  cases rx
  have e':k=b:=e
  subst e'
  exact wpAny_truthy_bool ⟨H,I,q⟩
 | int i =>
  obtain ⟨t,rfl⟩:=rx
  have e':k=(i !=0):=e
  subst e'
  exact PySem.P.truthy_int ⟨H,I,q⟩
 | str y =>
  obtain ⟨t,rfl⟩:=rx
  obtain ⟨hy,e'⟩:y.length<=sizeLine/\k=((y.length:Int) !=0):=e
  subst e'
  exact PySem.P.truthy_str (by omega) ⟨H,I.tok _,q⟩
 | byt y =>
  obtain ⟨t,rfl⟩:=rx
  obtain ⟨hy,e'⟩:y.size<=sizeLine/\k=((y.size:Int) !=0):=e
  subst e'
  exact PySem.W.truthy_bytes (by omega) ⟨H,I.tok _,q⟩
 | ref p =>
  cases rx
  have e':(∃xs,SqL X.K H p xs/\k=!xs.isEmpty)\/(∃xs,SqT X.K H p xs/\k=!xs.isEmpty)\/∃kvs,H p=some (.dK kvs)/\k=!kvs.isEmpty:=e
  rcases e' with ⟨xs,hx,e'⟩|⟨xs,hx,e'⟩|⟨kvs,hx,e'⟩
  ·subst e'
   obtain ⟨its,r,pl,hz⟩:=I.list hx
   have hlen:=r.length
   exact wpAny_truthy_list pl.isList (by simp only [List.size_toArray];omega) ⟨H,I.tok _,by rw [Ziv r];exact q⟩
  ·subst e'
   obtain ⟨its,r,pl,hz⟩:=I.tuple hx
   have hlen:=r.length
   exact truthy_tuple pl (by simp only [List.size_toArray];omega) ⟨H,I.tok _,by rw [Ziv r];exact q⟩
  ·subst e'
   obtain ⟨hz,hS,vs,r,m⟩:kvs.length<=sizeLine/\(p ==sysModules)=false/\∃vs,KV kvs vs/\s.heap.DictOf (Yg X.prog X.w) p vs:=I.hok p _ hx
   have hlen:kvs.length=vs.length:=Paired.length r
   exact wpAny_truthy_dict hS m (by omega) ⟨H,I.tok _,by rw [Zpt r];exact q⟩
 | _=>exact (show False from e).elim
theorem Zuo(ha:PE X a ta)(he:∀whole,isTrue a X.env whole=(do let v <-whole;standAt a.pos;holding [v] (truthy v))) :
  PT X a (fun σ H Q=>ta σ H fun x H'=>∃k,Zz6 X.K x H' k/\Q k H'):=by
 intro pins s σ H Q I h
 exact isTrue_plain (thn (ha pins s σ H _ I h) fun v s1 ⟨x,H1,I1,r1,q1⟩=>Zzp pins s1 σ H1 x v Q I1 r1 q1) (he _)
theorem Zpd:OpR X (binaryOp .Add) (fun x y H Q=>∃i j,x=.str i/\y=.str j/\i.length+j.length<=sizeLine/\Q (.str (i++j)) H):=by
 intro pins s σ H x y v u Q I rx ry h
 obtain ⟨i,j,rfl,rfl,hz,q⟩:=h
 obtain ⟨t,rfl⟩:=rx
 obtain ⟨t',rfl⟩:=ry
 exact add_str (fun t' tk=>⟨.str (i++j),H,I.tok _,⟨_,rfl⟩,q⟩) hz
theorem Zc5{x:V}{us:List Value}(r:Yd [x] us):∃u,us=[u]/\Yl x u:=by
 cases r with
 | cons r1 r2=>cases r2;exact ⟨_,rfl,r1⟩
theorem Zqw{x y:V}{us:List Value}(r:Yd [x,y] us):∃u w',us=[u,w']/\Yl x u/\Yl y w':=by
 cases r with
 | cons r1 r2 =>
  cases r2 with
  | cons r3 r4=>cases r4;exact ⟨_,_,rfl,r1,r3⟩
theorem Zrk(hc:X.calm=true):Xo X (.builtin "max") (fun xs H Q=>∃i j,xs=[.int i,.int j]/\Q (.int (if j >i then j else i)) H):=by
 intro pins s σ H xs us Q I r h
 obtain ⟨i,j,rfl,q⟩:=h
 obtain ⟨u,w',rfl,⟨t,rfl⟩,⟨t',rfl⟩⟩:=Zqw r
 refine max_two_ints (I.ok.hd hc) fun h' tk k=>⟨_,H,I.kept k,?_,q⟩
 by_cases hj:j >i
 ·rw [if_pos hj,if_pos hj];exact ⟨_,rfl⟩
 ·rw [if_neg hj,if_neg hj];exact ⟨_,rfl⟩
theorem Zsm(hc:X.calm=true):Xo X (.builtin "min") (fun xs H Q=>∃i j,xs=[.int i,.int j]/\Q (.int (if j<i then j else i)) H):=by
 intro pins s σ H xs us Q I r h
 obtain ⟨i,j,rfl,q⟩:=h
 obtain ⟨u,w',rfl,⟨t,rfl⟩,⟨t',rfl⟩⟩:=Zqw r
 refine min_two_ints (I.ok.hd hc) fun h' tk k=>⟨_,H,I.kept k,?_,q⟩
 by_cases hj:j<i
 ·rw [if_pos hj,if_pos hj];exact ⟨_,rfl⟩
 ·rw [if_neg hj,if_neg hj];exact ⟨_,rfl⟩
theorem Zbf:Xo X (.type "str") (fun xs H Q=>∃i,xs=[.int i]/\i.natAbs.log2<1920/\Q (.str (toString i)) H):=by
 intro pins s σ H xs us Q I r h
 obtain ⟨i,rfl,hz,q⟩:=h
 obtain ⟨u,rfl,t,rfl⟩:=Zc5 r
 exact PySem.P.str_of_int hz ⟨.str _,H,I.tok _,⟨_,rfl⟩,q⟩
end
end L2
namespace L2
open PySem PySem.Spec PyProof.Rows
structure Zpq(h:Heap)(x dx C:Addr)(mA:Str->Option Value):Prop where
 obj:h.get? x=some (PySem.W.instObj C dx)
 ns:h.Ns1 dx mA
 ne:dx≠x
theorem Zse{h:Heap}{dx:Addr}{mA:Str->Option Value}(n:h.Ns1 dx mA):∃od,h.get? dx=some od/\∀name,PySem.W.lookIn name od=some (mA name):=by
 obtain ⟨o,es,ep,ho,hd,hk,_,hm⟩:=n
 refine ⟨o,ho,fun name=>?_⟩
 have e:=hm name
 unfold nsFind findBy at e
 rw [<-Array.find?_toList] at e
 unfold PySem.W.lookIn
 rw [hd]
 dsimp only
 split
 ·rename_i y q
  rw [q] at e
  exact congrArg some e
 ·rename_i q
  rw [q] at e
  have a:es.toList.any (·.refKey)=false:=by
   rw [List.any_eq_false]
   intro y hy
   obtain ⟨z,t,hkey⟩:=hk y (Array.mem_toList_iff.mp hy)
   simp [DictEntry.refKey,hkey]
  have a':¬es.toList.any (·.refKey)=true:=by rw [a];exact Bool.false_ne_true
  rw [if_neg a']
  exact congrArg some e
theorem Zpq.look{h:Heap}{x dx C:Addr}{mA:Str->Option Value}(I:Zpq h x dx C mA):∃od,PySem.W.InstAt h x (PySem.W.instObj C dx) C (some od)/\∀name,PySem.W.lookIn name od=some (mA name) :=
 let ⟨od,ho,hl⟩:=Zse I.ns
 ⟨od,⟨I.obj,rfl,rfl,ho⟩,hl⟩
section
variable {prog:Program} {w:World} {A:Around} {E:Value->Shared->Prop} {s:Shared} {K:Frag} {x dx C f:Addr} {mA:Str->Option Value} {name:Str} {v:Value}
theorem Zwp{expr:Bool}{Q:Value->Shared->Prop}(X:K.In s.heap)(I:Zpq s.heap x dx C mA)(hg:PySem.W.plainGet K C name=true)(hh:PySem.W.hasDictIn K C=true)
  (ha:findIn K (.ref C) name=some none) (hv:mA name=some v) (hv':PySem.W.handedIn v=true) (h:Q v { s with toks:=s.toks+1 }) :
  wpAny (model prog w) A (getAttr (.ref x) name expr) Q E s:=by
 obtain ⟨od,J,hl⟩:=I.look
 exact PySem.W.get_value X J (PySem.W.plainGet_of hg).1 (PySem.W.findObj_own hh ha rfl (by rw [hl,hv])) hv' h
theorem Zu5{pl:Sem Bool}{Q:Value×List Value->Shared->Prop}(X:K.In s.heap)(I:Zpq s.heap x dx C mA)(hg:PySem.W.plainGet K C name=true)
  (hf:findIn K (.ref C) name=some (some (.ref f))) (ht:PySem.W.isFn K (.ref f)=true) (hv:mA name=none) (h:Q (.ref f,[.ref x]) s) :
  wpAny (model prog w) A (getMethod (.ref x) name pl) Q E s:=by
 obtain ⟨od,J,hl⟩:=I.look
 exact PySem.W.method_fn X J (PySem.W.plainGet_of hg).1 (PySem.W.plainGet_of hg).2 hf (beq_iff_eq.mp ht) (by show (PySem.W.lookIn name od).map (·.isSome)=some false;rw [hl,hv];rfl) h
theorem Zw6{ns:List Str}{Q:Unit->Shared->Prop}(X:K.In s.heap)(I:Zpq s.heap x dx C mA)
  (hs:findIn K (.ref C) "__setattr__" =some (some (.builtin "object.__setattr__"))) (hp:PySem.W.plainOver K C=true) (ht:PySem.W.takerIn K C name=some none) (hh:PySem.W.hasDictIn K C=true)
  (hw:PySem.Within mA ns) (hsz:ns.length<=sizeLine)
  (h:∀h',Zpq h' x dx C (fun y=>if y=name then some v else mA y)->Heap.SameBut dx s.heap h'->Q () { s with heap:=h',toks:=s.toks+2 }) :
  wpAny (model prog w) A (setAttr (.ref x) name v) Q E s:=by
 obtain ⟨od,J,hl⟩:=I.look
 refine PySem.W.set_plain X J hs (PySem.W.osa_open (s:={ s with toks:=s.toks+1 }) (r:=none) X J hp ht fun b=>?_)
 obtain ⟨cd,hc,hd'⟩:=PySem.W.any_some hh
 have hx:s.heap.get? x=some ⟨.ref C,some dx,.plain,#[]⟩:=I.obj
 refine wpAny_bind (wpAny_pure (wpAny_bind (wpAny_bind (wpAny_loadPart hx (wpAny_bind (PySem.W.Looks.here (s:={ s with toks:=s.toks+1 }) (PySem.W.looks_clsIn X hc) ?_))))))
 rw [hd']
 refine wpAny_pure (a:=some dx) (wpAny_bind (wpAny_pure (wpAny_bind ?_)))
 refine wpAny_nsSet1 (s:={ s with toks:=s.toks+1 }) I.ns fun h' hn2 hs2=>?_
 obtain ⟨oD,esD,epD,hoD,hdD,hcD⟩:=hn2.count (PySem.Within.cons name v hw)
 refine wpAny_bind (wpAny_lookBehind hoD (by rw [hdD];exact pastItsLine_dict (Nat.le_trans hcD (by rw [List.length_cons];omega))) ?_)
 exact wpAny_pure (h _ ⟨(hs2.2 _ (Ne.symm I.ne)).trans I.obj,hn2,I.ne⟩ hs2)
theorem Zuu{R:Result->Shared->Prop}{vs:List Value}{kw:List (Str×Value)}(X:K.In s.heap)(hm:PySem.W.makesIn K C=true)
  (hi:findIn K (.ref C) "__init__" =some (some (.ref f))) (hf:PySem.W.typeIn K (.ref f)=some (.type "function"))
  (h:codeAny (model prog w) (A.under (.builtin "type.__call__" ⟨.ref C ::vs,kw⟩)) (.call (.ref f) ⟨.ref (s.heap.objs.size+1) ::vs,kw⟩) (PySem.W.InitBack (s.heap.objs.size+1) R)
   { s with heap:=(s.heap.push PySem.W.emptyDict).push (PySem.W.instObj C s.heap.objs.size) }) :
  codeAny (model prog w) A (.call (.ref C) ⟨vs,kw⟩) R s:=by
 obtain ⟨hh,g,d,t,os⟩:=s
 exact PySem.W.make_core (PySem.W.makes_of X hm) (PySem.W.looks_findIn X hi) (fun self=>PySem.W.bind_fn X self hf) (.inl rfl) h
end
def Zek(f:Str)(v:V):List (Str×V)->List (Str×V)
 | []=>[(f,v)]
 | (g,x) ::r=>if g=f then (g,v) ::r else (g,x) ::Zek f v r
theorem Zg2(f g:Str)(v:V):∀fs:List (Str×V),(Zek f v fs).lookup g=if g=f then some v else fs.lookup g
 | []=>by
  show List.lookup g [(f,v)]=_
  by_cases h:g=f
  ·have hb:(g ==f)=true:=beq_iff_eq.mpr h
   simp only [List.lookup,hb,if_pos h]
  ·have hb:(g ==f)=false:=beq_eq_false_iff_ne.mpr h
   simp only [List.lookup,hb,if_neg h]
 | (k,x) ::r=>by
  have ih:=Zg2 f g v r
  rw [show Zek f v ((k,x) ::r)=(if k=f then (k,v) ::r else (k,x) ::Zek f v r) from rfl]
  by_cases hk:k=f
  ·rw [if_pos hk]
   by_cases h:g=k
   ·have hb:(g ==k)=true:=beq_iff_eq.mpr h
    simp only [List.lookup,hb,if_pos (h.trans hk)]
   ·have hb:(g ==k)=false:=beq_eq_false_iff_ne.mpr h
    simp only [List.lookup,hb,if_neg (fun e:g=f=>h (e.trans hk.symm))]
  ·rw [if_neg hk]
   by_cases h:g=k
   ·have hb:(g ==k)=true:=beq_iff_eq.mpr h
    simp only [List.lookup,hb,if_neg (fun e:g=f=>hk (h.symm.trans e))]
   ·have hb:(g ==k)=false:=beq_eq_false_iff_ne.mpr h
    simp only [List.lookup,hb]
    exact ih
theorem Zgv(f:Str)(v:V):∀fs:List (Str×V),f∈(Zek f v fs).map (·.1)/\∀g,g∈fs.map (·.1)->g∈(Zek f v fs).map (·.1)
 | []=>⟨by simp [Zek],fun g h=>by simp at h⟩
 | (k,x) ::r=>by
  obtain ⟨i1,i2⟩:=Zgv f v r
  rw [show Zek f v ((k,x) ::r)=(if k=f then (k,v) ::r else (k,x) ::Zek f v r) from rfl]
  by_cases hk:k=f
  ·rw [if_pos hk]
   subst hk
   exact ⟨by simp,fun g h=>by simpa using h⟩
  ·rw [if_neg hk]
   refine ⟨?_,fun g h=>?_⟩
   ·rw [List.map_cons]
    exact List.mem_cons_of_mem _ i1
   ·rw [List.map_cons] at h ⊢
    rcases List.mem_cons.mp h with e|e
    ·exact List.mem_cons.mpr (.inl e)
    ·exact List.mem_cons_of_mem _ (i2 g e)
theorem Zg8(f:Str)(v:V):∀fs:List (Str×V),(Zek f v fs).length<=fs.length+1
 | []=>by simp [Zek]
 | (k,x) ::r=>by
  have ih:=Zg8 f v r
  rw [show Zek f v ((k,x) ::r)=(if k=f then (k,v) ::r else (k,x) ::Zek f v r) from rfl]
  by_cases hk:k=f
  ·rw [if_pos hk,List.length_cons,List.length_cons];omega
  ·rw [if_neg hk,List.length_cons,List.length_cons];omega
theorem Zdr.some_of{v:V}{o:Option Value}(r:Zdr (some v) o):∃u,o=some u/\Yl v u:=by
 cases o with
 | none=>exact (show False from r).elim
 | some u=>exact ⟨u,rfl,r⟩
theorem Zdr.none_of{o:Option Value}(r:Zdr none o):o=none:=by
 cases o with
 | none=>rfl
 | some u=>exact (show False from r).elim
theorem Zrn{v:V}{u:Value}(r:Yl v u):PySem.W.handedIn u=true:=by
 cases v with
 | non=>cases (show u=Value.none from r);rfl
 | bl b=>cases (show u=Value.bool b from r);rfl
 | int i=>obtain ⟨t,e⟩:=(show ∃t,u=Value.int i t from r);cases e;rfl
 | str x=>obtain ⟨t,e⟩:=(show ∃t,u=Value.str x t from r);cases e;rfl
 | byt b=>obtain ⟨t,e⟩:=(show ∃t,u=Value.bytes b t from r);cases e;rfl
 | flt b=>obtain ⟨t,e⟩:=(show ∃t,u=Value.float b t from r);cases e;rfl
 | ref a=>cases (show u=Value.ref a from r);rfl
 | ty n=>cases (show u=Value.type n from r);rfl
section
variable {P:Program} {w:World} {H H':Hp} {h h':Heap} {a C dx:Addr} {fs fs':List (Str×V)}
theorem Zh9(hok:HOk P w H h)(e:H a=some (.ins C dx fs)):∃mA,Zpq h a dx C mA/\(∀f,Zdr (fs.lookup f) (mA f))/\PySem.Within mA (fs.map (·.1))/\fs.length<=1000/\H dx=some (.own a):=by
 obtain ⟨d,z,ne,ob,mA,n,r,q⟩:=(show Yn P w H h a (.ins C dx fs) from hok a _ e)
 exact ⟨mA,⟨ob,n,ne⟩,r,q,z,d⟩
end
structure Cls(K:Frag)(C:Addr):Prop where
 pg:PySem.W.plainGet K C Str.empty=true
 hd:PySem.W.hasDictIn K C=true
 po:PySem.W.plainOver K C=true
 sa:findIn K (.ref C) "__setattr__" =some (some (.builtin "object.__setattr__"))
theorem Cls.get{K:Frag}{C:Addr}(c:Cls K C)(f:Str):PySem.W.plainGet K C f=true:=c.pg
def Wj(K:Frag)(C:Addr)(f:Str):Prop:=findIn K (.ref C) f=some none
theorem Wj.taker{K:Frag}{C:Addr}{f:Str}(n:Wj K C f):PySem.W.takerIn K C f=some none:=by
 unfold PySem.W.takerIn
 rw [show findIn K (.ref C) f=some none from n]
 rfl
structure X1(K:Frag)(C:Addr)(m:Str)(f:Addr):Prop where
 at_:findIn K (.ref C) m=some (some (.ref f))
 fn:PySem.W.isFn K (.ref f)=true
 kp:keepIn K (.ref f)=true
section
variable {X:Cx} {pins:List (Addr×Obj)} {σ:St} {H:Hp} {s:Shared} {a C dx:Addr} {fs:List (Str×V)} {f:Str} {v:V} {A:Around} {E:Value->Shared->Prop}
theorem Zp5{b:Bool}{Q:Value->Shared->Prop}(I:Inv X pins σ H s)(e:H a=some (.ins C dx fs))(c:Cls X.K C)(n:Wj X.K C f)(l:fs.lookup f=some v)
  (h:∀u s',Inv X pins σ H s'->Yl v u->Q u s'):wpAny (model X.prog X.w) A (getAttr (.ref a) f b) Q E s:=by
 obtain ⟨mA,O,r,_,_,_⟩:=Zh9 I.hok e
 obtain ⟨u,hu,ru⟩:=Zdr.some_of (v:=v) (o:=mA f) (by rw [<-l];exact r f)
 exact Zwp I.kIn O (c.get f) c.hd n hu (Zrn ru) (h u _ (I.tok _) ru)
theorem Ze7{m:Str}{g:Addr}{pl:Sem Bool}{Q:Value×List Value->Shared->Prop}(I:Inv X pins σ H s)(e:H a=some (.ins C dx fs))(c:Cls X.K C)(k:X1 X.K C m g)(l:fs.lookup m=none)
  (h:Q (.ref g,[.ref a]) s):wpAny (model X.prog X.w) A (getMethod (.ref a) m pl) Q E s:=by
 obtain ⟨mA,O,r,_,_,_⟩:=Zh9 I.hok e
 have hn:mA m=none:=Zdr.none_of (by rw [<-l];exact r m)
 exact Zu5 I.kIn O (c.get m) k.at_ k.fn hn h
theorem Zo4{y:V}{u:Value}{Q:Unit->Shared->Prop}(I:Inv X pins σ H s)(e:H a=some (.ins C dx fs))(c:Cls X.K C)(n:Wj X.K C f)(hl:fs.length<1000)(ry:Yl y u)
  (h:∀s',Inv X pins σ (upd H a (.ins C dx (Zek f y fs))) s'->Q () s'):wpAny (model X.prog X.w) A (setAttr (.ref a) f u) Q E s:=by
 obtain ⟨mA,O,r,wi,_,ho⟩:=Zh9 I.hok e
 have hz:(fs.map (·.1)).length<=sizeLine:=by rw [List.length_map,sizeLine_eq];omega
 refine Zw6 I.kIn O c.sa c.po n.taker c.hd wi hz fun h' O' sb=>h _ ?_
 have hd:∃o,h'.get? dx=some o:=let ⟨o,_,_,e',_⟩:=O'.ns;⟨o,e'⟩
 refine I.write (x:=a) (e:=dx) (by rw [e];exact True.intro) (.inr ho) (fun b q hb z=>(sb.2 b hb).trans z) hd ?_
 refine ⟨by rw [Zj O.ne];exact ho,?_,O.ne,O'.obj,_,O'.ns,fun g=>?_,fun g hg=>?_⟩
 ·have:=Zg8 f y fs;omega
 ·show Zdr ((Zek f y fs).lookup g) (if g=f then some u else mA g)
  rw [Zg2]
  by_cases q:g=f
  ·rw [if_pos q,if_pos q];exact ry
  ·rw [if_neg q,if_neg q];exact r g
 ·by_cases q:g=f
  ·rw [q];exact (Zgv f y fs).1
  ·refine (Zgv f y fs).2 g (wi g fun z=>hg ?_)
   show (if g=f then some u else mA g)=none
   rw [if_neg q];exact z
theorem Inv.made(I:Inv X pins σ H s):Inv X pins σ (upd (upd H s.heap.objs.size (.own (s.heap.objs.size+1))) (s.heap.objs.size+1) (.ins C s.heap.objs.size []))
  { s with heap:=(s.heap.push PySem.W.emptyDict).push (PySem.W.instObj C s.heap.objs.size) }:=by
 have e1:(s.heap.push PySem.W.emptyDict).get? s.heap.objs.size=some PySem.W.emptyDict:=Heap.get?_push_size s.heap rfl
 have e2:((s.heap.push PySem.W.emptyDict).push (PySem.W.instObj C s.heap.objs.size)).get? (s.heap.objs.size+1)=some (PySem.W.instObj C s.heap.objs.size):=by
  have:=Heap.get?_push_size (s.heap.push PySem.W.emptyDict) (o:=PySem.W.instObj C s.heap.objs.size) rfl
  rwa [Heap.size_push] at this
 have e3:(s.heap.push PySem.W.emptyDict).Ns s.heap.objs.size (fun _=>none):=⟨PySem.W.emptyDict,#[],_,e1,rfl,(fun e he=>absurd he (by simp)),fun _=>rfl⟩
 have I1:=I.laid (a:=s.heap.objs.size) (o:=.own (s.heap.objs.size+1)) (h':=s.heap.push PySem.W.emptyDict) (t':=s.toks) (fun b u q=>Heap.get?_push_of_some _ q) (Nat.le_refl _) ⟨_,e1⟩
 refine I1.laid (a:=s.heap.objs.size+1) (o:=.ins C s.heap.objs.size []) (t':=s.toks) (fun b u q=>Heap.get?_push_of_some _ q) (Nat.le_of_eq (Heap.size_push _ _)) ?_
 have ne:s.heap.objs.size≠s.heap.objs.size+1:=Nat.ne_of_lt (Nat.lt_succ_self _)
 refine ⟨by rw [Zj ne,Zh],Nat.zero_le _,ne,e2,fun _=>none,(Heap.Ns1.of_empty e3).at fun o q=>Heap.get?_push_of_some _ q,fun _=>True.intro,fun y hy=>absurd rfl hy⟩
theorem Zwf{prog:Program}{w:World}{env:Env}{e:Expr}{f:Str}{pos:Pos}{s:Shared}{Q:Value->Shared->Prop}(hb:attributeBase e f env (eval e env)=eval e env)
  (h:wpAny (model prog w) A (eval e env) (fun o s₁=>wpAny (model prog w) A (getAttr o f true) Q E s₁) E s):wpAny (model prog w) A (eval (.Attribute e f pos) env) Q E s :=
 Attribute_any_ h (by rw [arm_eval_Attribute,hb])
end
def Ybi(K:Frag)(ta:TE)(f:Str):TE:=fun σ H Q=>ta σ H fun x H1=>∃a C dx fs v,x=.ref a/\H1 a=some (.ins C dx fs)/\Cls K C/\Wj K C f/\fs.lookup f=some v/\Q v H1
def Ybt(K:Frag)(ta tv:TE)(f:Str):TS:=fun D σ H=>tv σ H fun y H1=>ta σ H1 fun x H2=>∃a C dx fs,x=.ref a/\H2 a=some (.ins C dx fs)/\Cls K C/\Wj K C f/\fs.length<1000 /\
 D.nx σ (upd H2 a (.ins C dx (Zek f y fs)))
section
variable {X:Cx} {o e value:Expr} {f:Str} {pos pos' tpos:Pos} {ta tv:TE}
theorem W3(he:PE X e ta)(hb:attributeBase e f X.env (eval e X.env)=eval e X.env):PE X (.Attribute e f pos) (Ybi X.K ta f):=by
 intro pins s σ H Q I h
 refine Zwf hb (thn (he pins s σ H _ I h) fun u s1 ⟨x,H1,I1,rx,a,C,dx,fs,v,ex,ea,c,n,l,q⟩=>?_)
 subst ex
 obtain rfl:u=Value.ref a:=rx
 exact Zp5 I1 ea c n l fun u' s2 I2 ru=>⟨v,H1,I2,ru,q⟩
theorem Zix(ha:PE X o ta)(hv:PE X value tv)(hs:swapsWith value (some (.Attribute o f pos')) pos.line X.env=pure false):PS X (.Assign [.Attribute o f pos'] value pos) (Ybt X.K ta tv f):=by
 intro pins s σ H D I h
 refine plainObj_wpAny_Assign_Attribute (thn (hv pins s σ H _ I h) fun u s1 ⟨y,H1,I1,ry,q⟩=>thn (ha pins s1 σ H1 _ I1 q) fun ov s2 ⟨x,H2,I2,rx,a,C,dx,fs,ex,ea,c,n,l,q2⟩=>?_) hs
 subst ex
 obtain rfl:ov=Value.ref a:=rx
 exact Zo4 I2 ea c n l ry fun s3 I3=>⟨σ,_,I3,q2⟩
theorem Zxs{pl:Sem Bool}{m:Str}{apos:Pos}{args:List Expr}{pins:List (Addr×Obj)}{s:Shared}{σ:St}{H:Hp}{Q:Value->Shared->Prop}{te:TE}(he:PE X e te)(I:Inv X pins σ H s)
  (h:te σ H fun x H1=>∃a C dx fs g,x=.ref a/\H1 a=some (.ins C dx fs)/\Cls X.K C/\X1 X.K C m g/\fs.lookup m=none /\
   ∀s1,Inv X pins σ H1 s1->wpAny (model X.prog X.w) X.A (callWith pos (.ref g) [.ref a] (backTo pos (starEach args X.env)) (backToKw pos (keywordEach [] X.env))) Q X.xe s1)
  (ht:eval (.Call (.Attribute e m apos) args [] pos) X.env=(do
   let ov <-eval e X.env
   standAt apos.atName
   let (f,first) <-holding [ov] (getMethod ov m pl)
   callWith pos f first (backTo pos (starEach args X.env)) (backToKw pos (keywordEach [] X.env)))) :
  wpAny (model X.prog X.w) X.A (eval (.Call (.Attribute e m apos) args [] pos) X.env) Q X.xe s:=by
 refine PySem.W.methodCall_KW (pl:=pl) (thn (he pins s σ H _ I h) fun u s1 ⟨x,H1,I1,rx,a,C,dx,fs,g,ex,ea,c,k,l,q⟩=>?_) ht
 subst ex
 obtain rfl:u=Value.ref a:=rx
 exact Ze7 I1 ea c k l (q s1 I1)
end
section
variable {X:Cx} {pins:List (Addr×Obj)} {σ:St} {H:Hp} {s:Shared} {A:Around} {E:Value->Shared->Prop} {Q:Value->Shared->Prop} {c:Value} {b:Bool}
inductive Zbm(K:Frag)(H:Hp):V->Value->Prop where
 | non:Zbm K H .non (.type "NoneType")
 | bl (x:Bool):Zbm K H (.bl x) (.type "bool")
 | int (i:Int):Zbm K H (.int i) (.type "int")
 | str (x:Str):Zbm K H (.str x) (.type "str")
 | flt (x:UInt64):Zbm K H (.flt x) (.type "float")
 | lst {a:Addr} {xs:List V} (e:H a=some (.lst xs)):Zbm K H (.ref a) (.type "list")
 | frz {a:Addr} {o:Obj} {xs:List V} (e:H a=some (.frz o (.lst xs))):Zbm K H (.ref a) (.type "list")
 | tup {a:Addr} {xs:List V} (e:H a=some (.tup xs)):Zbm K H (.ref a) (.type "tuple")
 | dK {a:Addr} {kvs:List (Key×V)} (e:H a=some (.dK kvs)):Zbm K H (.ref a) (.type "dict")
 | dT {a:Addr} {kvs:List (List Key×V)} (e:H a=some (.dT kvs)):Zbm K H (.ref a) (.type "dict")
 | ins {a C dx:Addr} {fs:List (Str×V)} (e:H a=some (.ins C dx fs)) (cl:Cls K C) (ha:findIn K (.ref C) "__class__" =some (some (.builtin "object.__class__")))
   (hn:PySem.W.specialIn K (.builtin "object.__class__") "__get__" =some (some (.builtin "getset_descriptor.__get__"))) (htk:PySem.W.takesIn K (.builtin "object.__class__")=some true)
   (hm:PySem.W.mroIn K C (.type "object")=some true):Zbm K H (.ref a) (.ref C)
theorem Zk0{x:V}{u t:Value}(I:Inv X pins σ H s)(rx:Yl x u)(ty:Zbm X.K H x t)(e:kitOne X.K t c=some b)(h:∀tk,Q (.bool b) { s with toks:=tk }) :
  wpAny (model X.prog X.w) A (call (.builtin "isinstance") [u,c]) Q E s:=by
 cases ty with
 | non=>cases (show u=Value.none from rx);exact PySem.W.kia_one PySem.W.kitx_none I.kIn True.intro e (fun z=>nomatch z) h
 | bl y=>cases (show u=Value.bool y from rx);exact PySem.W.kia_one PySem.W.kitx_bool I.kIn True.intro e (fun z=>nomatch z) h
 | int i=>obtain ⟨t,q⟩:=(show ∃t,u=Value.int i t from rx);cases q;exact PySem.W.kia_one PySem.W.kitx_int I.kIn True.intro e (fun z=>nomatch z) h
 | str y=>obtain ⟨t,q⟩:=(show ∃t,u=Value.str y t from rx);cases q;exact PySem.W.kia_one PySem.W.kitx_str I.kIn True.intro e (fun z=>nomatch z) h
 | flt y=>obtain ⟨t,q⟩:=(show ∃t,u=Value.float y t from rx);cases q;exact PySem.W.kia_one PySem.W.kitx_float I.kIn True.intro e (fun z=>nomatch z) h
 | @lst a xs ea =>
  cases (show u=Value.ref a from rx)
  obtain ⟨_,_,n,_,h1⟩:=(show Yn X.prog X.w H s.heap a (.lst xs) from I.hok a _ ea)
  exact PySem.W.kia_one PySem.W.kitx_list I.kIn ⟨_,h1,rfl⟩ e (fun z=>nomatch z) h
 | @frz a ob xs ea =>
  cases (show u=Value.ref a from rx)
  obtain ⟨_,_,_,n,_,h1⟩:=(show Yn X.prog X.w H s.heap a (.frz ob (.lst xs)) from I.hok a _ ea)
  exact PySem.W.kia_one PySem.W.kitx_list I.kIn ⟨_,h1,rfl⟩ e (fun z=>nomatch z) h
 | @tup a xs ea =>
  cases (show u=Value.ref a from rx)
  obtain ⟨_,_,_,p⟩:=(show Yn X.prog X.w H s.heap a (.tup xs) from I.hok a _ ea)
  obtain ⟨o,h1,h2,_⟩:=p
  exact PySem.W.kia_one PySem.W.kitx_tuple I.kIn ⟨o,h1,h2⟩ e (fun z=>nomatch z) h
 | @dK a kvs ea =>
  cases (show u=Value.ref a from rx)
  obtain ⟨_,_,vs,_,p⟩:=(show Yn X.prog X.w H s.heap a (.dK kvs) from I.hok a _ ea)
  obtain ⟨o,es,ep,h1,h2,_⟩:=p
  exact PySem.W.kia_one PySem.W.kitx_dict I.kIn ⟨o,h1,h2.1⟩ e (fun z=>nomatch z) h
 | @dT a kvs ea =>
  cases (show u=Value.ref a from rx)
  obtain ⟨_,_,xs,_,o,es,ep,h1,h2,_⟩:=(show Yn X.prog X.w H s.heap a (.dT kvs) from I.hok a _ ea)
  exact PySem.W.kia_one PySem.W.kitx_dict I.kIn ⟨o,h1,h2.1⟩ e (fun z=>nomatch z) h
 | @ins a C dx fs ea cl ha hn htk hm =>
  cases (show u=Value.ref a from rx)
  obtain ⟨mA,O,_⟩:=Zh9 I.hok ea
  obtain ⟨od,J,_⟩:=O.look
  exact PySem.W.kia_one (PySem.W.kitx_own (cl.get _) cl.hd ha hn htk hm) I.kIn J e (fun z=>nomatch z) h
end
end L2
namespace L2
open PySem PySem.Spec PyProof.Rows
structure Zao(k:Nat)(A:Around):Prop where
 hd:A.handled=none
 dp:A.depth+3 * k+5<recursionLimit
 un:A.units+16 * k+200<cLine
theorem Zao.mono{j k:Nat}{A:Around}(r:Zao k A)(h:j<=k):Zao j A:=⟨r.hd,by have:=r.dp;omega,by have:=r.un;omega⟩
theorem Zao.deeper{k:Nat}{A:Around}(r:Zao (k+1) A)(env:Env):Zao k (A.deeper env) :=
 ⟨r.hd,by have:=r.dp;show A.depth+1+3 * k+5<_;omega,by have:=r.un;show A.units+3+16 * k+200<_;omega⟩
theorem Zpa{A:Around}{C:Addr}{us:List Value}{kw:List (Str×Value)}:(A.under (.builtin "type.__call__" ⟨.ref C ::us,kw⟩)).depth=A.depth+1:=by
 first | rfl | simp [Around.under,Code.weight,Code.isCreation,Code.isGuard,Code.isCaller,Code.frames,Code.isFrame,guardIds]
theorem Zpz{A:Around}{C:Addr}{us:List Value}{kw:List (Str×Value)}:(A.under (.builtin "type.__call__" ⟨.ref C ::us,kw⟩)).units=A.units+1:=by
 first | rfl | simp [Around.under,Code.cUnits,Code.frames,Code.isFrame]
theorem Zao.make{k:Nat}{A:Around}(r:Zao (k+1) A)(C:Addr)(us:List Value)(kw:List (Str×Value)):Zao k (A.under (.builtin "type.__call__" ⟨.ref C ::us,kw⟩)) :=
 ⟨r.hd,by have:=r.dp;rw [Zpa];omega,by have:=r.un;rw [Zpz];omega⟩
theorem Zao.depth{k:Nat}{A:Around}(r:Zao k A):A.depth<recursionLimit:=by have:=r.dp;omega
theorem Zao.units{k:Nat}{A:Around}(r:Zao k A):A.units+64<cLine:=by have:=r.un;omega
def Zwr:TA:=fun _ H Q=>Q [] H
def Zky(ta:TE)(tr:TA):TA:=fun σ H Q=>ta σ H fun x H1=>tr σ H1 fun xs H2=>Q (x ::xs) H2
section
variable {X:Cx} {e:Expr} {es:List Expr} {te:TE} {t:TA} {pos:Pos}
theorem Za:PA X [] Zwr:=fun _ _ _ _ H Q I h=>Calls.spliced_nil ⟨[],H,I,.nil,h⟩
theorem Zwd(ha:PE X e te)(hr:PA X es t)(hs:starEach (e ::es) X.env=(false,eval e X.env) ::starEach es X.env:=by rfl):PA X (e ::es) (Zky te t):=by
 intro pos pins s σ H Q I h
 rw [hs]
 show wpAny _ _ (spliced ((false,eval e X.env) ::backTo pos (starEach es X.env))) _ _ s
 refine Calls.spliced_cons (thn (ha pins s σ H _ I h) fun u s1 ⟨x,H1,I1,r1,q1⟩=>?_)
 exact thn (hr pos pins s1 σ H1 _ I1 q1) fun us s2 ⟨xs,H2,I2,r2,q2⟩=>⟨x ::xs,H2,I2,.cons r1 r2,q2⟩
end
abbrev Sp:=List V->Hp->VK->XK->Prop
abbrev CXT:=List Env->Hp->Shared->XK->Value->Shared->Prop
structure Zp1(P:Program)(w:World)(K:Frag)(mg:Str->Option Value)(base:Heap)(A:Around)(outer:List Env)(s:Shared)(H:Hp):Prop where
 frames:A.frames=some outer
 mod:Mod K mg base
 bs:∀b o,base.get? b=some o->s.heap.get? b=some o/\H b=none
 bsz:base.objs.size<=s.heap.objs.size
 funs:s.heap.FunFrames base outer
 frf:∀b∈frs outer,H b=none
 hok:HOk P w H s.heap
 bare:AllBare s.gens
def CE(outer:List Env)(P:Program)(w:World)(H:Hp)(s:Shared)(Q:VK)(u:Value)(s':Shared):Prop :=
 ∃v H',s'.os=s.os/\AllBare s'.gens/\Un (frs outer) [] H H' s.heap s'.heap/\HOk P w H' s'.heap/\Yl v u/\Q v H'
def CR(CX:CXT)(outer:List Env)(P:Program)(w:World)(H:Hp)(s:Shared)(Q:VK)(E:XK)(r:Result)(s':Shared):Prop :=
 match r with
 | .ok (.ret u)=>CE outer P w H s Q u s'
 | .ok _=>False
 | .error e=>CX outer H s E e s'
structure Z1(P:Program)(w:World)(K:Frag)(mg:Str->Option Value)(base:Heap)(CX:CXT)(k:Nat)(f:Addr)(fd:FuncData)(ps:List Str)(sp:Sp):Prop where
 len:∀vs H Q E,sp vs H Q E->vs.length=ps.length
 run:∀(A:Around) (outer:List Env) (s:Shared) (H:Hp) (args:Args) (us:List Value) (vs:List V) (Q:VK) (E:XK),Zao k A->Zp1 P w K mg base A outer s H->BindsTo s fd args (ps.zip us)->Yd vs us->sp vs H Q E ->
  codeAny (model P w) A (.call (.ref f) args) (CR CX outer P w H s Q E) s
theorem Z1.mono{P:Program}{w:World}{K:Frag}{mg:Str->Option Value}{base:Heap}{CX:CXT}{j k:Nat}{f:Addr}{fd:FuncData}{ps:List Str}{sp:Sp}(F:Z1 P w K mg base CX j f fd ps sp)(h:j<=k) :
  Z1 P w K mg base CX k f fd ps sp:=⟨F.len,fun A outer s H args us vs Q E hr=>F.run A outer s H args us vs Q E (hr.mono h)⟩
theorem Zp1.make{P:Program}{w:World}{K:Frag}{mg:Str->Option Value}{base:Heap}{A:Around}{outer:List Env}{s:Shared}{H:Hp}(e:Zp1 P w K mg base A outer s H)(C:Addr)(us:List Value)(kw:List (Str×Value)) :
  Zp1 P w K mg base (A.under (.builtin "type.__call__" ⟨.ref C ::us,kw⟩)) outer s H:=⟨by first | exact e.frames | (simpa [Around.under,Code.envs,Code.isFrame,pushEnvs] using e.frames),e.mod,e.bs,e.bsz,e.funs,e.frf,e.hok,e.bare⟩
section
variable {X:Cx} {pins:List (Addr×Obj)} {σ:St} {H:Hp} {s s':Shared}
theorem Inv.env0(I:Inv X pins σ H s):Zp1 X.prog X.w X.K X.mg X.base X.A X.stack s H :=
 ⟨I.ok.frames,I.ok.mod,I.bs,Nat.le_trans I.ok.bsz I.sz,I.stack,I.stkFree,I.hok,I.bare⟩
theorem Inv.after{Q:VK}{u:Value}(I:Inv X pins σ H s)(h:CE X.stack X.prog X.w H s Q u s'):EP X pins σ Q u s':=by
 obtain ⟨v,H',os,bare,un,hok,r,q⟩:=h
 obtain ⟨hh,g,d,t,os'⟩:=s'
 obtain rfl:os'=s.os:=os
 exact ⟨v,H',I.call (h':=hh) (g':=g) (d':=d) (t':=t) (ch:=[]) un hok bare (fun b z=>absurd z (by simp)),r,q⟩
end
def Zz7(sp:Sp)(dvs:List V)(E:XK)(t:TA):TE:=fun σ H Q=>t σ H fun vs H1=>sp (vs++dvs) H1 Q E
def Zxg(C:Addr)(m:Str)(sp:Sp)(dvs:List V)(E:XK)(ta:TE)(t:TA):TE:=fun σ H Q=>ta σ H fun x H1=>∃a dx fs,x=.ref a/\H1 a=some (.ins C dx fs)/\fs.lookup m=none /\
 t σ H1 fun vs H2=>sp (x ::(vs++dvs)) H2 Q E
def Zcf(K:Frag)(fd:FuncData)(ps:List Str)(ds:List Value):Prop :=
 ∀(s:Shared) (us:List Value),K.In s.heap->(us++ds).length=ps.length->BindsTo s fd ⟨us,[]⟩ (ps.zip (us++ds))
theorem Zcf.all{K:Frag}{fd:FuncData}{ps:List Str}(h:∀us:List Value,us.length=ps.length->bindArgs fd ⟨us,[]⟩=pure (ps.zip us)):Zcf K fd ps []:=fun s us _ hl=>by
 rw [List.append_nil] at hl ⊢
 exact .of_eq (h us hl)
def Ze3(CX:CXT)(X:Cx)(E:XK):Prop:=∀(pins:List (Addr×Obj)) (σ:St) (H:Hp) (s:Shared) (e:Value) (s':Shared),Inv X pins σ H s->CX X.stack H s E e s'->X.xe e s'
section
variable {X:Cx} {CX:CXT} {k:Nat} {f C:Addr} {fd:FuncData} {ps:List Str} {sp:Sp} {dvs:List V} {ds:List Value} {E:XK} {x m:Str} {p pos apos:Pos} {e o:Expr} {es:List Expr} {ta:TE} {t:TA}
theorem Zpg{pins:List (Addr×Obj)}{σ:St}{H:Hp}{s:Shared}{Q:VK}{us:List Value}{vs:List V}(F:Z1 X.prog X.w X.K X.mg X.base CX k f fd ps sp)(hr:Zao k X.A)(hb:Zcf X.K fd ps ds)(hd:Yd dvs ds)(hx:Ze3 CX X E)
  (I:Inv X pins σ H s) (r:Yd vs us) (h:sp (vs++dvs) H Q E):wpAny (model X.prog X.w) X.A (call (.ref f) us) (EP X pins σ Q) X.xe s:=by
 have r2:Yd (vs++dvs) (us++ds):=r.append hd
 have hl:(us++ds).length=ps.length:=by rw [<-r2.length];exact F.len _ _ _ _ h
 refine wpAny_call (codeAny_mono (F.run X.A X.stack s H ⟨us,[]⟩ (us++ds) (vs++dvs) Q E hr I.env0 (hb s us I.kIn hl) r2 h) fun r s' hq=>?_)
 cases r with
 | error e=>exact hx pins σ H s e s' I hq
 | ok fl =>
  cases fl with
  | ret u=>exact I.after hq
  | next=>exact False.elim hq
  | brk=>exact False.elim hq
  | cont=>exact False.elim hq
theorem Zu(F:Z1 X.prog X.w X.K X.mg X.base CX k f fd ps sp)(hr:Zao k X.A)(hg:Gl X x)(hm:X.mg x=some (.ref f))(hk:keepIn X.K (.ref f)=true)(hb:Zcf X.K fd ps ds)(hd:Yd dvs ds)(hx:Ze3 CX X E)
  (ha:PA X (e ::es) t) (hdb:(x ==("__debug__" :Str))=false:=by decide) (he:starEach (e ::es) X.env=(false,eval e X.env) ::starEach es X.env:=by rfl) (hpl:(backTo pos (starEach es X.env)).any (·.1)=false:=by rfl) :
  PE X (.Call (.Name x p) (e ::es) [] pos) (Zz7 sp dvs E t):=by
 intro pins s σ H Q I h
 refine wpAny_Call_Name_kw (Zl2 I hg hm ?_ hdb)
 refine PySem.W.callWith_K (h₀:=X.base) I.ok.mod.kin hk (thn (ha pos pins s σ H _ I h) fun us s1 ⟨vs,H1,I1,r,q⟩=>⟨I1.kIn,?_⟩) he hpl
 exact Zpg F hr hb hd hx I1 r q
theorem Zc7{pl:Sem Bool}(he:PE X o ta)(c:Cls X.K C)(hm:X1 X.K C m f)(F:Z1 X.prog X.w X.K X.mg X.base CX k f fd ps sp)(hr:Zao k X.A)(hb:Zcf X.K fd ps ds)(hd:Yd dvs ds)(hx:Ze3 CX X E)(ha:PA X (e ::es) t)
  (hst:starEach (e ::es) X.env=(false,eval e X.env) ::starEach es X.env:=by rfl) (hpl:(backTo pos (starEach es X.env)).any (·.1)=false:=by rfl)
  (ht:eval (.Call (.Attribute o m apos) (e ::es) [] pos) X.env=(do
   let ov <-eval o X.env
   standAt apos.atName
   let (f,first) <-holding [ov] (getMethod ov m pl)
   callWith pos f first (backTo pos (starEach (e ::es) X.env)) (backToKw pos (keywordEach [] X.env))):=by rfl) :
  PE X (.Call (.Attribute o m apos) (e ::es) [] pos) (Zxg C m sp dvs E ta t):=by
 intro pins s σ H Q I h
 refine PySem.W.methodCall_KW (pl:=pl) (thn (he pins s σ H _ I h) fun u s1 ⟨x,H1,I1,rx,a,dx,fs,ex,ea,l,q⟩=>?_) ht
 subst ex
 obtain rfl:u=Value.ref a:=rx
 refine Ze7 I1 ea c hm l ?_
 refine PySem.W.callWith_K (first:=[.ref a]) (h₀:=X.base) I.ok.mod.kin hm.kp (thn (ha pos pins s1 σ H1 _ I1 q) fun us s2 ⟨vs,H2,I2,r,q2⟩=>⟨I2.kIn,?_⟩) hst hpl
 exact Zpg (us:=.ref a ::us) (vs:=.ref a ::vs) F hr hb hd hx I2 (.cons rfl r) q2
theorem Zd1{pl:Sem Bool}(he:PE X o ta)(c:Cls X.K C)(hm:X1 X.K C m f)(F:Z1 X.prog X.w X.K X.mg X.base CX k f fd ps sp)(hr:Zao k X.A)(hb:Zcf X.K fd ps ds)(hd:Yd dvs ds)(hx:Ze3 CX X E)
  (ht:eval (.Call (.Attribute o m apos) [] [] pos) X.env=(do
   let ov <-eval o X.env
   standAt apos.atName
   let (f,first) <-holding [ov] (getMethod ov m pl)
   callWith pos f first (backTo pos (starEach [] X.env)) (backToKw pos (keywordEach [] X.env))):=by rfl) :
  PE X (.Call (.Attribute o m apos) [] [] pos) (Zxg C m sp dvs E ta Zwr):=by
 intro pins s σ H Q I h
 refine PySem.W.methodCall_KW (pl:=pl) (thn (he pins s σ H _ I h) fun u s1 ⟨x,H1,I1,rx,a,dx,fs,ex,ea,l,q⟩=>?_) ht
 subst ex
 obtain rfl:u=Value.ref a:=rx
 refine Ze7 I1 ea c hm l ?_
 exact PySem.W.callWith_K0 (first:=[.ref a]) I1.kIn hm.kp (Zpg (us:=[.ref a]) (vs:=[.ref a]) F hr hb hd hx I1 (.cons rfl .nil) q)
structure Mk(K:Frag)(C f:Addr):Prop where
 makes:PySem.W.makesIn K C=true
 init:findIn K (.ref C) "__init__" =some (some (.ref f))
 fn:PySem.W.isFn K (.ref f)=true
 kp:keepIn K (.ref C)=true
theorem Zt8{pins:List (Addr×Obj)}{σ:St}{H:Hp}{s:Shared}{Q:VK}{us:List Value}{vs:List V}(M:Mk X.K C f)(F:Z1 X.prog X.w X.K X.mg X.base CX k f fd ps sp)(hr:Zao (k+1) X.A)(hb:Zcf X.K fd ps ds)(hd:Yd dvs ds)
  (hx:Ze3 CX X E) (I:Inv X pins σ H s) (r:Yd vs us)
  (h:∀x dx,H x=none->H dx=none->dx≠x->sp (.ref x ::(vs++dvs)) (upd (upd H dx (.own x)) x (.ins C dx [])) (fun v H2=>v=.non/\Q (.ref x) H2) E) :
  wpAny (model X.prog X.w) X.A (call (.ref C) us) (EP X pins σ Q) X.xe s:=by
 have hq:=h (s.heap.objs.size+1) s.heap.objs.size (I.hok.fresh (Nat.le_succ _)) (I.hok.fresh (Nat.le_refl _)) (Nat.ne_of_lt (Nat.lt_succ_self _))
 have I2:=Inv.made (C:=C) I
 have r2:Yd (V.ref (s.heap.objs.size+1) ::(vs++dvs)) (Value.ref (s.heap.objs.size+1) ::(us++ds)):=.cons rfl (r.append hd)
 have hl:(Value.ref (s.heap.objs.size+1) ::us++ds).length=ps.length:=by
  have e:=r2.length
  rw [F.len _ _ _ _ hq] at e
  exact e.symm
 refine wpAny_call (Zuu (f:=f) I.kIn M.makes M.init (beq_iff_eq.mp M.fn) (codeAny_mono (F.run _ X.stack _ _ ⟨Value.ref (s.heap.objs.size+1) ::us,[]⟩ (Value.ref (s.heap.objs.size+1) ::(us++ds)) _ _ E (hr.make C us [])
  (I2.env0.make C us []) (hb _ (Value.ref (s.heap.objs.size+1) ::us) I2.kIn hl) r2 hq) fun r s' hq'=>?_))
 cases r with
 | error e=>exact hx pins σ _ _ e s' I2 hq'
 | ok fl =>
  cases fl with
  | ret u =>
   obtain ⟨v,H',I3,rv,ev,q3⟩:=I2.after hq'
   subst ev
   exact ⟨rv,⟨V.ref (s.heap.objs.size+1),H',I3,rfl,q3⟩⟩
  | next=>exact False.elim hq'
  | brk=>exact False.elim hq'
  | cont=>exact False.elim hq'
end
section
variable {X:Cx} {CX:CXT} {k:Nat} {f C:Addr} {fd:FuncData} {ps ks:List Str} {sp:Sp} {E:XK} {x m:Str} {p pos apos kpos:Pos} {e o:Expr} {es:List Expr} {kws:List Keyword} {te ta:TE} {t tk:TA} {nm:Option Str}
variable {g:List Value->List Value->List Value} {gV:List V->List V->List V}
end
structure Zt(N P:List Str)(sc:Scope):Prop where
 kind:sc.kind=.function
 co:sc.isCoroutine=false
 gen:sc.isGenerator=false
 nd:N.Nodup
 pre:N.take P.length=P
 par:∀x∈P,sc.names.lookup x=some .local\/sc.names.lookup x=some .cell
 nofree:∀y∈sc.names,y.2 ≠ .free
theorem Zls{kindOf:Str->Option NameKind}{x:Str}:∀{binds:List (Str×Value)} {m:Str->Option Value},(∀v,(x,v)∉binds)->bindL kindOf binds m x=m x
 | [],_,_=>rfl
 | (n,v) ::r,m,h=>by
  unfold bindL
  rw [Zls fun w hw=>h w (List.mem_cons_of_mem _ hw)]
  split
  ·have:x≠n:=by rintro rfl;exact h v List.mem_cons_self
   simp [this]
  ·rfl
theorem Zk9{kindOf:Str->Option NameKind}{x:Str}:∀{binds:List (Str×Value)} {m:Str->Option Value},(∀v,(x,v)∉binds)->bindC kindOf binds m x=m x
 | [],_,_=>rfl
 | (n,v) ::r,m,h=>by
  unfold bindC
  rw [Zk9 fun w hw=>h w (List.mem_cons_of_mem _ hw)]
  split
  ·rfl
  ·have:x≠n:=by rintro rfl;exact h v List.mem_cons_self
   simp [this]
theorem Zkz{kindOf:Str->Option NameKind}{x:Str}{v:Value}:∀{P:List Str} {vs:List Value} {i:Nat} {m:Str->Option Value},P.Nodup->P[i]? =some x->vs[i]? =some v->kindOf x=some .local ->
  bindL kindOf (P.zip vs) m x=some v
 | [],_,_,_,_,h,_,_=>by simp at h
 | _ ::_,[],_,_,_,_,h,_=>by simp at h
 | p ::P,w ::vs,0,m,nd,h1,h2,hk=>by
  simp at h1 h2;subst h1;subst h2
  show bindL kindOf ((p,w) ::P.zip vs) m p=_
  unfold bindL
  rw [Zls fun v hv=>(List.nodup_cons.mp nd).1 (List.of_mem_zip hv).1,if_pos hk]
  simp
 | p ::P,w ::vs,i+1,m,nd,h1,h2,hk=>by
  show bindL kindOf ((p,w) ::P.zip vs) m x=_
  unfold bindL
  exact Zkz (i:=i) (List.nodup_cons.mp nd).2 (by simpa using h1) (by simpa using h2) hk
theorem Zlm{kindOf:Str->Option NameKind}{x:Str}{v:Value}:∀{P:List Str} {vs:List Value} {i:Nat} {m:Str->Option Value},P.Nodup->P[i]? =some x->vs[i]? =some v->kindOf x≠some .local ->
  bindC kindOf (P.zip vs) m x=some v
 | [],_,_,_,_,h,_,_=>by simp at h
 | _ ::_,[],_,_,_,_,h,_=>by simp at h
 | p ::P,w ::vs,0,m,nd,h1,h2,hk=>by
  simp at h1 h2;subst h1;subst h2
  show bindC kindOf ((p,w) ::P.zip vs) m p=_
  unfold bindC
  rw [Zk9 fun v hv=>(List.nodup_cons.mp nd).1 (List.of_mem_zip hv).1,if_neg hk]
  simp
 | p ::P,w ::vs,i+1,m,nd,h1,h2,hk=>by
  show bindC kindOf ((p,w) ::P.zip vs) m x=_
  unfold bindC
  exact Zlm (i:=i) (List.nodup_cons.mp nd).2 (by simpa using h1) (by simpa using h2) hk
def start(N:List Str)(vs:List V):St:=vs.map some++List.replicate (N.length-vs.length) none
def Zm6(CX:CXT)(P:Program)(w:World)(K:Frag)(mg:Str->Option Value)(base:Heap)(N:List Str)(qual:Str)(scope:Scope)(f:Addr)(cd:Value)(A:Around)(outer:List Env)(s:Shared)(H:Hp)(E:XK):Cx where
 prog:=P
 w:=w
 K:=K
 mg:=mg
 base:=base
 A:=A.deeper (envOfC qual scope s.heap.objs.size f cd)
 N:=N
 s₀:=s
 H₀:=H
 env:=envOfC qual scope s.heap.objs.size f cd
 outer:=outer
 stack:=envOfC qual scope s.heap.objs.size f cd ::outer
 ex:=[]
 calm:=true
 fn:=fun _=>true
 pn:=[]
 xe:=fun e s'=>wpAny (model P w) (A.deeper (envOfC qual scope s.heap.objs.size f cd)) (leaving (envOfC qual scope s.heap.objs.size f cd) e) (fun _ s''=>CX outer H s E e s'') (fun e' s''=>CX outer H s E e' s'') s'
theorem Znr{sc:Scope}{n:Nat}{x:Str}(h:sc.names.lookup x=some .cell):∃c,(cellsFrom n sc.names []).lookup x=some c:=by
 have q:=PySem.W.cellsFrom_some sc.names n [] (.inl h)
 exact Option.isSome_iff_exists.mp q
theorem Zsj{CX:CXT}{P:Program}{w:World}{K:Frag}{mg:Str->Option Value}{base:Heap}{N ps:List Str}{qual:Str}{scope:Scope}{f:Addr}{cd:Value}{A:Around}{outer:List Env}{s s1:Shared}{H:Hp}{E:XK}{us:List Value}{vs:List V}
  (S:Zt N ps scope) (hd:A.handled=none) (e0:Zp1 P w K mg base A outer s H) (hl:vs.length=ps.length) (r:Yd vs us)
  (x:InCallC s s.heap.objs.size (bindL (envOfC qual scope s.heap.objs.size f cd).kindOf (ps.zip us) fun _=>none) (cellsFrom (s.heap.objs.size+1) scope.names []) (bindC (envOfC qual scope s.heap.objs.size f cd).kindOf (ps.zip us) fun _=>none) s1) :
  Inv (Zm6 CX P w K mg base N qual scope f cd A outer s H E) [] (start N vs) H s1:=by
 have hpl:ps.length<=N.length:=by have:=congrArg List.length S.pre;rw [List.length_take] at this;omega
 obtain ⟨h1,tk,rfl,hk⟩:=x.done
 have noA:∀b:Addr,b∉(Zm6 CX P w K mg base N qual scope f cd A outer s H E).ex:=fun b z=>absurd (show b∈([]:List Addr) from z) (by simp)
 refine ⟨⟨e0.mod,S.kind,rfl,rfl,Nat.le_refl _,fun y z c h1 h2=>?_,fun y hy=>?_,fun y c _ h=>?_,fun _=>hd,Around.frames_deeper e0.frames,.inr ⟨rfl,rfl⟩,fun b z=>absurd z (noA b),e0.bs,e0.bsz,fun b _ _=>noA b,fun b z=>absurd z (noA b),e0.funs,e0.frf⟩,
  rfl,e0.bare,Un.kept hk,⟨_,x.toInCall.ns,fun i y v h1 h2 h3=>?_⟩,fun y c h=>⟨_,x.cell y c h⟩,e0.hok.fresh (Nat.le_refl _),fun y c h=>?_,fun p hp=>absurd (show p∈([]:List (Addr×Obj)) from hp) (by simp),e0.hok.kept hk,?_⟩
 ·exact name_of_addr x.apart (PySem.mem_of_lookup h1) (PySem.mem_of_lookup h2)
 ·have hy:scope.names.lookup y=some .cell\/scope.names.lookup y=some .free:=hy
  rcases hy with hy|hy
  ·exact Znr hy
  ·exact absurd rfl (S.nofree _ (PySem.mem_of_lookup hy))
 ·exact Nat.le_of_lt (x.above y c (PySem.mem_of_lookup h))
 ·have hi:i<vs.length:=by
   unfold start at h2
   by_cases hi:i<vs.length
   ·exact hi
   ·rw [List.getElem?_append_right (by simpa using hi)] at h2
    rw [List.getElem?_replicate] at h2
    split at h2 <;>cases h2
  have ha:vs[i]? =some v:=by
   unfold start at h2
   rw [List.getElem?_append_left (by simpa using hi),List.getElem?_map] at h2
   cases e:vs[i]? with
   | none=>rw [e] at h2;cases h2
   | some a=>rw [e] at h2;cases h2;rfl
  obtain ⟨u,hu,rv⟩:=r.get ha
  have hp:ps[i]? =some y:=by
   rw [<-S.pre,List.getElem?_take_of_lt (by omega)];exact h1
  have ndP:ps.Nodup:=by rw [<-S.pre];exact S.nd.sublist (List.take_sublist _ _)
  refine ⟨u,rv,?_⟩
  rcases S.par y (List.mem_of_getElem? hp) with k|k
  ·exact .inl ⟨k,Zkz ndP hp hu k⟩
  ·obtain ⟨c,e⟩:=Znr (n:=s.heap.objs.size+1) k
   refine .inr ⟨.inl k,c,e,?_⟩
   have q:=x.cell y c e
   rw [Zlm ndP hp hu (by show scope.names.lookup y≠_;rw [k];decide)] at q
   exact q
 ·exact e0.hok.fresh (Nat.le_of_lt (x.above y c (PySem.mem_of_lookup h)))
 ·unfold start
  show _=N.length
  rw [List.length_append,List.length_map,List.length_replicate]
  omega
theorem Zxa{CX:CXT}{P:Program}{w:World}{K:Frag}{mg:Str->Option Value}{base:Heap}{k:Nat}{f:Addr}{name qual:Str}{params:Arguments}{body:List Stmt}{scope:Scope}{dV kV doc pm cdv ct oc:Value}{an od:Option Addr}
  {osl:Array (Option Value)} {N ps:List Str} {sp:Sp} (lk:K.lookup f=some ⟨oc,od,.func (fnOf name qual params body scope dV kV doc pm an cdv ct),osl⟩) (hcd:codeIn K cdv qual=true) (S:Zt N ps scope)
  (len:∀vs H Q E,sp vs H Q E->vs.length=ps.length)
  (hbody:∀(A:Around) (outer:List Env) (s:Shared) (H:Hp) (vs:List V) (Q:VK) (E:XK),Zao k (A.deeper (envOfC qual scope s.heap.objs.size f cdv))->sp vs H Q E ->
   ∃t,PSs (Zm6 CX P w K mg base N qual scope f cdv A outer s H E) body t/\t { nx:=fun _ H'=>Q .non H',rt:=Q } (start N vs) H) :
  Z1 P w K mg base CX (k+1) f (fnOf name qual params body scope dV kV doc pm an cdv ct) ps sp:=by
 refine ⟨len,fun A outer s H args us vs Q E hr e0 hb r hsp=>?_⟩
 have hl:=len _ _ _ _ hsp
 have KX:K.In s.heap:=e0.mod.kin.keeps fun b o e=>(e0.bs b o e).1
 have lim:s.heap.NoLimit:=e0.mod.nolimit.keeps fun b o e=>(e0.bs b o e).1
 have hkind:∀y∈ps.zip us,scope.names.lookup y.1=some .local\/(scope.names.lookup y.1=some .cell/\((cellsFrom (s.heap.objs.size+1) scope.names []).lookup y.1).isSome=true):=fun ⟨n,v⟩ hy=>by
  rcases S.par n (List.of_mem_zip hy).1 with q|q
  ·exact .inl q
  ·exact .inr ⟨q,PySem.W.cellsFrom_some _ _ _ (.inl q)⟩
 refine codeAny_call_function hr.depth (KX _ _ lk) rfl S.co S.gen rfl (PySem.W.codeRec_of KX hcd) (hb _ _ _ _ ?_)
 refine wpAny_newFunctionEnv_cells S.kind hkind fun env he s1 x=>?_
 subst he
 refine ⟨lim.keeps x.toInCall.keep,codeAny_func ?_⟩
 obtain ⟨t,ht,hq⟩:=hbody A outer s H vs Q E (hr.deeper _) hsp
 have I:Inv (Zm6 CX P w K mg base N qual scope f cdv A outer s H E) [] (start N vs) H s1:=Zsj S hr.hd e0 hl r x
 refine wpAny_mono (ht [] s1 (start N vs) H _ I hq) (fun fl s' hs=>?_) fun e s' hs=>hs
 have fin:∀{σ':St} {H':Hp} {v:V} {u:Value},Inv (Zm6 CX P w K mg base N qual scope f cdv A outer s H E) [] σ' H' s'->Yl v u->Q v H'->CE outer P w H s Q u s' :=
  fun {σ' H' v u} J rv q=>⟨v,H',J.os,J.bare,J.base,J.hok,rv,q⟩
 cases fl with
 | ret u =>
  obtain ⟨v,σ',H',J,rv,q⟩:=hs
  exact fin J rv q
 | next =>
  obtain ⟨σ',H',J,q⟩:=hs
  exact fin (v:=V.non) (u:=Value.none) J rfl q
 | brk =>
  obtain ⟨_,_,_,q⟩:=hs
  exact False.elim q
 | cont =>
  obtain ⟨_,_,_,q⟩:=hs
  exact False.elim q
end L2
namespace L2
open PySem PySem.Spec PyProof.Rows
section
variable {X:Cx} {x:Str} {p pos:Pos} {e:Expr} {es:List Expr} {t:TA} {id T:String} {r:List V->Hp->VK->Prop}
def tCB(r:List V->Hp->VK->Prop)(t:TA):TE:=fun σ H Q=>t σ H fun vs H1=>r vs H1 Q
theorem Z0(hc:Xo X (.builtin id) r)(hg:Gl X x)(hm:X.mg x=none)(hv:bootBuiltins x=some (.builtin id))(ha:PA X (e ::es) t) (hn:x ≠ "__name__" :=by decide) (hdb:(x ==("__debug__" :Str))=false:=by decide)
  (he:starEach (e ::es) X.env=(false,eval e X.env) ::starEach es X.env:=by rfl) (hpl:(backTo pos (starEach es X.env)).any (·.1)=false:=by rfl):PE X (.Call (.Name x p) (e ::es) [] pos) (tCB r t):=by
 intro pins s σ H Q I h
 refine wpAny_Call_Name_kw (Ze6 I hg hm hv ?_ hn hdb)
 exact PyProof.Rows.callWith_builtin1 (thn (ha pos pins s σ H _ I h) fun us s1 ⟨vs,H1,I1,r1,q1⟩=>hc pins s1 σ H1 vs us Q I1 r1 q1) he hpl
theorem Xx(hc:Xo X (.type T) r)(hg:Gl X x)(hm:X.mg x=none)(hv:bootBuiltins x=some (.type T))(ha:PA X (e ::es) t) (hn:x ≠ "__name__" :=by decide) (hdb:(x ==("__debug__" :Str))=false:=by decide)
  (he:starEach (e ::es) X.env=(false,eval e X.env) ::starEach es X.env:=by rfl) (hpl:(backTo pos (starEach es X.env)).any (·.1)=false:=by rfl):PE X (.Call (.Name x p) (e ::es) [] pos) (tCB r t):=by
 intro pins s σ H Q I h
 refine wpAny_Call_Name_kw (Ze6 I hg hm hv ?_ hn hdb)
 exact PyProof.Rows.callWith_type1 (thn (ha pos pins s σ H _ I h) fun us s1 ⟨vs,H1,I1,r1,q1⟩=>hc pins s1 σ H1 vs us Q I1 r1 q1) he hpl
end
end L2
namespace HT
open PySem PyProof.Rows
section
open PySem.SeqAt
open PySem.AutoSeq1 (wpAny_loadPart')
open PySem.MeetsSeq PySem.MeetsSeq2 PySem.MeetsSeq3
end
section
variable {prog:Program} {w:World} {A:Around} {E:Value->Shared->Prop} {s:Shared}
theorem cat_tup{t b:Addr}{vs ws:List Value}{Q:Value->Shared->Prop}(ht:IsTup s.heap t vs.toArray)(hb:IsTup s.heap b ws.toArray)(hv:vs≠[])
  (h1:ws=[]->Q (.ref t) s) (h2:ws≠[]->Q (.ref s.heap.objs.size) { s with heap:=s.heap.push { cls:=.type "tuple",data:=.seq (vs++ws).toArray } })
  (hsz:vs.length+ws.length<=sizeLine):wpAny (model prog w) A (binaryOp .Add (.ref t) (.ref b)) Q E s:=by
 obtain ⟨⟨cls,dd,data,sl⟩,ho,hc,n,hd⟩:=id ht
 obtain ⟨⟨cls2,dd2,data2,sl2⟩,ho2,hc2,n2,hd2⟩:=id hb
 simp only at hc hd hc2 hd2
 subst hc hd hc2 hd2
 have e:vs.toArray++ws.toArray=(vs++ws).toArray:=by simp
 by_cases hw:ws=[]
 ·exact concat_meets ⟨_,ho,rfl⟩ ⟨_,ho2,rfl⟩ noFill_tuple_add seq_tuple_add PySem.F.slot_tuple_add PySem.F.entry_tuple_add (PySem.F.args_tuple_add_2 _ _)
   (tuple_addW1 t b vs.toArray ws.toArray n n2 dd dd2 sl sl2 (by simpa using hv) (by simp [hw])) ⟨ho,ho2,h1 hw⟩
 ·refine concat_meets ⟨_,ho,rfl⟩ ⟨_,ho2,rfl⟩ noFill_tuple_add seq_tuple_add PySem.F.slot_tuple_add PySem.F.entry_tuple_add (PySem.F.args_tuple_add_2 _ _)
   (tuple_addW2 t b vs.toArray ws.toArray n n2 dd dd2 sl sl2 (by simpa using hv) (by simpa using hw) (by rw [List.size_toArray,List.size_toArray];exact hsz)) ⟨ho,ho2,?_⟩
  rw [e]
  exact h2 hw
def sIx(n d:Nat):Option Int->Nat
 | none=>d
 | some v=>if v<0 then (v+(n:Int)).toNat else min v.toNat n
theorem sIx_none(n d:Nat):sIx n d none=d:=rfl
theorem sIx_nat(n d k:Nat):sIx n d (some (k:Int))=min k n:=by
 show (if (k:Int)<0 then ((k:Int)+(n:Int)).toNat else min (k:Int).toNat n)=min k n
 rw [if_neg (by omega),Int.toNat_natCast]
theorem Zyb(n d:Nat)(hd:d<=n)(o:Option Int):sIx n d o<=n:=by
 cases o with
 | none=>exact hd
 | some v =>
  show (if v<0 then (v+(n:Int)).toNat else min v.toNat n)<=n
  by_cases hv:v<0
  ·rw [if_pos hv];omega
  ·rw [if_neg hv];exact Nat.min_le_right _ _
theorem Zqy(v:Int)(n d:Nat):(if v<0 then max (v+(n:Int)) 0 else min v (n:Int))=((sIx n d (some v):Nat):Int):=by
 show (if v<0 then max (v+(n:Int)) 0 else min v (n:Int))=(((if v<0 then (v+(n:Int)).toNat else min v.toNat n):Nat):Int)
 by_cases hv:v<0
 ·simp only [if_pos hv];omega
 ·simp only [if_neg hv];omega
theorem Zo3(lo hi:Option Int)(n:Nat):Builtin.Slice.sliceAdjust lo hi 1 (n:Int)=(((sIx n 0 lo:Nat):Int),((sIx n n hi:Nat):Int)):=by
 have h1:¬((1:Int)<0):=by omega
 unfold Builtin.Slice.sliceAdjust
 simp only [h1,if_false]
 refine Prod.ext ?_ ?_
 ·cases lo with
  | none=>rfl
  | some v=>exact Zqy v n 0
 ·cases hi with
  | none=>rfl
  | some v=>exact Zqy v n n
theorem Zpo(i j:Nat):Builtin.Slice.slicePlaces (i:Int) (j:Int) 1=j-i:=by
 unfold Builtin.Slice.slicePlaces
 have h1:(1:Int) >0:=by omega
 simp only [h1,if_true,Int.ediv_one]
 split <;>omega
theorem Zik{v:Value}{o:Option Int}{Q:Option Int->Shared->Prop}(p:IsPart v o)(h:Q o s):wpAny (model prog w) A (Builtin.Slice.slicePartIndex v) Q E s:=by
 cases p with
 | none=>exact slicePart_none h
 | int i t=>exact slicePart_int h
theorem Zgr{sl:Addr}{vl vu:Value}{lo hi:Option Int}{n:Nat}{Q:Int×Int×Nat->Shared->Prop}(hs:s.heap.IsSliceOf sl vl vu .none)(pl:IsPart vl lo)(pu:IsPart vu hi)
  (h:Q (((sIx n 0 lo:Nat):Int),1,sIx n n hi-sIx n 0 lo) s):wpAny (model prog w) A (Builtin.Slice.sliceApplied (.ref sl) (pure (n:Int))) Q E s:=by
 obtain ⟨os,hos,hcs,hds⟩:=id hs
 unfold Builtin.Slice.sliceApplied Builtin.Slice.sliceFields
 refine wpAny_bind (wpAny_bind (wpAny_field hos hds (x:=vl) rfl (wpAny_bind (wpAny_field hos hds (x:=vu) rfl (wpAny_bind (wpAny_field hos hds (x:=.none) rfl (wpAny_pure ?_)))))))
 refine wpAny_bind (slicePart_none ?_)
 show wpAny _ _ (if ((1:Int) ==0)=true then _ else _) _ _ s
 rw [if_neg (by decide)]
 refine wpAny_bind (Zik pl (wpAny_bind (Zik pu (wpAny_bind (wpAny_pure ?_)))))
 show wpAny _ _ (match Builtin.Slice.sliceAdjust lo hi 1 (n:Int) with | (lo,hi)=>pure (lo,(1:Int),Builtin.Slice.slicePlaces lo hi 1)) _ _ s
 rw [Zo3 lo hi n]
 show wpAny _ _ (pure (((sIx n 0 lo:Nat):Int),(1:Int),Builtin.Slice.slicePlaces ((sIx n 0 lo:Nat):Int) ((sIx n n hi:Nat):Int) 1)) _ _ s
 rw [Zpo]
 exact wpAny_pure h
theorem Ztt(xs:Array Value)(i k:Nat):((List.range k).filterMap fun (m:Nat)=>xs[((i:Int)+(m:Int) * 1).toNat]?).toArray=((xs.toList.drop i).take k).toArray:=by
 have e:(fun (m:Nat)=>xs[((i:Int)+(m:Int) * 1).toNat]?)=fun m=>xs[i+m]? :=by
  funext m
  have:((i:Int)+(m:Int) * 1).toNat=i+m:=by omega
  rw [this]
 rw [e]
 have:=pick_run xs i k
 rw [List.filterMap_map] at this
 have e2:((fun x=>xs[x]?) ∘ fun x=>i+x)=fun m=>xs[i+m]? :=rfl
 rw [e2] at this
 rw [this]
theorem getItem_tuple_cut{t sl:Addr}{items:Array Value}{vl vu:Value}{lo hi:Option Int}{Q:Value->Shared->Prop}(ht:IsTup s.heap t items)(hs:s.heap.IsSliceOf sl vl vu .none)(pl:IsPart vl lo)(pu:IsPart vu hi)
  (hw:¬(sIx items.size 0 lo=0/\sIx items.size items.size hi=items.size))
  (h:Q (.ref s.heap.objs.size) { s with heap:=s.heap.push { cls:=.type "tuple",data:=.seq ((items.toList.drop (sIx items.size 0 lo)).take (sIx items.size items.size hi-sIx items.size 0 lo)).toArray } })
  (hsz:items.size<=sizeLine):wpAny (model prog w) A (getItem (.ref t) (.ref sl)) Q E s:=by
 have htake:sizeOk (.seq ((items.toList.drop (sIx items.size 0 lo)).take (sIx items.size items.size hi-sIx items.size 0 lo)).toArray):=by
  show ((items.toList.drop (sIx items.size 0 lo)).take (sIx items.size items.size hi-sIx items.size 0 lo)).toArray.size<=sizeLine
  rw [List.size_toArray,List.length_take,List.length_drop,Array.length_toList]
  omega
 have hj:sIx items.size items.size hi<=items.size:=Zyb _ _ (Nat.le_refl _) hi
 obtain ⟨os,hos,hcs,hds⟩:=id hs
 have hTs:s.TypeIs (.ref sl) "slice" :=⟨os,hos,hcs⟩
 unfold getItem
 try with_reducible refine wpAny_holding ?_
 first | refine wpAny_bind (wpAny_pure ?_) | skip
 refine wpAny_bind (wpAny_sequenceKey ht.typeIs (by decide) ?_)
 refine wpAny_bind (wpAny_callSpecial?_slot (name:=Str.ofString "__getitem__") ht.typeIs PyProof.Rows.slot_tuple_getitem
  (wpAny_call_entry PyProof.Rows.slot_tuple_getitem ht.typeIs entry_tuple_getitem ?_ (args_tuple_getitem _ _)))
 show wpAny _ _ (Builtin.Tuple.tupleItemsOf (.ref t) >>=_) _ _ s
 refine wpAny_bind (tupleItemsOf_ ht ?_)
 refine wpAny_bind (wpAny_typeOf hTs ?_)
 rw [if_pos (by decide)]
 refine wpAny_bind (Zgr hs pl pu ?_)
 have hno:¬((((sIx items.size 0 lo:Nat):Int) ==0 && (1:Int) ==1 && (sIx items.size items.size hi-sIx items.size 0 lo) ==items.size)=true):=by
  intro q
  rw [Bool.and_eq_true,Bool.and_eq_true] at q
  have q1:((sIx items.size 0 lo:Nat):Int)=0:=eq_of_beq q.1.1
  have q2:sIx items.size items.size hi-sIx items.size 0 lo=items.size:=eq_of_beq q.2
  exact hw ⟨by omega,by omega⟩
 show wpAny _ _ (if (((sIx items.size 0 lo:Nat):Int) ==0 && (1:Int) ==1 && (sIx items.size items.size hi-sIx items.size 0 lo) ==items.size)=true then _ else _) _ _ s
 rw [if_neg hno,Ztt]
 first
  | exact wpAny_bind (m:=Builtin.Tuple.tupleExact _) (wpAny_newObj_type (wpAny_pure ⟨_,rfl,wpAny_pure h⟩) htake)
  | exact wpAny_bind (m:=Builtin.Tuple.tupleExact _) (wpAny_newObj_type (wpAny_bind (wpAny_pure (wpAny_pure ⟨_,rfl,wpAny_pure h⟩))) htake)
  | exact wpAny_bind (wpAny_bind (m:=Builtin.Tuple.tupleExact _) (wpAny_newObj_type (wpAny_pure (wpAny_pure ⟨_,rfl,wpAny_pure h⟩)) htake))
  | exact wpAny_bind (wpAny_bind (m:=Builtin.Tuple.tupleExact _) (wpAny_newObj_type (wpAny_pure ⟨_,rfl,wpAny_pure h⟩) htake))
end
end HT
namespace L2
open PySem PySem.Spec PyProof.Rows
abbrev TO:=St->Hp->(Option Int->Hp->Prop)->Prop
def PO(X:Cx)(e:Option Expr)(t:TO):Prop :=
 ∀(pins:List (Addr×Obj)) (s:Shared) (σ:St) (H:Hp) (Q:Option Int->Hp->Prop),Inv X pins σ H s->t σ H Q ->
  wpAny (model X.prog X.w) X.A (evalPart e X.env) (fun u s'=>∃o H',Inv X pins σ H' s'/\IsPart u o/\Q o H') X.xe s
def Zw7:TO:=fun _ H Q=>Q none H
def Yau(t:TE):TO:=fun σ H Q=>t σ H fun x H1=>∃i,x=.int i/\Q (some i) H1
section
variable {X:Cx} {e:Expr} {te:TE} {lo hi:Option Expr} {tl th:TO} {pos p2:Pos}
theorem Yz:PO X none Zw7:=by
 intro pins s σ H Q I h
 rw [evalPart_none]
 exact wpAny_pure ⟨none,H,I,.none,h⟩
theorem Yy(h:PE X e te):PO X (some e) (Yau te):=by
 intro pins s σ H Q I hw
 rw [evalPart_some]
 refine thn (h pins s σ H _ I hw) fun u s1 ⟨x,H1,I1,r1,q1⟩=>?_
 obtain ⟨i,rfl,q⟩:=q1
 obtain ⟨t,rfl⟩:=r1
 exact ⟨some i,H1,I1,.int i t,q⟩
def SlR(X:Cx)(r:V->Option Int->Option Int->Hp->VK->Prop):Prop :=
 ∀(pins:List (Addr×Obj)) (s:Shared) (σ:St) (H:Hp) (x:V) (v vl vu:Value) (lo hi:Option Int) (sl:Addr) (Q:VK),Inv X pins σ H s->Yl x v->s.heap.IsSliceOf sl vl vu .none->IsPart vl lo->IsPart vu hi->r x lo hi H Q ->
  ∃T id,typeLookup (.type T) "__getitem__" =pure (some (.builtin id))/\s.TypeIs v T/\wpAny (model X.prog X.w) X.A (getItem v (.ref sl)) (EP X pins σ Q) X.xe s
theorem SlR.or{r r':V->Option Int->Option Int->Hp->VK->Prop}(h:SlR X r)(h':SlR X r'):SlR X (fun x lo hi H Q=>r x lo hi H Q\/r' x lo hi H Q):=by
 intro pins s σ H x v vl vu lo hi sl Q I rx hs pl pu q
 rcases q with q|q
 ·exact h pins s σ H x v vl vu lo hi sl Q I rx hs pl pu q
 ·exact h' pins s σ H x v vl vu lo hi sl Q I rx hs pl pu q
def tSl(r:V->Option Int->Option Int->Hp->VK->Prop)(te:TE)(tl th:TO):TE:=fun σ H Q=>te σ H fun x H1=>tl σ H1 fun l H2=>th σ H2 fun u H3=>r x l u H3 Q
theorem Yr{r:V->Option Int->Option Int->Hp->VK->Prop}(hr:SlR X r)(he:PE X e te)(hl:PO X lo tl)(hu:PO X hi th):PE X (.Subscript e (.Slice lo hi none p2) pos) (tSl r te tl th):=by
 intro pins s σ H Q I h
 refine Subscript_ (thn (he pins s σ H _ I h) fun v s1 ⟨x,H1,I1,r1,q1⟩=>?_)
 refine wpAny_Slice (thn (hl pins s1 σ H1 _ I1 q1) fun vl s2 ⟨l,H2,I2,pl,q2⟩=>thn (hu pins s2 σ H2 _ I2 q2) fun vu s3 ⟨u,H3,I3,pu,q3⟩=>?_)
 rw [evalPart_none]
 refine wpAny_pure ?_
 have I4:Inv X pins σ H3 { s3 with heap:=s3.heap.push { cls:=.type "slice",data:=.fields #[vl,vu,.none] } }:=I3.kept (t':=s3.toks) fun b ob q=>Heap.get?_push_of_some _ q
 obtain ⟨T,id,hT,ht,hg⟩:=hr pins { s3 with heap:=s3.heap.push { cls:=.type "slice",data:=.fields #[vl,vu,.none] } } σ H3 x v vl vu l u s3.heap.objs.size Q I4 r1 (Heap.IsSliceOf.new ..) pl pu q3
 show wpAny (model X.prog X.w) X.A (subscriptTail e (.Slice lo hi none p2) v (.ref s3.heap.objs.size)) (EP X pins σ Q) X.xe { s3 with heap:=s3.heap.push { cls:=.type "slice",data:=.fields #[vl,vu,.none] } }
 exact tail_any (ops:=[.ref s3.heap.objs.size,v]) ht hT hg (by with_unfolding_all rfl)
def Zfd(xs:List V)(lo hi:Option Int):List V:=(xs.drop (HT.sIx xs.length 0 lo)).take (HT.sIx xs.length xs.length hi-HT.sIx xs.length 0 lo)
theorem Zhb(xs:List V)(lo hi:Option Int):(Zfd xs lo hi).length<=xs.length:=by
 unfold Zfd
 rw [List.length_take,List.length_drop]
 omega
def Ybn(K:Frag):V->Option Int->Option Int->Hp->VK->Prop:=fun x lo hi H Q=>∃a xs,x=.ref a/\SqT K H a xs /\
 ¬(HT.sIx xs.length 0 lo=0/\HT.sIx xs.length xs.length hi=xs.length)/\∀p,H p=none->Q (.ref p) (upd H p (.tup (Zfd xs lo hi)))
theorem Zyn:SlR X (Ybn X.K):=by
 intro pins s σ H x v vl vu lo hi sl Q I rx hs pl pu h
 obtain ⟨a,xs,rfl,hx,hw,q⟩:=h
 cases rx
 obtain ⟨its,r,ht,hz⟩:=I.tuple hx
 have hlen:its.toArray.size=xs.length:=by rw [List.size_toArray];exact r.length.symm
 refine ⟨"tuple",_,PyProof.Rows.slot_tuple_getitem.lookup,ht.typeIs,?_⟩
 refine HT.getItem_tuple_cut ht hs pl pu (by rw [hlen];exact hw) ?_ (by rw [hlen];exact hz)
 rw [hlen]
 refine ⟨.ref s.heap.objs.size,_,I.laid (t':=s.toks) (o:=.tup (Zfd xs lo hi)) (fun b ob q=>Heap.get?_push_of_some _ q) (Nat.le_refl _) ?_,rfl,q _ (I.hok.fresh (Nat.le_refl _))⟩
 exact ⟨Nat.le_trans (Zhb xs lo hi) hz,_,(r.drop (HT.sIx xs.length 0 lo)).take (HT.sIx xs.length xs.length hi-HT.sIx xs.length 0 lo),IsTup.new _ _⟩
def Yaq(K:Frag):R2:=fun x y H Q=>∃a b xs ys,x=.ref a/\y=.ref b/\SqT K H a xs/\SqT K H b ys/\xs≠[]/\xs.length+ys.length<=sizeLine /\
 (ys=[]->Q (.ref a) H)/\(ys≠[]->∀p,H p=none->Q (.ref p) (upd H p (.tup (xs++ys))))
theorem Yd.nil_iff{xs:List V}{us:List Value}(r:Yd xs us):us=[]↔xs=[]:=by
 cases r with
 | nil=>simp
 | cons _ _=>simp
theorem Zqo:OpR X (binaryOp .Add) (Yaq X.K):=by
 intro pins s σ H x y v u Q I rx ry h
 obtain ⟨a,b,xs,ys,rfl,rfl,ha,hb,hx,hz,q1,q2⟩:=h
 cases rx
 cases ry
 obtain ⟨its,r1,p1,_⟩:=I.tuple ha
 obtain ⟨its2,r2,p2,_⟩:=I.tuple hb
 refine HT.cat_tup p1 p2 (fun z=>hx (r1.nil_iff.mp z)) (fun z=>⟨.ref a,H,I,rfl,q1 (r2.nil_iff.mp z)⟩) (fun z=>?_) (by rw [<-r1.length,<-r2.length];exact hz)
 refine ⟨.ref s.heap.objs.size,_,I.laid (t':=s.toks) (o:=.tup (xs++ys)) (fun b ob q=>Heap.get?_push_of_some _ q) (Nat.le_refl _) ?_,rfl,q2 (fun w=>z (r2.nil_iff.mpr w)) _ (I.hok.fresh (Nat.le_refl _))⟩
 exact ⟨by rw [List.length_append];exact hz,_,r1.append r2,IsTup.new _ _⟩
end
end L2
namespace L2
open PySem PySem.Spec PyProof.Rows
def ixN(n:Nat)(i:Int):Option Nat:=if 0<=i then (if i<n then some i.toNat else none) else if -(n:Int)<=i then some (i+n).toNat else none
def atI{α:Type}(xs:List α)(i:Int):Option α:=(ixN xs.length i).bind fun j=>xs[j]?
theorem Zwh{n:Nat}{i:Int}{j:Nat}(h:ixN n i=some j):seqIndex? i n=some j/\j<n/\-(n:Int)<=i/\i<n:=by
 unfold ixN at h
 by_cases h0:0<=i
 ·rw [if_pos h0] at h
  by_cases h1:i<n
  ·rw [if_pos h1] at h
   have e:i.toNat=j:=Option.some.inj h
   exact ⟨by rw [seqIndex_of h0 h1,e],by omega,by omega,h1⟩
  ·rw [if_neg h1] at h;cases h
 ·rw [if_neg h0] at h
  by_cases h1:-(n:Int)<=i
  ·rw [if_pos h1] at h
   have e:(i+n).toNat=j:=Option.some.inj h
   exact ⟨by rw [seqIndex_neg (by omega) h1,e],by omega,h1,by omega⟩
  ·rw [if_neg h1] at h;cases h
theorem Zlv{α:Type}{xs:List α}{i:Int}{v:α}(h:atI xs i=some v):∃j,seqIndex? i xs.length=some j/\xs[j]? =some v/\j<xs.length/\-(xs.length:Int)<=i/\i<xs.length:=by
 unfold atI at h
 cases e:ixN xs.length i with
 | none=>rw [e] at h;cases h
 | some j =>
  rw [e] at h
  obtain ⟨h1,h2,h3,h4⟩:=Zwh e
  exact ⟨j,h1,h,h2,h3,h4⟩
theorem Zn{α:Type}{xs:List α}{j:Nat}{v:α}(h:xs[j]? =some v):atI xs (j:Int)=some v:=by
 have hj:j<xs.length:=(List.getElem?_eq_some_iff.mp h).1
 have e:ixN xs.length (j:Int)=some j:=by
  unfold ixN
  rw [if_pos (by omega),if_pos (by omega)];simp
 unfold atI;rw [e];exact h
def Zvl(b:Expr):Prop:=∀o i,subscripted b false o i=operate [o,i] (getItem o i)
def IxR(X:Cx)(r:R2):Prop :=
 ∀(value slice:Expr) (pins:List (Addr×Obj)) (s:Shared) (σ:St) (H:Hp) (x y:V) (v u:Value) (Q:VK),Inv X pins σ H s->Yl x v->Yl y u->r x y H Q ->
  subscripted slice false v u=operate [v,u] (getItem v u)->wpAny (model X.prog X.w) X.A (subscriptTail value slice v u) (EP X pins σ Q) X.xe s
def MtR(X:Cx)(id:String)(r:V->List V->Hp->VK->Prop):Prop :=
 ∀(pins:List (Addr×Obj)) (s:Shared) (σ:St) (H:Hp) (x:V) (xs:List V) (v:Value) (us:List Value) (Q:VK),Inv X pins σ H s->Yl x v->Yd xs us->r x xs H Q ->
  wpAny (model X.prog X.w) X.A (call (.builtin id) (v ::us)) (EP X pins σ Q) X.xe s
section
variable {X:Cx} {a b:Expr} {ta tb:TE} {pos:Pos}
theorem IxR.or{r r':R2}(h:IxR X r)(h':IxR X r'):IxR X (fun x y H Q=>r x y H Q\/r' x y H Q):=by
 intro value slice pins s σ H x y v u Q I rx ry q hs
 rcases q with q|q
 ·exact h value slice pins s σ H x y v u Q I rx ry q hs
 ·exact h' value slice pins s σ H x y v u Q I rx ry q hs
theorem Zp{r:R2}(hr:IxR X r)(ha:PE X a ta)(hb:PE X b tb)(hs:Zvl b):PE X (.Subscript a b pos) (tOp r ta tb):=by
 intro pins s σ H Q I h
 exact Subscript_ (Zy7 ha hb I h fun v u s2 x y H2 I2 rx ry q=>hr a b pins s2 σ H2 x y v u Q I2 rx ry q (hs _ _))
def Zz9(K:Frag):R2:=fun x y H Q=>∃p xs i v,x=.ref p/\y=.int i/\SqL K H p xs/\atI xs i=some v/\Q v H
def Yao(K:Frag):R2:=fun x y H Q=>∃p xs i v,x=.ref p/\y=.int i/\SqT K H p xs/\atI xs i=some v/\Q v H
def Yak:R2:=fun x y H Q=>∃z i c,x=.str z/\y=.int i/\z.length<=sizeLine/\atI z.cps.toList i=some c/\Q (.str ⟨#[c]⟩) H
theorem Zwg:IxR X (Zz9 X.K):=by
 intro value slice pins s σ H x y v u Q I rx ry h hs
 obtain ⟨p,xs,i,z,rfl,rfl,hq,he,q⟩:=h
 cases rx
 obtain ⟨t,rfl⟩:=ry
 obtain ⟨its,r,pl,hz⟩:=I.list hq
 obtain ⟨j,h1,h2,h3,h4,h5⟩:=Zlv he
 obtain ⟨w,ew,rw'⟩:=r.get h2
 have hl:=r.length
 have hn:=Zgm
 have fin:EP X pins σ Q w s:=⟨z,H,I,rw',q⟩
 by_cases h0:0<=i
 ·have hj:i.toNat=j:=by
   rw [seqIndex_of h0 h5] at h1
   exact Option.some.inj h1
  exact item_listR pl.isList h0 (by omega) (by rw [hj];simpa using ew) fin hs
 ·have hj:(i+(its.toArray.size:Int)).toNat=j:=by
   rw [seqIndex_neg (by omega) h4] at h1
   rw [List.size_toArray,<-hl]
   exact Option.some.inj h1
  exact subscriptTail_builtinR (x:=w) pl.isList.typeIs slot_list_getitem.lookup
   (wpAny_getItem_list_neg (Q:=fun r s'=>r=w/\EP X pins σ Q r s') pl.isList (by omega) (by rw [List.size_toArray] <;>omega) (by omega) (by rw [hj];simpa using ew) ⟨rfl,fin⟩) hs
theorem Zyt:IxR X (Yao X.K):=by
 intro value slice pins s σ H x y v u Q I rx ry h hs
 obtain ⟨p,xs,i,z,rfl,rfl,hq,he,q⟩:=h
 cases rx
 obtain ⟨t,rfl⟩:=ry
 obtain ⟨its,r,pl,hz⟩:=I.tuple hq
 obtain ⟨j,h1,h2,h3,h4,h5⟩:=Zlv he
 obtain ⟨w,ew,rw'⟩:=r.get h2
 have hl:=r.length
 have hn:=Zgm
 have fin:EP X pins σ Q w s:=⟨z,H,I,rw',q⟩
 exact subscriptTail_builtinR (x:=w) pl.typeIs slot_tuple_getitem.lookup
  (getItem_tuple (j:=j) (Q:=fun r s'=>r=w/\EP X pins σ Q r s') pl (by omega) (by omega) (by rw [List.size_toArray,<-hl];exact h1) (by simpa using ew) ⟨rfl,fin⟩) hs
theorem Zyj:IxR X Yak:=by
 intro value slice pins s σ H x y v u Q I rx ry h hs
 obtain ⟨z,i,c,rfl,rfl,hz,he,q⟩:=h
 obtain ⟨t,rfl⟩:=rx
 obtain ⟨t',rfl⟩:=ry
 obtain ⟨j,h1,h2,h3,h4,h5⟩:=Zlv he
 have hl:z.cps.toList.length=z.length:=by simp [Str.length]
 rw [hl] at h1 h4 h5
 have hn:=Zgm
 exact tail_any (typeIs_str s z t) slot_str_getitem.lookup (getItem_str (c:=c) (by
  have e1:decide (i < -(2 ^ 63:Int))=false:=decide_eq_false (by omega)
  have e2:decide (i ≥ 2 ^ 63)=false:=decide_eq_false (by omega)
  rw [e1,e2,Bool.or_false]) (by rw [h1];simpa using h2) ⟨.str ⟨#[c]⟩,H,I.tok _,⟨_,rfl⟩,q⟩) hs
def rIx(K:Frag):R2:=fun x y H Q=>Zz9 K x y H Q\/Yao K x y H Q\/Yak x y H Q
theorem Zk:IxR X (rIx X.K):=Zwg.or (Zyt.or Zyj)
theorem Zmi(lo hi:Option Int)(n:Nat):(sliceBounds lo hi none n).1=((HT.sIx n 0 lo:Nat):Int)/\(sliceBounds lo hi none n).2.1=((HT.sIx n n hi:Nat):Int)/\(sliceBounds lo hi none n).2.2=1:=by
 refine ⟨?_,?_,rfl⟩
 ·cases lo with
  | none=>simp [sliceBounds,HT.sIx]
  | some i =>
   simp only [sliceBounds,HT.sIx,Option.getD_none,show (1:Int) >0 by decide,if_true]
   by_cases h:i<0
   ·simp only [h,if_true] <;>omega
   ·simp only [h,if_false] <;>omega
 ·cases hi with
  | none=>simp [sliceBounds,HT.sIx]
  | some i =>
   simp only [sliceBounds,HT.sIx,Option.getD_none,show (1:Int) >0 by decide,if_true]
   by_cases h:i<0
   ·simp only [h,if_true] <;>omega
   ·simp only [h,if_false] <;>omega
theorem Zkk(its:List Value)(lo hi:Option Int):slicePick its.toArray lo hi none=((its.drop (HT.sIx its.length 0 lo)).take (HT.sIx its.length its.length hi-HT.sIx its.length 0 lo)).toArray:=by
 obtain ⟨h1,h2,h3⟩:=Zmi lo hi its.toArray.size
 unfold slicePick
 rw [h1,h2,h3]
 simp only [sliceRange_one,pick_run,List.size_toArray] <;>rfl
def Ybw(K:Frag):V->Option Int->Option Int->Hp->VK->Prop:=fun x lo hi H Q=>∃a xs,x=.ref a/\SqL K H a xs/\∀p,H p=none->Q (.ref p) (upd H p (.lst (Zfd xs lo hi)))
theorem Zvq:SlR X (Ybw X.K):=by
 intro pins s σ H x v vl vu lo hi sl Q I rx hs pl pu h
 obtain ⟨a,xs,rfl,hx,q⟩:=h
 cases rx
 obtain ⟨its,r,ht,hz⟩:=I.list hx
 have hlen:=r.length
 refine ⟨"list",_,slot_list_getitem.lookup,ht.isList.typeIs,?_⟩
 refine wpAny_getItem_list_slice ht.isList hs pl pu .none (by simp) ?_ (by rw [List.size_toArray] <;>omega)
 rw [Zkk,<-hlen]
 refine ⟨.ref s.heap.objs.size,_,I.laid (t':=s.toks) (o:=.lst (Zfd xs lo hi)) (fun b ob q=>Heap.get?_push_of_some _ q) (Nat.le_refl _) ?_,rfl,q _ (I.hok.fresh (Nat.le_refl _))⟩
 exact ⟨Nat.le_trans (Zhb xs lo hi) hz,_,0,(r.drop (HT.sIx xs.length 0 lo)).take (HT.sIx xs.length xs.length hi-HT.sIx xs.length 0 lo),Heap.get?_push_size _ rfl⟩
def Zd4:V->Bool
 | .non=>true
 | .bl _=>true
 | .int _=>true
 | .str _=>true
 | _=>false
def eqV:V->V->Bool
 | .non,.non=>true
 | .bl a,.bl b=>a ==b
 | .bl a,.int b=>(if a then 1 else 0) ==b
 | .int a,.bl b=>a ==(if b then 1 else 0)
 | .int a,.int b=>a ==b
 | .str a,.str b=>a ==b
 | _,_=>false
theorem Zie{A:Around}{s:Shared}{y x:V}{u v:Value}(ry:Yl y u)(rx:Yl x v)(fy:Zd4 y=true)(fx:Zd4 x=true):SeqAt.EqAt A s u v (eqV y x):=by
 cases y with
 | non =>
  cases ry
  cases x with
  | non=>cases rx;exact SeqAt.EqAt.same _
  | bl b=>cases rx;exact SeqAt.EqAt.none_bool b
  | int b=>obtain ⟨t,rfl⟩:=rx;exact SeqAt.EqAt.none_int b t
  | str b=>obtain ⟨t,rfl⟩:=rx;exact SeqAt.EqAt.none_str b t
  | _=>exact absurd (show false=true from fx) Bool.false_ne_true
 | bl a =>
  cases ry
  cases x with
  | non=>cases rx;exact SeqAt.EqAt.bool_none a
  | bl b=>cases rx;exact SeqAt.EqAt.bool_bool a b
  | int b=>obtain ⟨t,rfl⟩:=rx;exact SeqAt.EqAt.bool_int a b t
  | str b=>obtain ⟨t,rfl⟩:=rx;exact SeqAt.EqAt.bool_str a b t
  | _=>exact absurd (show false=true from fx) Bool.false_ne_true
 | int a =>
  obtain ⟨t',rfl⟩:=ry
  cases x with
  | non=>cases rx;exact SeqAt.EqAt.int_none a t'
  | bl b=>cases rx;exact SeqAt.EqAt.int_bool a t' b
  | int b=>obtain ⟨t,rfl⟩:=rx;exact SeqAt.EqAt.int_int a t' b t
  | str b=>obtain ⟨t,rfl⟩:=rx;exact SeqAt.EqAt.int_str a t' b t
  | _=>exact absurd (show false=true from fx) Bool.false_ne_true
 | str a =>
  obtain ⟨t',rfl⟩:=ry
  cases x with
  | non=>cases rx;exact SeqAt.EqAt.str_none a t'
  | bl b=>cases rx;exact SeqAt.EqAt.str_bool a t' b
  | int b=>obtain ⟨t,rfl⟩:=rx;exact SeqAt.EqAt.str_int a t' b t
  | str b=>obtain ⟨t,rfl⟩:=rx;exact SeqAt.EqAt.str_str a t' b t
  | _=>exact absurd (show false=true from fx) Bool.false_ne_true
 | _=>exact absurd (show false=true from fy) Bool.false_ne_true
def eqU(x:V)(u:Value):Bool:=match u with
 | .none=>eqV .non x
 | .bool b=>eqV (.bl b) x
 | .int i _=>eqV (.int i) x
 | .str z _=>eqV (.str z) x
 | _=>false
theorem Zu6{x y:V}{u:Value}(r:Yl y u)(f:Zd4 y=true):eqU x u=eqV y x:=by
 cases y with
 | non=>cases r;rfl
 | bl b=>cases r;rfl
 | int i=>obtain ⟨t,rfl⟩:=r;rfl
 | str z=>obtain ⟨t,rfl⟩:=r;rfl
 | _=>exact absurd (show false=true from f) Bool.false_ne_true
theorem Zfy{x:V}:∀{xs:List V} {us:List Value},Yd xs us->xs.all Zd4=true->us.any (eqU x)=xs.any fun y=>eqV y x
 | _,_,.nil,_=>rfl
 | y ::xs,u ::us,.cons r t,f=>by
  rw [List.all_cons,Bool.and_eq_true] at f
  rw [List.any_cons,List.any_cons,Zu6 r f.1,Zfy t f.2]
theorem Zdz{A:Around}{s:Shared}{x:V}{v:Value}(rx:Yl x v)(fx:Zd4 x=true):∀{xs:List V} {us:List Value},Yd xs us->xs.all Zd4=true->∀u∈us,SeqAt.EqAt A s u v (eqU x u)
 | _,_,.nil,_=>fun u hu=>by cases hu
 | y ::xs,u ::us,.cons r t,f=>fun u' hu=>by
  rw [List.all_cons,Bool.and_eq_true] at f
  rcases List.mem_cons.mp hu with rfl|hu
  ·rw [Zu6 r f.1];exact Zie r rx f.1 fx
  ·exact Zdz rx fx t f.2 u' hu
def inV(x:V)(xs:List V):Bool:=xs.any fun y=>eqV y x
def rIn(K:Frag)(neg:Bool):R2:=fun x y H Q=>∃p xs,y=.ref p/\(SqL K H p xs\/SqT K H p xs)/\Zd4 x=true/\xs.all Zd4=true/\Q (.bl (if neg then !inV x xs else inV x xs)) H
theorem Zsn:OpR X (compareOp .In) (rIn X.K false):=by
 intro pins s σ H x y v u Q I rx ry h
 obtain ⟨p,xs,rfl,hq,fx,fs,q⟩:=h
 cases ry
 rcases hq with hq|hq
 ·obtain ⟨its,r,pl,hz⟩:=I.list hq
  refine SeqAt.in_listAt (eqU x) pl.isList (fun w hw=>Zdz rx fx r fs w (by simpa using hw)) ⟨.bl _,H,I,rfl,?_⟩
  rw [show its.toArray.any (eqU x)=its.any (eqU x) by simp,Zfy r fs]
  exact q
 ·obtain ⟨its,r,pl,hz⟩:=I.tuple hq
  refine SeqAt.in_tupleAt (eqU x) pl (fun w hw=>Zdz rx fx r fs w (by simpa using hw)) ⟨.bl _,H,I,rfl,?_⟩
  rw [show its.toArray.any (eqU x)=its.any (eqU x) by simp,Zfy r fs]
  exact q
theorem Zm8:OpR X (compareOp .NotIn) (rIn X.K true):=by
 intro pins s σ H x y v u Q I rx ry h
 obtain ⟨p,xs,rfl,hq,fx,fs,q⟩:=h
 cases ry
 rcases hq with hq|hq
 ·obtain ⟨its,r,pl,hz⟩:=I.list hq
  refine SeqAt.notIn_listAt (eqU x) pl.isList (fun w hw=>Zdz rx fx r fs w (by simpa using hw)) ⟨.bl _,H,I,rfl,?_⟩
  rw [show its.toArray.any (eqU x)=its.any (eqU x) by simp,Zfy r fs]
  exact q
 ·obtain ⟨its,r,pl,hz⟩:=I.tuple hq
  refine SeqAt.notIn_tupleAt (eqU x) pl (fun w hw=>Zdz rx fx r fs w (by simpa using hw)) ⟨.bl _,H,I,rfl,?_⟩
  rw [show its.toArray.any (eqU x)=its.any (eqU x) by simp,Zfy r fs]
  exact q
theorem Zna:Xo X (.builtin "len") (fun xs H Q=>∃p ys,xs=[.ref p]/\(SqL X.K H p ys\/SqT X.K H p ys)/\Q (.int ys.length) H):=by
 intro pins s σ H xs us Q I r h
 obtain ⟨p,ys,rfl,hq,q⟩:=h
 obtain ⟨u,rfl,rx⟩:=Zc5 r
 cases rx
 have hn:=Zgm
 rcases hq with hq|hq
 ·obtain ⟨its,r',pl,hz⟩:=I.list hq
  have hlen:=r'.length
  exact Calls.call_len_list pl.isList (by simp only [List.size_toArray] <;>omega) ⟨.int ys.length,H,I.tok _,⟨s.toks+1,by rw [List.size_toArray,hlen]⟩,q⟩
 ·obtain ⟨its,r',pl,hz⟩:=I.tuple hq
  have hlen:=r'.length
  exact len_tuple pl (by simp only [List.size_toArray] <;>omega) ⟨.int ys.length,H,I.tok _,⟨s.toks+1,by rw [List.size_toArray,hlen]⟩,q⟩
theorem Zly:Xo X (.builtin "len") (fun xs H Q=>∃z,xs=[.str z]/\z.length<=sizeLine/\Q (.int z.length) H):=by
 intro pins s σ H xs us Q I r h
 obtain ⟨z,rfl,hz,q⟩:=h
 obtain ⟨u,rfl,t,rfl⟩:=Zc5 r
 have hn:=Zgm
 exact len_str (by omega) ⟨.int z.length,H,I.tok _,⟨_,rfl⟩,q⟩
theorem Xo.or{f:Value}{r r':List V->Hp->VK->Prop}(h:Xo X f r)(h':Xo X f r'):Xo X f (fun xs H Q=>r xs H Q\/r' xs H Q):=by
 intro pins s σ H xs us Q I rs q
 rcases q with q|q
 ·exact h pins s σ H xs us Q I rs q
 ·exact h' pins s σ H xs us Q I rs q
theorem Zl0:Xo X (.type "list") (fun xs H Q=>∃p ys,xs=[.ref p]/\(SqL X.K H p ys\/SqT X.K H p ys)/\∀l,H l=none->Q (.ref l) (upd H l (.lst ys))):=by
 intro pins s σ H xs us Q I r h
 obtain ⟨p,ys,rfl,hq,q⟩:=h
 obtain ⟨u,rfl,rx⟩:=Zc5 r
 cases rx
 have fin:∀(its:List Value),Yd ys its->ys.length<=sizeLine->∀(h':Heap) (c':Nat),(∀b o',s.heap.get? b=some o'->h'.get? b=some o') ->
   h'.get? s.heap.objs.size=some { cls:=.type "list",dict:=none,data:=.seq its.toArray c',slots:=#[] }->EP X pins σ Q (.ref s.heap.objs.size) { s with heap:=h' }:=fun its r' hz h' c' kp e =>
  ⟨.ref s.heap.objs.size,_,I.laid (t':=s.toks) kp (Nat.le_refl _) (show Yn X.prog X.w _ h' _ (.lst ys) from ⟨hz,its,c',r',e⟩),rfl,q _ (I.hok.fresh (Nat.le_refl _))⟩
 rcases hq with hq|hq
 ·obtain ⟨its,r',pl,hz⟩:=I.list hq
  have hlen:=r'.length
  obtain ⟨o,ho,hc,n,hd⟩:=pl.isList
  exact call_list_seq p (.inl rfl) ho hc hd (fun h' c' kp e=>fin its r' hz h' c' kp e) (by simp only [List.size_toArray] <;>omega)
 ·obtain ⟨its,r',pl,hz⟩:=I.tuple hq
  have hlen:=r'.length
  obtain ⟨o,ho,hc,n,hd⟩:=pl
  exact call_list_seq p (.inr rfl) ho hc hd (fun h' c' kp e=>fin its r' hz h' c' kp e) (by simp only [List.size_toArray] <;>omega)
theorem Zeo:Xo X (.type "tuple") (fun xs H Q=>∃p ys,xs=[.ref p]/\((SqL X.K H p ys/\∀l,H l=none->Q (.ref l) (upd H l (.tup ys)))\/(SqT X.K H p ys/\Q (.ref p) H))):=by
 intro pins s σ H xs us Q I r h
 obtain ⟨p,ys,rfl,h⟩:=h
 obtain ⟨u,rfl,rx⟩:=Zc5 r
 cases rx
 rcases h with ⟨hq,q⟩|⟨hq,q⟩
 ·obtain ⟨its,r',pl,hz⟩:=I.list hq
  have hlen:=r'.length
  refine call_tuple_list pl.isList (fun h' kp=>?_) (by simp only [List.size_toArray] <;>omega)
  have I1:Inv X pins σ H { s with heap:=h' }:=I.kept (t':=s.toks) kp
  have I2:Inv X pins σ (upd H h'.objs.size (.tup ys)) { s with heap:=h'.push { cls:=.type "tuple",data:=.seq its.toArray } } :=
   I1.laid (t':=s.toks) (fun b o e=>Heap.get?_push_of_some _ e) (Nat.le_refl _) (show Yn X.prog X.w _ _ _ (.tup ys) from ⟨hz,its,r',IsTup.new _ _⟩)
  exact ⟨.ref h'.objs.size,_,I2,rfl,q _ (I1.hok.fresh (Nat.le_refl _))⟩
 ·obtain ⟨its,r',pl,hz⟩:=I.tuple hq
  exact call_tuple_same pl ⟨.ref p,H,I,rfl,q⟩
def tyV(K:Frag)(T:String)(x:V)(H:Hp):Prop:=match x with
 | .str _=>T = "str"
 | .int _=>T = "int"
 | .ref p=>(T = "list" /\∃xs,SqL K H p xs)\/(T = "tuple" /\∃o,K.lookup p=some o/\o.cls=.type "tuple" /\o.dict=none) \/
   (T = "dict" /\((∃kvs,H p=some (.dK kvs))\/∃kvs,H p=some (.dT kvs)))\/(T = "set" /\∃S n,H p=some (.set S n))
 | _=>False
theorem Zt2{pins:List (Addr×Obj)}{σ:St}{H:Hp}{s:Shared}{T:String}{x:V}{v:Value}(I:Inv X pins σ H s)(r:Yl x v)(ty:tyV X.K T x H) :
  s.TypeIs v T/\∀a,v=.ref a->∃ob,s.heap.get? a=some ob/\ob.dict=none:=by
 cases x with
 | str z =>
  obtain ⟨t,rfl⟩:=r
  cases (show T = "str" from ty)
  exact ⟨typeIs_str s z t,fun _ e=>nomatch e⟩
 | int i =>
  obtain ⟨t,rfl⟩:=r
  cases (show T = "int" from ty)
  exact ⟨typeIs_int s i t,fun _ e=>nomatch e⟩
 | ref p =>
  cases r
  rcases ty with ⟨rfl,xs,hq⟩|⟨rfl,o,hk,hc,hd⟩|⟨rfl,hk⟩|⟨rfl,S,n,hk⟩
  ·obtain ⟨its,_,pl,_⟩:=I.list hq
   refine ⟨pl.isList.typeIs,fun a e=>?_⟩
   cases e
   obtain ⟨o,n,e,c,hd,_⟩:=pl
   exact ⟨o,e,hd⟩
  ·refine ⟨⟨o,I.kIn p o hk,hc⟩,fun a e=>?_⟩
   cases e
   exact ⟨o,I.kIn _ o hk,hd⟩
  ·have z:∃o,s.heap.get? p=some o/\o.ExactDict:=by
    rcases hk with ⟨kvs,hk⟩|⟨kvs,hk⟩
    ·obtain ⟨_,_,_,_,o,_,_,e,ex,_⟩:=I.hok p _ hk
     exact ⟨o,e,ex⟩
    ·obtain ⟨_,_,_,_,o,_,_,e,ex,_⟩:=I.hok p _ hk
     exact ⟨o,e,ex⟩
   obtain ⟨o,e,ex⟩:=z
   refine ⟨⟨o,e,ex.1⟩,fun a e2=>?_⟩
   cases e2
   exact ⟨o,e,ex.2.1⟩
  ·obtain ⟨o,_,_,_,e,ex,_⟩:=I.hok p _ hk
   refine ⟨⟨o,e,ex.1⟩,fun a e2=>?_⟩
   cases e2
   exact ⟨o,e,ex.2.1⟩
 | _=>exact False.elim ty
def Ybp(K:Frag)(T:String)(r:V->List V->Hp->VK->Prop)(to:TE):TE:=fun σ H Q=>to σ H fun x H1=>tyV K T x H1/\r x [] H1 Q
def tBM(K:Frag)(T:String)(r:V->List V->Hp->VK->Prop)(to:TE)(t:TA):TE:=fun σ H Q=>to σ H fun x H1=>tyV K T x H1/\t σ H1 fun xs H2=>r x xs H2 Q
variable {o e:Expr} {es:List Expr} {to:TE} {t:TA} {name:Str} {apos cpos:Pos} {T id:String} {r:V->List V->Hp->VK->Prop}
theorem Zx5(pa:PlainAttrs T)(slot:Slot T name id) (hty:typeOf (.builtin id)=pure (.type "method_descriptor")) (hm:MtR X id r) (ho:PE X o to)
  (hbase:attributeBase o name X.env (eval o X.env)=eval o X.env:=by rfl) (hline:(apos.endLine ==cpos.line)=true:=by rfl):PE X (.Call (.Attribute o name apos) [] [] cpos) (Ybp X.K T r to):=by
 intro pins s σ H Q I h
 refine wpAny_Call_method0_late hbase hline (thn (ho pins s σ H _ I h) fun v s1 ⟨x,H1,I1,r1,ty,q1⟩=>?_)
 obtain ⟨h1,h2⟩:=Zt2 I1 r1 ty
 exact ⟨T,id,pa,slot,hty,h1,h2,Calls.callWith_builtin rfl (PySem.evalArgs_none (hm pins s1 σ H1 x [] v [] Q I1 r1 .nil q1))⟩
theorem Zdq(pa:PlainAttrs T)(slot:Slot T name id) (hty:typeOf (.builtin id)=pure (.type "method_descriptor")) (hm:MtR X id r) (ho:PE X o to) (ha:PA X (e ::es) t)
  (hbase:attributeBase o name X.env (eval o X.env)=eval o X.env:=by rfl)
  (hfew:((backTo cpos (starEach (e ::es) X.env)).all (fun x=>!x.1) && (backToKw cpos (keywordEach [] X.env)).all (fun x=>x.1.isSome)
   && decide ((e ::es).length+([]:List Keyword).length+(if ([]:List Keyword).isEmpty then 0 else 1)<30))=true:=by rfl)
  (hline:(apos.endLine ==cpos.line)=true:=by rfl) (hs:starEach (e ::es) X.env=(false,eval e X.env) ::starEach es X.env:=by rfl) (hplain:(backTo cpos (starEach es X.env)).any (·.1)=false:=by rfl) :
  PE X (.Call (.Attribute o name apos) (e ::es) [] cpos) (tBM X.K T r to t):=by
 intro pins s σ H Q I h
 refine wpAny_Call_method_late hbase hfew hline rfl (thn (ho pins s σ H _ I h) fun v s1 ⟨x,H1,I1,r1,ty,q1⟩=>?_)
 obtain ⟨h1,h2⟩:=Zt2 I1 r1 ty
 refine ⟨T,id,pa,slot,hty,h1,h2,?_⟩
 have hA:=ha cpos pins s1 σ H1 _ I1 q1
 rw [hs] at hA ⊢
 refine Calls.callWith_builtin (by show (false || (backTo cpos (starEach es X.env)).any (·.1))=false;rw [hplain] <;>rfl) (Calls.evalArgs_plain ?_)
 exact thn hA fun us s2 ⟨vs,H2,I2,r2,q2⟩=>hm pins s2 σ H2 x vs v us Q I2 r1 r2 q2
/- xs.append(e),list.index on a module's tuple .. are MtR facts of 06m -/
end
end L2
namespace L2
open PySem PySem.Spec PyProof.Rows
def MtM(X:Cx)(id:String)(r:V->List V->Hp->VK->Prop):Prop :=
 ∀(pins:List (Addr×Obj)) (s:Shared) (σ:St) (H:Hp) (x:V) (xs:List V) (v:Value) (us:List Value) (Q:VK),Inv X pins σ H s->Yl x v->Yd xs us->r x xs H Q ->
  wpAny (model X.prog X.w) X.A (call (.builtin id) (v ::us)) (EP X pins σ Q) X.xe s
theorem Yd.one:∀{x:V} {us:List Value},Yd [x] us->∃u,us=[u]/\Yl x u
 | _,_,.cons r .nil=>⟨_,rfl,r⟩
theorem Yd.zero:∀{us:List Value},Yd [] us->us=[]
 | _,.nil=>rfl
theorem Yd.dropLast{xs:List V}{us:List Value}(h:Yd xs us):Yd xs.dropLast us.dropLast:=by
 induction h with
 | nil=>exact .nil
 | cons r t ih =>
  cases t with
  | nil=>exact .nil
  | cons q t'=>exact .cons r ih
theorem Yd.eraseIdx:∀{xs:List V} {us:List Value} (i:Nat),Yd xs us->Yd (xs.eraseIdx i) (us.eraseIdx i)
 | _,_,_,.nil=>.nil
 | _,_,0,.cons _ t=>t
 | _,_,i+1,.cons r t=>.cons r (Yd.eraseIdx i t)
theorem Zpw{α:Type}(l:List α):l.eraseIdx (l.length-1)=l.dropLast:=by
 induction l with
 | nil=>rfl
 | cons a r ih =>
  cases r with
  | nil=>rfl
  | cons b r =>
   have e:(a ::b ::r).length-1=((b ::r).length-1)+1:=by
    have h1:(a ::b ::r).length=r.length+2:=rfl
    have h2:(b ::r).length=r.length+1:=rfl
    omega
   rw [e,List.eraseIdx_cons_succ,ih]
   all_goals rfl
theorem Zkr{α:Type}:∀(l:List α) (i:Nat),(l.eraseIdx i).length<=l.length
 | [],_=>Nat.le_refl _
 | _ ::_,0=>Nat.le_succ _
 | _ ::r,i+1=>Nat.succ_le_succ (Zkr r i)
section
variable {X:Cx} {pins:List (Addr×Obj)} {σ:St} {H:Hp} {s:Shared} {l b:Addr} {xs ys zs:List V}
theorem Inv.lset{its its':List Value}{n:Nat}{f:Array Value->Array Value}{t':Nat}(I:Inv X pins σ H s)(hH:H l=some (.lst xs))
  (e:s.heap.get? l=some { cls:=.type "list",data:=.seq its.toArray n }) (hf:f its.toArray=its'.toArray) (hv:Yd ys its') (hz:ys.length<=sizeLine) :
  Inv X pins σ (upd H l (.lst ys)) { s with heap:=s.heap.update l (Obj.mapSeq f),toks:=t' }:=by
 have q:=PySem.IsL.update e f
 rw [hf] at q
 refine I.write (x:=l) (e:=l) (by rw [hH];exact trivial) (.inl rfl) (fun b' u hb hu=>(Heap.get?_update_other s.heap (Obj.mapSeq f) (Ne.symm hb)).trans hu) ⟨_,q⟩ ?_
 exact ⟨hz,its',_,hv,q⟩
theorem Inv.lnew{its:List Value}{t':Nat}(I:Inv X pins σ H s)(hv:Yd ys its)(hz:ys.length<=sizeLine) :
  Inv X pins σ (upd H s.heap.objs.size (.lst ys)) { s with heap:=s.heap.push { cls:=.type "list",data:=.seq its.toArray },toks:=t' } :=
 I.laid (fun _ _ q=>Heap.get?_push_of_some _ q) (Nat.le_refl _) ⟨hz,its,0,hv,Heap.get?_push_size _ rfl⟩
theorem Inv.fresh(I:Inv X pins σ H s):H s.heap.objs.size=none:=I.hok.fresh (Nat.le_refl _)
theorem Inv.lstM(I:Inv X pins σ H s)(hH:H l=some (.lst xs)):xs.length<=sizeLine/\∃(its:List Value) (n:Nat),Yd xs its/\xs.length=its.length/\s.heap.get? l=some { cls:=.type "list",data:=.seq its.toArray n }:=by
 obtain ⟨z,its,n,r,e⟩:=I.hok l _ hH
 exact ⟨z,its,n,r,r.length,e⟩
theorem Zup{n:Nat}(h:n<=sizeLine):Builtin.List.listTooLong n=false:=by
 unfold Builtin.List.listTooLong
 exact decide_eq_false (by omega)
end
section
variable {X:Cx}
def Zv9:V->List V->Hp->VK->Prop:=fun x vs H Q=>∃l xs y,x=.ref l/\vs=[y]/\H l=some (.lst xs)/\xs.length<sizeLine/\Q .non (upd H l (.lst (xs++[y])))
theorem Xy:MtM X "list.append" Zv9:=by
 intro pins s σ H x vs v us Q I rx rv h
 obtain ⟨l,xs,y,rfl,rfl,hH,hz,q⟩:=h
 cases rx
 obtain ⟨u,rfl,ru⟩:=rv.one
 obtain ⟨z,its,n,r,hl,e⟩:=I.lstM hH
 refine call_meets F.slot_list_append ⟨_,e,rfl⟩ F.entry_list_append (F.args_list_append_2 _ _) (PySem.list_append l its.toArray n u (by rw [List.size_toArray];omega)) ⟨e,?_⟩
 refine ⟨.non,_,I.lset (its':=its++[u]) hH e (by simp) (r.append (.cons ru .nil)) ?_,rfl,q⟩
 rw [List.length_append,List.length_singleton]
 omega
def Zvw:V->List V->Hp->VK->Prop:=fun x vs H Q=>∃l b xs zs,x=.ref l/\vs=[.ref b]/\H l=some (.lst xs)/\H b=some (.lst zs)/\xs.length+zs.length<=sizeLine/\Q .non (upd H l (.lst (xs++zs)))
theorem Zzu:MtM X "list.extend" Zvw:=by
 intro pins s σ H x vs v us Q I rx rv h
 obtain ⟨l,b,xs,zs,rfl,rfl,hH,hB,hz,q⟩:=h
 cases rx
 obtain ⟨u,rfl,ru⟩:=rv.one
 cases ru
 obtain ⟨z,its,n,r,hl,e⟩:=I.lstM hH
 obtain ⟨z2,its2,n2,r2,hl2,e2⟩:=I.lstM hB
 have hsz:its.toArray.size+its2.toArray.size<=sizeLine:=by rw [List.size_toArray,List.size_toArray];omega
 have hlong:¬(!its.toArray.isEmpty && Builtin.List.listTooLong (its.toArray.size+its2.toArray.size))=true:=by
  rw [Zup hsz,Bool.and_false]
  exact Bool.false_ne_true
 refine call_meets F.slot_list_extend ⟨_,e,rfl⟩ F.entry_list_extend (F.args_list_extend_2 _ _)
  (AutoSeq1.list_extend_list_list_0 l its.toArray n b its2.toArray n2 hlong (by rw [List.size_toArray];omega) (by omega)) ⟨e,e2,?_⟩
 refine ⟨.non,_,I.lset (its':=its++its2) hH e (by simp) (r.append r2) ?_,rfl,q⟩
 rw [List.length_append]
 omega
def Ycd:V->List V->Hp->VK->Prop:=fun x vs H Q=>∃l xs y,x=.ref l/\vs=[]/\H l=some (.lst xs)/\xs[xs.length-1]? =some y/\Q y (upd H l (.lst xs.dropLast))
theorem Zyu:MtM X "list.pop" Ycd:=by
 intro pins s σ H x vs v us Q I rx rv h
 obtain ⟨l,xs,y,rfl,rfl,hH,hy,q⟩:=h
 cases rx
 have hus:=rv.zero
 subst hus
 obtain ⟨z,its,n,r,hl,e⟩:=I.lstM hH
 obtain ⟨u,hu,ru⟩:=r.get hy
 have hy':its.toArray[its.toArray.size-1]? =some u:=by
  show its.toArray[its.length-1]? =some u
  rw [<-Array.getElem?_toList,<-hl]
  exact hu
 refine call_meets F.slot_list_pop ⟨_,e,rfl⟩ F.entry_list_pop (F.args_list_pop_1 _) (MeetsSeq.list_pop_last l its.toArray n u hy' (by rw [List.size_toArray];omega)) ⟨e,?_⟩
 refine ⟨y,_,I.lset (its':=its.dropLast) hH e ?_ r.dropLast ?_,ru,q⟩
 ·show its.toArray.eraseIdxIfInBounds (its.toArray.size-1)=its.dropLast.toArray
  rw [List.size_toArray,List.eraseIdxIfInBounds_toArray,Zpw]
 ·rw [List.length_dropLast]
  omega
def Zx6:V->List V->Hp->VK->Prop:=fun x vs H Q=>∃l xs i k y,x=.ref l/\vs=[.int i]/\H l=some (.lst xs)/\-(2 ^ 63)<=i/\i<2 ^ 63/\seqIndex? i xs.length=some k/\xs[k]? =some y/\Q y (upd H l (.lst (xs.eraseIdx k)))
theorem Zn3:MtM X "list.pop" Zx6:=by
 intro pins s σ H x vs v us Q I rx rv h
 obtain ⟨l,xs,i,k,y,rfl,rfl,hH,h1,h2,hk,hy,q⟩:=h
 cases rx
 obtain ⟨u,rfl,ru⟩:=rv.one
 obtain ⟨t,rfl⟩:=ru
 obtain ⟨z,its,n,r,hl,e⟩:=I.lstM hH
 obtain ⟨w,hw,rw'⟩:=r.get hy
 refine call_meets F.slot_list_pop ⟨_,e,rfl⟩ F.entry_list_pop (F.args_list_pop_2 _ _)
  (MeetsSeq.list_pop_at l its.toArray n i t k w (fitsIndex_both h1 h2) (by rw [List.size_toArray,<-hl];exact hk) (by rw [<-Array.getElem?_toList];exact hw) (by rw [List.size_toArray];omega)) ⟨e,?_⟩
 refine ⟨y,_,I.lset (its':=its.eraseIdx k) hH e ?_ (r.eraseIdx k) ?_,rw',q⟩
 ·show its.toArray.eraseIdxIfInBounds k=(its.eraseIdx k).toArray
  rw [List.eraseIdxIfInBounds_toArray]
 ·have:=Zkr xs k
  omega
def Yb0:R2:=fun x y H Q=>∃l b xs zs,x=.ref l/\y=.ref b/\H l=some (.lst xs)/\H b=some (.lst zs)/\xs.length+zs.length<=sizeLine/\∀p,H p=none->Q (.ref p) (upd H p (.lst (xs++zs)))
theorem Zzs:OpR X (binaryOp .Add) Yb0:=by
 intro pins s σ H x y v u Q I rx ry h
 obtain ⟨l,b,xs,zs,rfl,rfl,hH,hB,hz,q⟩:=h
 cases rx
 cases ry
 obtain ⟨z,its,n,r,hl,e⟩:=I.lstM hH
 obtain ⟨z2,its2,n2,r2,hl2,e2⟩:=I.lstM hB
 refine PySem.P.add_list e e2 ?_ (by rw [List.size_toArray,List.size_toArray];omega)
 have ea:its.toArray++its2.toArray=(its++its2).toArray:=by simp
 rw [ea]
 exact ⟨.ref _,_,I.lnew (t':=s.toks) (r.append r2) (by rw [List.length_append];omega),rfl,q _ I.fresh⟩
end
section
variable {prog:Program} {w:World} {A:Around} {E:Value->Shared->Prop} {s:Shared}
end
section
variable {X:Cx}
end
end L2
namespace L2
open PySem PySem.Spec PyProof.Rows
section
variable {κ:Type} [DecidableEq κ]
def Y4(kvs:List (κ×V))(k:κ):Option V:=(kvs.find? fun kv=>decide (kv.1=k)).map (·.2)
def Zbb(kvs:List (κ×V))(k:κ)(v:V):List (κ×V) :=
 if (kvs.any fun kv=>decide (kv.1=k))=true then kvs.map (fun kv=>if kv.1=k then (kv.1,v) else kv) else kvs++[(k,v)]
theorem W5{p:κ×V}{r:List (κ×V)}{k:κ}(e:p.1=k):Y4 (p ::r) k=some p.2:=by simp [Y4,List.find?_cons,e]
theorem Y9{p:κ×V}{r:List (κ×V)}{k:κ}(e:¬p.1=k):Y4 (p ::r) k=Y4 r k:=by simp [Y4,List.find?_cons,e]
theorem Zf2(k:κ):∀kvs:List (κ×V),(kvs.any fun kv=>decide (kv.1=k))=(Y4 kvs k).isSome
 | []=>rfl
 | p ::r=>by
  rw [List.any_cons]
  by_cases e:p.1=k
  ·simp only [W5 e,decide_eq_true e,Bool.true_or,Option.isSome_some]
  ·rw [Y9 e,decide_eq_false e,Bool.false_or];exact Zf2 k r
theorem Zb9(kvs:List (κ×V))(k:κ)(v:V):(Zbb kvs k v).length<=kvs.length+1:=by
 unfold Zbb
 split
 ·rw [List.length_map];omega
 ·rw [List.length_append,List.length_cons,List.length_nil];omega
theorem Zdv{kvs:List (κ×V)}{k:κ}(v:V)(h:Y4 kvs k=none):Zbb kvs k v=kvs++[(k,v)]:=by
 unfold Zbb
 rw [Zf2,h]
 exact if_neg (by decide)
theorem Zdr.isSome_eq{o:Option V}{u:Option Value}(r:Zdr o u):o.isSome=u.isSome:=by
 cases o with
 | none=>cases u with
  | none=>rfl
  | some _=>exact (show False from r).elim
 | some _=>cases u with
  | none=>exact (show False from r).elim
  | some _=>rfl
theorem KV.val{kvs:List (κ×V)}{vs:List (κ×Value)}(r:KV kvs vs)(k:κ):Zdr (Y4 kvs k) (valueAt vs k):=by
 unfold KV at r
 induction r with
 | nil=>exact True.intro
 | @cons p q ps qs h t ih =>
  obtain ⟨h1,h2⟩:=h
  by_cases e:p.1=k
  ·have e':q.1=k:=h1.symm.trans e
   have b:valueAt (q ::qs) k=some q.2:=by simp [valueAt,List.find?_cons,e']
   rw [W5 e,b];exact h2
  ·have e':¬q.1=k:=fun z=>e (h1.trans z)
   have b:valueAt (q ::qs) k=valueAt qs k:=by simp [valueAt,List.find?_cons,e']
   rw [Y9 e,b];exact ih
theorem KV.any{kvs:List (κ×V)}{vs:List (κ×Value)}(r:KV kvs vs)(k:κ):(kvs.any fun kv=>decide (kv.1=k))=vs.any fun kv=>decide (kv.1=k):=by
 unfold KV at r
 induction r with
 | nil=>rfl
 | cons h t ih=>rw [List.any_cons,List.any_cons,ih,h.1]
theorem KV.repl{kvs:List (κ×V)}{vs:List (κ×Value)}(r:KV kvs vs)(k:κ){y:V}{u:Value}(ry:Yl y u) :
  KV (kvs.map fun kv=>if kv.1=k then (kv.1,y) else kv) (vs.map fun kv=>if kv.1=k then (kv.1,u) else kv):=by
 unfold KV at r ⊢
 induction r with
 | nil=>exact .nil
 | @cons p q ps qs h t ih =>
  rw [List.map_cons,List.map_cons]
  refine .cons ?_ ih
  obtain ⟨h1,h2⟩:=h
  by_cases e:p.1=k
  ·rw [if_pos e,if_pos (h1.symm.trans e)];exact ⟨h1,ry⟩
  ·rw [if_neg e,if_neg (fun z=>e (h1.trans z))];exact ⟨h1,h2⟩
theorem KV.put{kvs:List (κ×V)}{vs:List (κ×Value)}(r:KV kvs vs)(k:κ){y:V}{u:Value}(ry:Yl y u):KV (Zbb kvs k y) (stored vs k u):=by
 unfold Zbb stored
 rw [r.any k]
 by_cases e:(vs.any fun kv=>decide (kv.1=k))=true
 ·rw [if_pos e,if_pos e];exact r.repl k ry
 ·rw [if_neg e,if_neg e];exact Paired.snoc r ⟨rfl,ry⟩
theorem KV.length{kvs:List (κ×V)}{vs:List (κ×Value)}(r:KV kvs vs):kvs.length=vs.length:=Paired.length r
end
theorem Zkt{P:Program}{w:World}{k:Key}{u:Value}(r:Yl (kV k) u):(Yg P w).is k u=true:=by
 cases k with
 | inl i=>obtain ⟨t,e⟩:=(show ∃t,u=Value.int i t from r);subst e;exact Zoc P w i t
 | inr x=>obtain ⟨t,e⟩:=(show ∃t,u=Value.str x t from r);subst e;exact Znz P w x t
theorem Zgt{P:Program}{w:World}:∀{ks:List Key} {us:List Value},Yd (ks.map kV) us->ItemsAre (Yg P w) ks us
 | [],_,r=>by rw [List.map_nil] at r;cases r;exact .nil
 | k ::ks,_,r=>by
  rw [List.map_cons] at r
  cases r with
  | cons h t=>exact .cons (Zkt h) (Zgt t)
abbrev KT(H:Hp):List (List Key×V)->List (List Key×Addr×Value)->Prop:=Paired fun p q=>p.1=q.1/\H q.2.1=some (.tup (p.1.map kV))/\Yl p.2 q.2.2
theorem KT.val{H:Hp}{kvs:List (List Key×V)}{xs:List (List Key×Addr×Value)}(r:KT H kvs xs)(k:List Key):Zdr (Y4 kvs k) ((atKey xs k).map (·.2)):=by
 induction r with
 | nil=>exact True.intro
 | @cons p q ps qs h t ih =>
  obtain ⟨h1,_,h2⟩:=h
  by_cases e:p.1=k
  ·have e':q.1=k:=h1.symm.trans e
   have b:atKey (q ::qs) k=some q.2:=by simp [atKey,List.find?_cons,e']
   rw [W5 e,b];exact h2
  ·have e':¬q.1=k:=fun z=>e (h1.trans z)
   have b:atKey (q ::qs) k=atKey qs k:=by simp [atKey,List.find?_cons,e']
   rw [Y9 e,b];exact ih
theorem KT.repl{H:Hp}{kvs:List (List Key×V)}{xs:List (List Key×Addr×Value)}(r:KT H kvs xs)(k:List Key){y:V}{u:Value}(ry:Yl y u) :
  KT H (kvs.map fun kv=>if kv.1=k then (kv.1,y) else kv) (xs.map (putAt k u)):=by
 induction r with
 | nil=>exact .nil
 | @cons p q ps qs h t ih =>
  rw [List.map_cons,List.map_cons]
  refine .cons ?_ ih
  obtain ⟨h1,h2,h3⟩:=h
  unfold putAt
  by_cases e:p.1=k
  ·rw [if_pos e,if_pos (h1.symm.trans e)];exact ⟨h1,h2,ry⟩
  ·rw [if_neg e,if_neg (fun z=>e (h1.trans z))];exact ⟨h1,h2,h3⟩
theorem KT.put{H:Hp}{kvs:List (List Key×V)}{xs:List (List Key×Addr×Value)}(r:KT H kvs xs)(k:List Key){b:Addr}{y:V}{u:Value}(hb:H b=some (.tup (k.map kV)))(ry:Yl y u) :
  KT H (Zbb kvs k y) (storedH xs k b u):=by
 have e:(kvs.any fun kv=>decide (kv.1=k))=(atKey xs k).isSome:=by
  rw [Zf2,(r.val k).isSome_eq,Option.isSome_map]
 unfold Zbb storedH
 rw [e]
 by_cases q:(atKey xs k).isSome=true
 ·rw [if_pos q,if_pos q];exact r.repl k ry
 ·rw [if_neg q,if_neg q];exact Paired.snoc r ⟨rfl,hb,ry⟩
theorem KT.keeps{H H':Hp}{kvs:List (List Key×V)}{xs:List (List Key×Addr×Value)}(r:KT H kvs xs)(ht:∀b ys,H b=some (.tup ys)->H' b=some (.tup ys)):KT H' kvs xs :=
 Paired.mapP r fun _ _ z=>⟨z.1,ht _ _ z.2.1,z.2.2⟩
section
variable {P:Program} {w:World} {H:Hp} {h:Heap} {a:Addr}
theorem Zxj{u:HO}(ok:HOk P w H h)(e:Rd H a u):Yn P w H h a u:=e.ok ok
theorem Zd2{kvs:List (Key×V)}(ok:HOk P w H h)(e:Rd H a (.dK kvs)):kvs.length<=sizeLine/\(a ==sysModules)=false/\∃vs,KV kvs vs/\h.DictOf (Yg P w) a vs :=
 show Yn P w H h a (.dK kvs) from Zxj ok e
theorem Zqr{kvs:List (Key×V)}(ok:HOk P w H h)(e:H a=some (.dK kvs)):kvs.length<=sizeLine/\(a ==sysModules)=false/\∃vs,KV kvs vs/\h.DictOf (Yg P w) a vs:=Zd2 ok (.inl e)
theorem Zio{ks:List Key}(ok:HOk P w H h)(e:H a=some (.tup (ks.map kV))):(tupleKind (Yg P w)).is h ks a:=by
 obtain ⟨_,its,r,o,h1,h2,n,h3⟩:=(show Yn P w H h a (.tup (ks.map kV)) from ok a _ e)
 exact ⟨o,its.toArray,n,h1,h2,h3,by simpa using Zgt r⟩
theorem Znq{kvs:List (List Key×V)}(ok:HOk P w H h)(e:Rd H a (.dT kvs)):kvs.length<=sizeLine/\(a ==sysModules)=false /\
  ∃xs,KT H kvs xs/\h.DictOfH (tupleKind (Yg P w)) a xs:=by
 obtain ⟨z,y,xs,r,o,es,ep,h1,h2,h3,h4,h5⟩:=(show Yn P w H h a (.dT kvs) from Zxj ok e)
 refine ⟨z,y,xs,r,o,es,ep,h1,h2,h3,h4,fun x hx=>?_,h5⟩
 have all:∀{l:List (List Key×V)} {m:List (List Key×Addr×Value)},KT H l m->∀x∈m,(tupleKind (Yg P w)).is h x.1 x.2.1:=by
  intro l m q
  induction q with
  | nil=>intro x hx;exact nomatch hx
  | @cons p q ps qs hq t ih =>
   intro x hx
   rcases List.mem_cons.mp hx with e|hx
   ·subst e
    exact Zio ok (by rw [<-hq.1];exact hq.2.1)
   ·exact ih x hx
 exact all r x hx
theorem Zxx{kvs:List (List Key×V)}(ok:HOk P w H h)(e:H a=some (.dT kvs)):kvs.length<=sizeLine/\(a ==sysModules)=false /\
  ∃xs,KT H kvs xs/\h.DictOfH (tupleKind (Yg P w)) a xs:=Znq ok (.inl e)
end
def Zar(H:Hp)(a:Addr)(y:V)(r:Option V):Prop :=
 (∃kvs k,Rd H a (.dK kvs)/\y=kV k/\r=Y4 kvs k)\/∃kvs k b,Rd H a (.dT kvs)/\y=.ref b/\H b=some (.tup (k.map kV))/\r=Y4 kvs k
def Ze4(H:Hp)(a:Addr)(y v:V)(H':Hp):Prop :=
 (∃kvs k,H a=some (.dK kvs)/\y=kV k/\kvs.length<sizeLine/\H'=upd H a (.dK (Zbb kvs k v))) \/
 ∃kvs k b,H a=some (.dT kvs)/\y=.ref b/\H b=some (.tup (k.map kV))/\kvs.length<sizeLine/\H'=upd H a (.dT (Zbb kvs k v))
theorem Zar.k{H:Hp}{a:Addr}{kvs:List (Key×V)}{k:Key}(e:H a=some (.dK kvs)):Zar H a (kV k) (Y4 kvs k):=.inl ⟨kvs,k,.inl e,rfl,rfl⟩
theorem Zar.t{H:Hp}{a b:Addr}{kvs:List (List Key×V)}{k:List Key}(e:H a=some (.dT kvs))(eb:H b=some (.tup (k.map kV))):Zar H a (.ref b) (Y4 kvs k):=.inr ⟨kvs,k,b,.inl e,rfl,eb,rfl⟩
theorem Ze4.k{H:Hp}{a:Addr}{kvs:List (Key×V)}{k:Key}{v:V}(e:H a=some (.dK kvs))(hl:kvs.length<sizeLine):Ze4 H a (kV k) v (upd H a (.dK (Zbb kvs k v))):=.inl ⟨kvs,k,e,rfl,hl,rfl⟩
theorem Ze4.t{H:Hp}{a b:Addr}{kvs:List (List Key×V)}{k:List Key}{v:V}(e:H a=some (.dT kvs))(eb:H b=some (.tup (k.map kV)))(hl:kvs.length<sizeLine) :
  Ze4 H a (.ref b) v (upd H a (.dT (Zbb kvs k v))):=.inr ⟨kvs,k,b,e,rfl,eb,hl,rfl⟩
section
variable {X:Cx} {pins:List (Addr×Obj)} {σ:St} {H:Hp} {s:Shared} {a:Addr} {y v:V} {u r:Value} {o:Option V} {A:Around} {E:Value->Shared->Prop}
theorem Inv.big(I:Inv X pins σ H s):sysModules<s.heap.objs.size:=by
 have h:mainGlobals<s.heap.objs.size:=(I.mod.glob.keeps I.bk).lt
 exact Nat.lt_trans (by decide) h
theorem Zr7{Q:Value->Shared->Prop}(hu:A.units+1<cLine)(I:Inv X pins σ H s)(g:Zar H a y (some v))(ry:Yl y u)(h:∀w' s',Inv X pins σ H s'->Yl v w'->Q w' s') :
  wpAny (model X.prog X.w) A (getItem (.ref a) u) Q E s:=by
 rcases g with ⟨kvs,k,e,ey,l⟩|⟨kvs,k,b,e,ey,eb,l⟩
 ·subst ey
  obtain ⟨z,hd,vs,rel,dd⟩:=Zd2 I.hok e
  obtain ⟨w',hw,rw'⟩:=Zdr.some_of (v:=v) (o:=valueAt vs k) (by rw [l];exact rel.val k)
  exact wpAny_getItem_of (Zkt ry) dd.mapOf hw (h w' _ (I.tok _) rw')
 ·subst ey
  cases (show u=Value.ref b from ry)
  obtain ⟨z,hd,xs,rel,dd⟩:=Znq I.hok e
  obtain ⟨w',hw,rw'⟩:=Zdr.some_of (v:=v) (o:=(atKey xs k).map (·.2)) (by rw [l];exact rel.val k)
  obtain ⟨p,hp,hp2⟩:=Option.map_eq_some_iff.mp hw
  refine wpAny_getItem_heap (tupleKind_room_in1 hu) (Zio I.hok eb) dd hp ?_
  rw [hp2]
  exact h w' _ (I.tok _) rw'
theorem Ybo{Q:Value->Shared->Prop}(hu:A.units+1<cLine)(I:Inv X pins σ H s)(g:Zar H a y o)(ry:Yl y u)(h:∀s',Inv X pins σ H s'->Q (.bool o.isSome) s') :
  wpAny (model X.prog X.w) A (compareOp .In u (.ref a)) Q E s:=by
 rcases g with ⟨kvs,k,e,ey,l⟩|⟨kvs,k,b,e,ey,eb,l⟩
 ·subst ey
  obtain ⟨z,hd,vs,rel,dd⟩:=Zd2 I.hok e
  refine wpAny_in_of (Zkt ry) hd dd.mapOf ?_
  rw [<-(rel.val k).isSome_eq,<-l]
  exact h _ (I.tok _)
 ·subst ey
  cases (show u=Value.ref b from ry)
  obtain ⟨z,hd,xs,rel,dd⟩:=Znq I.hok e
  refine wpAny_in_heap (tupleKind_room_in1 hu) (Zio I.hok eb) hd dd ?_
  have q:=(rel.val k).isSome_eq
  rw [Option.isSome_map] at q
  rw [<-q,<-l]
  exact h _ (I.tok _)
theorem Zv6{Q:Value->Shared->Prop}(hu:A.units+1<cLine)(I:Inv X pins σ H s)(g:Zar H a y o)(ry:Yl y u)(h:∀s',Inv X pins σ H s'->Q (.bool (!o.isSome)) s') :
  wpAny (model X.prog X.w) A (compareOp .NotIn u (.ref a)) Q E s:=by
 rcases g with ⟨kvs,k,e,ey,l⟩|⟨kvs,k,b,e,ey,eb,l⟩
 ·subst ey
  obtain ⟨z,hd,vs,rel,dd⟩:=Zd2 I.hok e
  refine wpAny_notIn_of (Zkt ry) hd dd.mapOf ?_
  rw [<-(rel.val k).isSome_eq,<-l]
  exact h _ (I.tok _)
 ·subst ey
  cases (show u=Value.ref b from ry)
  obtain ⟨z,hd,xs,rel,dd⟩:=Znq I.hok e
  refine wpAny_notIn_heap (tupleKind_room_in1 hu) (Zio I.hok eb) hd dd ?_
  have q:=(rel.val k).isSome_eq
  rw [Option.isSome_map] at q
  rw [<-q,<-l]
  exact h _ (I.tok _)
theorem Zmw{h':Heap}{t':Nat}{ob:HO}(I:Inv X pins σ H s)(mu:Mut (H a))(hs:Heap.SameBut a s.heap h')(he:∃q,h'.get? a=some q)(new:Yn X.prog X.w (upd H a ob) h' a ob) :
  Inv X pins σ (upd H a ob) { s with heap:=h',toks:=t' } :=
 I.write (x:=a) (e:=a) mu (.inl rfl) (fun b q hb z=>(hs.2 b hb).trans z) he new
theorem Zth{P:Program}{w:World}{H':Hp}{h':Heap}{kvs:List (Key×V)}{vs:List (Key×Value)}(z:kvs.length<=sizeLine)(hd:(a ==sysModules)=false)(rel:KV kvs vs)(dd:h'.DictOf (Yg P w) a vs) :
  Yn P w H' h' a (.dK kvs):=⟨z,hd,vs,rel,dd⟩
theorem Zso{H':Hp}{Q:Unit->Shared->Prop}(hu:A.units+1<cLine)(I:Inv X pins σ H s)(g:Ze4 H a y v H')(ry:Yl y u)(rv:Yl v r)(h:∀s',Inv X pins σ H' s'->Q () s') :
  wpAny (model X.prog X.w) A (setItem (.ref a) u r) Q E s:=by
 rcases g with ⟨kvs,k,e,ey,l,eH⟩|⟨kvs,k,b,e,ey,eb,l,eH⟩
 ·subst ey eH
  obtain ⟨z,hd,vs,rel,dd⟩:=Zqr I.hok e
  have hz:vs.length<=sizeLine:=by rw [<-rel.length];exact z
  have hl:(Zbb kvs k v).length<=sizeLine:=by have:=Zb9 kvs k v;omega
  refine wpAny_setItem_pairs (hsz:=hz) (Zkt ry) dd fun h' dd' hs=>h _ ?_
  have he:∃q,h'.get? a=some q:=let ⟨q,_,_,hq,_⟩:=dd';⟨q,hq⟩
  exact Zmw I (by rw [e];exact True.intro) hs he (Zth hl hd (rel.put k rv) dd')
 ·subst ey eH
  cases (show u=Value.ref b from ry)
  obtain ⟨z,hd,xs,rel,dd⟩:=Zxx I.hok e
  have hz:xs.length<=sizeLine:=by rw [<-Paired.length rel];exact z
  have hl:(Zbb kvs k v).length<=sizeLine:=by have:=Zb9 kvs k v;omega
  refine wpAny_setItem_heap (hsz:=hz) (tupleKind_room_in1 hu) (Zio I.hok eb) dd fun h' dd' hs=>h _ ?_
  obtain ⟨q,es,ep,hq,h2,h3,h4,_,h5⟩:=dd'
  refine Zmw I (by rw [e];exact True.intro) hs ⟨q,hq⟩ ⟨hl,hd,_,(rel.put k eb rv).keeps fun c ys ec=>?_,q,es,ep,hq,h2,h3,h4,h5⟩
  rw [Zj (Zxm ec e (fun z=>nomatch z))]
  exact ec
end
section
variable {X:Cx} {pins:List (Addr×Obj)} {σ:St} {H:Hp} {s:Shared} {a:Addr} {kvs:List (Key×V)} {k:Key} {u:Value} {A:Around} {E:Value->Shared->Prop}
theorem Yah{Q:Value->Shared->Prop}(I:Inv X pins σ H s)(e:Rd H a (.dK kvs))(h:∀t s',Inv X pins σ H s'->Q (.int kvs.length t) s'):wpAny (model X.prog X.w) A (call (.builtin "len") [.ref a]) Q E s:=by
 obtain ⟨z,hd,vs,rel,dd⟩:=Zd2 I.hok e
 refine call_len_dict hd dd (by rw [<-rel.length];rw [sizeLine_eq] at z;omega) ?_
 rw [<-rel.length]
 exact h _ _ (I.tok _)
end
def Yac(i:Expr):Prop:=∀ov iv,subscripted i false ov iv=operate [ov,iv] (getItem ov iv)
theorem Zvg{prog:Program}{w:World}{A:Around}{E:Value->Shared->Prop}{s:Shared}{env:Env}{value slice:Expr}{pos:Pos}{T id:String}{Q:Value->Shared->Prop}
  (hl:typeLookup (.type T) "__getitem__" =pure (some (.builtin id))) (hs:Yac slice)
  (h:wpAny (model prog w) A (eval value env) (fun o s₁=>wpAny (model prog w) A (eval slice env) (fun i s₂=>s₂.TypeIs o T/\wpAny (model prog w) A (getItem o i) Q E s₂) E s₁) E s) :
  wpAny (model prog w) A (eval (.Subscript value slice pos) env) Q E s:=by
 refine Subscript_ (wpAny_mono h (fun o s₁ h₁=>wpAny_mono h₁ (fun i s₂ h₂=>?_) fun _ _ x=>x) fun _ _ x=>x)
 obtain ⟨hT,h₂⟩:=h₂
 unfold subscriptTail
 refine wpAny_bind ?_
 rw [getitemInPython_of_ne hT.not_modules]
 refine wpAny_bind (wpAny_specialOf hT hl ?_)
 have fin:wpAny (model prog w) A (subscripted slice false o i) (fun r s₃=>wpAny (model prog w) A (letTemporaryGo value o r >>=fun _=>pure r) Q E s₃) E s₂:=by
  rw [hs o i]
  exact wpAny_operating (wpAny_mono h₂ (fun r s₃ h₃=>wpAny_bind (wpAny_letTemporaryGo (wpAny_pure h₃))) fun _ _ x=>x)
 first
  | exact wpAny_pure (wpAny_bind fin)
  | exact wpAny_bind (wpAny_pure (wpAny_bind fin))
  | exact wpAny_bind fin
theorem Zop{X:Cx}{pins:List (Addr×Obj)}{σ:St}{H:Hp}{s:Shared}{a:Addr}{y:V}{o:Option V}(I:Inv X pins σ H s)(g:Zar H a y o):s.TypeIs (.ref a) "dict" :=by
 rcases g with ⟨kvs,k,e,_,_⟩|⟨kvs,k,b,e,_,_,_⟩
 ·obtain ⟨_,_,vs,_,dd⟩:=Zd2 I.hok e
  exact dd.typeIs
 ·obtain ⟨_,_,xs,_,dd⟩:=Znq I.hok e
  exact dd.typeIs
def Yai(td ty:TE):TE:=fun σ H Q=>td σ H fun x H1=>ty σ H1 fun y H2=>∃a v,x=.ref a/\Zar H2 a y (some v)/\Q v H2
def Yam(td ty tv:TE):TS:=fun D σ H=>tv σ H fun v H1=>td σ H1 fun x H2=>ty σ H2 fun y H3=>∃a H4,x=.ref a/\Ze4 H3 a y v H4/\D.nx σ H4
section
variable {X:Cx} {o i e value:Expr} {pos pos' tpos:Pos} {td ty tv:TE}
theorem X6(hu:X.A.units+1<cLine)(ho:PE X o td)(hi:PE X i ty)(hs:Yac i):PE X (.Subscript o i pos) (Yai td ty):=by
 intro pins s σ H Q I h
 refine Zvg PySem.F.slot_dict_getitem.lookup hs (thn (ho pins s σ H _ I h) fun u s1 ⟨x,H1,I1,rx,q1⟩=>thn (hi pins s1 σ H1 _ I1 q1) fun iv s2 ⟨y,H2,I2,ry,a,v,ex,g,q2⟩=>?_)
 subst ex
 obtain rfl:u=Value.ref a:=rx
 exact ⟨Zop I2 g,Zr7 hu I2 g ry fun w' s3 I3 rw'=>⟨v,H2,I3,rw',q2⟩⟩
theorem Zcj(hu:X.A.units+1<cLine)(ho:PE X o td)(hi:PE X i ty)(hv:PE X value tv)(hs:swapsWith value (some (.Subscript o i pos')) pos.line X.env=pure false) :
  PS X (.Assign [.Subscript o i pos'] value pos) (Yam td ty tv):=by
 intro pins s σ H D I h
 refine wpAny_Assign_Subscript (thn (hv pins s σ H _ I h) fun r s1 ⟨v,H1,I1,rv,q1⟩=>thn (ho pins s1 σ H1 _ I1 q1) fun u s2 ⟨x,H2,I2,rx,q2⟩=>thn (hi pins s2 σ H2 _ I2 q2) fun iv s3 ⟨y,H3,I3,ry,a,H4,ex,g,q3⟩=>?_) hs
 subst ex
 obtain rfl:u=Value.ref a:=rx
 exact Zso hu I3 g ry rv fun s4 I4=>⟨σ,H4,I4,q3⟩
end
theorem Znl{P:Program}{w:World}{H:Hp}(h:Heap)(hb:sysModules<h.objs.size):Yn P w H (h.push { cls:=.type "dict",data:=.dict #[] }) h.objs.size (.dK []) :=
 ⟨Nat.zero_le _,beq_eq_false_iff_ne.mpr (Ne.symm (Nat.ne_of_lt hb)),[],.nil,Heap.DictOf.new h⟩
theorem Zs5{P:Program}{w:World}{H:Hp}(h:Heap)(hb:sysModules<h.objs.size):Yn P w H (h.push { cls:=.type "dict",data:=.dict #[] }) h.objs.size (.dT []) :=
 ⟨Nat.zero_le _,beq_eq_false_iff_ne.mpr (Ne.symm (Nat.ne_of_lt hb)),[],.nil,_,#[],0,Heap.get?_push_size _ rfl,⟨rfl,rfl,rfl⟩,rfl,rfl,List.nodup_nil⟩
def Zyk:TE:=fun _ H Q=>∀p,H p=none->Q (.ref p) (upd H p (.dK []))
def Zyz:TE:=fun _ H Q=>∀p,H p=none->Q (.ref p) (upd H p (.dT []))
section
variable {X:Cx} {pos:Pos}
theorem Zt5:PE X (.Dict [] [] pos) Zyk:=fun pins s σ H Q I h =>
 wpAny_Dict_empty ⟨.ref s.heap.objs.size,_,I.laid (a:=s.heap.objs.size) (o:=.dK []) (t':=s.toks) (fun _ _ q=>Heap.get?_push_of_some _ q) (Nat.le_refl _) (Znl s.heap I.big),rfl,h _ (I.hok.fresh (Nat.le_refl _))⟩
theorem Zts:PE X (.Dict [] [] pos) Zyz:=fun pins s σ H Q I h =>
 wpAny_Dict_empty ⟨.ref s.heap.objs.size,_,I.laid (a:=s.heap.objs.size) (o:=.dT []) (t':=s.toks) (fun _ _ q=>Heap.get?_push_of_some _ q) (Nat.le_refl _) (Zs5 s.heap I.big),rfl,h _ (I.hok.fresh (Nat.le_refl _))⟩
end
def Zp4:List (TE×TE)->St->Hp->(List (V×V)->Hp->Prop)->Prop
 | [],_,H,Q=>Q [] H
 | (tk,tv) ::r,σ,H,Q=>tk σ H fun x H1=>tv σ H1 fun y H2=>Zp4 r σ H2 fun ps H3=>Q ((x,y) ::ps) H3
abbrev VV:List (V×V)->List (Value×Value)->Prop:=Paired fun p q=>Yl p.1 q.1/\Yl p.2 q.2
def PPs(X:Cx)(pos:Pos)(keys:List (Option Expr))(values:List Expr)(trs:List (TE×TE)):Prop :=
 ∀(pins:List (Addr×Obj)) (s:Shared) (σ:St) (H:Hp) (Q:List (V×V)->Hp->Prop),Inv X pins σ H s->Zp4 trs σ H Q ->
  wpAny (model X.prog X.w) X.A (evalPairs (pairTrees keys values X.env pos)) (fun vs s'=>∃ps H',Inv X pins σ H' s'/\VV ps vs/\Q ps H') X.xe s
theorem Zm1{X:Cx}{pos:Pos}:PPs X pos [] [] []:=fun pins s σ H Q I h=>pairTrees_nil_walk ⟨[],H,I,.nil,h⟩
theorem Zau{X:Cx}{pos:Pos}{k v:Expr}{ks:List (Option Expr)}{vs:List Expr}{tk tv:TE}{trs:List (TE×TE)}(hk:PE X k tk)(hv:PE X v tv)(hr:PPs X pos ks vs trs) :
  PPs X pos (some k ::ks) (v ::vs) ((tk,tv) ::trs):=fun pins s σ H Q I h =>
 pairTrees_cons_walk (thn (hk pins s σ H _ I h) fun u s1 ⟨x,H1,I1,rx,q1⟩=>thn (hv pins s1 σ H1 _ I1 q1) fun w2 s2 ⟨y,H2,I2,ry,q2⟩ =>
  thn (hr pins s2 σ H2 _ I2 q2) fun ws s3 ⟨ps,H3,I3,rel,q3⟩=>⟨(x,y) ::ps,H3,I3,.cons ⟨rx,ry⟩ rel,q3⟩)
def Zdn(kvs more:List (Key×V)):List (Key×V):=more.foldl (fun acc kv=>Zbb acc kv.1 kv.2) kvs
theorem KV.merge:∀{more:List (Key×V)} {rs:List (Key×Value)} {kvs:List (Key×V)} {vs:List (Key×Value)},KV more rs->KV kvs vs->KV (Zdn kvs more) (merged vs rs):=by
 intro more rs kvs vs r
 unfold KV at r
 induction r generalizing kvs vs with
 | nil=>intro q;exact q
 | @cons p q ps qs h t ih =>
  intro r0
  have e:KV (Zbb kvs p.1 p.2) (stored vs q.1 q.2):=by
   have:=r0.put p.1 h.2
   rw [<-h.1];exact this
  exact ih e
theorem Zer:∀(more kvs:List (Key×V)),(Zdn kvs more).length<=kvs.length+more.length
 | [],kvs=>by show kvs.length<=kvs.length+0;omega
 | p ::r,kvs=>by
  have h1:=Zer r (Zbb kvs p.1 p.2)
  have h2:=Zb9 kvs p.1 p.2
  show (Zdn (Zbb kvs p.1 p.2) r).length<=_
  rw [List.length_cons];omega
theorem Ziz{P:Program}{w:World}:∀{kvs:List (Key×V)} {ws:List (Value×Value)},VV (kvs.map fun kv=>(kV kv.1,kv.2)) ws->∃rs,Carries (Yg P w) ws rs/\KV kvs rs
 | [],_,r=>by rw [List.map_nil] at r;cases r;exact ⟨[],True.intro,.nil⟩
 | p ::kvs,_,r=>by
  rw [List.map_cons] at r
  cases r with
  | @cons a b as bs h t =>
   obtain ⟨rs,c,q⟩:=Ziz (P:=P) (w:=w) t
   obtain ⟨b1,b2⟩:=b
   exact ⟨(p.1,b2) ::rs,⟨Zkt h.1,rfl,c⟩,.cons ⟨rfl,h.2⟩ q⟩
def Ya6(trs:List (TE×TE)):TE:=fun σ H Q=>∀p,H p=none->Zp4 trs σ (upd H p (.dK [])) fun ps H2=>H2 p=some (.dK [])/\∃kvs:List (Key×V),ps=kvs.map (fun kv=>(kV kv.1,kv.2))/\kvs.length<=15/\Q (.ref p) (upd H2 p (.dK (Zdn [] kvs)))
theorem Zl7{X:Cx}{pos:Pos}{keys:List (Option Expr)}{values:List Expr}{trs:List (TE×TE)}(h:PPs X pos keys values trs)(hall:keys.all (·.isSome)=true)(hl:keys.length=values.length)(h0:keys≠[])
  (h15:keys.length<=15):PE X (.Dict keys values pos) (Ya6 trs):=by
 intro pins s σ H Q I q
 have hn:=I.hok.fresh (Nat.le_refl s.heap.objs.size)
 have I1:=I.laid (a:=s.heap.objs.size) (o:=.dK []) (h':=s.heap.push { cls:=.type "dict",data:=.dict #[] }) (t':=s.toks) (fun _ _ q=>Heap.get?_push_of_some _ q) (Nat.le_refl _) (Znl s.heap I.big)
 refine wpAny_Dict_walk (knd:=Yg X.prog X.w) hall hl h0 h15 (thn (h pins _ σ _ _ I1 (q _ hn)) fun ws s2 ⟨ps,H2,I2,rel,e,kvs,ep,lk,q2⟩=>?_)
 subst ep
 obtain ⟨rs,c,rk⟩:=Ziz (P:=X.prog) (w:=X.w) rel
 obtain ⟨z,hd,vs0,r0,dd⟩:=Zqr I2.hok e
 cases r0
 refine ⟨rs,c,dd,fun h' dd' hs=>⟨.ref s.heap.objs.size,_,?_,rfl,q2⟩⟩
 have hz:(Zdn [] kvs).length<=sizeLine:=by
  have h1:=Zer kvs []
  rw [List.length_nil] at h1
  rw [sizeLine_eq];omega
 have he:∃q,h'.get? s.heap.objs.size=some q:=let ⟨q,_,_,hq,_⟩:=dd';⟨q,hq⟩
 exact Zmw I2 (by rw [e];exact True.intro) hs he (Zth hz hd (rk.merge .nil) dd')
section
variable {X:Cx} {pins:List (Addr×Obj)} {σ:St} {H:Hp} {s:Shared} {a:Addr} {y d:V} {u r:Value} {o:Option V} {A:Around} {E:Value->Shared->Prop}
end
section
variable {X:Cx} {o e f:Expr} {apos cpos:Pos} {td ty tx:TE}
end
section
variable {X:Cx} {pins:List (Addr×Obj)} {σ:St} {H:Hp} {s:Shared} {a:Addr} {kvs:List (Key×V)} {A:Around} {E:Value->Shared->Prop}
end
section
variable {X:Cx} {pins:List (Addr×Obj)} {σ:St} {H:Hp} {s:Shared} {a:Addr} {y:V} {u:Value} {A:Around} {E:Value->Shared->Prop}
end
end L2
namespace Att
open PySem PySem.W PySem.Calls PyProof.Rows
theorem Zhl{P:Params}{h:Heap}:∀(ns:List Int) (vs:List Value),WellAll P h vs (ns.map WData.int)->IntsAre vs ns:=by
 intro ns
 induction ns with
 | nil =>
  intro vs w
  rw [List.map_nil] at w
  cases w
  exact .nil
 | cons n ns ih =>
  intro vs w
  rw [List.map_cons] at w
  cases w with
  | cons a b =>
   cases a
   exact .cons _ _ (ih _ b)
theorem Zsx{l:OpenLaw}{n:Nat}(hn:l.most=some n){P:Params}{h:Heap}{args:List WData}{vals:List Value}
  (hpre:l.row.toRowW.claim.pre args=true) (hwl:WellAll P h vals args) :
  ∃a vs ns,vals=[Value.ref a]/\args=[WData.list (ns.map WData.int)]/\h.get? a=some { cls:=.type "list",data:=.seq vs.toArray }/\IntsAre vs ns/\ns.length<=n:=by
 have hsh:WShape.hasAll [] args [.list .int]=true:=(pre_splitW hpre).1
 have hc:l.pre.holds [] { args:=args }=true:=(pre_splitW hpre).2
 obtain ⟨d,r,rfl,h1,h2⟩:=hasAllW_cons hsh
 obtain rfl:=hasAllW_nil h2
 obtain ⟨xs,rfl,h3⟩:=hasW_list h1
 obtain ⟨ns,rfl⟩:=items_int h3
 have hlen:ns.length<=n:=by
  unfold OpenLaw.pre at hc
  have h4:(WTm.not (.lt (.lit (.int (n:Int))) (.len (.arg 0)))).holds [] { args:=[.list (ns.map .int)] }=true:=by
   have h4:=(holds_andW hc).1
   rw [hn] at h4
   exact h4
  have h5:=condW_of h4 (w_not (w_lt w_lit (w_len_list (w_arg rfl))))
  rw [List.length_map] at h5
  refine Nat.le_of_not_lt fun q=>?_
  have q':(n:Int)<((ns.length:Nat):Int):=by omega
  first
   | (rw [decide_eq_true q'] at h5;exact absurd h5 (by decide))
   | (simp at h5;omega)
 cases hwl with
 | cons w1 w2 =>
  cases w2
  cases w1 with
  | list ho hall=>exact ⟨_,_,ns,rfl,rfl,ho,Zhl ns _ hall,hlen⟩
theorem Zry(l:OpenLaw)(args:List WData):l.row.toRowW.claim.post args (.bool true) args=true :=
 postW_of (r:=l.row.toRowW) (X:=(true ==true))
  (show WShape.has [] (.bool true) .bool=true by first | rfl | decide | simp [WShape.has,WShape.arms,WShape.armsAll])
  (show (WTm.eq .res (.lit (.bool true))).value [] { args:=args,res:=some (.bool true),after:=args }=some (.bool (true ==true)) from w_eq_bool (w_res rfl) w_lit) rfl
theorem attach_call{l:OpenLaw}{n:Nat}{q:Program}{loose:List Str}{XP:(Str->Option Value)->Heap->Prop}{YP:World->Heap->Prop}{d:DefRec}
  (hn:l.most=some n) (hdf:d.params.defaults=[])
  (call:∀(w:World) (s₀ s₁:Shared) (mg mb:Str->Option Value) (fa:Addr) (o:Obj) (pm cd doc:Value) (a:Addr) (vs:List Value) (ns:List Int),
   Ground q loose [] XP w s₀ mg mb s₁.heap->YP w s₁.heap ->
   s₁.heap.get? fa=some o->o.data=.func (docDef d.name d.params d.body d.scope pm cd doc)->s₁.heap.CodeRec cd d.name->mg d.name=some (.ref fa) ->
   s₁.heap.get? a=some { cls:=.type "list",data:=.seq vs.toArray }->IntsAre vs ns->ns.length<=n->s₁.gens=#[] ->
   codeAny (model l.prog w) callerA (.call (.ref fa) ⟨[.ref a],[]⟩) (fun r s'=>r=.ok (.ret (.bool true))/\OldK s₁.heap s'.heap/\s'.os=s₁.os/\AllBare s'.gens) s₁) :
  WalkO q loose XP YP l.row.toRowW d [] (fun f vs=>PySem.call f vs):=by
 intro w s₀ s₁ mg mb G Y fa o pm cd doc dV kV ho hd hcd hD hmg hg args vals as hpre hlay hrd hwl hlo
 obtain rfl:dV=.none:=Dflts.none hD hdf
 obtain rfl:kV=.none:=Dflts.noKw hD
 obtain ⟨a,vs,ns,rfl,rfl,hobj,hints,hlen⟩:=Zsx hn hpre hwl
 refine enter_call (codeAny_mono (call w s₀ s₁ mg mb fa o pm cd doc a vs ns G Y ho (fd_plain hd) hcd hmg hobj hints hlen hg) fun r s' hq=>?_)
 obtain ⟨rfl,h2,h3,h4⟩:=hq
 exact ⟨.inl ⟨.bool true,.bool true,[],rfl,fun _=>rfl,.bool true,Zry l _,fun _=>⟨List.Pairwise.nil,fun _ hm=>(nomatch hm)⟩⟩,h2,h3,h4⟩
section
variable {prog:Program} {w:World} {A:Around} {E:Value->Shared->Prop} {s:Shared} {K:Frag}
def Ybl(h:Heap)(L d:Addr):List (Addr×Obj):=(List.range h.objs.size).filterMap fun a=>if a=L\/a=d then none else (h.get? a).map fun o=>(a,o)
end
end Att
namespace L2
open PySem PySem.Spec PyProof.Rows
theorem Zla:∀{vs:List Value} {ns:List Int},IntsAre vs ns->Yd (ns.map V.int) vs
 | _,_,.nil=>.nil
 | _,_,.cons n t h=>.cons ⟨t,rfl⟩ (Zla h)
def Zzr(H:Hp):Prop:=∀b,H b=none\/∃o xs,H b=some (.frz o (.lst xs))
theorem Zuc{P:Program}{w:World}{K:Frag}{mg mb:Str->Option Value}{CX:CXT}{k:Nat}{fa a:Addr}{fd:FuncData}{x:Str}{sp:Sp}{s₁:Shared}{vs:List Value}{ns:List Int}
  (KX:K.In s₁.heap) (hns:s₁.heap.Ns mainGlobals mg) (hb:s₁.heap.Ns builtinsNs mb) (hbb:∀x:Str,x ≠ "__name__" ->mb x=bootBuiltins x) (hlim:s₁.heap.NoLimit) (hbm:Zx0 mg s₁.heap) (hg:s₁.gens=#[])
  (ha:s₁.heap.get? a=some { cls:=.type "list",data:=.seq vs.toArray }) (hi:IntsAre vs ns) (hl:ns.length<=sizeLine) (hr:Zao k callerA)
  (F:∀base:Heap,K.In base->base.Ns mainGlobals mg->Z1 P w K mg base CX k fa fd [x] sp) (hbind:∀(s:Shared) (u:Value),BindsTo s fd ⟨[u],[]⟩ [(x,u)])
  (hsp:∀H:Hp,Zzr H->SqL K H a (ns.map V.int)->sp [.ref a] H (fun v _=>v=.bl true) fun _ _ _=>False)
  (hCX:∀H e s',CX [] H s₁ (fun _ _ _=>False) e s'->False) :
  codeAny (model P w) callerA (.call (.ref fa) ⟨[.ref a],[]⟩) (fun r s'=>r=.ok (.ret (.bool true))/\OldK s₁.heap s'.heap/\s'.os=s₁.os/\AllBare s'.gens) s₁:=by
 have rv:=Zla hi
 have lenV:=hi.length
 have core:∀H:Hp,Zzr H->SqL K H a (ns.map V.int)->HOk P w H s₁.heap->(∀b,H b≠none->b=a)->(H a≠none->K.lookup a=none) ->
   codeAny (model P w) callerA (.call (.ref fa) ⟨[.ref a],[]⟩) (fun r s'=>r=.ok (.ret (.bool true))/\OldK s₁.heap s'.heap/\s'.os=s₁.os/\AllBare s'.gens) s₁:=by
  intro H hO hS hok hA hK
  have base_of:∀{b:Addr} {o:Obj},s₁.heap.get? b=some o->H b=none->(Zmr s₁.heap H).get? b=some o:=fun e n=>Zul e n
  have noA:∀{b:Addr} {o:Obj} {es:Array DictEntry} {ep:Nat},s₁.heap.get? b=some o->o.data=.dict es ep->H b=none:=fun {b o es ep} e d=>by
   cases q:H b with
   | none=>rfl
   | some u =>
    have e':b=a:=hA b (by rw [q];simp)
    subst e'
    rw [ha] at e;cases e
    have d':Data.seq vs.toArray _=Data.dict es ep:=d
    cases d'
  have nsK:∀{b:Addr} {m:Str->Option Value},s₁.heap.Ns b m->(Zmr s₁.heap H).Ns b m:=fun {b m} ⟨o,es,ep,e,d,r⟩=>⟨o,es,ep,base_of e (noA e d),d,r⟩
  have hKb:K.In (Zmr s₁.heap H):=fun b o e=>base_of (KX b o e) (by
   cases q:H b with
   | none=>rfl
   | some u =>
    have e':b=a:=hA b (by rw [q];simp)
    subst e'
    rw [hK (by rw [q];simp)] at e;cases e)
  have hM:Mod K mg (Zmr s₁.heap H):=⟨hKb,nsK hns,⟨mb,nsK hb,hbb⟩,let ⟨mc,h1,h2⟩:=hlim;⟨mc,nsK h1,h2⟩,by
   obtain ⟨bm,ob,b1,b2,b3,b4,b5,b6⟩:=hbm
   refine ⟨bm,ob,b1,b2,base_of b3 ?_,b4,b5,b6⟩
   cases q:H bm with
   | none=>rfl
   | some u =>
    have e':bm=a:=hA bm (by rw [q];simp)
    subst e'
    rw [ha] at b3;cases b3
    cases b6⟩
  have e0:Zp1 P w K mg (Zmr s₁.heap H) callerA [] s₁ H:=⟨rfl,hM,fun b o e=>Zvf e,Nat.le_of_eq (Zri _ _),trivial,fun b hb=>absurd (show b∈([]:List Addr) from hb) (by simp),hok,.of_eq hg⟩
  refine codeAny_mono ((F _ hKb (nsK hns)).run callerA [] s₁ H ⟨[.ref a],[]⟩ [.ref a] [.ref a] _ _ hr e0 (hbind s₁ (.ref a)) (.cons rfl .nil) (hsp H hO hS)) fun r s' h=>?_
  cases r with
  | error e=>exact (hCX H e s' h).elim
  | ok fl =>
   cases fl with
   | next=>exact False.elim h
   | brk=>exact False.elim h
   | cont=>exact False.elim h
   | ret u =>
    obtain ⟨v,H',os,bare,un,hok',r',q⟩:=h
    have q':v=.bl true:=q
    subst q'
    obtain rfl:u=Value.bool true:=r'
    refine ⟨rfl,OldK.of_keep fun b o e=>?_,os,bare⟩
    cases q:H b with
    | none=>exact un.keep b o e q (by intro z;exact absurd (show b∈([]:List Addr) from z) (by simp)) (by simp)
    | some u =>
     rcases hO b with z|⟨ob,xs,z⟩
     ·rw [q] at z;cases z
     ·have z2:=un.frzs b ob _ z
      obtain ⟨e1,_⟩:=hok b _ z
      obtain ⟨e2,_⟩:=hok' b _ z2
      rw [e] at e1;cases e1
      exact e2
 cases hk:K.lookup a with
 | some o =>
  have e:=KX a o hk
  rw [ha] at e
  cases e
  refine core (fun _=>none) (fun _=>.inl rfl) (.inr ⟨_,vs.toArray,_,hk,rfl,rfl,rfl,by rw [List.size_toArray,lenV];exact hl,by simpa using rv⟩) (fun b u z=>by have z':(none:Option HO)=some u:=z;cases z') (fun b z=>absurd rfl z) fun z=>absurd rfl z
 | none =>
  refine core (fun b=>if b=a then some (.frz { cls:=.type "list",data:=.seq vs.toArray } (.lst (ns.map V.int))) else none) (fun b=>?_) (.inl (.inr ⟨{ cls:=.type "list",data:=.seq vs.toArray },if_pos rfl⟩)) (fun b u z=>?_) (fun b z=>?_) fun _=>hk
  ·by_cases hb:b=a
   ·exact .inr ⟨_,_,if_pos hb⟩
   ·exact .inl (if_neg hb)
  ·by_cases hb:b=a
   ·have z':=(if_pos hb).symm.trans z
    cases z'
    subst hb
    exact ⟨ha,by rw [List.length_map];exact hl,vs,_,rv,ha⟩
   ·have z':=(if_neg hb).symm.trans z
    cases z'
  ·by_cases hb:b=a
   ·exact hb
   ·exact absurd (if_neg hb) z
end L2
namespace L2
open PySem PySem.Spec PyProof.Rows
theorem walk_of{l:PySem.W.OpenLaw}{n k:Nat}{q:Program}{loose:List Str}{XP:(Str->Option Value)->Heap->Prop}{YP:World->Heap->Prop}{d:DefRec}{K:Params->Frag}{CX:World->CXT}{sp:World->Sp}{x:Str}
  (hn:l.most=some n) (hn2:n<=sizeLine) (hdf:d.params.defaults=[]) (hr:Zao k callerA)
  (hY:∀(w:World) (h:Heap),YP w h->(K w.params).In h)
  (F:∀(w:World) (mg:Str->Option Value) (fa:Addr) (h:Heap),(K w.params).In h->h.Ns mainGlobals mg->mg d.name=some (.ref fa) ->
   ∃fd:FuncData,(∀(s:Shared) (u:Value),BindsTo s fd ⟨[u],[]⟩ [(x,u)]) /\
    ∀base:Heap,(K w.params).In base->base.Ns mainGlobals mg->Z1 l.prog w (K w.params) mg base (CX w) k fa fd [x] (sp w))
  (hsp:∀(w:World) (H:Hp) (a:Addr) (ns:List Int),ns.length<=n->Zzr H->SqL (K w.params) H a (ns.map V.int)->sp w [.ref a] H (fun v _=>v=.bl true) fun _ _ _=>False)
  (hCX:∀(w:World) (H:Hp) (s:Shared) (e:Value) (s':Shared),CX w [] H s (fun _ _ _=>False) e s'->False) :
  PySem.W.WalkO q loose XP YP l.row.toRowW d [] (fun f vs=>PySem.call f vs):=by
 refine Att.attach_call hn hdf fun w s₀ s₁ mg mb fa o pm cd doc a vs ns G Y ho hd hcd hmg hobj hints hlen hg=>?_
 have KX:=hY w _ Y
 obtain ⟨fd,hb,hF⟩:=F w mg fa _ KX G.T.g hmg
 exact Zuc KX G.T.g G.T.b G.T.builtins G.T.nolimit G.T.bmain hg hobj hints (Nat.le_trans hlen hn2) hr hF hb (fun H hO hS=>hsp w H a ns hlen hO hS) fun H e s'=>hCX w H s₁ e s'
end L2
/- THE LAST THEOREM (shape;LID,My.* are yours):
   My.Adr:a structure of the addresses that your layer names (classes,functions);My.Txt K t:a structure (Prop) of the equations over K;
   My.txt_mk:{K} {implicit addresses ..} (e1:nsIn K mainGlobals "law" =some (some (.ref f))) (e2:K.lookup f=some ⟨oc,od,.func (fnOf "law" "law" params body scope dV kV doc pm an cdv ct),sl⟩) (e3:codeIn K cdv "law" =true) .. :∃t,My.Txt K t
(the tactic k_is has no namespace:write k_is) -/
namespace L2
open PySem PySem.Spec PyProof.Rows
def Y8(s:Stmt)(j:Nat):Stmt:=match s with
 | .ClassDef _ _ _ body _ _ _ _ _ _ _=>body.getD j (.Pass ⟨0,0,0,0⟩)
 | _=>.Pass ⟨0,0,0,0⟩
def Zr(s:Stmt):Arguments:=match s with
 | .FunctionDef _ a _ _ _ _ _ _ _ _=>a
 | _=>{ posonlyargs:=[],args:=[],vararg:=none,kwonlyargs:=[],kw_defaults:=[],kwarg:=none,defaults:=[] }
def Zo(s:Stmt):List Stmt:=match s with
 | .FunctionDef _ _ b _ _ _ _ _ _ _=>b
 | _=>[]
def Zd(s:Stmt):Scope:=match s with
 | .FunctionDef _ _ _ _ _ _ sc _ _ _=>sc
 | _=>{ kind:=.function,names:=[],isGenerator:=false,isCoroutine:=false }
abbrev CX0:CXT:=fun _ _ _ _ _ _=>False
abbrev E0:XK:=fun _ _ _=>False
theorem Z3{X:Cx}:Ze3 CX0 X E0:=fun _ _ _ _ _ _ _ h=>h.elim
structure Fun(K:Frag)(x qual:Str)(st:Stmt)(f:Addr)(fd:FuncData):Prop where
 ex:∃(oc:Value) (od:Option Addr) (kV doc pm:Value) (an:Option Addr) (cdv ct:Value) (osl:Array (Option Value)),
  fd=fnOf x qual (Zr st) (Zo st) (Zd st) .none kV doc pm an cdv ct/\K.lookup f=some ⟨oc,od,.func fd,osl⟩/\codeIn K cdv qual=true
 kp:keepIn K (.ref f)=true
section
variable {P:Program} {w:World} {K:Frag} {mg:Str->Option Value} {base:Heap}
theorem Fun.ok{x qual:Str}{st:Stmt}{f:Addr}{fd:FuncData}{N ps:List Str}{k:Nat}{sp:Sp}(F:Fun K x qual st f fd)(S:Zt N ps (Zd st))(len:∀vs H Q E,sp vs H Q E->vs.length=ps.length)
  (hbody:∀(cdv:Value) (A:Around) (outer:List Env) (s:Shared) (H:Hp) (vs:List V) (Q:VK) (E:XK),Zao k (A.deeper (envOfC qual (Zd st) s.heap.objs.size f cdv))->sp vs H Q E ->
   ∃t,PSs (Zm6 CX0 P w K mg base N qual (Zd st) f cdv A outer s H E).nox (Zo st) t/\t { nx:=fun _ H'=>Q .non H',rt:=Q } (start N vs) H):Z1 P w K mg base CX0 (k+1) f fd ps sp:=by
 obtain ⟨oc,od,kV,doc,pm,an,cdv,ct,osl,rfl,lk,hcd⟩:=F.ex
 refine Zxa lk hcd S len fun A outer s H vs Q E hr hsp=>?_
 obtain ⟨t,h,q⟩:=hbody cdv A outer s H vs Q E hr hsp
 exact ⟨t,h.nox,q⟩
theorem Fun.binds{x qual:Str}{st:Stmt}{f:Addr}{fd:FuncData}{ps:List Str}(F:Fun K x qual st f fd)
  (h:∀(kV doc pm:Value) (an:Option Addr) (cdv ct:Value) (us:List Value),us.length=ps.length->bindArgs (fnOf x qual (Zr st) (Zo st) (Zd st) .none kV doc pm an cdv ct) ⟨us,[]⟩=pure (ps.zip us)):Zcf K fd ps []:=by
 obtain ⟨oc,od,kV,doc,pm,an,cdv,ct,osl,rfl,lk,hcd⟩:=F.ex
 exact .all (h kV doc pm an cdv ct)
theorem Z7{x qual:Str}{st:Stmt}{f:Addr}{oc:Value}{od an:Option Addr}{osl:Array (Option Value)}{kV doc pm cdv ct:Value}(l:K.lookup f=some ⟨oc,od,.func (fnOf x qual (Zr st) (Zo st) (Zd st) .none kV doc pm an cdv ct),osl⟩)
  (c:codeIn K cdv qual=true) (k:keepIn K (.ref f)=true):Fun K x qual st f (fnOf x qual (Zr st) (Zo st) (Zd st) .none kV doc pm an cdv ct):=⟨⟨oc,od,kV,doc,pm,an,cdv,ct,osl,rfl,l,c⟩,k⟩
end
theorem Wc{A:Around}{k:Nat}(hr:Zao k A):A.units+1<cLine:=Nat.lt_of_le_of_lt (Nat.add_le_add_left (by decide:1<=64) _) hr.units
theorem Zy{n:Nat}(h:n<=1000):n<sizeLine:=Nat.lt_of_le_of_lt h (by decide)
section
variable {X:Cx}
theorem pv(i:Nat){x:Str}{pos:Pos}(hN:X.N[i]? =some x:=by rfl)(hv:Vis X.env.scope x:=by first | exact Or.inl rfl | exact Or.inr (Or.inl rfl) | exact Or.inr (Or.inr rfl)) (hd:(x ==("__debug__" :Str))=false:=by decide)
  (hcd:(x ==("__classdict__" :Str))=false:=by decide):PE X (.Name x pos) (Zka i):=Zx2 hN hv hd hcd
theorem Zsi:Xo X (.builtin "len") (fun xs H Q=>∃a kvs,xs=[V.ref a]/\H a=some (.dK kvs)/\Q (.int kvs.length) H):=by
 intro pins s σ H xs us Q I r h
 obtain ⟨a,kvs,rfl,ha,q⟩:=h
 obtain ⟨u,rfl,ru⟩:=Zc5 r
 cases ru
 exact Yah I (.inl ha) fun t s' I'=>⟨.int kvs.length,H,I',⟨t,rfl⟩,q⟩
end
theorem Zrh{A B:Prop}(h:B):if false=true then A else B:=by
 rw [if_neg Bool.false_ne_true]
 exact h
theorem Zhv{A B:Prop}(h:A):if true=true then A else B:=by
 rw [if_pos rfl]
 exact h
theorem Ym{c A B:Prop}[Decidable c](h1:c->A)(h2:¬c->B):if c then A else B:=by
 by_cases h:c
 ·rw [if_pos h]
  exact h1 h
 ·rw [if_neg h]
  exact h2 h
def Same(H H':Hp):Prop:=∀b o,H b=some o->H' b=some o
theorem Same.refl(H:Hp):Same H H:=fun _ _ h=>h
theorem Same.trans{H H1 H2:Hp}(a:Same H H1)(b:Same H1 H2):Same H H2:=fun c o h=>b c o (a c o h)
theorem Same.free{H H':Hp}(e:Same H H'){l:Addr}(h:H' l=Option.none):H l=Option.none:=by
 cases q:H l with
 | none=>rfl
 | some o =>
  rw [e l o q] at h
  cases h
theorem Same.seq{K:Frag}{H H':Hp}{a:Addr}{xs:List V}(e:Same H H')(h:SqL K H a xs):SqL K H' a xs:=by
 rcases h with (h|⟨o,h⟩)|h
 ·exact .inl (.inl (e _ _ h))
 ·exact .inl (.inr ⟨o,e _ _ h⟩)
 ·exact .inr h
section
variable {κ:Type} [DecidableEq κ]
theorem Zwz{kvs:List (κ×V)}{k:κ}{v:V}(h:Y4 kvs k=some v):k∈kvs.map (·.1):=by
 have q:(kvs.any fun kv=>decide (kv.1=k))=true:=by
  rw [Zf2,h]
  all_goals rfl
 obtain ⟨p,hp,e⟩:=List.any_eq_true.mp q
 exact List.mem_map.mpr ⟨p,hp,of_decide_eq_true e⟩
end
end L2
section
namespace L2
open PySem PySem.Spec PyProof.Rows
section
variable {prog:Program} {w:World} {A:Around} {R:Result->Shared->Prop} {s:Shared}
theorem Zb7{elt target iter:Expr}{ifs:List Expr}{scope:Scope}{pos:Pos}{it acc:Value}{env:Env}(I:Nat->Shared->Prop)
  (turn:∀n s,I n s->wpAny (model prog w) A (pyNext it) (fun r s₁=>match r with
   | none=>R (.ok .next) s₁
   | some v=>wpAny (model prog w) A (letOwnedTupleGo target it v) (fun _ s₁'=>wpAny (model prog w) A (assign target env v) (fun _ s₂ =>
     wpAny (model prog w) A (forIn ifs true fun c r=>if r=true then do let ok <-isTrue c env (eval c env);pure (ForInStep.yield ok) else pure (ForInStep.yield r)) (fun ok s₃ =>
      if ok=true then wpAny (model prog w) A (eval elt env) (fun x s₄ =>
       wpAny (model prog w) A (call (.builtin "list.append") [acc,x]) (fun _ s₅=>∃m,m<n/\I m s₅) (fun _ _=>False) s₄) (fun _ _=>False) s₃
      else ∃m,m<n/\I m s₃) (fun _ _=>False) s₂) (fun _ _=>False) s₁') (fun _ _=>False) s₁) (fun _ _=>False) s)
  (n:Nat) (h:I n s) :
  codeAny (model prog w) A (.compLoop (.ListComp elt [⟨target,iter,ifs,0⟩] scope pos) 0 it acc env) R s:=by
 refine codeAny_loop rfl I (fun n s hI=>?_) n h
 show wpAny _ A ((compTurn (.ListComp elt [⟨target,iter,ifs,0⟩] scope pos) 0 it acc env).onRaise (fun x=>do noteFrame x env;theTreesLotGoes x)) _ _ s
 refine wpAny_noted ?_
 rw [compTurn_list]
 refine wpAny_bind (wpAny_standAt (wpAny_bind (wpAny_mono (turn n s hI) (fun r s₁ h₁=>?_) fun _ _ h'=>h'.elim)))
 cases r with
 | none=>exact wpAny_pure h₁
 | some v =>
  refine wpAny_bind (wpAny_mono h₁ (fun _ s₁' h₁'=>?_) fun _ _ h'=>h'.elim)
  refine wpAny_bind (wpAny_mono h₁' (fun _ s₂ h₂=>wpAny_bind (wpAny_mono h₂ (fun ok s₃ h₃=>?_) fun _ _ h'=>h'.elim)) fun _ _ h'=>h'.elim)
  cases ok with
  | false=>exact wpAny_pure ⟨rfl,h₃⟩
  | true =>
   exact wpAny_bind (wpAny_bind (wpAny_mono h₃ (fun x s₄ h₄=>wpAny_bind (wpAny_mono h₄ (fun _ s₅ h₅=>wpAny_pure (wpAny_pure ⟨rfl,h₅⟩)) fun _ _ h'=>h'.elim)) fun _ _ h'=>h'.elim))
end
def Xd(X:Cx)(scope:Scope)(cl:List (Str×Addr))(N':List Str)(s:Shared)(H:Hp)(C:Addr)(ex:List Addr):Cx where
 prog:=X.prog
 w:=X.w
 K:=X.K
 mg:=X.mg
 base:=X.base
 A:=X.A
 N:=N'
 s₀:=s
 H₀:=H
 env:=compEnvC scope cl C X.env
 outer:=X.stack
 stack:=X.stack
 ex:=ex
 fn:=fun _=>false
 calm:=X.calm
 pn:=[]
 xe:=fun _ _=>False
structure Ya(X:Cx)(scope:Scope)(cl:List (Str×Addr))(N':List Str)(fr:St->St):Prop where
 kind:scope.kind=.function
 cell:∀y∈scope.names,y.2 ≠ .cell
 names:∀y∈scope.names,y.2=.local->scope.names.lookup y.1=some .local
 clos:closureFor scope X.env=pure cl
 sub:∀x c,cl.lookup x=some c->X.env.cells.lookup x=some c
 has:∀x,((relabel scope X.env).names.lookup x=some .cell\/(relabel scope X.env).names.lookup x=some .free)->∃c,cl.lookup x=some c
 len:∀σ:St,σ.length=X.N.length->(fr σ).length=N'.length
 fr:∀(σ:St) (i:Nat) (x:Str) (v:V),N'[i]? =some x->(fr σ)[i]? =some (some v)->Vis (relabel scope X.env) x ->
  ((relabel scope X.env).names.lookup x=some .cell\/(relabel scope X.env).names.lookup x=some .free) /\
  (X.env.kindOf x=some .cell\/X.env.kindOf x=some .free)/\∃j:Nat,X.N[j]? =some x/\σ[j]? =some (some v)
def W2(a b:St):Prop:=∀(i:Nat) (v:V),a[i]? =some (some v)->b[i]? =some (some v)
theorem W2.set{a:St}{i:Nat}{v:V}(h:a[i]? =some none):W2 a (a.set i (some v)):=fun j u e=>by
 by_cases hj:i=j
 ·subst hj;rw [h] at e;cases e
 ·rw [List.getElem?_set_ne hj];exact e
theorem W2.trans{a b c:St}(h:W2 a b)(k:W2 b c):W2 a c:=fun i v e=>k i v (h i v e)
def PF(X:Cx)(ifs:List Expr)(t:TT):Prop :=
 ∀(pins:List (Addr×Obj)) (s:Shared) (σ:St) (H:Hp) (Q:Bool->Hp->Prop),Inv X pins σ H s->t σ H Q ->
  wpAny (model X.prog X.w) X.A (forIn ifs true fun c r=>if r=true then do let ok <-isTrue c X.env (eval c X.env);pure (ForInStep.yield ok) else pure (ForInStep.yield r)) (TP X pins σ Q) X.xe s
def Zwi:TT:=fun _ H Q=>Q true H
theorem W0{X:Cx}:PF X [] Zwi:=fun _ _ _ H _ I h=>wpAny_tests_nil ⟨H,I,h⟩
theorem Zgf{X:Cx}{c:Expr}{t:TT}(h:PT X c t):PF X [c] t:=fun pins s σ H Q I hq=>wpAny_tests_one (h pins s σ H Q I hq)
def Zdx(J:It)(fr:St->St)(g:TG)(tf:TT)(te:TE)(Q:VK)(σ:St)(H1:Hp)(D:Addr):Prop :=
 ∃W:Nat->Nat->List V->Hp->Prop,(∃m,W 0 m [] (upd H1 D (.lst [])))/\∀i m ys H,W i m ys H ->
  (J.stop i H/\Q (.ref D) H)\/(J.go i H/\∃N:List V->Hp->Prop,(∀ys' H',N ys' H'->∃m',m'<m/\W (i+1) m' ys' H') /\
   ∀x H',J.yld i H x H'->g x (fr σ) H' fun σ2 H2=>W2 (fr σ) σ2/\tf σ2 H2 fun b H3 =>
    if b=true then te σ2 H3 fun y H4=>H4 D=some (.lst ys)/\ys.length<sizeLine/\N (ys++[y]) (upd H4 D (.lst (ys++[y]))) else N ys H3)
def Zxq(wi:TI)(fr:St->St)(g:TG)(tf:TT)(te:TE):TE:=fun σ H Q=>wi σ H fun J H1=>∀D,H1 D=none->Zdx J fr g tf te Q σ H1 D
section
variable {X:Cx} {pins:List (Addr×Obj)} {σ:St} {H:Hp} {s:Shared} {scope:Scope} {cl:List (Str×Addr)} {N':List Str} {fr:St->St} {C:Addr} {fp:List Addr}
theorem Zv2(I:Inv X pins σ H s)(S:Ya X scope cl N' fr)(hC:s.heap.objs.size<=C)(hf:∀b∈fp,Zhf X pins H b)(ho:∀b∈fp,∃o,s.heap.get? b=some o):(Xd X scope cl N' s H C fp).Ok where
 mod:=I.ok.mod
 kind:=S.kind
 glob:=I.ok.glob
 blt:=I.ok.blt
 above:=hC
 inj:=fun x y c h1 h2=>I.ok.inj x y c (S.sub x c h1) (S.sub y c h2)
 has:=fun x h=>S.has x h
 cab:=fun x c h=>absurd (show false=true from h) Bool.false_ne_true
 hd:=I.ok.hd
 frames:=I.ok.frames
 stk:=.inl rfl
 exf:=fun b hb=>by
  obtain ⟨o,e⟩:=ho b hb
  refine ⟨Nat.ne_of_lt (Nat.lt_of_lt_of_le (Heap.lt_size e) hC),fun x c h=>(hf b hb).2.2.2.2.1 x c (S.sub x c h)⟩
 bs:=I.bs
 bsz:=Nat.le_trans I.ok.bsz I.sz
 noex:=fun b o e hb=>by
  rcases (hf b hb).2.2.2.1 with z|z
  ·exact I.ok.noex b o e z
  ·exact absurd (Nat.lt_of_lt_of_le (Heap.lt_size e) (Nat.le_trans I.ok.bsz z)) (Nat.lt_irrefl _)
 exfs:=fun b hb z=>by
  rcases List.mem_cons.mp (I.stkSub b z) with q|q
  ·exact (hf b hb).2.1 q
  ·exact (hf b hb).2.2.1 q
 funs:=I.stack
 frf:=I.stkFree
theorem Zin{h₁:Heap}{m₁:Str->Option Value}{tk:Nat}{D:Addr}(I:Inv X pins σ H s)(S:Ya X scope cl N' fr)(hC:s.heap.objs.size<C)(hD:D=s.heap.objs.size)(hf:∀b∈fp,Zhf X pins H b)(ho:∀b∈fp,∃o,s.heap.get? b=some o)
  (old:∀b o,s.heap.get? b=some o->h₁.get? b=some o) (hl:h₁.get? D=some { cls:=.type "list",data:=.seq ([]:List Value).toArray 0 }) (hn:h₁.Ns C m₁) (hCz:h₁.objs.size<=C+1) :
  Inv (Xd X scope cl N' s H C fp) [] (fr σ) (upd H D (.lst [])) { s with heap:=h₁,toks:=tk }:=by
 have fD:H D=none:=I.hok.fresh (Nat.le_of_eq hD.symm)
 have fC:H C=none:=I.hok.fresh (Nat.le_of_lt hC)
 have hDC:D≠C:=by rw [hD];exact Nat.ne_of_lt hC
 refine ⟨Zv2 I S (Nat.le_of_lt hC) hf ho,rfl,I.bare,Un.laid old (Nat.le_of_eq hD.symm) fD,⟨m₁,hn,fun i x v e1 e2 e3=>?_⟩,fun x c e=>?_,?_,fun x c e=>?_,fun p hp=>absurd (show p∈([]:List (Addr×Obj)) from hp) (by simp),?_,S.len σ I.len⟩
 ·obtain ⟨k1,k2,j,j1,j2⟩:=S.fr σ i x v e1 e2 e3
  obtain ⟨c,hc⟩:=S.has x k1
  have hc':=S.sub x c hc
  obtain ⟨m,_,hl'⟩:=I.loc
  obtain ⟨u,r,l⟩:=hl' j x v j1 j2 (by rcases k2 with k|k;exact .inr (.inl k);exact .inr (.inr k))
  refine ⟨u,r,.inr ⟨k1,c,hc,?_⟩⟩
  rcases l with ⟨k,_⟩|⟨_,c2,hc2,o,z,d⟩
  ·rcases k2 with q|q <;>(rw [k] at q;cases q)
  ·rw [hc'] at hc2;cases hc2
   exact ⟨o,old _ _ z,d⟩
 ·obtain ⟨v,o,z,d⟩:=I.cell x c (S.sub x c e)
  exact ⟨v,o,old _ _ z,d⟩
 ·show upd H D (.lst []) C=none
  rw [Zj hDC.symm];exact fC
 ·show upd H D (.lst []) c=none
  rw [Zj (fun z=>?_)]
  ·exact I.freeC x c (S.sub x c e)
  ·obtain ⟨v,o,q,d⟩:=I.cell x c (S.sub x c e)
   have:=Heap.lt_size q
   rw [z,hD] at this
   exact Nat.lt_irrefl _ this
 ·exact I.hok.laid old (Nat.le_of_eq hD.symm) ⟨Nat.zero_le _,[],0,.nil,hl⟩
theorem Zn1{H':Hp}{s2:Shared}{h':Heap}(I:Inv X pins σ H s)(hC:s.heap.objs.size<C)(hf:∀b∈fp,Zhf X pins H b)(J:Inv (Xd X scope cl N' s H C fp) [] (fr σ) H' s2)(hs:Heap.SameBut C s2.heap h') :
  Inv X pins σ H' { s2 with heap:=h' }:=by
 have fC:H' C=none:=J.free
 have u:Un (frs X.stack) fp H H' s.heap s2.heap:=J.base
 have ne:∀b o,s.heap.get? b=some o->b≠C:=fun b o e=>Nat.ne_of_lt (Nat.lt_trans (Heap.lt_size e) hC)
 have u2:Un (frs X.stack) fp H H' s.heap h':=by
  refine ⟨fun b o e n hb hx=>?_,fun b o e n hb hx=>?_,u.free,fun b o e hx=>?_,u.tups,u.frzs,u.tbls⟩
  ·rw [hs.2 b (ne b o e)];exact u.keep b o e n hb hx
  ·obtain ⟨sl,q⟩:=u.slot b o e n hb hx
   exact ⟨sl,by rw [hs.2 b (ne b o e)];exact q⟩
  ·obtain ⟨o',q⟩:=u.there b o e hx
   exact ⟨o',by rw [hs.2 b (ne b o e)];exact q⟩
 have hok:HOk X.prog X.w H' h':=fun b o e=>by
  refine (J.hok b o e).stay (fun c v hc q=>?_) (fun _ q=>q) fun _ _ q=>q
  have nc:c≠C:=by
   rintro rfl
   rcases hc with z|z
   ·rw [<-z,fC] at e;cases e
   ·rw [fC] at z;cases z
  rw [hs.2 c nc];exact q
 refine I.call' (s':={ s2 with heap:=h' }) (ch:=fp) J.os u2 hok J.bare fun b hb=>?_
 obtain ⟨_,f1,f2,f3,f4,f5⟩:=hf b hb
 exact ⟨f3,f1,f4,f5⟩
end
theorem Xn{X:Cx}{elt tg iter:Expr}{ifs:List Expr}{scope:Scope}{pos:Pos}{cl:List (Str×Addr)}{N':List Str}{fr:St->St}{wi:TI}{g:TG}{tf:TT}{te:TE}
  (hc:X.calm=true) (S:Ya X scope cl N' fr) (hi:PI X tg iter wi) (hg:∀s H C ex,PG (Xd X scope cl N' s H C ex) tg g) (hf:∀s H C ex,PF (Xd X scope cl N' s H C ex) ifs tf)
  (he:∀s H C ex,PE (Xd X scope cl N' s H C ex) elt te) (hs:∀x,foldedSetIterable iter X.env x=pure x:=by intro _;rfl):PE X (.ListComp elt [⟨tg,iter,ifs,0⟩] scope pos) (Zxq wi fr g tf te):=by
 intro pins s σ H Q I h
 rw [eval_ListComp]
 refine wpAny_comprehension_free (use:=none) rfl hs S.clos S.kind S.names (thn (hi pins s σ H _ I h) fun v s1 h1=>thn h1 fun itv s2 h2=>?_)
 obtain ⟨it,fp,tn,J,H2,e,I2,T,st2,f2,q⟩:=h2
 subst e
 refine wpAny_newObj_type (wpAny_newFunctionEnv S.cell (by intro y hy;simp at hy) (fun h₁ hns₁ hsb₁=>?_) S.kind)
 dsimp only at hns₁ hsb₁ ⊢
 generalize hP:s2.heap.push { cls:=.type "list",dict:=none,data:=.seq ([]:List Value).toArray }=P at hns₁ hsb₁ ⊢
 have hPz:P.objs.size=s2.heap.objs.size+1:=by rw [<-hP,Heap.size_push]
 have hCD:s2.heap.objs.size<P.objs.size:=by rw [hPz];exact Nat.lt_succ_self _
 have ho2:∀b∈fp,∃o,s2.heap.get? b=some o:=fun b hb=>let ⟨o,e,_⟩:=T.obj _ _ st2 b hb;⟨o,e⟩
 have below:∀b,b<s2.heap.objs.size->b≠P.objs.size:=fun b hb=>Nat.ne_of_lt (Nat.lt_trans hb hCD)
 have old:∀b o,s2.heap.get? b=some o->h₁.get? b=some o:=fun b o e=>hsb₁.extBut b o (below b (Heap.lt_size e)) (Heap.get?_push_of_some _ (hP ▸ Heap.get?_push_of_some _ e))
 have hacc:h₁.get? s2.heap.objs.size=some { cls:=.type "list",data:=.seq ([]:List Value).toArray 0 }:=hsb₁.extBut _ _ (Nat.ne_of_lt hCD) (Heap.get?_push_of_some _ (hP ▸ Heap.get?_push_size _ rfl))
 have fD:H2 s2.heap.objs.size=none:=I2.hok.fresh (Nat.le_refl _)
 obtain ⟨W,⟨m0,w0⟩,turn⟩:=q s2.heap.objs.size fD
 have hz:h₁.objs.size<=P.objs.size+1:=by
  have e:=hsb₁.1
  rw [Heap.size_push] at e
  exact Nat.le_of_eq e
 have st1:tn 0 h₁:=T.keep _ _ _ st2 fun b hb o e=>old b o e
 have stat:∀{pins':List (Addr×Obj)} {H':Hp},(∀p∈pins',p.1∉fp)->(∀b∈fp,H' b=none)->∀b∈fp,Zhf (Xd X scope cl N' s2 H2 P.objs.size fp) pins' H' b:=fun {pins' H'} hp hn b hb=>by
  obtain ⟨o,e⟩:=ho2 b hb
  obtain ⟨_,f1,f2',f3,f4,f5⟩:=f2 b hb
  refine ⟨hn b hb,below b (Heap.lt_size e),fun z=>?_,.inl hb,fun x c h=>f4 x c (S.sub x c h),fun p hp' z=>?_⟩
  ·rcases List.mem_cons.mp (I2.stkSub b z) with q|q
   ·exact f1 q
   ·exact f2' q
  ·have hp2:p∈pins':=by simpa [Xd] using hp'
   exact hp p hp2 (by rw [z];exact hb)
 have loop:∀s3:Shared,s3={ s2 with heap:=h₁,toks:=s2.toks+([]:List (Str×Value)).length } ->
   codeAny (model X.prog X.w) X.A (.compLoop (.ListComp elt [⟨tg,iter,ifs,0⟩] scope pos) 0 (.ref it) (.ref s2.heap.objs.size) (compEnvC scope cl P.objs.size X.env)) (compPost (model X.prog X.w) X.A X.xe none (EP X pins σ Q) (.ref s2.heap.objs.size) P.objs.size) s3:=by
  rintro s3 rfl
  have I3:Inv (Xd X scope cl N' s2 H2 P.objs.size fp) [] (fr σ) (upd H2 s2.heap.objs.size (.lst [])) { s2 with heap:=h₁,toks:=s2.toks+([]:List (Str×Value)).length }:=Zin I2 S hCD rfl f2 ho2 old hacc hns₁ hz
  refine Zb7 (fun n s'=>∃i ys H',Inv (Xd X scope cl N' s2 H2 P.objs.size fp) [] (fr σ) H' s'/\tn i s'.heap/\(∀b∈fp,H' b=none)/\W i n ys H') ?_ m0 ⟨0,[],_,I3,st1,fun b hb=>?_,w0⟩
  ·rintro n s3 ⟨i,ys,H3,I3,st3,fr3,w3⟩
   rcases turn i n ys H3 w3 with ⟨stop,qn⟩|⟨go,N,hN,step⟩
   ·refine thn (T.done (Xd X scope cl N' s2 H2 P.objs.size fp) rfl rfl rfl hc i [] s3 (fr σ) H3 _ I3 (stat (by simp) fr3) st3 stop) fun r s4 ⟨hr,I4⟩=>?_
    subst hr
    obtain ⟨m4,hn4,_⟩:=I4.loc
    exact ⟨m4,hn4,fun h' hs'=>⟨.ref s2.heap.objs.size,H3,Zn1 I2 hCD f2 I4 hs',rfl,qn⟩⟩
   ·refine thn (T.item (Xd X scope cl N' s2 H2 P.objs.size fp) rfl rfl rfl hc i [] s3 (fr σ) H3 _ I3 (stat (by simp) fr3) st3 go) fun r s4 ⟨u,hr,h4⟩=>?_
    subst hr
    refine thn h4 fun _ s5 ⟨x,H5,I5,r5,y5,st5,fr5⟩=>?_
    have I5':=I5.pinned (stat (by simp) fr5) (T.obj _ _ st5)
    refine thn (hg s2 H2 P.objs.size fp _ s5 (fr σ) H5 x u _ I5' r5 (step x H5 y5)) fun _ s6 ⟨σ6,H6,I6,kp,q6⟩=>?_
    refine thn (hf s2 H2 P.objs.size fp _ s6 σ6 H6 _ I6 q6) fun ok s7 ⟨H7,I7,q7⟩=>?_
    have again:∀{σ8:St} {H8:Hp} {s8:Shared} {ys8:List V},W2 (fr σ) σ8->Inv (Xd X scope cl N' s2 H2 P.objs.size fp) ([]++Zgb fp s5.heap) σ8 H8 s8->N ys8 H8 ->
      ∃m,m<n/\∃i ys H',Inv (Xd X scope cl N' s2 H2 P.objs.size fp) [] (fr σ) H' s8/\tn i s8.heap/\(∀b∈fp,H' b=none)/\W i m ys H':=fun {σ8 H8 s8 ys8} kp8 I8 n8=>by
     obtain ⟨m',hm,w8⟩:=hN ys8 H8 n8
     refine ⟨m',hm,i+1,ys8,H8,(I8.unpinned).weak (by rw [I8.len];exact S.len σ I2.len) kp8,T.keep _ _ _ st5 fun b hb o e=>(I8.pin (b,o) (List.mem_append_right _ (List.mem_append_right _ (Zbv hb e)))).1,fun b hb=>?_,w8⟩
     obtain ⟨o,e,d⟩:=T.obj _ _ st5 b hb
     exact (I8.pin (b,o) (List.mem_append_right _ (List.mem_append_right _ (Zbv hb e)))).2.1
    cases ok with
    | false=>exact again kp I7 q7
    | true =>
     refine thn (he s2 H2 P.objs.size fp _ s7 σ6 H7 _ I7 q7) fun uy s8 ⟨y,H8,I8,r8,hD8,hz8,q8⟩=>?_
     exact thn (Xy _ s8 σ6 H8 (.ref s2.heap.objs.size) [y] (.ref s2.heap.objs.size) [uy] (fun _ H9=>N (ys++[y]) H9) I8 rfl (.cons r8 .nil) ⟨_,ys,y,rfl,rfl,hD8,hz8,q8⟩) fun _ s9 ⟨v9,H9,I9,_,q9⟩=>again kp I9 q9
  ·show upd H2 s2.heap.objs.size (.lst []) b=none
   obtain ⟨o,e⟩:=ho2 b hb
   rw [Zj (Nat.ne_of_lt (Heap.lt_size e))]
   exact (f2 b hb).1
 exact codeAny_compStart_list (loop _ rfl) (T.self X.A 0 _ _ _ st1 (loop _ rfl))
section
variable {K:Frag} {a:Addr} {fr:St->St} {g:TG} {tf:TT} {te:TE} {Q:VK} {σ:St} {H1:Hp} {D:Addr}
def Zdb(fr:St->St)(g:TG)(tf:TT)(te:TE)(σ:St)(D:Addr)(x:V)(ys:List V)(H:Hp)(N:List V->Hp->Prop):Prop :=
 g x (fr σ) H fun σ2 H2=>W2 (fr σ) σ2/\tf σ2 H2 fun b H3=>if b=true then te σ2 H3 fun y H4=>H4 D=some (.lst ys)/\ys.length<sizeLine/\N (ys++[y]) (upd H4 D (.lst (ys++[y]))) else N ys H3
theorem Xq{xs:List V}(Pv:Nat->List V->Hp->Prop)(h0:Pv 0 [] (upd H1 D (.lst [])))(hl:∀i ys H,i<=xs.length->Pv i ys H->SqL K H a xs)
  (hs:∀i x ys H,xs[i]? =some x->Pv i ys H->Zdb fr g tf te σ D x ys H (Pv (i+1))) (hd:∀ys H,Pv xs.length ys H->Q (.ref D) H):Zdx (Itl K a) fr g tf te Q σ H1 D:=by
 refine ⟨fun i m ys H=>m=xs.length-i/\i<=xs.length/\Pv i ys H,⟨xs.length,by simp,Nat.zero_le _,h0⟩,?_⟩
 rintro i m ys H ⟨rfl,hi,p⟩
 have q:=hl i ys H hi p
 by_cases hlt:i<xs.length
 ·refine .inr ⟨⟨xs,xs[i],q,by simp [hlt]⟩,Pv (i+1),fun ys' H' p'=>⟨xs.length-(i+1),by omega,rfl,hlt,p'⟩,fun x H' y=>?_⟩
  obtain ⟨e,y⟩:=y
  subst e
  exact hs i x ys _ (y xs q) p
 ·have e:i=xs.length:=by omega
  subst e
  exact .inl ⟨⟨xs,q,Nat.le_refl _⟩,hd ys H p⟩
theorem Zof{xs:List V}(Pv:Nat->List V->Hp->Prop)(h0:Pv 0 [] (upd H1 D (.lst [])))(hl:∀i ys H,i<=xs.length->Pv i ys H->SqT K H a xs)
  (hs:∀i x ys H,xs[i]? =some x->Pv i ys H->Zdb fr g tf te σ D x ys H (Pv (i+1))) (hd:∀ys H,Pv xs.length ys H->Q (.ref D) H):Zdx (Itt K a) fr g tf te Q σ H1 D:=by
 refine ⟨fun i m ys H=>m=xs.length-i/\i<=xs.length/\Pv i ys H,⟨xs.length,by simp,Nat.zero_le _,h0⟩,?_⟩
 rintro i m ys H ⟨rfl,hi,p⟩
 have q:=hl i ys H hi p
 by_cases hlt:i<xs.length
 ·refine .inr ⟨⟨xs,xs[i],q,by simp [hlt]⟩,Pv (i+1),fun ys' H' p'=>⟨xs.length-(i+1),by omega,rfl,hlt,p'⟩,fun x H' y=>?_⟩
  obtain ⟨e,y⟩:=y
  subst e
  exact hs i x ys _ (y xs q) p
 ·have e:i=xs.length:=by omega
  subst e
  exact .inl ⟨⟨xs,q,Nat.le_refl _⟩,hd ys H p⟩
theorem Zcq{lo:Int}{n:Nat}(Pv:Nat->List V->Hp->Prop)(h0:Pv 0 [] (upd H1 D (.lst [])))
  (hs:∀i ys H,i<n->Pv i ys H->Zdb fr g tf te σ D (.int (lo+i)) ys H (Pv (i+1))) (hd:∀ys H,Pv n ys H->Q (.ref D) H):Zdx (Itr lo n) fr g tf te Q σ H1 D:=by
 refine ⟨fun i m ys H=>m=n-i/\i<=n/\Pv i ys H,⟨n,by simp,Nat.zero_le _,h0⟩,?_⟩
 rintro i m ys H ⟨rfl,hi,p⟩
 by_cases hlt:i<n
 ·refine .inr ⟨hlt,Pv (i+1),fun ys' H' p'=>⟨n-(i+1),by omega,rfl,hlt,p'⟩,fun x H' y=>?_⟩
  obtain ⟨e,y⟩:=y
  subst e y
  exact hs i ys _ hlt p
 ·have e:i=n:=by omega
  subst e
  exact .inl ⟨Nat.le_refl _,hd ys H p⟩
def Its(x:Str):It:=⟨fun i _=>i<x.cps.size,fun i H v H'=>H'=H/\∃c,x.cps[i]? =some c/\v=.str ⟨#[c]⟩,fun i _=>x.cps.size<=i⟩
theorem Zux{x:Str}(Pv:Nat->List V->Hp->Prop)(h0:Pv 0 [] (upd H1 D (.lst [])))
  (hs:∀i c ys H,x.cps[i]? =some c->Pv i ys H->Zdb fr g tf te σ D (.str ⟨#[c]⟩) ys H (Pv (i+1))) (hd:∀ys H,Pv x.cps.size ys H->Q (.ref D) H):Zdx (Its x) fr g tf te Q σ H1 D:=by
 refine ⟨fun i m ys H=>m=x.cps.size-i/\i<=x.cps.size/\Pv i ys H,⟨x.cps.size,by simp,Nat.zero_le _,h0⟩,?_⟩
 rintro i m ys H ⟨rfl,hi,p⟩
 by_cases hlt:i<x.cps.size
 ·refine .inr ⟨hlt,Pv (i+1),fun ys' H' p'=>⟨x.cps.size-(i+1),by omega,rfl,hlt,p'⟩,fun v H' y=>?_⟩
  obtain ⟨e,c,hc,ev⟩:=y
  subst e ev
  exact hs i c ys _ hc p
 ·have e:i=x.cps.size:=by omega
  subst e
  exact .inl ⟨Nat.le_refl _,hd ys H p⟩
end
theorem Zo8{P:Program}{w:World}{K:Frag}{tg:Expr}(it:Addr)(x:Str)(t:Tok):Zng P w K tg (Its x) [it] it (fun i h=>h.IsStrIter it "str_ascii_iterator" x t i) where
 mem:=by simp
 obj:=fun i h st b hb=>by
  have e:b=it:=by simpa using hb
  subst e
  obtain ⟨o,e,c,d⟩:=st
  exact ⟨o,e,fun v z=>by rw [d] at z;cases z⟩
 keep:=fun i h h' st k=>by
  obtain ⟨o,e,r⟩:=st
  exact ⟨o,k it (by simp) o e,r⟩
 item:=by
  intro X hP hw hK hc i pins s σ H E I hf st hg
  subst hP hw hK
  obtain ⟨f0,f1,f2,f3,f4,f5⟩:=hf it (by simp)
  have hlt:i<x.cps.size:=hg
  refine wpAny_pyNext_ascii_item st (c:=x.cps[i]) (by simp [hlt]) fun h' st' sb=>?_
  have I1:Inv X pins σ H { s with heap:=h',toks:=s.toks+1 }:=I.turned (fun b o hb e=>(sb.2 b hb).trans e) f0 f1 f3 f4 f5
  obtain ⟨o,e,c,d⟩:=id st'
  exact ⟨_,rfl,Znf (s:={ s with heap:=h',toks:=s.toks+1 }) e c d (by decide) ⟨.str ⟨#[x.cps[i]]⟩,H,I1,⟨_,rfl⟩,⟨rfl,_,by simp [hlt],rfl⟩,st',fun b hb=>(hf b hb).1⟩⟩
 done:=by
  intro X hP hw hK hc i pins s σ H E I hf st hg
  subst hP hw hK
  obtain ⟨f0,f1,f2,f3,f4,f5⟩:=hf it (by simp)
  have hle:x.cps.size<=i:=hg
  exact wpAny_pyNext_ascii_end (I.ok.hd hc) st (by simp [hle]) fun h' eb=>⟨rfl,I.turned (t':=s.toks) (fun b o hb e=>eb b o hb e) f0 f1 f3 f4 f5⟩
 self:=fun _ _ _ _ _ st h=>wpAny_pyIter_striter_ascii st h
def Yb5(tl:TE):TI:=fun σ H R=>tl σ H fun v H1=>∃x,v=.str x/\x.cps.all (· < 128)=true/\R (Its x) H1
theorem Zzl{X:Cx}{tg l:Expr}{tl:TE}(hl:PE X l tl):PI X tg l (Yb5 tl):=by
 intro pins s σ H R I h
 refine thn (hl pins s σ H _ I h) fun v s1 ⟨y,H1,I1,r1,q1⟩=>?_
 obtain ⟨x,e,ha,q⟩:=q1
 subst e
 obtain ⟨t,rfl⟩:=r1
 refine wpAny_pyIter_ascii ha ?_
 refine ⟨s1.heap.objs.size,[s1.heap.objs.size],_,_,H1,rfl,I1.kept (t':=s1.toks) fun b o e=>Heap.get?_push_of_some _ e,Zo8 _ x t,⟨_,Heap.get?_push_size _ rfl,rfl,rfl⟩,fun b hb=>?_,q⟩
 have e:b=s1.heap.objs.size:=by simpa using hb
 subst e
 exact I1.fpOk (Nat.le_refl _) (I1.hok.fresh (Nat.le_refl _))
theorem Yd.at_bool:∀{bs:List Bool} {us:List Value} {i:Nat} {u:Value},Yd (bs.map V.bl) us->us[i]? =some u->∃b,bs[i]? =some b/\u=.bool b
 | [],_,_,_,.nil,e=>by simp at e
 | b ::bs,_,0,u,.cons r _,e=>by
  simp at e;subst e
  exact ⟨b,rfl,r⟩
 | b ::bs,_,i+1,u,.cons _ t,e=>by
  obtain ⟨c,h1,h2⟩:=Yd.at_bool (i:=i) t (by simpa using e)
  exact ⟨c,by simpa using h1,h2⟩
theorem Zsl(bs:List Bool):(List.range bs.length).all (fun i=>bs.getD i false)=bs.all id:=by
 have e:(List.range bs.length).map (fun i=>bs.getD i false)=bs:=by
  apply List.ext_getElem
  ·simp
  ·intro i h1 h2
   simp at h1
   simp [h1]
 calc (List.range bs.length).all (fun i=>bs.getD i false)=((List.range bs.length).map (fun i=>bs.getD i false)).all id:=by rw [List.all_map];rfl
  _=bs.all id:=by rw [e]
theorem Zi4{X:Cx}(hc:X.calm=true):Xo X (.builtin "all") (fun xs H Q=>∃(p:Addr) (bs:List Bool),xs=[.ref p]/\SqL X.K H p (bs.map V.bl)/\Q (.bl (bs.all id)) H):=by
 intro pins s σ H xs us Q I r h
 obtain ⟨p,bs,rfl,hq,q⟩:=h
 obtain ⟨u,rfl,ru⟩:=Zc5 r
 cases ru
 obtain ⟨its,rv,pl,hz⟩:=I.list hq
 have hlt:p<s.heap.objs.size:=by obtain ⟨_,_,e,_⟩:=pl;exact Heap.lt_size e
 refine call_all_walk (wpAny_pyIter_list pl.isList ?_)
 refine ⟨s.heap.objs.size,_,_,its.toArray.size,_,_,fun i=>bs.getD i false,rfl,Walks.list (A:=X.A.in1) (show X.A.in1.handled=none from I.ok.hd hc) s.heap.objs.size p (Nat.ne_of_lt hlt) its.toArray,⟨⟨_,Heap.get?_push_size _ rfl,rfl,rfl⟩,pl.isList.push _⟩,?_,fun h' tk k=>?_⟩
 ·intro i v s' Q' E' hv hQ
  obtain ⟨b,hb,rfl⟩:=Yd.at_bool (i:=i) rv (by simpa using hv)
  refine wpAny_truthy_bool ?_
  have e:bs.getD i false=b:=by rw [List.getD_eq_getElem?_getD,hb];rfl
  have hQ':Q' (bs.getD i false) s':=hQ
  rw [e] at hQ'
  exact hQ'
 ·have hl:=rv.length
  rw [List.length_map] at hl
  refine ⟨.bl (bs.all id),H,?_,?_,q⟩
  ·refine I.kept (t':=tk) fun b o e=>k b o ?_ (Heap.get?_push_of_some _ e)
   have:=Heap.lt_size e
   intro z
   have z':b=s.heap.objs.size:=by simpa using z
   rw [z'] at this
   exact Nat.lt_irrefl _ this
  ·show Value.bool ((List.range its.toArray.size).all fun i=>bs.getD i false)=Value.bool (bs.all id)
   rw [List.size_toArray,<-hl,Zsl]
theorem Znn{X:Cx}:Xo X (.builtin "isinstance") (fun xs H Q=>∃x c b t,xs=[x,c]/\Zbm X.K H x t/\((∃n,c=.ty n/\kitOne X.K t (.type n)=some b)\/∃a,c=.ref a/\kitOne X.K t (.ref a)=some b)/\Q (.bl b) H):=by
 intro pins s σ H xs us Q I r h
 obtain ⟨x,c,b,t,rfl,ty,k,q⟩:=h
 obtain ⟨u,w',rfl,rx,rw'⟩:=Zqw r
 rcases k with ⟨n,rfl,k⟩|⟨a,rfl,k⟩
 ·cases rw'
  exact Zk0 I rx ty k fun tk=>⟨.bl b,H,I.tok tk,rfl,q⟩
 ·cases rw'
  exact Zk0 I rx ty k fun tk=>⟨.bl b,H,I.tok tk,rfl,q⟩
def Ya7:V->Option Int->Option Int->Hp->VK->Prop:=fun x lo hi H Q=>∃z,x=.str z/\z.length<=sizeLine/\Q (.str (Txt.slice z lo hi)) H
theorem Zyh{X:Cx}:SlR X Ya7:=by
 intro pins s σ H x v vl vu lo hi sl Q I rx hs pl pu h
 obtain ⟨z,rfl,hz,q⟩:=h
 obtain ⟨t,rfl⟩:=rx
 refine ⟨"str",_,F.slot_str_getitem.lookup,typeIs_str _ _ _,?_⟩
 obtain ⟨o,ho,hc,hd⟩:=hs
 cases pl with
 | none =>
  cases pu with
  | none=>exact wpAny_getItem_str_slice (l:=none) (u:=none) (st:=none) ⟨o,ho,hc,hd⟩ rfl (post_val_or_str ⟨Nat.le_trans (Txt.slice_le z none none) hz,fun t' k=>⟨.str (Txt.slice z none none),H,I.tok k,⟨t',rfl⟩,q⟩⟩)
  | int j tj=>exact wpAny_getItem_str_slice (l:=none) (u:=some (j,tj)) (st:=none) ⟨o,ho,hc,hd⟩ rfl (post_val_or_str ⟨Nat.le_trans (Txt.slice_le z none (some j)) hz,fun t' k=>⟨.str (Txt.slice z none (some j)),H,I.tok k,⟨t',rfl⟩,q⟩⟩)
 | int i ti =>
  cases pu with
  | none=>exact wpAny_getItem_str_slice (l:=some (i,ti)) (u:=none) (st:=none) ⟨o,ho,hc,hd⟩ rfl (post_val_or_str ⟨Nat.le_trans (Txt.slice_le z (some i) none) hz,fun t' k=>⟨.str (Txt.slice z (some i) none),H,I.tok k,⟨t',rfl⟩,q⟩⟩)
  | int j tj=>exact wpAny_getItem_str_slice (l:=some (i,ti)) (u:=some (j,tj)) (st:=none) ⟨o,ho,hc,hd⟩ rfl (post_val_or_str ⟨Nat.le_trans (Txt.slice_le z (some i) (some j)) hz,fun t' k=>⟨.str (Txt.slice z (some i) (some j)),H,I.tok k,⟨t',rfl⟩,q⟩⟩)
end L2
namespace L2
open PySem PySem.Spec PyProof.Rows
def Zzy(M:St->Hp->St->Hp->Prop)(t:TS):TS:=fun D σ H=>t { D with nx:=M σ H } σ H/\∀σ' H',M σ H σ' H'->D.nx σ' H'
theorem Zyg{X:Cx}{st:Stmt}{t:TS}(M:St->Hp->St->Hp->Prop)(h:PS X st t):PS X st (Zzy M t):=by
 intro pins s σ H D I hq
 refine thn (h pins s σ H { D with nx:=M σ H } I hq.1) fun f s' q=>?_
 cases f with
 | next=>obtain ⟨σ',H',I',m⟩:=q;exact ⟨σ',H',I',hq.2 σ' H' m⟩
 | brk=>exact q
 | cont=>exact q
 | ret u=>exact q
end L2
namespace L2
open PySem PySem.Spec PyProof.Rows
def Zuq:Expr->Bool
 | .Starred .. =>false
 | _=>true
theorem Zsb{e:Expr}{es:List Expr}{env:Env}(h:Zuq e=true):starEach (e ::es) env=(false,eval e env) ::starEach es env:=by
 cases e <;>first
  | rfl
  | exact absurd h Bool.false_ne_true
theorem Zb{X:Cx}{e:Expr}{es:List Expr}{te:TE}{t:TA}(ha:PE X e te)(hr:PA X es t)(h:Zuq e=true:=by rfl):PA X (e ::es) (Zky te t):=Zwd ha hr (Zsb h)
end L2
namespace L2
open PySem PySem.Spec PyProof.Rows
structure WSs(X:Cx)(b:List Stmt)(D:Zfl)(σ:St)(H:Hp):Prop where
 run:∀(pins:List (Addr×Obj)) (s:Shared),Inv X pins σ H s->wpAny (model X.prog X.w) X.A (execs b X.env) (SP X pins D) X.xe s
structure WS(X:Cx)(st:Stmt)(D:Zfl)(σ:St)(H:Hp):Prop where
 run:∀(pins:List (Addr×Obj)) (s:Shared),Inv X pins σ H s->wpAny (model X.prog X.w) X.A (exec st X.env) (SP X pins D) X.xe s
structure WE(X:Cx)(e:Expr)(σ:St)(H:Hp)(Q:VK):Prop where
 run:∀(pins:List (Addr×Obj)) (s:Shared),Inv X pins σ H s->wpAny (model X.prog X.w) X.A (eval e X.env) (EP X pins σ Q) X.xe s
section
variable {X:Cx} {b Z5:List Stmt} {st:Stmt} {e:Expr} {D:Zfl} {σ:St} {H:Hp} {t:TS} {te:TE} {Q:VK}
theorem Z2:PSs X b (WSs X b):=fun pins s _ _ _ I h=>h.run pins s I
theorem Ybj:PS X st (WS X st):=fun pins s _ _ _ I h=>h.run pins s I
theorem Zuh:PE X e (WE X e):=fun pins s _ _ _ I h=>h.run pins s I
theorem WSs.of(h:PSs X b t)(q:t D σ H):WSs X b D σ H:=⟨fun pins s I=>h pins s σ H D I q⟩
theorem WS.of(h:PS X st t)(q:t D σ H):WS X st D σ H:=⟨fun pins s I=>h pins s σ H D I q⟩
theorem WE.of(h:PE X e te)(q:te σ H Q):WE X e σ H Q:=⟨fun pins s I=>h pins s σ H Q I q⟩
theorem WSs.step(h:PS X st t)(q:t { D with nx:=WSs X Z5 D } σ H):WSs X (st ::Z5) D σ H:=WSs.of (Zug h Z2) q
theorem WSs.last(h:PS X st t)(q:t D σ H):WSs X [st] D σ H:=WSs.of (Zve h) q
theorem WSs.cut(M:St->Hp->Prop)(h:WS X st { D with nx:=M } σ H)(k:∀σ' H',M σ' H'->WSs X Z5 D σ' H'):WSs X (st ::Z5) D σ H:=by
 refine WSs.step (t:=Zzy (fun _ _=>M) (WS X st)) (Zyg (fun _ _=>M) Ybj) ⟨h,fun σ' H' m=>k σ' H' m⟩
end
end L2
namespace L2
open PySem PySem.Spec PyProof.Rows
end L2
namespace L2
open PySem PySem.Spec PyProof.Rows
end L2
end
section
namespace L2
open PySem PySem.Spec PyProof.Rows
def Zoa{α:Type}(P:α->Prop):List α->Prop
 | []=>True
 | a ::l=>P a/\Zoa P l
theorem Zoa.mem{α:Type}{P:α->Prop}:∀{l:List α} {a:α},Zoa P l->a∈l->P a
 | _ ::_,a,h,m=>by
  rcases List.mem_cons.mp m with rfl|m
  ·exact h.1
  ·exact Zoa.mem h.2 m
theorem Zce{env:Env}:∀{names:List (Str×NameKind)} {x:Str},names.lookup x=some .free ->
  (names.map fun (n,k)=>if (k ==NameKind.free && env.scope.kind ==.function && env.kindOf n ==some .cell) then (n,NameKind.cell) else (n,k)).lookup x=some .cell \/
  (names.map fun (n,k)=>if (k ==NameKind.free && env.scope.kind ==.function && env.kindOf n ==some .cell) then (n,NameKind.cell) else (n,k)).lookup x=some .free
 | [],_,h=>by simp at h
 | (n,k) ::r,x,h=>by
  have ih:=@Zce env r x
  by_cases hx:x ==n
  ·have hk:k=.free:=by
    rw [List.lookup_cons,hx] at h
    exact Option.some.inj h
   subst hk
   by_cases hc:(NameKind.free ==NameKind.free && env.scope.kind ==.function && env.kindOf n ==some .cell)=true
   ·left
    rw [List.map_cons]
    show List.lookup x ((if _ then (n,NameKind.cell) else (n,NameKind.free)) ::_)=_
    rw [if_pos hc,List.lookup_cons,hx]
   ·right
    rw [List.map_cons]
    show List.lookup x ((if _ then (n,NameKind.cell) else (n,NameKind.free)) ::_)=_
    rw [if_neg hc,List.lookup_cons,hx]
  ·have hx:(x ==n)=false:=by simpa using hx
   rw [List.lookup_cons,hx] at h
   have q:=ih h
   rw [List.map_cons]
   have e:∀(b:Bool) (l:List (Str×NameKind)),List.lookup x ((if b=true then (n,NameKind.cell) else (n,k)) ::l)=l.lookup x:=fun b l=>by
    cases b <;>simp [List.lookup_cons,hx]
   rcases q with q|q
   ·exact .inl ((e _ _).trans q)
   ·exact .inr ((e _ _).trans q)
theorem Zct{env:Env}:∀{names:List (Str×NameKind)} {x:Str},
    ((names.map fun (n,k)=>if (k ==NameKind.free && env.scope.kind ==.function && env.kindOf n ==some .cell) then (n,NameKind.cell) else (n,k)).lookup x=some .cell \/
     (names.map fun (n,k)=>if (k ==NameKind.free && env.scope.kind ==.function && env.kindOf n ==some .cell) then (n,NameKind.cell) else (n,k)).lookup x=some .free) ->
    names.lookup x=some .cell\/names.lookup x=some .free
  | [],_,h=>by simp at h
  | (n,k) ::r,x,h=>by
    have ih:=@Zct env r x
    rw [List.map_cons] at h
    by_cases hx:x ==n
    · rw [List.lookup_cons,hx]
      have e:∀(c:Prop) [Decidable c] (l:List (Str×NameKind)),List.lookup x ((if c then (n,NameKind.cell) else (n,k)) ::l)=some (if c then .cell else k):=fun c _ l=>by
        split <;>rw [List.lookup_cons,hx]
      rcases h with h|h
      · have h:=(e _ _).symm.trans h
        have h:=Option.some.inj h
        split at h
        · rename_i c
          right
          have:k=.free:=by
            rw [Bool.and_eq_true,Bool.and_eq_true] at c
            simpa using c.1.1
          rw [this]
        · left;rw [h]
      · have h:=(e _ _).symm.trans h
        have h:=Option.some.inj h
        split at h
        · cases h
        · right;rw [h]
    · have hx:(x ==n)=false:=by simpa using hx
      have e:∀(c:Prop) [Decidable c] (l:List (Str×NameKind)),List.lookup x ((if c then (n,NameKind.cell) else (n,k)) ::l)=l.lookup x:=fun c _ l=>by
        split <;>rw [List.lookup_cons,hx]
      rw [List.lookup_cons,hx]
      exact ih (h.imp (fun z=>(e _ _).symm.trans z) fun z=>(e _ _).symm.trans z)
theorem Ya.std{X:Cx}{scope:Scope}{cl:List (Str×Addr)}{N':List Str}(n:Nat)(js:List Nat)(kind:scope.kind=.function)(cell:∀y∈scope.names,y.2 ≠ .cell)
  (names:∀y∈scope.names,y.2=.local->scope.names.lookup y.1=some .local) (clos:closureFor scope X.env=pure cl) (hcl:Zoa (fun p=>X.env.cells.lookup p.1=some p.2) cl)
  (hfree:(scope.names.all fun y=>y.2 !=.free || ((cl.lookup y.1).isSome && (X.env.kindOf y.1 ==some .cell || X.env.kindOf y.1 ==some .free)))=true)
  (hN:N'.length=n+js.length) (hj:Zoa (fun p:Nat×Nat=>∃x,N'[n+p.1]? =some x/\X.N[p.2]? =some x/\scope.names.lookup x=some .free) ((List.range js.length).zip js)) :
  Ya X scope cl N' (fun σ=>List.replicate n none++js.map fun j=>(σ[j]?).join) where
 kind:=kind
 cell:=cell
 names:=names
 clos:=clos
 sub:=fun x c h=>Zoa.mem (P:=fun p=>X.env.cells.lookup p.1=some p.2) (a:=(x,c)) hcl (PySem.mem_of_lookup h)
 has:=fun x h=>by
  rcases Zct (env:=X.env) h with h|h
  ·exact absurd rfl (cell _ (PySem.mem_of_lookup h))
  ·have q:=List.all_eq_true.mp hfree _ (PySem.mem_of_lookup h)
   simp only [bne_self_eq_false,Bool.false_or,Bool.and_eq_true] at q
   exact Option.isSome_iff_exists.mp q.1
 len:=fun σ _=>by simp [hN]
 fr:=fun σ i x v h1 h2 _=>by
  have hi:n<=i:=by
   rcases Nat.lt_or_ge i n with hlt|hge
   ·rw [List.getElem?_append_left (by simpa using hlt),List.getElem?_replicate,if_pos hlt] at h2
    cases h2
   ·exact hge
  rw [List.getElem?_append_right (by simpa using hi),List.length_replicate,List.getElem?_map] at h2
  cases hjs:js[i-n]? with
  | none=>rw [hjs] at h2;cases h2
  | some j =>
   rw [hjs] at h2
   have h2:(σ[j]?).join=some v:=Option.some.inj h2
   have hlt:i-n<js.length:=by
    rcases Nat.lt_or_ge (i-n) js.length with z|z
    ·exact z
    ·rw [List.getElem?_eq_none z] at hjs;cases hjs
   have hm:(i-n,j)∈(List.range js.length).zip js:=by
    rw [List.mem_iff_getElem?]
    refine ⟨i-n,?_⟩
    rw [List.getElem?_zip_eq_some]
    exact ⟨by simp [hlt],hjs⟩
   obtain ⟨x',e1,e2,e3⟩:=Zoa.mem hj hm
   have e:n+(i-n)=i:=by omega
   simp only [e] at e1
   rw [h1] at e1
   cases e1
   have q:=List.all_eq_true.mp hfree _ (PySem.mem_of_lookup e3)
   simp only [bne_self_eq_false,Bool.false_or,Bool.and_eq_true,Bool.or_eq_true,beq_iff_eq] at q
   refine ⟨Zce e3,q.2,j,e2,?_⟩
   cases hs:σ[j]? with
   | none=>rw [hs] at h2;cases h2
   | some o=>rw [hs] at h2;exact congrArg some h2
end L2
namespace L2
open PySem PySem.Spec PyProof.Rows
inductive Tr where
 | non | int (i:Int) | str (x:Str) | tup (ts:List Tr) | lst (ts:List Tr)
noncomputable instance:DecidableEq Tr:=fun _ _=>Classical.propDecidable _
mutual
inductive Im(K:Frag)(H:Hp):Nat->Tr->V->Prop where
 | non {n:Nat}:Im K H n .non .non
 | int {n:Nat} (i:Int):Im K H n (.int i) (.int i)
 | str {n:Nat} (x:Str):Im K H n (.str x) (.str x)
 | tupI {n:Nat} {a:Addr} {xs:List V} {ts:List Tr}:SqT K H a xs->Ims K H n ts xs->Im K H (n+1) (.tup ts) (.ref a)
 | lstI {n:Nat} {a:Addr} {xs:List V} {ts:List Tr}:SqL K H a xs->Ims K H n ts xs->Im K H (n+1) (.lst ts) (.ref a)
inductive Ims(K:Frag)(H:Hp):Nat->List Tr->List V->Prop where
 | nil {n:Nat}:Ims K H n [] []
 | cons {n:Nat} {t:Tr} {v:V} {ts:List Tr} {vs:List V}:Im K H n t v->Ims K H n ts vs->Ims K H n (t ::ts) (v ::vs)
end
theorem Ims.toP{K:Frag}{H:Hp}{n:Nat}:∀{ts:List Tr} {xs:List V},Ims K H n ts xs->Paired (Im K H n) ts xs
 | [],_,h=>by cases h;exact .nil
 | _ ::_,_,h=>by
  cases h with
  | cons r t=>exact .cons r t.toP
theorem Ims.ofP{K:Frag}{H:Hp}{n:Nat}:∀{ts:List Tr} {xs:List V},Paired (Im K H n) ts xs->Ims K H n ts xs
 | _,_,.nil=>.nil
 | _,_,.cons r t=>.cons r (Ims.ofP t)
theorem Im.tup{K:Frag}{H:Hp}{n:Nat}{a:Addr}{xs:List V}{ts:List Tr}(sq:SqT K H a xs)(ps:Paired (Im K H n) ts xs):Im K H (n+1) (.tup ts) (.ref a):=.tupI sq (.ofP ps)
theorem Im.lst{K:Frag}{H:Hp}{n:Nat}{a:Addr}{xs:List V}{ts:List Tr}(sq:SqL K H a xs)(ps:Paired (Im K H n) ts xs):Im K H (n+1) (.lst ts) (.ref a):=.lstI sq (.ofP ps)
theorem Paired.get{α β:Type}{R:α->β->Prop}:∀{l₁:List α} {l₂:List β} {i:Nat} {a:α},Paired R l₁ l₂->l₁[i]? =some a->∃b,l₂[i]? =some b/\R a b
 | _,_,_,_,.nil,e=>by simp at e
 | _,_,0,_,.cons r _,e=>by simp at e;subst e;exact ⟨_,rfl,r⟩
 | _,_,i+1,a,.cons _ t,e=>by
  obtain ⟨u,h1,h2⟩:=Paired.get (i:=i) (a:=a) t (by simpa using e)
  exact ⟨u,by simpa using h1,h2⟩
theorem Paired.get'{α β:Type}{R:α->β->Prop}:∀{l₁:List α} {l₂:List β} {i:Nat} {b:β},Paired R l₁ l₂->l₂[i]? =some b->∃a,l₁[i]? =some a/\R a b
 | _,_,_,_,.nil,e=>by simp at e
 | _,_,0,_,.cons r _,e=>by simp at e;subst e;exact ⟨_,rfl,r⟩
 | _,_,i+1,a,.cons _ t,e=>by
  obtain ⟨u,h1,h2⟩:=Paired.get' (i:=i) (b:=a) t (by simpa using e)
  exact ⟨u,by simpa using h1,h2⟩
theorem Paired.append{α β:Type}{R:α->β->Prop}:∀{a₁:List α} {b₁:List β} {a₂:List α} {b₂:List β},Paired R a₁ b₁->Paired R a₂ b₂->Paired R (a₁++a₂) (b₁++b₂)
 | _,_,_,_,.nil,s=>s
 | _,_,_,_,.cons r t,s=>.cons r (Paired.append t s)
theorem Paired.strs{K:Frag}{H:Hp}{n:Nat}:∀xs:List Str,Paired (Im K H n) (xs.map Tr.str) (xs.map V.str)
 | []=>.nil
 | x ::xs=>.cons (.str x) (Paired.strs (K:=K) (H:=H) (n:=n) xs)
theorem Same.at{H H':Hp}{b:Addr}{o:HO}(e:Same H H')(h:H b=some o):H' b=some o:=e b o h
theorem Same.new{H:Hp}{p:Addr}{o:HO}(h:H p=none):Same H (upd H p o):=fun b u e=>by rw [Zj (Zi e h)];exact e
theorem Same.sqT{K:Frag}{H H':Hp}{a:Addr}{xs:List V}(e:Same H H')(h:SqT K H a xs):SqT K H' a xs:=by
 rcases h with (h|⟨o,h⟩)|h
 ·exact .inl (.inl (e _ _ h))
 ·exact .inl (.inr ⟨o,e _ _ h⟩)
 ·exact .inr h
theorem Im.mono{K:Frag}{H H':Hp}(e:Same H H'):∀{n:Nat} {t:Tr} {v:V},Im K H n t v->Im K H' n t v:=by
 intro n
 induction n with
 | zero=>intro t v h;cases h <;>constructor
 | succ n ih =>
  intro t v h
  cases h with
  | non=>exact .non
  | int i=>exact .int i
  | str x=>exact .str x
  | tupI sq ps=>exact .tup (e.sqT sq) (Paired.mapP ps.toP fun _ _ z=>ih z)
  | lstI sq ps=>exact .lst (e.seq sq) (Paired.mapP ps.toP fun _ _ z=>ih z)
theorem Paired.uniq{α β:Type}{R:α->β->Prop}(f:∀a a' b,R a b->R a' b->a=a'):∀{l l':List α} {m:List β},Paired R l m->Paired R l' m->l=l'
 | _,_,_,.nil,.nil=>rfl
 | _,_,_,.cons r t,.cons r' t'=>by rw [f _ _ _ r r',Paired.uniq f t t']
section
variable {X:Cx} {pins:List (Addr×Obj)} {σ:St} {H:Hp} {s:Shared}
theorem Inv.lt_excl(I:Inv X pins σ H s){a:Addr}{xs ys:List V}(h:SqL X.K H a xs)(h':SqT X.K H a ys):False:=by
 obtain ⟨its,_,pl,_⟩:=I.list h
 obtain ⟨its',_,tp,_⟩:=I.tuple h'
 exact SeqAt.ne_of_list_tuple pl.isList (show s.heap.IsTuple a its'.toArray from tp) rfl
theorem Im.inj(I:Inv X pins σ H s):∀{n:Nat} {t u:Tr} {v:V},Im X.K H n t v->Im X.K H n u v->t=u:=by
 intro n
 induction n with
 | zero=>intro t u v h h';cases h <;>cases h' <;>rfl
 | succ n ih =>
  intro t u v h h'
  cases h with
  | non=>cases h';rfl
  | int i=>cases h';rfl
  | str x=>cases h';rfl
  | tupI sq pm =>
   cases h' with
   | tupI sq' pm' =>
    have e:=I.tuple_inj sq sq'
    subst e
    rw [Paired.uniq (R:=Im X.K H n) (fun _ _ _ z z'=>ih z z') pm.toP pm'.toP]
   | lstI sq' pm'=>exact (I.lt_excl sq' sq).elim
  | lstI sq pm =>
   cases h' with
   | tupI sq' pm'=>exact (I.lt_excl sq sq').elim
   | lstI sq' pm' =>
    have e:=I.list_inj sq sq'
    subst e
    rw [Paired.uniq (R:=Im X.K H n) (fun _ _ _ z z'=>ih z z') pm.toP pm'.toP]
theorem Yf{A:Around}{s:Shared}{u v:Value}{b b':Bool}(h:SeqAt.EqAt A s u v b)(e:b=b'):SeqAt.EqAt A s u v b':=e ▸ h
theorem Zg3(ts us:List Tr):(((List.range (min ts.length us.length)).all fun j=>decide (ts[j]? =us[j]?)) && ts.length ==us.length)=decide (ts=us):=by
 rw [Bool.eq_iff_iff]
 simp only [Bool.and_eq_true,List.all_eq_true,List.mem_range,decide_eq_true_eq,beq_iff_eq]
 constructor
 ·rintro ⟨h,e⟩
  refine List.ext_getElem? fun i=>?_
  by_cases hi:i<ts.length
  ·exact h i (by omega)
  ·rw [List.getElem?_eq_none (by omega),List.getElem?_eq_none (by omega)]
 ·rintro rfl
  exact ⟨fun _ _=>rfl,rfl⟩
theorem Zlz{ts us:List Tr}(h:ts.length=us.length):((List.range ts.length).all fun j=>decide (ts[j]? =us[j]?))=decide (ts=us):=by
 have q:=Zg3 ts us
 rw [h,Nat.min_self,beq_self_eq_true,Bool.and_true] at q
 rw [h]
 exact q
theorem Xv(A:Around):A.in1.units=A.units+1:=rfl
theorem Zdp{n:Nat}{A:Around}{ts us:List Tr}{xs ys:List V}{its its':List Value}
  (ih:∀{t u:Tr} {x y:V} {vx vy:Value},Im X.K H n t x->Im X.K H n u y->Yl x vx->Yl y vy->SeqAt.EqAt A s vx vy (decide (t=u)))
  (ps:Paired (Im X.K H n) ts xs) (ps':Paired (Im X.K H n) us ys) (rv:Yd xs its) (rv':Yd ys its') :
  ∀j (h1:j<its.toArray.size) (h2:j<its'.toArray.size),SeqAt.EqAt A s its.toArray[j] its'.toArray[j] (decide (ts[j]? =us[j]?)):=by
 intro j h1 h2
 have l1:=rv.length
 have l2:=rv'.length
 have h1':j<xs.length:=by simpa [l1] using h1
 have h2':j<ys.length:=by simpa [l2] using h2
 obtain ⟨t,e1,r1⟩:=Paired.get' ps (i:=j) (b:=xs[j]) (by simp [h1'])
 obtain ⟨u,e2,r2⟩:=Paired.get' ps' (i:=j) (b:=ys[j]) (by simp [h2'])
 obtain ⟨v1,f1,g1⟩:=rv.get (i:=j) (x:=xs[j]) (by simp [h1'])
 obtain ⟨v2,f2,g2⟩:=rv'.get (i:=j) (x:=ys[j]) (by simp [h2'])
 have k1:its.toArray[j]=v1:=by
  have:its[j]? =some its.toArray[j]:=by simp [show j<its.length by simpa using h1]
  rw [f1] at this
  exact (Option.some.inj this).symm
 have k2:its'.toArray[j]=v2:=by
  have:its'[j]? =some its'.toArray[j]:=by simp [show j<its'.length by simpa using h2]
  rw [f2] at this
  exact (Option.some.inj this).symm
 rw [k1,k2,e1,e2]
 refine Yf (ih r1 r2 g1 g2) ?_
 rw [Bool.eq_iff_iff]
 simp
theorem Im.tuple_rc(I:Inv X pins σ H s){n:Nat}{A:Around}{a b:Addr}{ts us:List Tr}{xs ys:List V}
  (ih:∀{t u:Tr} {x y:V} {vx vy:Value},Im X.K H n t x->Im X.K H n u y->Yl x vx->Yl y vy->SeqAt.EqAt A.in1 s vx vy (decide (t=u))) (hu:A.units<cLine)
  (sq:SqT X.K H a xs) (ps:Paired (Im X.K H n) ts xs) (sq':SqT X.K H b ys) (ps':Paired (Im X.K H n) us ys) :
  SeqAt.RcAt A s (.ref a) (.ref b) (decide (Tr.tup ts=Tr.tup us))/\SeqAt.RcNeAt A s (.ref a) (.ref b) (!decide (Tr.tup ts=Tr.tup us)):=by
 obtain ⟨its,rv,tp,_⟩:=I.tuple sq
 obtain ⟨its',rv',tp',_⟩:=I.tuple sq'
 have l1:=rv.length
 have l2:=rv'.length
 have m1:=Paired.length ps
 have m2:=Paired.length ps'
 have e:((List.range (min its.toArray.size its'.toArray.size)).all (fun j=>decide (ts[j]? =us[j]?)) && its.toArray.size ==its'.toArray.size)=decide (Tr.tup ts=Tr.tup us):=by
  rw [List.size_toArray,List.size_toArray,<-l1,<-l2,<-m1,<-m2,Zg3,Bool.eq_iff_iff]
  simp
 constructor
 ·rw [<-e];exact SeqAt.RcAt.tuples (show s.heap.IsTuple a its.toArray from tp) (show s.heap.IsTuple b its'.toArray from tp') hu (Zdp ih ps ps' rv rv')
 ·rw [<-e];exact SeqAt.RcNeAt.tuples (show s.heap.IsTuple a its.toArray from tp) (show s.heap.IsTuple b its'.toArray from tp') hu (Zdp ih ps ps' rv rv')
theorem Im.list_rc(I:Inv X pins σ H s){n:Nat}{A:Around}{a b:Addr}{ts us:List Tr}{xs ys:List V}
  (ih:∀{t u:Tr} {x y:V} {vx vy:Value},Im X.K H n t x->Im X.K H n u y->Yl x vx->Yl y vy->SeqAt.EqAt A.in1 s vx vy (decide (t=u))) (hu:A.units<cLine)
  (sq:SqL X.K H a xs) (ps:Paired (Im X.K H n) ts xs) (sq':SqL X.K H b ys) (ps':Paired (Im X.K H n) us ys) :
  SeqAt.RcAt A s (.ref a) (.ref b) (decide (Tr.lst ts=Tr.lst us))/\SeqAt.RcNeAt A s (.ref a) (.ref b) (!decide (Tr.lst ts=Tr.lst us)):=by
 obtain ⟨its,rv,tp,_⟩:=I.list sq
 obtain ⟨its',rv',tp',_⟩:=I.list sq'
 have l1:=rv.length
 have l2:=rv'.length
 have m1:=Paired.length ps
 have m2:=Paired.length ps'
 by_cases hl:ts.length=us.length
 ·have e:((List.range its.toArray.size).all fun j=>decide (ts[j]? =us[j]?))=decide (Tr.lst ts=Tr.lst us):=by
   rw [List.size_toArray,<-l1,<-m1,Zlz hl,Bool.eq_iff_iff]
   simp
  have hs:its.toArray.size=its'.toArray.size:=by rw [List.size_toArray,List.size_toArray];omega
  constructor
  ·rw [<-e];exact SeqAt.RcAt.lists tp.isList tp'.isList hs hu (Zdp ih ps ps' rv rv')
  ·rw [<-e];exact SeqAt.RcNeAt.lists tp.isList tp'.isList hs hu (Zdp ih ps ps' rv rv')
 ·have e:decide (Tr.lst ts=Tr.lst us)=false:=decide_eq_false fun z=>hl (by injection z with z;rw [z])
  have hs:(its.toArray.size !=its'.toArray.size)=true:=by rw [List.size_toArray,List.size_toArray];simp;omega
  rw [e]
  exact ⟨SeqAt.RcAt.lists_lengths tp.isList tp'.isList hs hu,SeqAt.RcNeAt.lists_lengths tp.isList tp'.isList hs hu⟩
theorem Im.eqAt(I:Inv X pins σ H s):∀(n:Nat) (A:Around) {t u:Tr} {x y:V} {vx vy:Value},Im X.K H n t x->Im X.K H n u y->Yl x vx->Yl y vy->A.units+n<cLine->SeqAt.EqAt A s vx vy (decide (t=u)):=by
 intro n
 induction n with
 | zero =>
  intro A t u x y vx vy h h' rx ry hu
  cases h <;>cases h' <;>exact Yf (Zie rx ry rfl rfl) (by rw [Bool.eq_iff_iff];simp [eqV])
 | succ n ih =>
  intro A t u x y vx vy h h' rx ry hu
  have hu0:A.units<cLine:=by omega
  have hu1:A.in1.units+n<cLine:=by rw [Xv];omega
  have ih1:∀{t u:Tr} {x y:V} {vx vy:Value},Im X.K H n t x->Im X.K H n u y->Yl x vx->Yl y vy->SeqAt.EqAt A.in1 s vx vy (decide (t=u)):=fun z z' r r'=>ih A.in1 z z' r r' hu1
  cases h with
  | @tupI _ a xs ts sq pm =>
   cases rx
   obtain ⟨its,rv,tp,_⟩:=I.tuple sq
   cases h' with
   | non=>cases ry;exact Yf (SeqAt.EqAt.tuple_none (show s.heap.IsTuple _ its.toArray from tp) hu0) (decide_eq_false fun z=>nomatch z).symm
   | int i=>obtain ⟨t',rfl⟩:=ry;exact Yf (SeqAt.EqAt.tuple_int i t' (show s.heap.IsTuple _ its.toArray from tp) hu0) (decide_eq_false fun z=>nomatch z).symm
   | str i=>obtain ⟨t',rfl⟩:=ry;exact Yf (SeqAt.EqAt.tuple_str i t' (show s.heap.IsTuple _ its.toArray from tp) hu0) (decide_eq_false fun z=>nomatch z).symm
   | @tupI _ b ys us sq' pm' =>
    cases ry
    by_cases hab:a=b
    ·subst hab
     rw [Im.inj I (Im.tupI sq pm) (Im.tupI sq' pm'),decide_eq_true rfl]
     exact SeqAt.EqAt.same _
    ·exact SeqAt.EqAt.of_refs hab (Im.tuple_rc I ih1 hu0 sq pm.toP sq' pm'.toP).1
   | lstI sq' pm' =>
    cases ry
    obtain ⟨its',rv',tp',_⟩:=I.list sq'
    exact Yf (SeqAt.EqAt.tuple_list (show s.heap.IsTuple _ its.toArray from tp) tp'.isList hu0) (decide_eq_false fun z=>nomatch z).symm
  | @lstI _ a xs ts sq pm =>
   cases rx
   obtain ⟨its,rv,tp,_⟩:=I.list sq
   cases h' with
   | non=>cases ry;exact Yf (SeqAt.EqAt.list_none tp.isList hu0) (decide_eq_false fun z=>nomatch z).symm
   | int i=>obtain ⟨t',rfl⟩:=ry;exact Yf (SeqAt.EqAt.list_int i t' tp.isList hu0) (decide_eq_false fun z=>nomatch z).symm
   | str i=>obtain ⟨t',rfl⟩:=ry;exact Yf (SeqAt.EqAt.list_str i t' tp.isList hu0) (decide_eq_false fun z=>nomatch z).symm
   | tupI sq' pm' =>
    cases ry
    obtain ⟨its',rv',tp',_⟩:=I.tuple sq'
    exact Yf (SeqAt.EqAt.list_tuple tp.isList (show s.heap.IsTuple _ its'.toArray from tp') hu0) (decide_eq_false fun z=>nomatch z).symm
   | @lstI _ b ys us sq' pm' =>
    cases ry
    by_cases hab:a=b
    ·subst hab
     rw [Im.inj I (Im.lstI sq pm) (Im.lstI sq' pm'),decide_eq_true rfl]
     exact SeqAt.EqAt.same _
    ·exact SeqAt.EqAt.of_refs hab (Im.list_rc I ih1 hu0 sq pm.toP sq' pm'.toP).1
  | non =>
   cases rx
   cases h' with
   | non=>cases ry;exact Yf (SeqAt.EqAt.same _) (decide_eq_true rfl).symm
   | int i=>obtain ⟨t',rfl⟩:=ry;exact Yf (SeqAt.EqAt.none_int i t') (decide_eq_false fun z=>nomatch z).symm
   | str i=>obtain ⟨t',rfl⟩:=ry;exact Yf (SeqAt.EqAt.none_str i t') (decide_eq_false fun z=>nomatch z).symm
   | tupI sq' pm'=>cases ry;obtain ⟨its',_,tp',_⟩:=I.tuple sq';exact Yf (SeqAt.EqAt.none_tuple (show s.heap.IsTuple _ its'.toArray from tp') hu0) (decide_eq_false fun z=>nomatch z).symm
   | lstI sq' pm'=>cases ry;obtain ⟨its',_,tp',_⟩:=I.list sq';exact Yf (SeqAt.EqAt.none_list tp'.isList hu0) (decide_eq_false fun z=>nomatch z).symm
  | int j =>
   cases h' with
   | tupI sq' pm'=>obtain ⟨t',rfl⟩:=rx;cases ry;obtain ⟨its',_,tp',_⟩:=I.tuple sq';exact Yf (SeqAt.EqAt.int_tuple j t' (show s.heap.IsTuple _ its'.toArray from tp') hu0) (decide_eq_false fun z=>nomatch z).symm
   | lstI sq' pm'=>obtain ⟨t',rfl⟩:=rx;cases ry;obtain ⟨its',_,tp',_⟩:=I.list sq';exact Yf (SeqAt.EqAt.int_list j t' tp'.isList hu0) (decide_eq_false fun z=>nomatch z).symm
   | _=>exact Yf (Zie rx ry rfl rfl) (by rw [Bool.eq_iff_iff];simp [eqV])
  | str j =>
   cases h' with
   | tupI sq' pm'=>obtain ⟨t',rfl⟩:=rx;cases ry;obtain ⟨its',_,tp',_⟩:=I.tuple sq';exact Yf (SeqAt.EqAt.str_tuple j t' (show s.heap.IsTuple _ its'.toArray from tp') hu0) (decide_eq_false fun z=>nomatch z).symm
   | lstI sq' pm'=>obtain ⟨t',rfl⟩:=rx;cases ry;obtain ⟨its',_,tp',_⟩:=I.list sq';exact Yf (SeqAt.EqAt.str_list j t' tp'.isList hu0) (decide_eq_false fun z=>nomatch z).symm
   | _=>exact Yf (Zie rx ry rfl rfl) (by rw [Bool.eq_iff_iff];simp [eqV])
end
def Zv0(K:Frag)(neg:Bool):R2:=fun x y H Q=>∃n t u,n<=60/\((∃ts us,t=Tr.tup ts/\u=Tr.tup us)\/∃ts us,t=Tr.lst ts/\u=Tr.lst us)/\Im K H n t x/\Im K H n u y/\Q (.bl (if neg then !decide (t=u) else decide (t=u))) H
theorem Zy0{X:Cx}(hu:X.A.units+64<cLine):OpR X (compareOp .Eq) (Zv0 X.K false):=by
 intro pins s σ H x y v u Q I rx ry h
 obtain ⟨n,t,t',hn,hk,h1,h2,q⟩:=h
 rcases hk with ⟨ts,us,rfl,rfl⟩|⟨ts,us,rfl,rfl⟩
 ·cases h1 with
  | tupI sq pm =>
   cases h2 with
   | tupI sq' pm' =>
    cases rx
    cases ry
    exact (Im.tuple_rc (A:=X.A) I (fun z z' r r'=>Im.eqAt I _ _ z z' r r' (by rw [Xv];omega)) (by omega) sq pm.toP sq' pm'.toP).1 _ _ _ _ ⟨.bl _,H,I,rfl,q⟩
 ·cases h1 with
  | lstI sq pm =>
   cases h2 with
   | lstI sq' pm' =>
    cases rx
    cases ry
    exact (Im.list_rc (A:=X.A) I (fun z z' r r'=>Im.eqAt I _ _ z z' r r' (by rw [Xv];omega)) (by omega) sq pm.toP sq' pm'.toP).1 _ _ _ _ ⟨.bl _,H,I,rfl,q⟩
theorem Zyp{X:Cx}(hu:X.A.units+64<cLine):OpR X (compareOp .NotEq) (Zv0 X.K true):=by
 intro pins s σ H x y v u Q I rx ry h
 obtain ⟨n,t,t',hn,hk,h1,h2,q⟩:=h
 rcases hk with ⟨ts,us,rfl,rfl⟩|⟨ts,us,rfl,rfl⟩
 ·cases h1 with
  | tupI sq pm =>
   cases h2 with
   | tupI sq' pm' =>
    cases rx
    cases ry
    exact (Im.tuple_rc (A:=X.A) I (fun z z' r r'=>Im.eqAt I _ _ z z' r r' (by rw [Xv];omega)) (by omega) sq pm.toP sq' pm'.toP).2 _ _ _ _ ⟨.bl _,H,I,rfl,q⟩
 ·cases h1 with
  | lstI sq pm =>
   cases h2 with
   | lstI sq' pm' =>
    cases rx
    cases ry
    exact (Im.list_rc (A:=X.A) I (fun z z' r r'=>Im.eqAt I _ _ z z' r r' (by rw [Xv];omega)) (by omega) sq pm.toP sq' pm'.toP).2 _ _ _ _ ⟨.bl _,H,I,rfl,q⟩
def Ztg(t:TA):TE:=fun σ H Q=>t σ H fun xs H1=>xs.length<=sizeLine/\∀p H',Same H1 H'->H1 p=none->H' p=some (.tup xs)->Q (.ref p) H'
def Ybd(t:TA):TE:=fun σ H Q=>t σ H fun xs H1=>xs.length<=sizeLine/\∀p H',Same H1 H'->H1 p=none->H' p=some (.lst xs)->Q (.ref p) H'
theorem Zg{X:Cx}{es:List Expr}{t:TA}{pos:Pos}{x1}(h:PA X es t):PE X (.Tuple es x1 pos) (Ztg t):=by
 intro pins s σ H Q I hq
 refine wpAny_Tuple_spliced (thn (h pos pins s σ H _ I hq) fun us s1 ⟨xs,H1,I1,r,z,q⟩=>⟨by rw [<-r.length];exact z,?_⟩)
 have hf:H1 s1.heap.objs.size=none:=I1.hok.fresh (Nat.le_refl _)
 refine ⟨.ref s1.heap.objs.size,upd H1 s1.heap.objs.size (.tup xs),I1.laid (t':=s1.toks) (fun b u e=>Heap.get?_push_of_some _ e) (Nat.le_refl _) ?_,rfl,q _ _ (Same.new hf) hf Zh⟩
 exact ⟨z,us,r,⟨_,Heap.get?_push_size _ rfl,rfl,_,rfl⟩⟩
theorem Zm{X:Cx}{es:List Expr}{t:TA}{pos:Pos}(h:PA X es t):PE X (.List es pos) (Ybd t):=by
 intro pins s σ H Q I hq
 refine wpAny_List_spliced (thn (h pos pins s σ H _ I hq) fun us s1 ⟨xs,H1,I1,r,z,q⟩=>⟨by rw [<-r.length];exact z,?_⟩)
 have hf:H1 s1.heap.objs.size=none:=I1.hok.fresh (Nat.le_refl _)
 refine ⟨.ref s1.heap.objs.size,upd H1 s1.heap.objs.size (.lst xs),I1.laid (t':=s1.toks) (fun b u e=>Heap.get?_push_of_some _ e) (Nat.le_refl _) ?_,rfl,q _ _ (Same.new hf) hf Zh⟩
 exact ⟨z,us,0,r,Heap.get?_push_size _ rfl⟩
theorem OpR.imp{X:Cx}{f:Value->Value->Sem Value}{r r':R2}(h:OpR X f r)(g:∀x y H Q,r' x y H Q->r x y H Q):OpR X f r':=fun pins s σ H x y v u Q I rx ry q=>h pins s σ H x y v u Q I rx ry (g _ _ _ _ q)
theorem SlR.imp{X:Cx}{r r':V->Option Int->Option Int->Hp->VK->Prop}(h:SlR X r)(g:∀x l u H Q,r' x l u H Q->r x l u H Q):SlR X r':=fun pins s σ H x v vl vu lo hi sl Q I rx hs pl pu q=>h pins s σ H x v vl vu lo hi sl Q I rx hs pl pu (g _ _ _ _ _ q)
theorem Xo.imp{X:Cx}{f:Value}{r r':List V->Hp->VK->Prop}(h:Xo X f r)(g:∀xs H Q,r' xs H Q->r xs H Q):Xo X f r':=fun pins s σ H xs us Q I rs q=>h pins s σ H xs us Q I rs (g _ _ _ q)
def New(H:Hp)(o:HO)(Q:VK):Prop:=∀p H',Same H H'->H p=none->H' p=some o->Q (.ref p) H'
theorem New.at{H:Hp}{o:HO}{Q:VK}(h:New H o Q)(p:Addr)(hp:H p=none):Q (.ref p) (upd H p o):=h p _ (Same.new hp) hp Zh
def Zw9:R2:=fun x y H Q=>∃l b xs zs,x=.ref l/\y=.ref b/\H l=some (.lst xs)/\H b=some (.lst zs)/\xs.length+zs.length<=sizeLine/\New H (.lst (xs++zs)) Q
theorem Zw8{X:Cx}:OpR X (binaryOp .Add) Zw9:=Zzs.imp fun x y H Q ⟨l,b,xs,zs,h1,h2,h3,h4,h5,h6⟩=>⟨l,b,xs,zs,h1,h2,h3,h4,h5,fun p hp=>h6.at p hp⟩
def Zxv(K:Frag):V->Option Int->Option Int->Hp->VK->Prop:=fun x lo hi H Q=>∃a xs,x=.ref a/\SqT K H a xs/\¬(HT.sIx xs.length 0 lo=0/\HT.sIx xs.length xs.length hi=xs.length)/\New H (.tup (Zfd xs lo hi)) Q
theorem Zwx{X:Cx}:SlR X (Zxv X.K):=Zyn.imp fun x l u H Q ⟨a,xs,h1,h2,h3,h4⟩=>⟨a,xs,h1,h2,h3,fun p hp=>h4.at p hp⟩
def Zxz(K:Frag):V->Option Int->Option Int->Hp->VK->Prop:=fun x lo hi H Q=>∃a xs,x=.ref a/\SqL K H a xs/\New H (.lst (Zfd xs lo hi)) Q
theorem Ztq{X:Cx}:SlR X (Zxz X.K):=Zvq.imp fun x l u H Q ⟨a,xs,h1,h2,h4⟩=>⟨a,xs,h1,h2,fun p hp=>h4.at p hp⟩
theorem Zcx{X:Cx}{CX:CXT}{k:Nat}{f C:Addr}{fd:FuncData}{ps:List Str}{sp:Sp}{dvs:List V}{ds:List Value}{E:XK}{x:Str}{p pos:Pos}{e:Expr}{es:List Expr}{t:TA}(mr:List V->Hp->VK->Prop)(M:Mk X.K C f)
  (F:Z1 X.prog X.w X.K X.mg X.base CX k f fd ps sp) (hr:Zao (k+1) X.A) (hg:Gl X x) (hm:X.mg x=some (.ref C)) (hb:Zcf X.K fd ps ds) (hd:Yd dvs ds) (hx:Ze3 CX X E)
  (hmr:∀vs H Q,mr vs H Q->∀x dx,H x=none->H dx=none->dx≠x->sp (.ref x ::(vs++dvs)) (upd (upd H dx (.own x)) x (.ins C dx [])) (fun v H2=>v=.non/\Q (.ref x) H2) E)
  (ha:PA X (e ::es) t) (hdb:(x ==("__debug__" :Str))=false:=by decide) (he:starEach (e ::es) X.env=(false,eval e X.env) ::starEach es X.env:=by rfl) (hpl:(backTo pos (starEach es X.env)).any (·.1)=false:=by rfl) :
  PE X (.Call (.Name x p) (e ::es) [] pos) (tCB mr t):=by
 intro pins s σ H Q I h
 refine wpAny_Call_Name_kw (Zl2 I hg hm ?_ hdb)
 refine PySem.W.callWith_K (h₀:=X.base) I.ok.mod.kin M.kp (thn (ha pos pins s σ H _ I h) fun us s1 ⟨vs,H1,I1,r,q⟩=>⟨I1.kIn,?_⟩) he hpl
 exact Zt8 M F hr hb hd hx I1 r (hmr vs H1 Q q)
section
variable {X:Cx} {k:Nat}
theorem Zzq(hu:X.A.units+1<cLine):OpR X (compareOp .In) (fun y x H Q=>∃a o,x=.ref a/\Zar H a y o/\Q (.bl o.isSome) H):=by
 intro pins s σ H y x v u Q I ry rx h
 obtain ⟨a,ov,rfl,g,q⟩:=h
 cases rx
 exact Ybo hu I g ry fun s3 I3=>⟨.bl ov.isSome,H,I3,rfl,q⟩
theorem Zr0(hu:X.A.units+1<cLine):OpR X (compareOp .NotIn) (fun y x H Q=>∃a o,x=.ref a/\Zar H a y o/\Q (.bl (!o.isSome)) H):=by
 intro pins s σ H y x v u Q I ry rx h
 obtain ⟨a,ov,rfl,g,q⟩:=h
 cases rx
 exact Zv6 hu I g ry fun s3 I3=>⟨.bl (!ov.isSome),H,I3,rfl,q⟩
theorem Wl:OpR X (binaryOp .Add) (fun x y H Q=>rI0 (fun i j=>.int (i+j)) x y H Q\/(∃i j,x=.str i/\y=.str j/\i.length+j.length<=sizeLine/\Q (.str (i++j)) H)\/Zw9 x y H Q):=Zym.or (Zpd.or Zw8)
end
theorem sz{n:Nat}(h:n<=1000):n<=sizeLine:=Nat.le_of_lt (Zy h)
structure Zo2(K:Frag)(x qual:Str)(st:Stmt)(dV:Value)(f:Addr)(fd:FuncData):Prop where
 ex:∃(oc:Value) (od:Option Addr) (kV doc pm:Value) (an:Option Addr) (cdv ct:Value) (osl:Array (Option Value)),
  fd=fnOf x qual (Zr st) (Zo st) (Zd st) dV kV doc pm an cdv ct/\K.lookup f=some ⟨oc,od,.func fd,osl⟩/\codeIn K cdv qual=true
 kp:keepIn K (.ref f)=true
section
variable {P:Program} {w:World} {K:Frag} {mg:Str->Option Value} {base:Heap}
theorem Zo2.ok{x qual:Str}{st:Stmt}{dV:Value}{f:Addr}{fd:FuncData}{N ps:List Str}{k:Nat}{sp:Sp}(F:Zo2 K x qual st dV f fd)(S:Zt N ps (Zd st))(len:∀vs H Q E,sp vs H Q E->vs.length=ps.length)
  (hbody:∀(cdv:Value) (A:Around) (outer:List Env) (s:Shared) (H:Hp) (vs:List V) (Q:VK) (E:XK),Zao k (A.deeper (envOfC qual (Zd st) s.heap.objs.size f cdv))->sp vs H Q E ->
   WSs (Zm6 CX0 P w K mg base N qual (Zd st) f cdv A outer s H E).nox (Zo st) { nx:=fun _ H'=>Q .non H',rt:=Q } (start N vs) H):Z1 P w K mg base CX0 (k+1) f fd ps sp:=by
 obtain ⟨oc,od,kV,doc,pm,an,cdv,ct,osl,rfl,lk,hcd⟩:=F.ex
 refine Zxa lk hcd S len fun A outer s H vs Q E hr hsp=>?_
 exact ⟨_,PSs.nox Z2,hbody cdv A outer s H vs Q E hr hsp⟩
theorem Fun.okW{x qual:Str}{st:Stmt}{f:Addr}{fd:FuncData}{N ps:List Str}{k:Nat}{sp:Sp}(F:Fun K x qual st f fd)(S:Zt N ps (Zd st))
  (hbody:∀(cdv:Value) (A:Around) (outer:List Env) (s:Shared) (H:Hp) (vs:List V) (Q:VK) (E:XK),Zao k (A.deeper (envOfC qual (Zd st) s.heap.objs.size f cdv))->sp vs H Q E ->
   WSs (Zm6 CX0 P w K mg base N qual (Zd st) f cdv A outer s H E).nox (Zo st) { nx:=fun _ H'=>Q .non H',rt:=Q } (start N vs) H) (len:∀vs H Q E,sp vs H Q E->vs.length=ps.length:=by rintro _ _ _ _ h;repeat (first|(obtain ⟨e,_⟩:=h;subst e;rfl)|obtain ⟨_,h⟩:=h)):Z1 P w K mg base CX0 (k+1) f fd ps sp :=
 F.ok S len fun cdv A outer s H vs Q E hr h=>⟨_,Z2,hbody cdv A outer s H vs Q E hr h⟩
theorem Zq0{x qual:Str}{st:Stmt}{f:Addr}{oc dV:Value}{od an:Option Addr}{osl:Array (Option Value)}{kV doc pm cdv ct:Value}(l:K.lookup f=some ⟨oc,od,.func (fnOf x qual (Zr st) (Zo st) (Zd st) dV kV doc pm an cdv ct),osl⟩)
  (c:codeIn K cdv qual=true) (k:keepIn K (.ref f)=true):Zo2 K x qual st dV f (fnOf x qual (Zr st) (Zo st) (Zd st) dV kV doc pm an cdv ct):=⟨⟨oc,od,kV,doc,pm,an,cdv,ct,osl,rfl,l,c⟩,k⟩
end
structure Dn(K:Frag)(x qual:Str)(st:Stmt)(ps:List Str) where
 f:Addr
 fd:FuncData
 F:Fun K x qual st f fd
 b:Zcf K fd ps []
theorem Zit{α:Type}{l:List α}{i:Nat}{a:α}(h:l[i]? =some a):l.drop i=a ::l.drop (i+1):=by
 have hi:i<l.length:=by
  rcases Nat.lt_or_ge i l.length with z|z
  ·exact z
  ·rw [List.getElem?_eq_none z] at h;cases h
 rw [List.drop_eq_getElem_cons hi]
 rw [List.getElem?_eq_getElem hi] at h
 rw [Option.some.inj h]
theorem Zae:∀l:List Str,(l.map V.str).all Zd4=true
 | []=>rfl
 | _ ::l=>by rw [List.map_cons,List.all_cons,Zae l];rfl
theorem Zbk(x:Str):∀l:List Str,inV (.str x) (l.map V.str)=decide (x∈l)
 | []=>by simp [inV]
 | y ::l=>by
  have ih:=Zbk x l
  unfold inV at ih ⊢
  rw [List.map_cons,List.any_cons,ih,Bool.eq_iff_iff]
  simp only [eqV,Bool.or_eq_true,beq_iff_eq,decide_eq_true_eq,List.mem_cons]
  constructor
  ·rintro (h|h)
   ·exact .inl h.symm
   ·exact .inr h
  ·rintro (h|h)
   ·exact .inl h.symm
   ·exact .inr h
end L2
end
section
namespace NM
def tA:List Int:=[0,1035609595,1591546621,1776858963,1869515134,207121919,1962171305,454727606,934757567,592286321,1177302783,484597899,2054827476,1896763824,227363803,784868522,1541120607,2082079291,1369884984,958709409,1662393215,867403751,1316040773,418501921,1027413738,1329914572,948381912,913256656,1187423725,1664836201,392434261,1903795744,1844302127,161532633,2114781469,949938980,684942492,1304871617,1553096528,632254608,1904938431,1177567069,1507443699,923030587,1731762210,977450723,1282992784,1986753328,513706869,985311221,664957286,2125682195,474190956,1235096585,456628328,1385409768,1667453686,319569803,1906159924,17552705,1269958954,1073116705,951897872,1004962466]
def tB:List Int:=[0,1073741815,1610612722,1789569691,805306361,214748363,1968526660,766958439,1476394995,2028178983,1181115996,1268967599,984263330,412977621,1457221034,787410664,1811939312,1831677213,2087831306,1412818177,590557998,255652813,1708225614,1820692642,492131665,1331439850,1280230625,676059661,728610517,1369946453,393705332,381005160,905969656,1138817076,1989580421,1871378591,1043915653,1421982403,1780150903,137659207,295278999,1126119464,1201568221,1173624774,854112807,1694125974,910346321,525448122,1319807647,1029915618,665719925,610559071,1713857127,1600483082,1411771645,1971780423,1438047073,1902595145,1758715041,1401324063,196852666,1637016209,190502580,1516873357]
end NM
namespace NM
open PySem L2
def Zf3:List Nat:=[97,98,99,100,101,102,103,104,105,106,107,108,109,110,111,112,113,114,115,116,117,118,119,120,121,122]
theorem Zmz:("abcdefghijklmnopqrstuvwxyz" :Str).cps.toList=Zf3:=by trivial
theorem Zia:("abcdefghijklmnopqrstuvwxyz" :Str).length=26:=by trivial
def uniq(f:Nat->Str):Nat->List Str
 | 0=>[]
 | n+1=>if f n∈uniq f n then uniq f n else uniq f n++[f n]
end NM
end
section
namespace L2
open PySem PySem.Spec PyProof.Rows
def Yaz:HO->Bool
 | .dK _=>true
 | .dT _=>true
 | _=>false
section
variable {X:Cx} {pins:List (Addr×Obj)} {σ:St} {H:Hp} {s:Shared} {d:Addr} {o:Obj} {u:HO}
theorem HOk.retold{P:Program}{w:World}{h:Heap}{v v':HO}(x:HOk P w H h)(hd:H d=some v)(no:∀y,v ≠ .own y)(nt:∀xs,v ≠ .tup xs)(nz:∀o y,v ≠ .frz o (.own y))(new:Yn P w (upd H d v') h d v'):HOk P w (upd H d v') h:=fun b q e=>by
 by_cases hb:b=d
 ·subst hb;rw [Zh] at e;cases e;exact new
 ·rw [Zj hb] at e
  refine (x b q e).stay (fun _ _ _ z=>z) (fun c z=>?_) (fun c xs z=>?_) (fun c ob z=>?_)
  ·rw [Zj (fun y=>by subst y;rw [hd] at z;exact no _ (Option.some.inj z))];exact z
  ·rw [Zj (fun y=>by subst y;rw [hd] at z;exact nt _ (Option.some.inj z))];exact z
  ·rw [Zj (fun y=>by subst y;rw [hd] at z;exact nz _ _ (Option.some.inj z))];exact z
theorem Zfv{P:Program}{w:World}{h:Heap}{v v' u:HO}(hd:H d=some v)(no:∀y,v ≠ .own y)(nt:∀xs,v ≠ .tup xs)(nz:∀o y,v ≠ .frz o (.own y))(x:Yn P w H h d u):Yn P w (upd H d v') h d u :=
 x.stay (fun _ _ _ z=>z) (fun c z=>by rw [Zj (fun y=>by subst y;rw [hd] at z;exact no _ (Option.some.inj z))];exact z) (fun c xs z=>by rw [Zj (fun y=>by subst y;rw [hd] at z;exact nt _ (Option.some.inj z))];exact z) (fun c ob z=>by rw [Zj (fun y=>by subst y;rw [hd] at z;exact nz _ _ (Option.some.inj z))];exact z)
theorem Inv.retell{v':HO}{v:HO}(I:Inv X pins σ H s)(hd:H d=some v)(no:∀y,v ≠ .own y)(nt:∀xs,v ≠ .tup xs)(nz:∀o y,v ≠ .frz o (.own y))(nb:∀ps,v ≠ .tbl ps)(nf:∀o u,X.H₀ d≠some (.frz o u))(new:Yn X.prog X.w (upd H d v') s.heap d v') :
  Inv X pins σ (upd H d v') s:=by
 have nd:∀b,H b=none->b≠d:=fun b n z=>by subst z;rw [n] at hd;cases hd
 refine ⟨I.ok,I.os,I.bare,?_,I.loc,I.cell,?_,fun x c e=>?_,fun p hp=>?_,I.hok.retold hd no nt nz new,I.len⟩
 ·have b:=I.base
  refine ⟨b.keep,b.slot,fun c q e n hx=>?_,b.there,fun c xs e=>?_,fun c ob q e=>?_,fun c ps e=>?_⟩
  ·have z:=b.free c q e n hx
   rw [Zj (nd c z)];exact z
  ·have z:=b.tups c xs e
   rw [Zj (fun y=>by subst y;rw [hd] at z;exact nt _ (Option.some.inj z))];exact z
  ·have z:=b.frzs c ob q e
   rw [Zj (fun y=>by subst y;exact nf _ _ e)];exact z
  ·obtain ⟨m,z⟩:=b.tbls c ps e
   exact ⟨m,by rw [Zj (fun y=>by subst y;rw [hd] at z;exact nb _ (Option.some.inj z))];exact z⟩
 ·rw [Zj (nd _ I.free)];exact I.free
 ·rw [Zj (nd _ (I.freeC x c e))];exact I.freeC x c e
 ·obtain ⟨p1,p2,p3⟩:=I.pin p hp
  exact ⟨p1,by rw [Zj (nd _ p2)];exact p2,p3⟩
theorem Inv.notFrz(I:Inv X pins σ H s){v:HO}(hd:H d=some v)(n:∀o u,v ≠ .frz o u):∀o u,X.H₀ d≠some (.frz o u):=fun o u z=>by
 have:=I.base.frzs d o u z
 rw [hd] at this
 exact n _ _ (Option.some.inj this)
theorem Inv.freeze(I:Inv X pins σ H s)(hd:H d=some u)(hu:Yaz u=true)(ho:s.heap.get? d=some o):Inv X pins σ (upd H d (.frz o u)) s:=by
 have n1:∀y,u ≠ .own y:=fun y z=>by subst z;cases hu
 have n2:∀xs,u ≠ .tup xs:=fun y z=>by subst z;cases hu
 have n3:∀o y,u ≠ .frz o (.own y):=fun o y z=>by subst z;cases hu
 refine I.retell hd n1 n2 n3 (fun y z=>by subst z;cases hu) (I.notFrz hd fun _ _ z=>by subst z;cases hu) ⟨ho,Zfv hd n1 n2 n3 (I.hok d u hd)⟩
theorem Inv.thaw(I:Inv X pins σ H s)(hd:H d=some (.frz o u))(nf:∀o u,X.H₀ d≠some (.frz o u))(nu:∀y,u ≠ .own y:=by exact fun _ z=>nomatch z):Inv X pins σ (upd H d u) s:=by
 obtain ⟨_,q⟩:=I.hok d _ hd
 have n3:∀o' y,HO.frz o u ≠ .frz o' (.own y):=fun o' y z=>nu y (HO.frz.inj z).2
 exact I.retell hd (fun _ z=>nomatch z) (fun _ z=>nomatch z) n3 (fun _ z=>nomatch z) nf (Zfv hd (fun _ z=>nomatch z) (fun _ z=>nomatch z) n3 q)
end
theorem Same.thaw{H H':Hp}{d:Addr}{o:Obj}{u:HO}(hd:H d=some u)(h:Same (upd H d (.frz o u)) H'):Same H (upd H' d u):=fun b q e=>by
 by_cases hb:b=d
 ·subst hb;rw [hd] at e;cases e;exact Zh
 ·rw [Zj hb];exact h b q (by rw [Zj hb];exact e)
def Itd(d:Addr)(o:Obj)(kvs:List (Key×V)):It :=
 ⟨fun i H=>H d=some (.frz o (.dK kvs))/\i<kvs.length,fun i H x H'=>H'=H/\∃kv,kvs[i]? =some kv/\x=kV kv.1,fun i H=>H d=some (.frz o (.dK kvs))/\kvs.length<=i⟩
theorem Zxu{P:Program}{w:World}{k:Key}{u:Value}(h:(Yg P w).is k u=true):Yl (kV k) u:=by
 rcases Xh (show Zju k u=true from h) with ⟨i,t,rfl,rfl⟩|⟨x,t,rfl,rfl⟩
 ·exact ⟨t,rfl⟩
 ·exact ⟨t,rfl⟩
theorem KV.get{kvs:List (Key×V)}{vs:List (Key×Value)}{i:Nat}{kv:Key×V}(r:KV kvs vs)(h:kvs[i]? =some kv):∃u,vs[i]? =some (kv.1,u)/\Yl kv.2 u:=by
 obtain ⟨q,h1,h2,h3⟩:=Paired.get r h
 exact ⟨q.2,by rw [h1,h2],h3⟩
theorem Zrm{P:Program}{w:World}{K:Frag}{tg:Expr}{d:Addr}{o:Obj}{kvs:List (Key×V)}{vs:List (Key×Value)}{ep:Nat}(it:Addr)(hk:KV kvs vs)
  (hD:∀h:Heap,h.get? d=some o->h.DictAt (Yg P w) d vs ep):Zng P w K tg (Itd d o kvs) [it] it (fun i h=>h.IsKeyIter it d i vs.length ep) where
 mem:=by simp
 obj:=fun i h st b hb=>by
  have e:b=it:=by simpa using hb
  subst e
  obtain ⟨ob,e,c,dd⟩:=st
  exact ⟨ob,e,fun v z=>by rw [dd] at z;cases z⟩
 keep:=fun i h h' st k=>st.at fun ob e=>k it (by simp) ob e
 item:=by
  intro X hP hw hK hc i pins s σ H E I hf st hg
  subst hP hw hK
  obtain ⟨hq,hlt⟩:=hg
  obtain ⟨f0,f1,f2,f3,f4,f5⟩:=hf it (by simp)
  have hdo:s.heap.get? d=some o:=(I.hok d _ hq).1
  obtain ⟨u,hu,_⟩:=hk.get (i:=i) (kv:=kvs[i]) (by simp [hlt])
  refine wpAny_pyNext_dict_item (knd:=Yg X.prog X.w) st (hD _ hdo) hu fun key h' hkey st' sb=>?_
  have I1:Inv X pins σ H { s with heap:=h' }:=I.turned (t':=s.toks) (fun b o hb e=>(sb.2 b hb).trans e) f0 f1 f3 f4 f5
  obtain ⟨ob,e,c,dd⟩:=id st'
  exact ⟨key,rfl,Znf (s:={ s with heap:=h' }) e c dd (by decide) ⟨kV kvs[i].1,H,I1,Zxu hkey,⟨rfl,kvs[i],by simp [hlt],rfl⟩,st',fun b hb=>(hf b hb).1⟩⟩
 done:=by
  intro X hP hw hK hc i pins s σ H E I hf st hg
  subst hP hw hK
  obtain ⟨hq,hle⟩:=hg
  obtain ⟨f0,f1,f2,f3,f4,f5⟩:=hf it (by simp)
  have hdo:s.heap.get? d=some o:=(I.hok d _ hq).1
  have hl:=KV.length hk
  exact wpAny_pyNext_dict_end (knd:=Yg X.prog X.w) (I.ok.hd hc) st (hD _ hdo) (List.getElem?_eq_none (by omega)) fun h' eb=>⟨rfl,I.turned (t':=s.toks) (fun b o hb e=>eb b o hb e) f0 f1 f3 f4 f5⟩
 self:=fun _ _ _ _ _ st h=>wpAny_pyIter_keyiter st h
def NF(X:Cx)(d:Addr)(u:HO):Prop:=(∀o u,X.H₀ d≠some (.frz o u))/\∀y,u ≠ .own y
def Ze1(X:Cx)(Q:Hp->Prop)(H:Hp):Prop:=∃d o u,H d=some (.frz o u)/\NF X d u/\Q (upd H d u)
theorem Ze1.run{X:Cx}{pins:List (Addr×Obj)}{σ:St}{H:Hp}{s:Shared}{Q:Hp->Prop}(I:Inv X pins σ H s)(h:Ze1 X Q H):∃H',Inv X pins σ H' s/\Q H':=by
 obtain ⟨d,o,u,hd,nf,q⟩:=h
 exact ⟨_,I.thaw hd nf.1 nf.2,q⟩
def Ya9(X:Cx)(tl:TE):TI:=fun σ H R=>tl σ H fun x H1=>∃d kvs,x=.ref d/\H1 d=some (.dK kvs)/\∀o,NF X d (.dK kvs)->R (Itd d o kvs) (upd H1 d (.frz o (.dK kvs)))
theorem Zgc{P:Program}{w:World}{h:Heap}{d:Addr}{o:Obj}{vs:List (Key×Value)}(x:h.DictOf (Yg P w) d vs)(ho:h.get? d=some o):∃ep,∀h':Heap,h'.get? d=some o->h'.DictAt (Yg P w) d vs ep:=by
 obtain ⟨o',es,ep,e,r⟩:=x
 rw [ho] at e
 cases e
 exact ⟨ep,fun h' e'=>⟨o,es,e',r⟩⟩
theorem Ybg{X:Cx}{tg l:Expr}{tl:TE}(hl:PE X l tl):PI X tg l (Ya9 X tl):=by
 intro pins s σ H R I h
 refine thn (hl pins s σ H _ I h) fun v s1 ⟨y,H1,I1,r1,q1⟩=>?_
 obtain ⟨d,kvs,rfl,hd,q⟩:=q1
 cases r1
 obtain ⟨hz,hs,vs,kv,dd⟩:=Zqr I1.hok hd
 obtain ⟨o,_,_,ho,_⟩:=id dd
 obtain ⟨ep,hD⟩:=Zgc dd ho
 have I2:=I1.freeze hd rfl ho
 refine wpAny_pyIter_dict (knd:=Yg X.prog X.w) hs (hD _ ho) ?_
 have I3:Inv X pins σ (upd H1 d (.frz o (.dK kvs))) { s1 with heap:=s1.heap.push { cls:=.type "dict_keyiterator",data:=.fields #[.ref d,.int 0 0,.int vs.length 0,.int ep 0] } }:=I2.kept (t':=s1.toks) fun b o e=>Heap.get?_push_of_some _ e
 refine ⟨s1.heap.objs.size,[s1.heap.objs.size],_,_,_,rfl,I3,Zrm _ kv hD,⟨_,Heap.get?_push_size _ rfl,rfl,rfl⟩,fun b hb=>?_,q o ⟨I1.notFrz hd (fun _ _ z=>nomatch z),fun _ z=>nomatch z⟩⟩
 have e:b=s1.heap.objs.size:=by simpa using hb
 subst e
 exact I2.fpOk (Nat.le_refl _) (I2.hok.fresh (Nat.le_refl _))
def Zz5(X:Cx)(t:TS):TS:=fun D σ H=>t { nx:=fun σ'=>Ze1 X (D.nx σ'),rt:=fun v=>Ze1 X (D.rt v),bk:=fun σ'=>Ze1 X (D.bk σ'),ct:=fun σ'=>Ze1 X (D.ct σ') } σ H
theorem Zvi{X:Cx}{st:Stmt}{t:TS}(h:PS X st t):PS X st (Zz5 X t):=by
 intro pins s σ H D I hq
 refine thn (h pins s σ H _ I hq) fun f s' z=>?_
 cases f with
 | next=>obtain ⟨σ',H',I',q⟩:=z;obtain ⟨H2,I2,q2⟩:=q.run I';exact ⟨σ',H2,I2,q2⟩
 | brk=>obtain ⟨σ',H',I',q⟩:=z;obtain ⟨H2,I2,q2⟩:=q.run I';exact ⟨σ',H2,I2,q2⟩
 | cont=>obtain ⟨σ',H',I',q⟩:=z;obtain ⟨H2,I2,q2⟩:=q.run I';exact ⟨σ',H2,I2,q2⟩
 | ret u=>obtain ⟨v,σ',H',I',r,q⟩:=z;obtain ⟨H2,I2,q2⟩:=q.run I';exact ⟨v,σ',H2,I2,r,q2⟩
def Zy3(X:Cx)(t:TE):TE:=fun σ H Q=>t σ H fun v=>Ze1 X (Q v)
theorem Zp8{X:Cx}{e:Expr}{t:TE}(h:PE X e t):PE X e (Zy3 X t):=by
 intro pins s σ H Q I hq
 refine thn (h pins s σ H _ I hq) fun u s' ⟨v,H',I',r,q⟩=>?_
 obtain ⟨H2,I2,q2⟩:=q.run I'
 exact ⟨v,H2,I2,r,q2⟩
theorem Zzv{d:Addr}{o:Obj}{kvs:List (Key×V)}{g:TG}{tb:TS}{D:Zfl}{σ:St}{H:Hp}(Pv:Nat->St->Hp->Prop)(h0:Pv 0 σ H)(hl:∀i σ H,i<=kvs.length->Pv i σ H->H d=some (.frz o (.dK kvs)))
  (hs:∀i kv σ H,kvs[i]? =some kv->Pv i σ H->g (kV kv.1) σ H fun σ2 H2=>tb { D with nx:=Pv (i+1),ct:=Pv (i+1),bk:=D.nx } σ2 H2) (hd:∀σ H,Pv kvs.length σ H->D.nx σ H) :
  ∃W:Nat->Nat->St->Hp->Prop,(∃m,W 0 m σ H)/\∀i m σ H,W i m σ H ->
   ((Itd d o kvs).stop i H/\D.nx σ H)\/((Itd d o kvs).go i H/\∃N:St->Hp->Prop,(∀σ' H',N σ' H'->∃m',m'<m/\W (i+1) m' σ' H')/\∀x H',(Itd d o kvs).yld i H x H'->g x σ H' fun σ2 H2=>tb { D with nx:=N,ct:=N,bk:=D.nx } σ2 H2):=by
 refine ⟨fun i m σ H=>m=kvs.length-i/\i<=kvs.length/\Pv i σ H,⟨kvs.length,by simp,Nat.zero_le _,h0⟩,?_⟩
 rintro i m σ H ⟨rfl,hi,p⟩
 have q:=hl i σ H hi p
 by_cases hlt:i<kvs.length
 ·refine .inr ⟨⟨q,hlt⟩,Pv (i+1),fun σ' H' p'=>⟨kvs.length-(i+1),by omega,rfl,hlt,p'⟩,fun x H' y=>?_⟩
  obtain ⟨e,kv,hkv,ex⟩:=y
  subst e ex
  exact hs i kv σ _ hkv p
 ·have e:i=kvs.length:=by omega
  subst e
  exact .inl ⟨⟨q,Nat.le_refl _⟩,hd σ H p⟩
section
variable {X:Cx} {pins:List (Addr×Obj)} {σ:St} {H:Hp} {s:Shared}
theorem Inv.turnedNew{ch:List Addr}{o:HO}{h':Heap}{t':Nat}(I:Inv X pins σ H s)(hf:∀b∈ch,Zhf X pins H b)(k:∀b u,b∉ch->s.heap.get? b=some u->h'.get? b=some u)
  (new:Yn X.prog X.w (upd H s.heap.objs.size o) h' s.heap.objs.size o):Inv X pins σ (upd H s.heap.objs.size o) { s with heap:=h',toks:=t' }:=by
 have hn:H s.heap.objs.size=none:=I.fresh
 have old:∀b u,s.heap.get? b=some u->b≠s.heap.objs.size:=fun b u e=>Nat.ne_of_lt (Heap.lt_size e)
 have trk:∀b u,H b=some u->b∉ch:=fun b u e z=>by rw [(hf b z).1] at e;cases e
 refine I.step (g':=s.gens) (d':=s.drawn) (ch:=ch) (fun b hb=>?_) (fun b o _ _ hc e _=>k b o hc e) (fun b o _ _ hc e _=>⟨o.slots,k b o hc e⟩) (fun b o _ e n=>by rw [Zj (old b o e)];exact n)
  (fun b o hc e=>⟨o,k b o hc e⟩) (fun b xs e=>by rw [Zj (Zi e hn)];exact e) (fun b ob u e=>by rw [Zj (Zi e hn)];exact e) (fun b ps e=>⟨#[],by rw [Zj (Zi e hn),e];simp⟩) (fun m hm=>?_) (fun b u e=>?_) I.bare
 ·obtain ⟨f0,f1,f2,f3,f4,f5⟩:=hf b hb
  exact ⟨f3,f1,f4,f5⟩
 ·obtain ⟨ob,es,ep,ho,r⟩:=hm
  exact ⟨ob,es,ep,k _ ob (fun z=>(hf _ z).2.1 rfl) ho,r⟩
 ·by_cases hb:b=s.heap.objs.size
  ·subst hb;rw [Zh] at e;cases e;exact new
  ·rw [Zj hb] at e
   refine (I.hok b u e).stay (fun c v hc q=>k c v ?_ q) (fun c q=>by rw [Zj (Zi q hn)];exact q) fun c xs q=>by rw [Zj (Zi q hn)];exact q
   rcases hc with z|z
   ·rw [z];exact trk b u e
   ·exact trk c _ z
end
def Ite(K:Frag)(l:Addr):It :=
 ⟨fun i H=>∃xs x,SqL K H l xs/\xs[i]? =some x,fun i H x H'=>∃p y,x=.ref p/\H p=none/\H'=upd H p (.tup [.int (i:Nat),y])/\∀xs,SqL K H l xs->xs[i]? =some y,fun i H=>∃xs,SqL K H l xs/\xs.length<=i⟩
theorem Zst{P:Program}{w:World}{K:Frag}{elts:List Expr}{x1:Nat}{pos:Pos}{l:Addr}(e it:Addr)(hne:e≠it) :
  Zng P w K (.Tuple elts x1 pos) (Ite K l) [e,it] e (fun i h=>(∃old,IsEnum h e it (i:Nat) old)/\h.IsListIter it l i) where
 mem:=by simp
 obj:=fun i h st b hb=>by
  obtain ⟨⟨old,he⟩,hi⟩:=st
  rcases List.mem_cons.mp hb with rfl|hb
  ·exact ⟨_,he,fun v z=>nomatch z⟩
  ·have q:b=it:=by simpa using hb
   subst q
   obtain ⟨o,e,c,d⟩:=hi
   exact ⟨o,e,fun v z=>by rw [d] at z;cases z⟩
 keep:=fun i h h' st k=>by
  obtain ⟨⟨old,he⟩,hi⟩:=st
  exact ⟨⟨old,k e (by simp) _ he⟩,hi.at fun o q=>k it (by simp) o q⟩
 item:=by
  intro X hP hw hK hc i pins s σ H E I hf st hg
  subst hP hw hK
  obtain ⟨⟨old,he⟩,hi⟩:=st
  obtain ⟨xs,x,hq,hx⟩:=hg
  obtain ⟨its,rv,p,hz⟩:=I.list hq
  obtain ⟨u,hu,ru⟩:=rv.get hx
  refine wpAny_pyNext_enum_item he hi p.isList (x:=u) (by simpa using hu) hne fun h' ho hi' ht hsz kk=>?_
  refine ⟨_,rfl,wpAny_letOwnedTupleGo_enum ho fun h2 he2 sb=>?_⟩
  have hel:e<s.heap.objs.size:=Heap.lt_size he
  have hil:it<s.heap.objs.size:=let ⟨o,q,_⟩:=hi;Heap.lt_size q
  have k2:∀b v,b∉[e,it]->s.heap.get? b=some v->h2.get? b=some v:=fun b v hb q=>by
   have b1:b≠e:=fun z=>hb (by simp [z])
   have b2:b≠it:=fun z=>hb (by simp [z])
   exact (sb.2 b b1).trans (kk b v b1 b2 q)
  have htup:h2.get? s.heap.objs.size=some { cls:=.type "tuple",data:=.seq #[.int i s.toks,u] }:=(sb.2 _ (Nat.ne_of_gt hel)).trans ht
  have new:Yn X.prog X.w (upd H s.heap.objs.size (.tup [.int (i:Nat),x])) h2 s.heap.objs.size (.tup [.int (i:Nat),x]) :=
   ⟨sz (by simp),[.int i s.toks,u],.cons ⟨_,rfl⟩ (.cons ru .nil),⟨_,htup,rfl,_,rfl⟩⟩
  refine ⟨.ref s.heap.objs.size,_,I.turnedNew (t':=s.toks+1) hf k2 new,rfl,⟨_,x,rfl,I.fresh,rfl,fun ys hy=>by rw [I.list_inj hy hq];exact hx⟩,⟨⟨_,he2⟩,?_⟩,fun b hb=>?_⟩
  ·exact hi'.at fun o q=>(sb.2 it hne.symm).trans q
  ·rw [Zj ?_]
   ·exact (hf b hb).1
   ·rcases List.mem_cons.mp hb with rfl|hb
    ·exact Nat.ne_of_lt hel
    ·have q:b=it:=by simpa using hb
     subst q
     exact Nat.ne_of_lt hil
 done:=by
  intro X hP hw hK hc i pins s σ H E I hf st hg
  subst hP hw hK
  obtain ⟨⟨old,he⟩,hi⟩:=st
  obtain ⟨xs,hq,hx⟩:=hg
  obtain ⟨its,rv,p,hz⟩:=I.list hq
  obtain ⟨f0,f1,f2,f3,f4,f5⟩:=hf it (by simp)
  have hl:=rv.length
  exact wpAny_pyNext_enum_end (I.ok.hd hc) he hi p.isList (by simp;omega) fun h' eb=>⟨rfl,I.turned (t':=s.toks) (fun b o hb e=>eb b o hb e) f0 f1 f3 f4 f5⟩
 self:=fun _ _ _ _ _ st h=>by
  obtain ⟨⟨old,he⟩,_⟩:=st
  exact wpAny_pyIter_enum he h
def Yaf(K:Frag)(ta:TA):TI:=fun σ H R=>ta σ H fun vs H1=>∃l,vs=[.ref l]/\(∃xs,SqL K H1 l xs)/\R (Ite K l) H1
theorem Zh6{X:Cx}{elts:List Expr}{x1:Nat}{tpos:Pos}{a:Expr}{ta:TA}{p pos:Pos} (hg:Gl X "enumerate") (hm:X.mg "enumerate" =none) (ha:PA X [a] ta) (hs:starEach [a] X.env=[(false,eval a X.env)]:=by rfl) :
  PI X (.Tuple elts x1 tpos) (.Call (.Name "enumerate" p) [a] [] pos) (Yaf X.K ta):=by
 intro pins s σ H R I h
 refine Call_ (Ze6 I hg hm boot_enumerate (PyProof.Rows.callWith_type1 (thn (ha pos pins s σ H _ I h) fun us s1 ⟨vs,H1,I1,r1,q1⟩=>?_) hs rfl))
 obtain ⟨l,e,⟨xs,hq⟩,q⟩:=q1
 subst e
 obtain ⟨u,rfl,ru⟩:=Zc5 r1
 cases ru
 obtain ⟨its,rv,pl,hz⟩:=I1.list hq
 refine call_enumerate_list pl.isList fun h' he hi hsz kk=>wpAny_pyIter_enum he ?_
 have I2:Inv X pins σ H1 { s1 with heap:=h' }:=I1.kept (t':=s1.toks) kk
 refine ⟨s1.heap.objs.size+1,[s1.heap.objs.size+1,s1.heap.objs.size],_,_,H1,rfl,I2,Zst _ _ (Nat.succ_ne_self _),⟨⟨_,he⟩,hi⟩,fun b hb=>?_,q⟩
 rcases List.mem_cons.mp hb with rfl|hb
 ·exact I1.fpOk (Nat.le_succ _) (I1.hok.fresh (Nat.le_succ _))
 ·have e:b=s1.heap.objs.size:=by simpa using hb
  subst e
  exact I1.fpOk (Nat.le_refl _) (I1.hok.fresh (Nat.le_refl _))
theorem Zfh{K:Frag}{l:Addr}{xs:List V}{g:TG}{tb:TS}{D:Zfl}{σ:St}{H:Hp}(Pv:Nat->St->Hp->Prop)(h0:Pv 0 σ H)(hl:∀i σ H,i<=xs.length->Pv i σ H->SqL K H l xs)
  (hs:∀i x σ H,xs[i]? =some x->Pv i σ H->∀p H1,Same H H1->H p=none->H1 p=some (.tup [.int (i:Nat),x])->g (.ref p) σ H1 fun σ2 H2=>tb { D with nx:=Pv (i+1),ct:=Pv (i+1),bk:=D.nx } σ2 H2) (hd:∀σ H,Pv xs.length σ H->D.nx σ H) :
  ∃W:Nat->Nat->St->Hp->Prop,(∃m,W 0 m σ H)/\∀i m σ H,W i m σ H ->
   ((Ite K l).stop i H/\D.nx σ H)\/((Ite K l).go i H/\∃N:St->Hp->Prop,(∀σ' H',N σ' H'->∃m',m'<m/\W (i+1) m' σ' H')/\∀x H',(Ite K l).yld i H x H'->g x σ H' fun σ2 H2=>tb { D with nx:=N,ct:=N,bk:=D.nx } σ2 H2):=by
 refine ⟨fun i m σ H=>m=xs.length-i/\i<=xs.length/\Pv i σ H,⟨xs.length,by simp,Nat.zero_le _,h0⟩,?_⟩
 rintro i m σ H ⟨rfl,hi,p⟩
 have q:=hl i σ H hi p
 by_cases hlt:i<xs.length
 ·refine .inr ⟨⟨xs,xs[i],q,by simp [hlt]⟩,Pv (i+1),fun σ' H' p'=>⟨xs.length-(i+1),by omega,rfl,hlt,p'⟩,fun x H' y=>?_⟩
  obtain ⟨a,y,e,hn,e2,hy⟩:=y
  subst e e2
  exact hs i y σ H (hy xs q) p a _ (Same.new hn) hn Zh
 ·have e:i=xs.length:=by omega
  subst e
  exact .inl ⟨⟨xs,q,Nat.le_refl _⟩,hd σ H p⟩
def Iti(d:Addr)(o:Obj)(kvs:List (Key×V)):It :=
 ⟨fun i H=>H d=some (.frz o (.dK kvs))/\i<kvs.length,fun i H x H'=>∃p kv,x=.ref p/\H p=none/\kvs[i]? =some kv/\H'=upd H p (.tup [kV kv.1,kv.2]),fun i H=>H d=some (.frz o (.dK kvs))/\kvs.length<=i⟩
theorem Zps{P:Program}{w:World}{K:Frag}{elts:List Expr}{x1:Nat}{pos:Pos}{d:Addr}{o:Obj}{kvs:List (Key×V)}{vs:List (Key×Value)}{ep:Nat}(it:Addr)(hk:KV kvs vs)
  (hD:∀h:Heap,h.get? d=some o->h.DictAt (Yg P w) d vs ep):Zng P w K (.Tuple elts x1 pos) (Iti d o kvs) [it] it (fun i h=>∃ok ov,IsItemIter h it d i vs.length ep ok ov) where
 mem:=by simp
 obj:=fun i h st b hb=>by
  have e:b=it:=by simpa using hb
  subst e
  obtain ⟨ok,ov,e⟩:=st
  exact ⟨_,e,fun v z=>nomatch z⟩
 keep:=fun i h h' st k=>by
  obtain ⟨ok,ov,e⟩:=st
  exact ⟨ok,ov,k it (by simp) _ e⟩
 item:=by
  intro X hP hw hK hc i pins s σ H E I hf st hg
  subst hP hw hK
  obtain ⟨ok,ov,hi⟩:=st
  obtain ⟨hq,hlt⟩:=hg
  have hdo:s.heap.get? d=some o:=(I.hok d _ hq).1
  obtain ⟨u,hu,ru⟩:=hk.get (i:=i) (kv:=kvs[i]) (by simp [hlt])
  refine wpAny_pyNext_items_item (knd:=Yg X.prog X.w) hi (hD _ hdo) hu fun key h' hkey ho ht hsz kk=>?_
  refine ⟨_,rfl,wpAny_letOwnedTupleGo_items ho fun h2 he2 sb=>?_⟩
  have hel:it<s.heap.objs.size:=Heap.lt_size hi
  have k2:∀b v,b∉[it]->s.heap.get? b=some v->h2.get? b=some v:=fun b v hb q=>by
   have b1:b≠it:=fun z=>hb (by simp [z])
   exact (sb.2 b b1).trans (kk b v b1 q)
  have htup:h2.get? s.heap.objs.size=some { cls:=.type "tuple",data:=.seq #[key,u] }:=(sb.2 _ (Nat.ne_of_gt hel)).trans ht
  have new:Yn X.prog X.w (upd H s.heap.objs.size (.tup [kV kvs[i].1,kvs[i].2])) h2 s.heap.objs.size (.tup [kV kvs[i].1,kvs[i].2]) :=
   ⟨sz (by simp),[key,u],.cons (Zxu hkey) (.cons ru .nil),⟨_,htup,rfl,_,rfl⟩⟩
  refine ⟨.ref s.heap.objs.size,_,I.turnedNew (t':=s.toks) hf k2 new,rfl,⟨_,kvs[i],rfl,I.fresh,by simp [hlt],rfl⟩,⟨_,_,he2⟩,fun b hb=>?_⟩
  have e:b=it:=by simpa using hb
  subst e
  rw [Zj (Nat.ne_of_lt hel)]
  exact (hf _ hb).1
 done:=by
  intro X hP hw hK hc i pins s σ H E I hf st hg
  subst hP hw hK
  obtain ⟨ok,ov,hi⟩:=st
  obtain ⟨hq,hle⟩:=hg
  obtain ⟨f0,f1,f2,f3,f4,f5⟩:=hf it (by simp)
  have hdo:s.heap.get? d=some o:=(I.hok d _ hq).1
  have hl:=KV.length hk
  exact wpAny_pyNext_items_end (knd:=Yg X.prog X.w) (I.ok.hd hc) hi (hD _ hdo) (List.getElem?_eq_none (by omega)) fun h' eb=>⟨rfl,I.turned (t':=s.toks) (fun b o hb e=>eb b o hb e) f0 f1 f3 f4 f5⟩
 self:=fun _ _ _ _ _ st h=>by
  obtain ⟨ok,ov,hi⟩:=st
  exact PySem.W.kcp_self hi h
def Zx8(X:Cx)(tl:TE):TI:=fun σ H R=>tl σ H fun x H1=>∃d kvs,x=.ref d/\H1 d=some (.dK kvs)/\∀o,NF X d (.dK kvs)->R (Iti d o kvs) (upd H1 d (.frz o (.dK kvs)))
theorem Zjq{X:Cx}{elts:List Expr}{x1:Nat}{tpos apos cpos:Pos}{o:Expr}{to:TE}(ho:PE X o to) (hbase:attributeBase o "items" X.env (eval o X.env)=eval o X.env:=by rfl) (hline:(apos.endLine ==cpos.line)=true:=by rfl) :
  PI X (.Tuple elts x1 tpos) (.Call (.Attribute o "items" apos) [] [] cpos) (Zx8 X to):=by
 intro pins s σ H R I h
 refine wpAny_Call_method0_late hbase hline (thn (ho pins s σ H _ I h) fun v s1 ⟨y,H1,I1,r1,q1⟩=>?_)
 obtain ⟨d,kvs,rfl,hd,q⟩:=q1
 cases r1
 obtain ⟨hz,hs,vs,kv,dd⟩:=Zqr I1.hok hd
 obtain ⟨ob,_,_,hob,hex,_⟩:=id dd
 obtain ⟨ep,hD⟩:=Zgc dd hob
 refine ⟨"dict", "dict.items",PySem.F.plainAttrs_dict,PySem.F.slot_dict_items,PySem.F.type_dict_items,dd.typeIs,fun a e=>?_,Calls.callWith_builtin rfl (PySem.evalArgs_none ?_)⟩
 ·cases e
  exact ⟨ob,hob,hex.2.1⟩
 refine call_meetsIn PySem.F.slot_dict_items dd.typeIs PySem.F.entry_dict_items (PySem.F.args_dict_items_1 _) (meets_dict_items (Yg X.prog X.w) d hs) ⟨⟨vs,dd⟩,?_⟩
 have I2:=I1.freeze hd rfl hob
 have I3:Inv X pins σ (upd H1 d (.frz ob (.dK kvs))) { s1 with heap:=s1.heap.push { cls:=.type "dict_items",data:=.fields #[.ref d] } }:=I2.kept (t':=s1.toks) fun b o e=>Heap.get?_push_of_some _ e
 refine wpAny_pyIter_items (knd:=Yg X.prog X.w) (d:=d) ⟨_,Heap.get?_push_size _ rfl,rfl,rfl⟩ (hD _ (Heap.get?_push_of_some _ hob)) ?_
 refine ⟨_,[_],_,_,_,rfl,I3.kept (t':=s1.toks) fun b o e=>Heap.get?_push_of_some _ e,Zps _ kv hD,⟨_,_,Heap.get?_push_size _ rfl⟩,fun b hb=>?_,q ob ⟨I1.notFrz hd (fun _ _ z=>nomatch z),fun _ z=>nomatch z⟩⟩
 have e:=List.mem_singleton.mp hb
 subst e
 exact I3.fpOk (Nat.le_refl _) (I3.hok.fresh (Nat.le_refl _))
theorem Zrq{d:Addr}{o:Obj}{kvs:List (Key×V)}{g:TG}{tb:TS}{D:Zfl}{σ:St}{H:Hp}(Pv:Nat->St->Hp->Prop)(h0:Pv 0 σ H)(hl:∀i σ H,i<=kvs.length->Pv i σ H->H d=some (.frz o (.dK kvs)))
  (hs:∀i kv σ H,kvs[i]? =some kv->Pv i σ H->∀p H1,Same H H1->H p=none->H1 p=some (.tup [kV kv.1,kv.2])->g (.ref p) σ H1 fun σ2 H2=>tb { D with nx:=Pv (i+1),ct:=Pv (i+1),bk:=D.nx } σ2 H2) (hd:∀σ H,Pv kvs.length σ H->D.nx σ H) :
  ∃W:Nat->Nat->St->Hp->Prop,(∃m,W 0 m σ H)/\∀i m σ H,W i m σ H ->
   ((Iti d o kvs).stop i H/\D.nx σ H)\/((Iti d o kvs).go i H/\∃N:St->Hp->Prop,(∀σ' H',N σ' H'->∃m',m'<m/\W (i+1) m' σ' H')/\∀x H',(Iti d o kvs).yld i H x H'->g x σ H' fun σ2 H2=>tb { D with nx:=N,ct:=N,bk:=D.nx } σ2 H2):=by
 refine ⟨fun i m σ H=>m=kvs.length-i/\i<=kvs.length/\Pv i σ H,⟨kvs.length,by simp,Nat.zero_le _,h0⟩,?_⟩
 rintro i m σ H ⟨rfl,hi,p⟩
 have q:=hl i σ H hi p
 by_cases hlt:i<kvs.length
 ·refine .inr ⟨⟨q,hlt⟩,Pv (i+1),fun σ' H' p'=>⟨kvs.length-(i+1),by omega,rfl,hlt,p'⟩,fun x H' y=>?_⟩
  obtain ⟨a,kv,e,hn,hkv,e2⟩:=y
  subst e e2
  exact hs i kv σ H hkv p a _ (Same.new hn) hn Zh
 ·have e:i=kvs.length:=by omega
  subst e
  exact .inl ⟨⟨q,Nat.le_refl _⟩,hd σ H p⟩
def Zk4(K:Frag)(H:Hp)(x y:V):Prop:=(Zd4 x=true/\Zd4 y=true/\eqV x y=true)\/∃n t,n<=60/\Im K H n t x/\Im K H n t y
theorem Zk4.eqAt{X:Cx}{pins:List (Addr×Obj)}{σ:St}{H:Hp}{s:Shared}{A:Around}{x y:V}{u v:Value}(I:Inv X pins σ H s)(h:Zk4 X.K H x y)(rx:Yl x u)(ry:Yl y v)(hu:A.units+60<cLine):SeqAt.EqAt A s u v true:=by
 rcases h with ⟨f1,f2,e⟩|⟨n,t,hn,i1,i2⟩
 ·exact Yf (Zie rx ry f1 f2) e
 ·exact Yf (Im.eqAt I n A i1 i2 rx ry (by omega)) (decide_eq_true rfl)
def Zzz(K:Frag):R2:=fun x y H Q=>∃a b ka kb,x=.ref a/\y=.ref b/\Rd H a (.dK ka)/\Rd H b (.dK kb)/\ka.length=kb.length/\(∀kv∈ka,∃v,Y4 kb kv.1=some v/\Zk4 K H kv.2 v)/\Q (.bl true) H
theorem Zzi{X:Cx}(hu:X.A.units+64<cLine):OpR X (compareOp .Eq) (Zzz X.K):=by
 intro pins s σ H x y v u Q I rx ry h
 obtain ⟨a,b,ka,kb,rfl,rfl,ha,hb,hl,hall,q⟩:=h
 cases rx
 cases ry
 obtain ⟨_,sa,va,ra,da⟩:=Zd2 I.hok ha
 obtain ⟨_,sb,vb,rb,db⟩:=Zd2 I.hok hb
 have la:=KV.length ra
 have lb:=KV.length rb
 have hits:∀{ka':List (Key×V)} {va':List (Key×Value)},KV ka' va'->(∀kv∈ka',∃v,Y4 kb kv.1=some v/\Zk4 X.K H kv.2 v)->PySem.W.KeqHits X.A.in1 s vb va' true:=by
  intro ka' va' r
  induction r with
  | nil=>intro _;exact .nil
  | cons r t ih =>
   rename_i p q l m
   intro hv
   obtain ⟨e1,r2⟩:=r
   obtain ⟨v,hv1,hv2⟩:=hv p List.mem_cons_self
   have hval:=KV.val rb p.1
   rw [hv1] at hval
   obtain ⟨y,hy,ry⟩:=Zdr.some_of hval
   rw [e1] at hy
   have:=PySem.W.KeqHits.hit (k:=q.1) (v:=q.2) hy (hv2.eqAt (A:=X.A.in1) I r2 ry (by rw [Xv];omega)) (ih fun kv hkv=>hv kv (List.mem_cons_of_mem _ hkv))
   simpa using this
 refine PySem.W.keq_eq (knd:=Yg X.prog X.w) sa sb da db (by omega) (fun _=>hits ra hall) ⟨.bl true,H,I,?_,q⟩
 rw [show (va.length ==vb.length)=true by rw [<-la,<-lb,hl];simp]
 rfl
def Zaz(K:Frag):R2:=fun x y H Q=>rEq x y H Q\/Zv0 K false x y H Q\/Zzz K x y H Q
def X0(K:Frag):List V->Hp->VK->Prop:=fun xs H Q=>(∃p ys,xs=[.ref p]/\(SqL K H p ys\/SqT K H p ys)/\Q (.int ys.length) H)\/(∃z,xs=[.str z]/\z.length<=sizeLine/\Q (.int z.length) H)\/∃a kvs,xs=[V.ref a]/\H a=some (.dK kvs)/\Q (.int kvs.length) H
def Zbq(K:Frag):V->Option Int->Option Int->Hp->VK->Prop:=fun x lo hi H Q=>Zxv K x lo hi H Q\/Zxz K x lo hi H Q\/Ya7 x lo hi H Q
section
variable {X:Cx} {k:Nat}
theorem Zba(hr:Zao k X.A):OpR X (compareOp .Eq) (Zaz X.K):=Yay.or ((Zy0 hr.units).or (Zzi hr.units))
theorem X3:Xo X (.builtin "len") (X0 X.K):=Zna.or (Zly.or Zsi)
theorem Zcl:SlR X (Zbq X.K):=Zwx.or (Ztq.or Zyh)
def Zqn(K:Frag):List V->Hp->VK->Prop:=fun xs H Q=>∃p ys,xs=[.ref p]/\(SqL K H p ys\/SqT K H p ys)/\New H (.lst ys) Q
theorem Ze9:Xo X (.type "list") (Zqn X.K):=Zl0.imp fun xs H Q ⟨p,ys,h1,h2,h3⟩=>⟨p,ys,h1,h2,fun l hl=>h3.at l hl⟩
def Zwu:TE:=fun _ H Q=>New H (.dK []) Q
theorem Zgh{pos:Pos}:PE X (.Dict [] [] pos) Zwu:=fun pins s σ H Q I h=>Zt5 pins s σ H Q I fun p hp=>h.at p hp
def Zvk:TE:=fun _ H Q=>New H (.dT []) Q
theorem Zee{pos:Pos}:PE X (.Dict [] [] pos) Zvk:=fun pins s σ H Q I h=>Zts pins s σ H Q I fun p hp=>h.at p hp
def Ya5(K:Frag):List V->Hp->VK->Prop:=fun xs H Q=>∃(p:Addr) (bs:List Bool),xs=[.ref p]/\SqL K H p (bs.map V.bl)/\Q (.bl (bs.all id)) H
theorem Zr2(hc:X.calm=true):Xo X (.builtin "all") (Ya5 X.K):=Zi4 hc
def Zor(K:Frag):List V->Hp->VK->Prop:=fun xs H Q=>∃x c b t,xs=[x,c]/\Zbm K H x t/\((∃n,c=.ty n/\kitOne K t (.type n)=some b)\/∃a,c=.ref a/\kitOne K t (.ref a)=some b)/\Q (.bl b) H
theorem Zbx:Xo X (.builtin "isinstance") (Zor X.K):=Znn
end
theorem Zb3{X:Cx}{i:Nat}{y:Str}{py spos:Pos}{elt tg iter:Expr}{ifs:List Expr}{scope:Scope}{pos:Pos}{cl:List (Str×Addr)}{N':List Str}{fr:St->St}{wi:TI}{g:TG}{tf:TT}{te:TE}
  (hN:X.N.Nodup) (hi':X.N[i]? =some y) (hy:Loc X.env.scope y) (hc:X.calm=true) (S:Ya X scope cl N' fr) (hi:PI X tg iter wi) (hg:∀s H C ex,PG (Xd X scope cl N' s H C ex) tg g) (hf:∀s H C ex,PF (Xd X scope cl N' s H C ex) ifs tf)
  (he:∀s H C ex,PE (Xd X scope cl N' s H C ex) elt te) (hs:∀x,foldedSetIterable iter X.env x=pure x:=by intro _;rfl)
  (hsw:swapsWith (.ListComp elt [⟨tg,iter,ifs,0⟩] scope pos) (some (.Name y py)) spos.line X.env=pure true:=by rfl) (hfn:X.fn y=true\/X.env.scope.names.lookup y=some .local:=by first | exact .inl rfl | exact .inr rfl | assumption) :
  PS X (.Assign [.Name y py] (.ListComp elt [⟨tg,iter,ifs,0⟩] scope pos) spos) (Zvt (Zxq wi fr g tf te) (Zd8 i)):=by
 intro pins s σ H D I h
 rw [exec_Assign_Name_used _ _ _ _ hsw]
 refine wpAny_bind (wpAny_standAt (wpAny_bind ?_))
 show wpAny _ X.A (do let _ <-comprehension (.ListComp elt [⟨tg,iter,ifs,0⟩] scope pos) scope X.env _ (newList []) false (eval iter X.env) (some (assign (.Name y py) X.env))) _ _ s
 refine wpAny_bind (wpAny_mono (wpAny_comprehension_free (use:=some (assign (.Name y py) X.env)) (Q:=fun _ s'=>∃σ' H',Inv X pins σ' H' s'/\D.nx σ' H') rfl hs S.clos S.kind S.names (thn (hi pins s σ H _ I h) fun v s1 h1=>thn h1 fun itv s2 h2=>?_)) (fun _ s' hq=>wpAny_pure (wpAny_pure hq)) fun _ _ e=>e)
 obtain ⟨it,fp,tn,J,H2,e,I2,T,st2,f2,q⟩:=h2
 subst e
 refine wpAny_newObj_type (wpAny_newFunctionEnv S.cell (by intro y hy;simp at hy) (fun h₁ hns₁ hsb₁=>?_) S.kind)
 dsimp only at hns₁ hsb₁ ⊢
 generalize hP:s2.heap.push { cls:=.type "list",dict:=none,data:=.seq ([]:List Value).toArray }=P at hns₁ hsb₁ ⊢
 have hPz:P.objs.size=s2.heap.objs.size+1:=by rw [<-hP,Heap.size_push]
 have hCD:s2.heap.objs.size<P.objs.size:=by rw [hPz];exact Nat.lt_succ_self _
 have ho2:∀b∈fp,∃o,s2.heap.get? b=some o:=fun b hb=>let ⟨o,e,_⟩:=T.obj _ _ st2 b hb;⟨o,e⟩
 have below:∀b,b<s2.heap.objs.size->b≠P.objs.size:=fun b hb=>Nat.ne_of_lt (Nat.lt_trans hb hCD)
 have old:∀b o,s2.heap.get? b=some o->h₁.get? b=some o:=fun b o e=>hsb₁.extBut b o (below b (Heap.lt_size e)) (Heap.get?_push_of_some _ (hP ▸ Heap.get?_push_of_some _ e))
 have hacc:h₁.get? s2.heap.objs.size=some { cls:=.type "list",data:=.seq ([]:List Value).toArray 0 }:=hsb₁.extBut _ _ (Nat.ne_of_lt hCD) (Heap.get?_push_of_some _ (hP ▸ Heap.get?_push_size _ rfl))
 have fD:H2 s2.heap.objs.size=none:=I2.hok.fresh (Nat.le_refl _)
 obtain ⟨W,⟨m0,w0⟩,turn⟩:=q s2.heap.objs.size fD
 have hz:h₁.objs.size<=P.objs.size+1:=by
  have e:=hsb₁.1
  rw [Heap.size_push] at e
  exact Nat.le_of_eq e
 have st1:tn 0 h₁:=T.keep _ _ _ st2 fun b hb o e=>old b o e
 have stat:∀{pins':List (Addr×Obj)} {H':Hp},(∀p∈pins',p.1∉fp)->(∀b∈fp,H' b=none)->∀b∈fp,Zhf (Xd X scope cl N' s2 H2 P.objs.size fp) pins' H' b:=fun {pins' H'} hp hn b hb=>by
  obtain ⟨o,e⟩:=ho2 b hb
  obtain ⟨_,f1,f2',f3,f4,f5⟩:=f2 b hb
  refine ⟨hn b hb,below b (Heap.lt_size e),fun z=>?_,.inl hb,fun x c h=>f4 x c (S.sub x c h),fun p hp' z=>?_⟩
  ·rcases List.mem_cons.mp (I2.stkSub b z) with q|q
   ·exact f1 q
   ·exact f2' q
  ·have hp2:p∈pins':=by simpa [Xd] using hp'
   exact hp p hp2 (by rw [z];exact hb)
 have loop:∀s3:Shared,s3={ s2 with heap:=h₁,toks:=s2.toks+([]:List (Str×Value)).length } ->
   codeAny (model X.prog X.w) X.A (.compLoop (.ListComp elt [⟨tg,iter,ifs,0⟩] scope pos) 0 (.ref it) (.ref s2.heap.objs.size) (compEnvC scope cl P.objs.size X.env)) (compPost (model X.prog X.w) X.A X.xe (some (assign (.Name y py) X.env)) (fun _ s'=>∃σ' H',Inv X pins σ' H' s'/\D.nx σ' H') (.ref s2.heap.objs.size) P.objs.size) s3:=by
  rintro s3 rfl
  have I3:Inv (Xd X scope cl N' s2 H2 P.objs.size fp) [] (fr σ) (upd H2 s2.heap.objs.size (.lst [])) { s2 with heap:=h₁,toks:=s2.toks+([]:List (Str×Value)).length }:=Zin I2 S hCD rfl f2 ho2 old hacc hns₁ hz
  refine Zb7 (fun n s'=>∃i ys H',Inv (Xd X scope cl N' s2 H2 P.objs.size fp) [] (fr σ) H' s'/\tn i s'.heap/\(∀b∈fp,H' b=none)/\W i n ys H') ?_ m0 ⟨0,[],_,I3,st1,fun b hb=>?_,w0⟩
  ·rintro n s3 ⟨i,ys,H3,I3,st3,fr3,w3⟩
   rcases turn i n ys H3 w3 with ⟨stop,qn⟩|⟨go,N,hN,step⟩
   ·refine thn (T.done (Xd X scope cl N' s2 H2 P.objs.size fp) rfl rfl rfl hc i [] s3 (fr σ) H3 _ I3 (stat (by simp) fr3) st3 stop) fun r s4 ⟨hr,I4⟩=>?_
    subst hr
    obtain ⟨m4,hn4,_⟩:=I4.loc
    obtain ⟨oC,esC,epC,hoC,hrC⟩:=id hn4
    have J0:Inv X pins σ H3 s4:=Zn1 I2 hCD f2 I4 (h':=s4.heap) ⟨rfl,fun _ _=>rfl⟩
    have big:s2.heap.objs.size<=P.objs.size:=Nat.le_of_lt hCD
    have fC:H3 P.objs.size=none:=I4.free
    have okC:=I2.fpOk big fC
    have J1:Inv X (pins++[(P.objs.size,oC)]) σ H3 s4:=J0.pins_of fun p hp=>by
     rcases List.mem_append.mp hp with hp|hp
     ·exact J0.pin p (List.mem_append_right _ hp)
     ·have e:p=(P.objs.size,oC):=by simpa using hp
      subst e
      exact ⟨hoC,fC,okC.2.1,okC.2.2.1,fun v z=>by rw [hrC.1] at z;cases z⟩
    refine thn (Zmv hN hi' hy hfn (X:=X) (pos:=py) _ s4 σ H3 (.ref s2.heap.objs.size) (.ref s2.heap.objs.size) _ J1 rfl qn) fun _ s5 ⟨σ5,H5,I5,q5⟩=>?_
    obtain ⟨p1,p2,p3,p4,p5⟩:=I5.pin (P.objs.size,oC) (List.mem_append_right _ (List.mem_append_right _ (by simp)))
    exact ⟨m4,⟨oC,esC,epC,p1,hrC⟩,fun h' hs'=>⟨σ5,H5,(I5.unpinned).turned (t':=s5.toks) (it:=P.objs.size) (fun b o hb e=>(hs'.2 b hb).trans e) p2 p3 okC.2.2.2.1 okC.2.2.2.2.1 okC.2.2.2.2.2,q5⟩⟩
   ·refine thn (T.item (Xd X scope cl N' s2 H2 P.objs.size fp) rfl rfl rfl hc i [] s3 (fr σ) H3 _ I3 (stat (by simp) fr3) st3 go) fun r s4 ⟨u,hr,h4⟩=>?_
    subst hr
    refine thn h4 fun _ s5 ⟨x,H5,I5,r5,y5,st5,fr5⟩=>?_
    have I5':=I5.pinned (stat (by simp) fr5) (T.obj _ _ st5)
    refine thn (hg s2 H2 P.objs.size fp _ s5 (fr σ) H5 x u _ I5' r5 (step x H5 y5)) fun _ s6 ⟨σ6,H6,I6,kp,q6⟩=>?_
    refine thn (hf s2 H2 P.objs.size fp _ s6 σ6 H6 _ I6 q6) fun ok s7 ⟨H7,I7,q7⟩=>?_
    have again:∀{σ8:St} {H8:Hp} {s8:Shared} {ys8:List V},W2 (fr σ) σ8->Inv (Xd X scope cl N' s2 H2 P.objs.size fp) ([]++Zgb fp s5.heap) σ8 H8 s8->N ys8 H8 ->
      ∃m,m<n/\∃i ys H',Inv (Xd X scope cl N' s2 H2 P.objs.size fp) [] (fr σ) H' s8/\tn i s8.heap/\(∀b∈fp,H' b=none)/\W i m ys H':=fun {σ8 H8 s8 ys8} kp8 I8 n8=>by
     obtain ⟨m',hm,w8⟩:=hN ys8 H8 n8
     refine ⟨m',hm,i+1,ys8,H8,(I8.unpinned).weak (by rw [I8.len];exact S.len σ I2.len) kp8,T.keep _ _ _ st5 fun b hb o e=>(I8.pin (b,o) (List.mem_append_right _ (List.mem_append_right _ (Zbv hb e)))).1,fun b hb=>?_,w8⟩
     obtain ⟨o,e,d⟩:=T.obj _ _ st5 b hb
     exact (I8.pin (b,o) (List.mem_append_right _ (List.mem_append_right _ (Zbv hb e)))).2.1
    cases ok with
    | false=>exact again kp I7 q7
    | true =>
     refine thn (he s2 H2 P.objs.size fp _ s7 σ6 H7 _ I7 q7) fun uy s8 ⟨y,H8,I8,r8,hD8,hz8,q8⟩=>?_
     exact thn (Xy _ s8 σ6 H8 (.ref s2.heap.objs.size) [y] (.ref s2.heap.objs.size) [uy] (fun _ H9=>N (ys++[y]) H9) I8 rfl (.cons r8 .nil) ⟨_,ys,y,rfl,rfl,hD8,hz8,q8⟩) fun _ s9 ⟨v9,H9,I9,_,q9⟩=>again kp I9 q9
  ·show upd H2 s2.heap.objs.size (.lst []) b=none
   obtain ⟨o,e⟩:=ho2 b hb
   rw [Zj (Nat.ne_of_lt (Heap.lt_size e))]
   exact (f2 b hb).1
 exact codeAny_compStart_list (loop _ rfl) (T.self X.A 0 _ _ _ st1 (loop _ rfl))
theorem Zh0{X:Cx}{K:Frag}{es:List Expr}{k:Nat}{pos:Pos}{t:TGs}{n:Nat}(hK:X.K=K)(hc:X.calm=true)(h:PGs X es t)
  (hn:(assignEach es X.env).length=n:=by rfl) (hst:(assignEach es X.env).findIdx? (·.1)=none:=by rfl):PG X (.Tuple es k pos) (Ybb K n t):=hK ▸ Zbt hc h hn hst
end L2
end
section
namespace L2
open PySem PySem.Spec PyProof.Rows
def Ya4(K:Frag):R2:=fun x y H Q=>∃a b ka kb,x=.ref a/\y=.ref b/\Rd H a (.dK ka)/\Rd H b (.dK kb)/\ka.length=kb.length/\(∀kv∈ka,∃v,Y4 kb kv.1=some v/\Zk4 K H kv.2 v)/\Q (.bl false) H
theorem Zya{X:Cx}(hu:X.A.units+64<cLine):OpR X (compareOp .NotEq) (Ya4 X.K):=by
 intro pins s σ H x y v u Q I rx ry h
 obtain ⟨a,b,ka,kb,rfl,rfl,ha,hb,hl,hall,q⟩:=h
 cases rx
 cases ry
 obtain ⟨_,sa,va,ra,da⟩:=Zd2 I.hok ha
 obtain ⟨_,sb,vb,rb,db⟩:=Zd2 I.hok hb
 have la:=KV.length ra
 have lb:=KV.length rb
 have hits:∀{ka':List (Key×V)} {va':List (Key×Value)},KV ka' va'->(∀kv∈ka',∃v,Y4 kb kv.1=some v/\Zk4 X.K H kv.2 v)->PySem.W.KeqHits X.A.in1 s vb va' true:=by
  intro ka' va' r
  induction r with
  | nil=>intro _;exact .nil
  | cons r t ih =>
   rename_i p q l m
   intro hv
   obtain ⟨e1,r2⟩:=r
   obtain ⟨v,hv1,hv2⟩:=hv p List.mem_cons_self
   have hval:=KV.val rb p.1
   rw [hv1] at hval
   obtain ⟨y,hy,ry⟩:=Zdr.some_of hval
   rw [e1] at hy
   have:=PySem.W.KeqHits.hit (k:=q.1) (v:=q.2) hy (hv2.eqAt (A:=X.A.in1) I r2 ry (by rw [Xv];omega)) (ih fun kv hkv=>hv kv (List.mem_cons_of_mem _ hkv))
   simpa using this
 refine PySem.W.keq_ne (knd:=Yg X.prog X.w) sa sb da db (by omega) (fun _=>hits ra hall) ⟨.bl false,H,I,?_,q⟩
 rw [show (va.length ==vb.length)=true by rw [<-la,<-lb,hl];simp]
 rfl
def Zwq(K:Frag)(neg:Bool):R2:=fun x y H Q=>∃(p:Addr) (n:Nat) (t:Tr) (ts:List Tr) (as:List Addr),y=.ref p/\SqL K H p (as.map V.ref)/\n<=60/\Im K H n t x/\Paired (Im K H n) ts (as.map V.ref)/\Q (.bl (if neg then !decide (t∈ts) else decide (t∈ts))) H
noncomputable def Zj6 (K:Frag) (H:Hp) (n:Nat) (t:Tr) (u:Value):Bool:=match u with
 | .ref a=>@decide (Im K H n t (.ref a)) (Classical.propDecidable _)
 | _=>false
theorem Zjg{X:Cx}{pins:List (Addr×Obj)}{σ:St}{H:Hp}{s:Shared}(I:Inv X pins σ H s){n:Nat}{t:Tr}:∀{ts:List Tr} {as:List Addr} {us:List Value},Paired (Im X.K H n) ts (as.map V.ref)->Yd (as.map V.ref) us->us.any (Zj6 X.K H n t)=decide (t∈ts)
 | [],[],_,_,v=>by rw [List.map_nil] at v;cases v;simp
 | [],a ::as,_,p,_=>by rw [List.map_cons] at p;cases p
 | t' ::ts,[],_,p,_=>by rw [List.map_nil] at p;cases p
 | t' ::ts,a ::as,us,p,v=>by
  rw [List.map_cons] at p v
  cases p with
  | cons i p =>
   cases v with
   | cons r v =>
    cases r
    rw [List.any_cons,Zjg I p v,Bool.eq_iff_iff,Bool.or_eq_true]
    simp only [Zj6,decide_eq_true_eq,List.mem_cons]
    constructor
    ·rintro (z|z)
     ·exact .inl (Im.inj I z i)
     ·exact .inr z
    ·rintro (z|z)
     ·exact .inl (z ▸ i)
     ·exact .inr z
theorem Zjs{X:Cx}{pins:List (Addr×Obj)}{σ:St}{H:Hp}{s:Shared}(I:Inv X pins σ H s){n:Nat}{A:Around}(hu:A.units+n<cLine){t:Tr}{x:V}{vx:Value}(hx:Im X.K H n t x)(rx:Yl x vx) :
  ∀{ts:List Tr} {as:List Addr} {us:List Value},Paired (Im X.K H n) ts (as.map V.ref)->Yd (as.map V.ref) us->∀u∈us,SeqAt.EqAt A s u vx (Zj6 X.K H n t u)
 | [],[],_,_,v=>by rw [List.map_nil] at v;cases v;simp
 | [],a ::as,_,p,_=>by rw [List.map_cons] at p;cases p
 | t' ::ts,[],_,p,_=>by rw [List.map_nil] at p;cases p
 | t' ::ts,a ::as,us,p,v=>by
  rw [List.map_cons] at p v
  cases p with
  | cons i p =>
   cases v with
   | cons r v =>
    cases r
    intro u hm
    rcases List.mem_cons.mp hm with e|e
    ·subst e
     refine Yf (Im.eqAt I n A i hx rfl rx hu) ?_
     simp only [Zj6,decide_eq_decide]
     exact ⟨fun z=>z ▸ i,fun z=>(Im.inj I z i).symm⟩
    ·exact Zjs I hu hx rx p v u e
theorem Zyy{X:Cx}(hu:X.A.units+64<cLine):OpR X (compareOp .In) (Zwq X.K false):=by
 intro pins s σ H x y v u Q I rx ry h
 obtain ⟨p,n,t,ts,as,rfl,hq,hn,hx,hp,q⟩:=h
 cases ry
 obtain ⟨its,r,pl,hz⟩:=I.list hq
 refine SeqAt.in_listAt (Zj6 X.K H n t) pl.isList (fun w hw=>Zjs I (by rw [Xv];omega) hx rx hp r w (by simpa using hw)) ⟨.bl _,H,I,rfl,?_⟩
 rw [show its.toArray.any (Zj6 X.K H n t)=its.any (Zj6 X.K H n t) by simp,Zjg I hp r]
 exact q
theorem Zr9{X:Cx}(hu:X.A.units+64<cLine):OpR X (compareOp .NotIn) (Zwq X.K true):=by
 intro pins s σ H x y v u Q I rx ry h
 obtain ⟨p,n,t,ts,as,rfl,hq,hn,hx,hp,q⟩:=h
 cases ry
 obtain ⟨its,r,pl,hz⟩:=I.list hq
 refine SeqAt.notIn_listAt (Zj6 X.K H n t) pl.isList (fun w hw=>Zjs I (by rw [Xv];omega) hx rx hp r w (by simpa using hw)) ⟨.bl _,H,I,rfl,?_⟩
 rw [show its.toArray.any (Zj6 X.K H n t)=its.any (Zj6 X.K H n t) by simp,Zjg I hp r]
 exact q
section
variable {X:Cx} {k:Nat}
def Zj7(K:Frag):R2:=fun x y H Q=>rNe x y H Q\/Zv0 K true x y H Q\/Ya4 K x y H Q
theorem Znp(hr:Zao k X.A):OpR X (compareOp .NotEq) (Zj7 X.K):=Ybf.or ((Zyp hr.units).or (Zya hr.units))
def Zhg(K:Frag):R2:=fun x y H Q=>rIn K false x y H Q\/(∃a o,y=.ref a/\Zar H a x o/\Q (.bl o.isSome) H)\/(∃i j,x=.str i/\y=.str j/\Q (.bl (!(Builtin.Str.occurrences j i 0 j.length 1).isEmpty)) H)\/Zwq K false x y H Q
theorem Zim(hr:Zao k X.A):OpR X (compareOp .In) (Zhg X.K):=Zsn.or ((Zzq (Wc hr)).or (Zsw.or (Zyy hr.units)))
def Zck(K:Frag):R2:=fun x y H Q=>rIn K true x y H Q\/(∃a o,y=.ref a/\Zar H a x o/\Q (.bl (!o.isSome)) H)\/Zwq K true x y H Q
theorem Zc3(hr:Zao k X.A):OpR X (compareOp .NotIn) (Zck X.K):=Zm8.or ((Zr0 (Wc hr)).or (Zr9 hr.units))
end
end L2
end
section
namespace L2
open PySem
section
variable {M:Model} {A:Around} {E:Value->Shared->Prop} {s:Shared} {base:Heap} {env:Env} {outer l:List Env} {L e:Addr} {oe:Obj} {vs:Array Value} {head a0 cls fl:Value} {dx:Option Addr} {Q:Unit->Shared->Prop}
end
end L2
end
section
namespace L2
open PySem PySem.Spec PyProof.Rows
theorem Yn.there{P:Program}{w:World}{H:Hp}{h:Heap}{a:Addr}{o:HO}(x:Yn P w H h a o):∃ob,h.get? a=some ob:=by
 cases o with
 | lst xs=>obtain ⟨_,_,_,_,e⟩:=x;exact ⟨_,e⟩
 | tup xs=>obtain ⟨_,_,_,_,e,_⟩:=x;exact ⟨_,e⟩
 | dK kvs=>obtain ⟨_,_,_,_,o,_,_,e,_⟩:=x;exact ⟨_,e⟩
 | dT kvs=>obtain ⟨_,_,_,_,o,_,_,e,_⟩:=x;exact ⟨_,e⟩
 | set S n=>obtain ⟨o,_,_,_,e,_⟩:=x;exact ⟨_,e⟩
 | ins C dx fs=>obtain ⟨_,_,_,e,_⟩:=x;exact ⟨_,e⟩
 | own y=>obtain ⟨_,e⟩:=x;exact ⟨_,e⟩
 | xd fs=>obtain ⟨_,⟨_,_,_,e,_⟩,_⟩:=x;exact ⟨_,e⟩
 | rng lo hi=>obtain ⟨_,_,_,e⟩:=x;exact ⟨_,e⟩
 | frz ob u=>obtain ⟨e,_⟩:=x;exact ⟨_,e⟩
 | tbl ps =>
  obtain ⟨_,_,_,_,_,_,_,e | ⟨_,_,_,_,_,_,_,e⟩⟩:=x
  ·exact ⟨_,e⟩
  ·exact ⟨_,e⟩
 | met f y=>exact ⟨_,show h.get? a=some _ from x⟩
 | ext φ=>obtain ⟨_,⟨_,e⟩,_⟩:=x;exact ⟨_,e⟩
section
variable {P:Program} {w:World} {K:Frag} {mg:Str->Option Value} {base:Heap} {N:List Str} {qual:Str} {scope:Scope} {f:Addr} {cd:Value} {A:Around} {outer:List Env} {s₀:Shared} {H₀:Hp} {E:XK}
end
abbrev Cx.caught(X:Cx)(ea:Addr):Cx:={ X with A:=X.A.mark (some (.ref ea)),calm:=false,xe:=fun _ _=>False }
section
variable {X:Cx} {pins pins':List (Addr×Obj)} {σ:St} {H:Hp} {s:Shared} {E:Value->Shared->Prop}
end
section
variable {P:Program} {w:World} {K:Frag} {mg:Str->Option Value} {base:Heap}
end
end L2
end
section
namespace L2
open PySem PySem.Spec PyProof.Rows
theorem Zfz:∀{ss:List Str} {us:List Value},Yd (ss.map V.str) us->StrsAre us ss
 | [],_,r=>by rw [List.map_nil] at r;cases r;exact .nil
 | x ::ss,_,r=>by
  rw [List.map_cons] at r
  cases r with
  | cons r t =>
   obtain ⟨tk,rfl⟩:=r
   exact .cons _ _ (Zfz t)
theorem Inv.laidAt{X:Cx}{pins:List (Addr×Obj)}{σ:St}{H:Hp}{s:Shared}{h':Heap}{t':Nat}{a:Addr}{o:HO}(I:Inv X pins σ H s)(k:∀b u,s.heap.get? b=some u->h'.get? b=some u)(hn:s.heap.get? a=none)(new:Yn X.prog X.w (upd H a o) h' a o) :
  H a=none/\Inv X pins σ (upd H a o) { s with heap:=h',toks:=t' }:=by
 have hH:H a=none:=by
  cases e:H a with
  | none=>rfl
  | some u =>
   obtain ⟨ob,z⟩:=(I.hok a u e).there
   rw [hn] at z
   cases z
 have ne:∀b u,s.heap.get? b=some u->b≠a:=fun b u e z=>by rw [z,hn] at e;cases e
 refine ⟨hH,I.call' (s':={ s with heap:=h',toks:=t' }) rfl ⟨fun b u e _ _ _=>k b u e,fun b u e _ _ _=>⟨u.slots,k b u e⟩,fun b u e n _=>by rw [Zj (ne b u e)];exact n,fun b u e _=>⟨u,k b u e⟩,fun b xs e=>?_,fun b q u e=>?_,fun b ps e=>⟨#[],?_⟩⟩ (fun b u e=>?_) I.bare (fun b z=>absurd z List.not_mem_nil)⟩
 ·rw [Zj (Zi e hH)];exact e
 ·rw [Zj (Zi e hH)];exact e
 ·rw [Zj (Zi e hH)];simpa using e
 ·by_cases z:b=a
  ·rw [z,Zh] at e
   cases e
   rw [z]
   exact new
  ·rw [Zj z] at e
   exact (I.hok b u e).stay (fun c v _ h=>k c v h) (fun c h=>by rw [Zj (Zi h hH)];exact h) (fun c ys h=>by rw [Zj (Zi h hH)];exact h)
def Zrs(tl:TE):TE:=fun σ H Q=>tl σ H fun x H1=>∃d kvs,x=.ref d/\Rd H1 d (.dK kvs)/\New H1 (.lst (kvs.map fun kv=>kv.2)) Q
theorem Zks:∀{kvs:List (Key×V)} {va:List (Key×Value)},KV kvs va->Yd (kvs.map fun kv=>kv.2) (va.map fun kv=>kv.2)
 | [],_,.nil=>.nil
 | _ ::_,_ ::_,.cons r t=>.cons r.2 (Zks t)
theorem Zn2{X:Cx}{apos cpos p' pos':Pos}{o:Expr}{to:TE}(hc:X.calm=true) (hgl:Gl X "list") (hml:X.mg "list" =none) (ho:PE X o to) (hbase:attributeBase o "values" X.env (eval o X.env)=eval o X.env:=by rfl) (hline:(apos.endLine ==cpos.line)=true:=by rfl) :
  PE X (.Call (.Name "list" p') [.Call (.Attribute o "values" apos) [] [] cpos] [] pos') (Zrs to):=by
 intro pins s σ H Q I h
 refine wpAny_Call_Name_kw (Ze6 I hgl hml PyProof.Rows.boot_list ?_)
 refine PyProof.Rows.callWith_type1 ?_ rfl rfl
 refine Calls.spliced_cons ?_
 refine wpAny_Call_method0_late hbase hline (thn (ho pins s σ H _ I h) fun v s1 ⟨y,H1,I1,r1,q1⟩=>?_)
 obtain ⟨d,kvs,rfl,hd,q⟩:=q1
 cases r1
 obtain ⟨hz,hs,vs,kv,dd⟩:=Zd2 I1.hok hd
 obtain ⟨ob,_,_,hob,hex,_⟩:=id dd
 obtain ⟨ep,hD⟩:=Zgc dd hob
 refine ⟨"dict", "dict.values",PySem.F.plainAttrs_dict,PySem.F.slot_dict_values,PySem.F.type_dict_values,dd.typeIs,fun a e=>?_,Calls.callWith_builtin rfl (PySem.evalArgs_none ?_)⟩
 ·cases e
  exact ⟨ob,hob,hex.2.1⟩
 refine call_meetsIn PySem.F.slot_dict_values dd.typeIs PySem.F.entry_dict_values (PySem.F.args_dict_values_1 _) (meets_dict_values (Yg X.prog X.w) d hs) ⟨⟨vs,dd⟩,?_⟩
 refine Calls.spliced_nil ?_
 have I2:Inv X pins σ H1 { s1 with heap:=s1.heap.push { cls:=.type "dict_values",data:=.fields #[.ref d] } }:=I1.kept (t':=s1.toks) fun b o e=>Heap.get?_push_of_some _ e
 have hl:=KV.length kv
 refine PySem.W.kdl_call (PySem.W.kdl_values (knd:=Yg X.prog X.w) (r:=s1.heap.objs.size) (d:=d) (kvs:=vs) (ep:=ep)) (I2.ok.hd hc) ⟨⟨_,Heap.get?_push_size _ rfl,rfl,rfl⟩,hD _ (Heap.get?_push_of_some _ hob)⟩ (by omega) fun h' tk acc' c' hk hD' hacc=>?_
 have e1:acc'.toList=vs.map (·.2):=PySem.W.kdl_vals_eq acc'.toList (by rw [Array.length_toList];exact hacc.1) fun j v e=>hacc.2 j v (by rw [<-Array.getElem?_toList];exact e)
 have hv:Yd (kvs.map fun kv=>kv.2) acc'.toList:=by rw [e1];exact Zks kv
 exact ⟨.ref _,_,I2.laid (o:=.lst _) (t':=tk) hk (Nat.le_refl _) (show Yn X.prog X.w _ h' _ (.lst _) from ⟨by rw [List.length_map];exact hz,acc'.toList,c',hv,by rw [hD']⟩),rfl,q.at _ (I2.hok.fresh (Nat.le_refl _))⟩
end L2
end
section
namespace L2
open PySem PySem.Spec PyProof.Rows Builtin Builtin.ObjectAttr
section
variable {P:Program} {w:World} {H:Hp} {h:Heap} {e C t:Addr} {dx:Option Addr}
end
section
variable {X:Cx} {pins:List (Addr×Obj)} {σ:St} {H:Hp} {s:Shared}
end
section
variable {X:Cx} {pins:List (Addr×Obj)} {σ:St} {H:Hp} {s:Shared} {e C Y t:Addr} {f:Str} {A:Around} {E:Value->Shared->Prop}
end
section
variable {prog:Program} {w:World} {A:Around} {E:Value->Shared->Prop} {s:Shared} {K:Frag} {x C:Addr} {ox:Obj} {od:Option Obj} {name:Str} {tk:Tok}
end
section
variable {X:Cx} {f:Str}
end
end L2
end
section
namespace L2
open PySem PySem.Spec PyProof.Rows
section
variable {prog:Program} {w:World} {A:Around} {E:Value->Shared->Prop} {h:Heap} {g:Array GenState} {d:Drawn} {tk:Nat} {os:OsState} {nm qn:Str} {C N:Addr} {bs bm bmB:List Value} {hdct:Bool} {sn:List Str} {sub:List Value} {ab:Bool} {col:Option Bool} {dd:Option Addr} {k0 k1 k2 k3 k5:Option Value} {B newId initId:String}
 {Z5:List Value} {fI:Addr} {oI:Obj}
end
section
variable {M:Model} {A:Around} {E:Value->Shared->Prop} {s:Shared} {env:Env} {nm qn:Str} {C N:Addr} {bs bm:List Value} {hdct:Bool} {sn:List Str} {sub:List Value} {ab:Bool} {col:Option Bool} {dd:Option Addr} {k0 k1 k2 k3 k5:Option Value} {newId:String}
end
section
variable {P:Program} {w:World} {K:Frag} {mg:Str->Option Value} {base:Heap} {N:List Str} {qual:Str} {scope:Scope} {f:Addr} {cd:Value} {A:Around} {outer:List Env} {s₀:Shared} {H₀:Hp} {E:XK}
end
section
variable {K:Frag} {M:Model} {A:Around} {E:Value->Shared->Prop} {s:Shared} {e C B:Addr} {o:Obj} {r:Bool}
end
section
variable {X:Cx} {σ:St} {H:Hp}
end
theorem Zec:∀{cs:List Addr} {its:List Value},Yd (cs.map V.ref) its->its=cs.map Value.ref
 | [],_,.nil=>rfl
 | c ::cs,_,.cons r t=>by
  rw [Zec t]
  cases r
  rfl
end L2
end
section
namespace L2
open PySem PySem.Spec PyProof.Rows
theorem Zme:typeLookup (.type "list") "keys" =pure none:=by rw [typeLookup_type,builtinLookup_eq_fast];kernel_rfl
theorem Zhs:typeLookup (.type "list") "__getattr__" =pure none:=by rw [typeLookup_type,builtinLookup_eq_fast];kernel_rfl
theorem Zpm:isSubtype (.type "AttributeError") (.type "AttributeError")=pure true:=by rw [isSubtype_type];kernel_rfl
section
variable {prog:Program} {w:World} {A:Around} {E:Value->Shared->Prop} {h:Heap} {g:Array GenState} {d:Drawn} {t:Nat} {os:OsState} {a:Addr} {vs:Array Value} {n:Nat}
theorem Zw0{β:Type}{msg:Str}{Q:β->Shared->Prop}(hh:A.handled=none)(hm:msg.length<=sizeLine)
  (hq:∀h' e tk',(∀b u,h.get? b=some u->h'.get? b=some u)->(∃oe,h'.get? e=some oe/\oe.cls=.type "AttributeError")->E (.ref e) ⟨h',g,d,tk',os⟩) :
  wpAny (model prog w) A (raiseAttrError (.ref a) "keys" msg:Sem β) Q E ⟨h,g,d,t,os⟩:=by
 have f5:=Zpm
 have hm':¬msg.length >sizeLine:=by omega
 unfold raiseAttrError newExc
 repeat (any_goals (first | assumption | rw [if_neg hm'] | wp_step))
 generalize hoX:({ cls:=Value.type "AttributeError",data:=Data.fields (#[Value.ref h.objs.size,Value.none,Value.none,Value.none,Value.bool false,if ((Manifest.find? "AttributeError").elim false fun t=>t.mro.contains "StopIteration" || t.mro.contains "SystemExit")=true then [Value.str msg t].headD Value.none else Value.none]++ownMembersOf (Value.type "AttributeError") [Value.str msg t]) }:Obj)=oX
 have hcX:oX.cls=.type "AttributeError" :=by rw [<-hoX]
 have hdX:∃ws,oX.data=.fields ws:=⟨_,by rw [<-hoX]⟩
 obtain ⟨ws,hdX⟩:=hdX
 have hX:((h.push { cls:=Value.type "tuple",data:=Data.seq #[Value.str msg t] }).push oX).get? (h.push { cls:=Value.type "tuple",data:=Data.seq #[Value.str msg t] }).objs.size=some oX:=Heap.get?_push_size _ (Obj.isFreed_of_fields hdX)
 refine wpAny_raiseNew_none hh (hq _ _ _ (fun b u hb=>?_) ⟨_,Heap.get?_update_self _ hX (Obj.isFreed_of_fields (Obj.data_mapFields hdX _)),by rw [Obj.cls_mapFields];exact hcX⟩)
 rw [Heap.get?_update_other _ _ (by rw [Heap.size_push];exact Nat.ne_of_gt (Nat.lt_succ_of_lt (Heap.lt_size hb)))]
 exact Heap.get?_push_of_some _ (Heap.get?_push_of_some _ hb)
theorem Zpk{tk:Tok}{Q:Fin->Shared->Prop}(hh:A.handled=none) (hx:h.get? a=some { cls:=.type "list",data:=.seq vs n })
  (hq:∀h' e tk',(∀b u,h.get? b=some u->h'.get? b=some u)->(∃oe,h'.get? e=some oe/\oe.cls=.type "AttributeError")->E (.ref e) ⟨h',g,d,tk',os⟩) :
  wpAny (model prog w) A (Builtin.«object.__getattribute__» ⟨[.ref a,.str "keys" tk],[]⟩) Q E ⟨h,g,d,t,os⟩:=by
 have hT:(⟨h,g,d,t,os⟩:Shared).TypeIs (.ref a) "list" :=⟨_,hx,rfl⟩
 have f4:=Zme
 have f5:=Zpm
 repeat (any_goals (first | assumption | wp_step))
 exact Zw0 hh (by trivial) hq
theorem Zrw{Q:Option Value->Shared->Prop}(hh:A.handled=none) (hx:h.get? a=some { cls:=.type "list",data:=.seq vs n })
  (hq:∀h' tk',(∀b u,h.get? b=some u->h'.get? b=some u)->Q none ⟨h',g,d,tk',os⟩):wpAny (model prog w) A (getAttr? (.ref a) "keys") Q E ⟨h,g,d,t,os⟩:=by
 have hT:(⟨h,g,d,t,os⟩:Shared).TypeIs (.ref a) "list" :=⟨_,hx,rfl⟩
 have f2:=F.slot_list_getattribute.lookup
 have f3:=F.slot_list_getattribute.bind (.ref a)
 have f5:=Zpm
 have f6:=Zhs
 unfold getAttr? getAttrBy?
 repeat (any_goals (first | assumption | wp_step))
 refine codeAny_call_builtin F.slot_list_getattribute.plain F.entry_list_ga (F.slot_list_getattribute.check _ _ _ _ _ _ _ _ (show (⟨h,g,d,t+1,os⟩:Shared).TypeIs (.ref a) "list" from ⟨_,hx,rfl⟩) (F.args_list_getattribute_2 _ _) (Zpk hh hx fun h' e tk' kp ⟨oe,he,hc⟩=>?_))
 have hTe:(⟨h',g,d,tk',os⟩:Shared).TypeIs (.ref e) "AttributeError" :=⟨_,he,hc⟩
 have hq':=hq h' tk' kp
 unfold getattributeRaised
 repeat (any_goals (first | assumption | wp_step))
 all_goals trace_state
end
theorem Zkw:entryFor table "dict.update.loop" =some Builtin.«dict.update.loop» :=entryFor_of_tree (by kernel_rfl)
section
variable {prog:Program} {w:World} {KT:Type} [DecidableEq KT] {knd:KeyKind prog w KT} {A:Around} {R:Result->Shared->Prop} {l d it:Addr} {tps:List Addr} {prs D0:List (KT×Value)} {h₀:Heap}
end
end L2
namespace L2
open PySem PySem.Spec PyProof.Rows
theorem Zi7{d:Addr}{o:Obj}{kvs:List (Key×V)}{fr:St->St}{g:TG}{tf:TT}{te:TE}{Q:VK}{σ:St}{H1:Hp}{D:Addr}(Pv:Nat->List V->Hp->Prop)(h0:Pv 0 [] (upd H1 D (.lst [])))(hl:∀i ys H,i<=kvs.length->Pv i ys H->H d=some (.frz o (.dK kvs)))
  (hs:∀i kv ys H,kvs[i]? =some kv->Pv i ys H->∀p H2,Same H H2->H p=none->H2 p=some (.tup [kV kv.1,kv.2])->Zdb fr g tf te σ D (.ref p) ys H2 (Pv (i+1))) (hd:∀ys H,Pv kvs.length ys H->Q (.ref D) H):Zdx (Iti d o kvs) fr g tf te Q σ H1 D:=by
 refine ⟨fun i m ys H=>m=kvs.length-i/\i<=kvs.length/\Pv i ys H,⟨kvs.length,by simp,Nat.zero_le _,h0⟩,?_⟩
 rintro i m ys H ⟨rfl,hi,p⟩
 have q:=hl i ys H hi p
 by_cases hlt:i<kvs.length
 ·refine .inr ⟨⟨q,hlt⟩,Pv (i+1),fun ys' H' p'=>⟨kvs.length-(i+1),by omega,rfl,hlt,p'⟩,fun x H' y=>?_⟩
  obtain ⟨a,kv,e,hn,hkv,e2⟩:=y
  subst e e2
  exact hs i kv ys H hkv p a _ (Same.new hn) hn Zh
 ·have e:i=kvs.length:=by omega
  subst e
  exact .inl ⟨⟨q,Nat.le_refl _⟩,hd ys H p⟩
end L2
end
section
namespace L2
open PySem
end L2
end
section
namespace L2
open PySem PySem.Spec PyProof.Rows
section
variable {prog:Program} {w:World} {KT:Type} [DecidableEq KT] {knd:KeyKind prog w KT} {A:Around} {l d:Addr} {tps:List Addr} {prs D0:List (KT×Value)} {s:Shared} {Q:Value->Shared->Prop} {E:Value->Shared->Prop} {n:Nat}
end
section
variable {X:Cx} {o e:Expr} {apos cpos:Pos} {td ty:TE}
end
end L2
namespace L2
open PySem PySem.Spec PyProof.Rows
section
variable {X:Cx} {pins:List (Addr×Obj)} {σ:St} {H:Hp} {s:Shared} {Q:Value->Shared->Prop} {la:Arguments} {lb:Expr} {ls:Scope} {lp:Pos} {c Pt:Addr} {clos:List (Str×Addr)}
end
section
variable {X:Cx} {pins:List (Addr×Obj)} {σ:St} {H:Hp} {s:Shared} {Q:VK}
end
section
variable {P:Program} {w:World} {K:Frag} {mg:Str->Option Value} {base:Heap}
end
def offL(H:Hp)(cells:List (Str×Addr)):Hp:=fun b=>if b∈cells.map Prod.snd then none else H b
section
variable {P:Program} {w:World} {K:Frag} {mg:Str->Option Value} {base:Heap}
end
end L2
namespace L2
open PySem PySem.Spec PyProof.Rows
end L2
end
section
namespace L2
open PySem PySem.Spec PyProof.Rows
section
variable {X:Cx} {pins:List (Addr×Obj)} {σ:St} {H:Hp} {s:Shared}
end
end L2
end
section
namespace L2
open PySem PySem.Spec PyProof.Rows
end L2
end
section
namespace L2
open PySem PySem.Spec PyProof.Rows
section
variable {X:Cx} {σ:St} {H:Hp}
end
theorem Zi1{X:Cx}{x v:Str}{pos:Pos}(hg:Gl X x)(h:∃tk,X.mg x=some (.str v tk)) (hd:(x ==("__debug__" :Str))=false:=by decide):PE X (.Name x pos) (tC (.str v)):=by
 obtain ⟨tk,h⟩:=h
 exact Zf0 hg h ⟨tk,rfl⟩ hd
def Zq3(K:Frag):R2:=fun x y H Q=>∃(p l:Addr) (xs:List V) (ss:List Str),x=.ref l/\y=.ref p/\SqL K H p (ss.map V.str)/\SqL K H l xs/\Q (.bl true) H
theorem Zsq{X:Cx}(hu:X.A.units+64<cLine):OpR X (compareOp .NotIn) (Zq3 X.K):=by
 intro pins s σ H x y v u Q I rx ry h
 obtain ⟨p,l,xs,ss,rfl,rfl,hq,hl,q⟩:=h
 cases ry
 cases rx
 obtain ⟨its,r,pl,hz⟩:=I.list hq
 obtain ⟨its',r',pl',hz'⟩:=I.list hl
 have hS:=Zfz r
 refine SeqAt.notIn_listAt (fun _=>false) pl.isList (fun w hw=>?_) ⟨.bl _,H,I,rfl,?_⟩
 ·have hw:w∈its:=by simpa using hw
  have all:∀{ss:List Str} {its:List Value},StrsAre its ss->∀w∈its,∃x t,w=.str x t:=fun h=>by
   induction h with
   | nil=>intro w hw;cases hw
   | cons x t _ ih =>
    intro w hw
    rcases List.mem_cons.mp hw with z|z
    ·exact ⟨_,_,z⟩
    ·exact ih w z
  obtain ⟨x,t,rfl⟩:=all hS w hw
  exact SeqAt.EqAt.str_list x t pl'.isList (by rw [Xv];omega)
 ·rw [show its.toArray.any (fun _=>false)=false by simp]
  exact q
def Zqz(K:Frag):R2:=fun x y H Q=>Zck K x y H Q\/Zq3 K x y H Q
theorem Zw2{X:Cx}{k:Nat}(hr:Zao k X.A):OpR X (compareOp .NotIn) (Zqz X.K):=(Zc3 hr).or (Zsq hr.units)
theorem Zub{X:Cx}:OpR X (compareOp .Is) (fun x y H Q=>∃b c,x=.bl b/\y=.bl c/\Q (.bl (b ==c)) H):=by
 intro pins s σ H x y v u Q I rx ry h
 obtain ⟨b,c,rfl,rfl,q⟩:=h
 cases rx
 cases ry
 exact PyProof.Rows.is_bool ⟨.bl (b ==c),H,I,rfl,q⟩
end L2
end
section
namespace L2
open PySem PyProof.Rows
theorem Zlh{P:Program}{w:World}{A:Around}{E:Value->Shared->Prop}{it l:Addr}{its:Array Value}(hh:A.handled=none)(hne:l≠it):∀(n i:Nat) (s:Shared) (Q:List Value->Shared->Prop),(s.heap.IsListIter it l i/\s.heap.IsList l its)->i+n<=its.size ->
  (∀h' tk,(h'.IsListIter it l (i+n)/\h'.IsList l its)->(∀b o,b∉[it]->s.heap.get? b=some o->h'.get? b=some o)->Q ((its.toList.drop i).take n) { s with heap:=h',toks:=tk })->wpAny (model P w) A (draw (.ref it) n) Q E s
 | 0,i,s,Q,hst,_,hQ=>by
  show wpAny _ _ (pure []) Q E s
  exact wpAny_pure (by simpa using hQ s.heap s.toks hst fun _ _ _ e=>e)
 | n+1,i,s,Q,hst,hle,hQ=>by
  have hlt:i<its.size:=by omega
  show wpAny _ _ (pyNext (.ref it) >>=_) Q E s
  refine wpAny_bind ((Walks.list (prog:=P) (w:=w) hh it l hne its).item i s _ _ hlt hst fun v h1 tk1 hv hst1 hk1=>?_)
  refine wpAny_bind (wpAny_holding (Zlh hh hne n (i+1) _ _ hst1 (by omega) fun h2 tk2 hst2 hk2=>wpAny_pure ?_))
  have hd:its.toList.drop i=its[i] ::its.toList.drop (i+1):=by simp [List.drop_eq_getElem_cons,hlt]
  have ev:v=its[i]:=by rw [Array.getElem?_eq_getElem hlt] at hv;exact (Option.some.inj hv).symm
  have:=hQ h2 tk2 (by rw [show i+(n+1)=i+1+n by omega];exact hst2) fun b o hb e=>hk2 b o hb (hk1 b o hb e)
  rw [hd,List.take_succ_cons,<-ev] at this
  exact this
theorem Zns{P:Program}{w:World}{A:Around}{E:Value->Shared->Prop}{s:Shared}{l:Addr}{its:Array Value}{targets:List (Bool×(Value->Sem Unit))}{Q:Unit->Shared->Prop}(hh:A.handled=none)(hl:s.heap.IsList l its)
  (hn:targets.length=its.size) (hstar:targets.findIdx? (·.1)=none)
  (h:∀h' tk,(∀b o,s.heap.get? b=some o->h'.get? b=some o)->wpAny (model P w) A (assignInOrder (targets.map (·.2)) its.toList) Q E { s with heap:=h',toks:=tk }) :
  wpAny (model P w) A (unpack (.ref l) targets) Q E s:=by
 have hlt:l<s.heap.objs.size:=by obtain ⟨o,ho,_⟩:=hl;exact Heap.lt_size ho
 have ty:s.TypeIs (.ref l) "list" :=by obtain ⟨o,ho,hc,_⟩:=hl;exact ⟨o,ho,hc⟩
 unfold unpack
 rw [hn,hstar]
 refine wpAny_bind (wpAny_holding ?_)
 unfold unpackItems
 refine wpAny_bind ?_
 unfold notIterableAtAll
 refine wpAny_bind (wpAny_specialOf ty F.slot_list_iter.lookup ?_)
 refine wpAny_pure ?_
 simp only [Bool.false_eq_true,if_false]
 refine wpAny_bind (wpAny_holding (wpAny_pyIter_list hl ?_))
 have hne:l≠s.heap.objs.size:=Nat.ne_of_lt hlt
 refine wpAny_bind (wpAny_holding (Zlh hh hne its.size 0 _ _ ⟨⟨_,Heap.get?_push_size _ rfl,rfl,rfl⟩,hl.push _⟩ (by omega) fun h1 tk1 hst1 hk1=>?_))
 have hall:List.take its.size (List.drop 0 its.toList)=its.toList:=by
  rw [List.drop_zero];exact List.take_of_length_le (by simp)
 rw [hall]
 rw [if_neg (by simp)]
 rw [Nat.zero_add] at hst1
 refine wpAny_bind (wpAny_holding ((Walks.list (prog:=P) (w:=w) hh s.heap.objs.size l hne its).done _ _ _ hst1 fun h2 tk2 hk2=>?_))
 simp only [Option.isSome_none,Bool.false_eq_true,if_false]
 refine wpAny_pure (h h2 tk2 fun b o e=>?_)
 have hb:b∉[s.heap.objs.size]:=fun z=>by
  have z':b=s.heap.objs.size:=by simpa using z
  rw [z'] at e
  exact Nat.lt_irrefl _ (Heap.lt_size e)
 exact hk2 b o hb (hk1 b o hb (Heap.get?_push_of_some _ e))
def Ybu(K:Frag)(n:Nat)(t:TGs):TG:=fun v σ H Q=>∃a xs,v=.ref a/\SqL K H a xs/\xs.length=n/\t xs σ H Q
theorem Zyi{X:Cx}{pos:Pos}{es:List Expr}{k:Nat}{t:TGs}{n:Nat}(hc:X.calm=true)(h:PGs X es t)
  (hn:(assignEach es X.env).length=n:=by rfl) (hst:(assignEach es X.env).findIdx? (·.1)=none:=by rfl):PG X (.Tuple es k pos) (Ybu X.K n t):=by
 intro pins s σ H v u Q I r hw
 obtain ⟨a,xs,e1,hq,hl,hw⟩:=hw
 subst e1
 cases r
 obtain ⟨its,rv,ht,hz⟩:=I.list hq
 rw [assign_Tuple]
 refine wpAny_bind (wpAny_standAt (Zns (I.ok.hd hc) ht.isList (by simp [hn,<-hl,rv.length]) hst fun h' tk hx=>?_))
 have I1:Inv X pins σ H { s with heap:=h',toks:=tk }:=I.kept (t':=tk) fun b o e=>hx b o e
 exact h pins _ σ H xs _ Q I1 (by simpa using rv) hw
def Ztd(ns:List Int):Int:=ns.foldl (· + ·) 0
theorem Zg9(ns:List Int):∀j,preSum (fun i=>ns.getD i 0) j=Ztd (ns.take j)\/ns.length<j
 | 0=>.inl rfl
 | j+1=>by
  by_cases h:ns.length<j+1
  ·exact .inr h
  ·refine .inl ?_
   rcases Zg9 ns j with e|e
   ·have hj:j<ns.length:=by omega
    rw [preSum,e,List.take_add_one,List.getElem?_eq_getElem hj]
    unfold Ztd
    rw [List.foldl_append,List.getD_eq_getElem?_getD,List.getElem?_eq_getElem hj]
    rfl
   ·omega
theorem Zty{X:Cx}(hc:X.calm=true):Xo X (.builtin "sum") (fun xs H Q=>∃(p:Addr) (ns:List Int),xs=[.ref p]/\SqL X.K H p (ns.map V.int)/\Q (.int (Ztd ns)) H):=by
 intro pins s σ H xs us Q I r h
 obtain ⟨p,ns,rfl,hq,q⟩:=h
 obtain ⟨u,rfl,ru⟩:=Zc5 r
 cases ru
 obtain ⟨its,rv,pl,hz⟩:=I.list hq
 have hlt:p<s.heap.objs.size:=by obtain ⟨_,_,e,_⟩:=pl;exact Heap.lt_size e
 refine call_sum_walkG (wpAny_pyIter_list pl.isList ?_)
 refine ⟨s.heap.objs.size,_,_,its.toArray.size,_,_,fun i=>ns.getD i 0,rfl,Walks.list (A:=X.A.in1) (show X.A.in1.handled=none from I.ok.hd hc) s.heap.objs.size p (Nat.ne_of_lt hlt) its.toArray,⟨⟨_,Heap.get?_push_size _ rfl,rfl,rfl⟩,pl.isList.push _⟩,?_,?_,fun h' tk t' k=>?_⟩
 ·intro b hb
  have:=Heap.size_push s.heap { cls:=.type "list_iterator",data:=.fields #[.ref p,.int 0 0] }
  have hb':b=s.heap.objs.size\/b=p:=by simpa using hb
  show b<(s.heap.push _).objs.size
  rw [this]
  rcases hb' with rfl|rfl
  ·exact Nat.lt_succ_self _
  ·exact Nat.lt_succ_of_lt hlt
 ·intro i v hv
  obtain ⟨x,hx,rx⟩:=Paired.get' rv (i:=i) (b:=v) (by simpa using hv)
  rw [List.getElem?_map] at hx
  obtain ⟨n,hn,rfl⟩:=Option.map_eq_some_iff.mp hx
  obtain ⟨t,rfl⟩:=rx
  exact ⟨t,by show Value.int n t=Value.int (ns.getD i 0) t;rw [List.getD_eq_getElem?_getD,hn];rfl⟩
 ·have hl:=rv.length
  rw [List.length_map] at hl
  refine ⟨.int (Ztd ns),H,?_,?_,q⟩
  ·refine I.kept (t':=tk) fun b o e=>k b o ?_ (Heap.get?_push_of_some _ e)
   have:=Heap.lt_size e
   intro z
   have z':b=s.heap.objs.size:=by simpa using z
   rw [z'] at this
   exact Nat.lt_irrefl _ this
  ·refine ⟨t',?_⟩
   rw [List.size_toArray,<-hl]
   rcases Zg9 ns ns.length with e|e
   ·rw [e,List.take_length]
   ·omega
def Zga(x:Str)(n:Nat):Str:=⟨(List.replicate n x.cps).foldl (· ++ ·) #[]⟩
def Ya2:R2:=fun x y H Q=>∃(z:Str) (n:Nat),x=.str z/\y=.int n/\z.length * n<=1000/\n<=1000/\Q (.str (Zga z n)) H
theorem Zv5{X:Cx}:OpR X (binaryOp .Mult) Ya2:=by
 intro pins s σ H x y v u Q I rx ry h
 obtain ⟨z,n,rfl,rfl,hz,hn,q⟩:=h
 obtain ⟨t,rfl⟩:=rx
 obtain ⟨t',rfl⟩:=ry
 refine PySem.P.mul_str ?_ ?_ ?_ ?_
 ·rw [decide_eq_false (by omega),decide_eq_false (by omega)];rfl
 ·intro h1 h2 h3
  have:((2:Int) ^ 63-1) / (n:Int) ≥ 1000:=by
   rw [ge_iff_le,Int.le_ediv_iff_mul_le (by omega)]
   omega
  have hz1:z.length<=z.length * n:=Nat.le_mul_of_pos_right _ (by omega)
  omega
 ·intro h1 h2
  show decide (z.length * (n:Int).toNat >sizeLine)=false
  rw [decide_eq_false]
  have:=sz (n:=z.length * n) hz
  rw [Int.toNat_natCast]
  omega
 ·by_cases h0:n=0
  ·subst h0
   rw [if_pos (by decide)]
   exact ⟨by decide,.str (Zga z 0),H,I.kept fun b o e=>e,⟨_,rfl⟩,q⟩
  ·rw [if_neg (by omega)]
   by_cases h1:((n:Int) ==1 || z.length ==0)=true
   ·rw [if_pos h1]
    refine ⟨.str (Zga z n),H,I,⟨t,?_⟩,q⟩
    have:Zga z n=z:=by
     rw [Bool.or_eq_true,beq_iff_eq,beq_iff_eq] at h1
     rcases h1 with e|e
     ·have e:n=1:=by omega
      subst e
      unfold Zga
      simp
     ·have e:z.cps=#[]:=Array.eq_empty_of_size_eq_zero e
      have:∀m,(List.replicate m (#[]:Array Nat)).foldl (· ++ ·) #[]=#[]:=fun m=>by
       induction m with
       | zero=>rfl
       | succ m ih=>rw [List.replicate_succ,List.foldl_cons];simpa using ih
      unfold Zga
      rw [e,this n]
      cases z
      simp at e
      rw [e]
    rw [this]
   ·rw [if_neg h1,Int.toNat_natCast]
    refine ⟨?_,.str (Zga z n),H,I.kept fun b o e=>e,⟨_,rfl⟩,q⟩
    exact fits_reps (by show decide (_ >sizeLine)=false;rw [decide_eq_false];have:=sz (n:=z.length * n) hz;omega)
def Ybr(K:Frag)(te:TE)(ts:TO):TE:=fun σ H Q=>te σ H fun x H1=>ts σ H1 fun k H2=>∃a xs,k=some (-1)/\x=.ref a/\SqL K H2 a xs/\New H2 (.lst xs.reverse) Q
theorem Yd.rev{xs:List V}{us:List Value}(h:Yd xs us):Yd xs.reverse us.reverse:=by
 induction h with
 | nil=>exact .nil
 | cons r _ ih=>rw [List.reverse_cons,List.reverse_cons];exact Paired.append ih (.cons r .nil)
theorem Zyf{X:Cx}{e st:Expr}{te:TE}{ts:TO}{p2 pos:Pos}{ops:Value->Value->List Value}(he:PE X e te)(hst:PO X (some st) ts)(hs:∀l r,subscripted (.Slice none none (some st) p2) false l r=operate (ops l r) (getItem l r)):PE X (.Subscript e (.Slice none none (some st) p2) pos) (Ybr X.K te ts):=by
 intro pins s σ H Q I h
 refine Subscript_ (thn (he pins s σ H _ I h) fun v s1 ⟨x,H1,I1,r1,q1⟩=>?_)
 refine wpAny_Slice ?_
 rw [evalPart_none]
 refine wpAny_pure ?_
 refine wpAny_pure ?_
 refine thn (hst pins s1 σ H1 _ I1 q1) fun vk s3 ⟨k,H3,I3,pk,a,xs,hk,hx,hq,q⟩=>?_
 subst hk hx
 cases r1
 have I4:Inv X pins σ H3 { s3 with heap:=s3.heap.push { cls:=.type "slice",data:=.fields #[.none,.none,vk] } }:=I3.kept (t':=s3.toks) fun b ob q=>Heap.get?_push_of_some _ q
 obtain ⟨its,r,ht,hz⟩:=I4.list hq
 show wpAny (model X.prog X.w) X.A (subscriptTail e (.Slice none none (some st) p2) (.ref a) (.ref s3.heap.objs.size)) (EP X pins σ Q) X.xe { s3 with heap:=s3.heap.push { cls:=.type "slice",data:=.fields #[.none,.none,vk] } }
 refine tail_any (ops:=ops (.ref a) (.ref s3.heap.objs.size)) ht.isList.typeIs slot_list_getitem.lookup ?_ (hs _ _)
 refine wpAny_getItem_list_slice ht.isList (Heap.IsSliceOf.new ..) .none .none pk (by simp) ?_ (by rw [List.size_toArray,<-r.length];exact hz)
 rw [PySem.W.krv_pick]
 refine ⟨.ref _,_,I4.laid (t':=s3.toks) (o:=.lst xs.reverse) (fun b ob q=>Heap.get?_push_of_some _ q) (Nat.le_refl _) ?_,rfl,q.at _ (I4.hok.fresh (Nat.le_refl _))⟩
 exact ⟨by rw [List.length_reverse];exact hz,_,0,Yd.rev r,Heap.get?_push_size _ rfl⟩
end L2
end
section
namespace L2
open PySem PySem.Spec PyProof.Rows
structure DnD(K:Frag)(x qual:Str)(st:Stmt)(ps:List Str)(v:V) where
 f:Addr
 fd:FuncData
 dV:Value
 F:Zo2 K x qual st dV f fd
 b:Zcf K fd ps []
 u:Value
 r:Yl v u
 b1:Zcf K fd ps [u]
theorem Zo2.okW{P:Program}{w:World}{K:Frag}{mg:Str->Option Value}{base:Heap}{x qual:Str}{st:Stmt}{dV:Value}{f:Addr}{fd:FuncData}{N ps:List Str}{k:Nat}{sp:Sp}(F:Zo2 K x qual st dV f fd)(S:Zt N ps (Zd st))
  (hbody:∀(cdv:Value) (A:Around) (outer:List Env) (s:Shared) (H:Hp) (vs:List V) (Q:VK) (E:XK),Zao k (A.deeper (envOfC qual (Zd st) s.heap.objs.size f cdv))->sp vs H Q E ->
   WSs (Zm6 CX0 P w K mg base N qual (Zd st) f cdv A outer s H E).nox (Zo st) { nx:=fun _ H'=>Q .non H',rt:=Q } (start N vs) H) (len:∀vs H Q E,sp vs H Q E->vs.length=ps.length:=by rintro _ _ _ _ h;repeat (first|(obtain ⟨e,_⟩:=h;subst e;rfl)|obtain ⟨_,h⟩:=h)):Z1 P w K mg base CX0 (k+1) f fd ps sp:=Zo2.ok F S len hbody
theorem Zef{X:Cx}{x:Str}{v:Int}{pos:Pos}(hg:Gl X x)(h:∃tk,X.mg x=some (.int v tk)) (hd:(x ==("__debug__" :Str))=false:=by decide):PE X (.Name x pos) (tC (.int v)):=by
 obtain ⟨tk,h⟩:=h
 exact Zf0 hg h ⟨tk,rfl⟩ hd
theorem Zea{α:Type}{l:List α}{i:Nat}{a:α}(nd:l.Nodup)(h:l[i]? =some a):a∉l.take i:=fun m=>by
 have e:l=l.take i++(a ::l.drop (i+1)):=by rw [<-Zit h,List.take_append_drop]
 rw [e,List.nodup_append] at nd
 exact nd.2.2 a m a List.mem_cons_self rfl
section
variable {prog:Program} {w:World} {KT:Type} [DecidableEq KT] {knd:HeapKind prog w KT} {A:Around} {E:Value->Shared->Prop} {s:Shared}
theorem Zov(c:Addr)(hc:(c ==sysModules)=false):MeetsIn prog w (Builtin.«dict.__len__» ⟨[.ref c],[]⟩) (fun _ R s=>∃ys,s.heap.DictOfH knd c ys/\R (.ok (.ret (.int ys.length s.toks))) { s with toks:=s.toks+1 }) :=
 .of_wp fun A R s ⟨ys,hm,h⟩=>by
  obtain ⟨ob,es,ep,hob,_,hda,hen,_,_⟩:=hm
  show wpAny _ _ (dictSize c >>=_) _ _ s
  unfold dictSize
  refine wpAny_bind (wpAny_bind (wpAny_dictEntries hob hda (wpAny_pure ?_)))
  show wpAny _ _ (Builtin.Dict.pendingCount c >>=_) _ _ s
  refine wpAny_bind (wpAny_pendingCount_other hc (wpAny_ret_mkInt ?_))
  rw [Nat.add_zero,size_of_entries hen];exact h
theorem Zrv{c:Addr}{ys:List (KT×Addr×Value)}{Q:Value->Shared->Prop}(hc:(c ==sysModules)=false)(hm:s.heap.DictOfH knd c ys)(hf:(ys.length:Int)<2 ^ 63)
  (h:Q (.int ys.length (s.toks+1)) { s with toks:=s.toks+1+1 }):wpAny (model prog w) A (call (.builtin "len") [.ref c]) Q E s:=by
 refine Calls.call_function_entry kind_len plain_len entry_len (args_len1 _) ?_
 unfold Builtin.«len»
 refine wpAny_bind (m:=oneArg "len" _) (wpAny_pure (wpAny_bind (m:=callSpecial? (.ref c) (Str.ofString "__len__")) ?_))
 refine wpAny_callSpecial?_slot (name:=Str.ofString "__len__") hm.typeIs F.slot_dict_len (call_meetsIn F.slot_dict_len hm.typeIs F.entry_dict_len (F.args_dict_len_1 _) (Zov (knd:=knd) c hc) ⟨ys,hm,?_⟩)
 show wpAny _ _ _ _ _ { s with toks:=s.toks+1 }
 refine wpAny_bind (wpAny_holding (wpAny_pure (wpAny_bind (wpAny_letGo ?_))))
 show wpAny _ _ (if ((ys.length:Nat):Int)<0 then _ else _) _ _ _
 rw [if_neg (by omega)]
 show wpAny _ _ (if ((ys.length:Nat):Int) ≥ 2 ^ 63 then _ else _) _ _ _
 rw [if_neg (by omega)]
 exact wpAny_bind (wpAny_mkInt (wpAny_pure ⟨_,rfl,h⟩))
end
def Zuw:List V->Hp->VK->Prop:=fun xs H Q=>∃a kvs,xs=[V.ref a]/\H a=some (.dT kvs)/\Q (.int kvs.length) H
theorem Zlo{X:Cx}:Xo X (.builtin "len") Zuw:=by
 intro pins s σ H xs us Q I r h
 obtain ⟨a,kvs,rfl,ha,q⟩:=h
 obtain ⟨u,rfl,ru⟩:=Zc5 r
 cases ru
 obtain ⟨z,hd,ys,rel,dd⟩:=Zxx I.hok ha
 have hl:kvs.length=ys.length:=Paired.length rel
 refine Zrv hd dd (by rw [<-hl];rw [sizeLine_eq] at z;omega) ?_
 rw [<-hl]
 exact ⟨.int _,H,I.tok _,⟨_,rfl⟩,q⟩
section
variable {prog:Program} {w:World} {KT:Type} [DecidableEq KT] {knd:HeapKind prog w KT} {A:Around} {R:Result->Shared->Prop} {l d it:Addr} {tps:List Addr} {qs:List (KT×Addr×Value)} {h₀:Heap}
def Zdf(knd:HeapKind prog w KT)(h:Heap)(tps:List Addr)(qs:List (KT×Addr×Value)):Prop :=
 Paired (fun p (q:KT×Addr×Value)=>(∃o n,h.get? p=some o/\o.cls=.type "tuple" /\o.data=.seq #[.ref q.2.1,q.2.2] n)/\∃ok,h.get? q.2.1=some ok/\∀h':Heap,h'.get? q.2.1=some ok->knd.is h' q.1 q.2.1) tps qs
theorem Zdf.key{h:Heap}(hp:Zdf knd h tps qs):∀q∈qs,∃ok,h.get? q.2.1=some ok/\∀h':Heap,h'.get? q.2.1=some ok->knd.is h' q.1 q.2.1:=by
 unfold Zdf at hp
 induction hp with
 | nil=>intro q z;cases z
 | cons r _ ih =>
  intro q z
  rcases List.mem_cons.mp z with rfl|z
  ·exact r.2
  ·exact ih q z
theorem Zi3{h h':Heap}{ys:List (KT×Addr×Value)}(hD:h.DictOfH knd d ys)(hd:∀o,h.get? d=some o->h'.get? d=some o)(hk:∀y∈ys,knd.is h' y.1 y.2.1):h'.DictOfH knd d ys:=by
 obtain ⟨o,es,ep,ho,r1,r2,r3,_,r5⟩:=hD
 exact ⟨o,es,ep,hd o ho,r1,r2,r3,hk,r5⟩
theorem Zne(hh:A.handled=none)(hu:knd.room A.in1)(hdi:d≠it)(hl:h₀.IsList l (tps.map Value.ref).toArray)(hld:l≠d)(hli:l≠it)(hp:Zdf knd h₀ tps qs)(hnd:(qs.map (·.1)).Nodup)(hsz:qs.length<=sizeLine)
  (hpd:∀p∈tps,p≠d/\p≠it) (hqd:∀q∈qs,q.2.1≠d/\q.2.1≠it) :
  ∀(n i:Nat) (s:Shared) (j:Int) (tk:Tok),i+n=qs.length->s.heap.IsListIter it l i->s.heap.DictOfH knd d (qs.take i)->(∀b o,b≠d->b≠it->h₀.get? b=some o->s.heap.get? b=some o) ->
   (∀h' tk',h'.DictOfH knd d qs->(∀b o,b≠d->b≠it->h₀.get? b=some o->h'.get? b=some o)->R (.ok (.ret .none)) { s with heap:=h',toks:=tk' }) ->
   codeAny (model prog w) A (.builtin "dict.update.loop" ⟨[.ref d,.ref it,.int j tk,.none],[]⟩) R s:=by
 have hlen:tps.length=qs.length:=Paired.length hp
 have hkey:=hp.key
 have hu':∀args:Args,knd.room (A.under (.builtin "dict.update.loop" args)):=fun args=>by rw [Around.under_plainId (by trivial)];exact hu
 have is_:∀h':Heap,(∀b o,b≠d->b≠it->h₀.get? b=some o->h'.get? b=some o)->∀q∈qs,knd.is h' q.1 q.2.1:=fun h' kp q hq=>by
  obtain ⟨ok,h1,h2⟩:=hkey q hq
  exact h2 h' (kp _ _ (hqd q hq).1 (hqd q hq).2 h1)
 intro n
 induction n with
 | zero =>
  intro i s j tk hi hit hD keep hq
  have hl':s.heap.IsList l (tps.map Value.ref).toArray:=by
   obtain ⟨o,ho,r⟩:=hl
   exact ⟨o,keep _ _ hld hli ho,r⟩
  refine codeAny_builtin Zkw ?_
  unfold Builtin.«dict.update.loop»
  dsimp only
  refine wpAny_bind (wpAny_pyNext_list_end hh hit hl' (by rw [List.getElem?_toArray,List.getElem?_map,List.getElem?_eq_none (by omega)];rfl) fun h' eb=>?_)
  dsimp only
  refine wpAny_bind (wpAny_pure (wpAny_pure ?_))
  have kp:∀b o,b≠d->b≠it->h₀.get? b=some o->h'.get? b=some o:=fun b o h1 h2 h3=>eb b o h2 (keep b o h1 h2 h3)
  refine hq h' s.toks ?_ kp
  rw [show qs.take i=qs from List.take_of_length_le (by omega)] at hD
  exact Zi3 hD (fun o ho=>eb d o hdi ho) (is_ h' kp)
 | succ n ih =>
  intro i s j tk hi hit hD keep hq
  have hl':s.heap.IsList l (tps.map Value.ref).toArray:=by
   obtain ⟨o,ho,r⟩:=hl
   exact ⟨o,keep _ _ hld hli ho,r⟩
  have hit':i<tps.length:=by omega
  obtain ⟨q,hqi,⟨ot,nt,hpt,hct,hdt⟩,_⟩:=Paired.get hp (i:=i) (a:=tps[i]) (List.getElem?_eq_getElem hit')
  obtain ⟨nd,ni⟩:=hpd tps[i] (List.getElem_mem hit')
  have hqm:q∈qs:=List.mem_of_getElem? hqi
  refine codeAny_builtin Zkw ?_
  unfold Builtin.«dict.update.loop»
  dsimp only
  refine wpAny_bind (wpAny_pyNext_list_item hit hl' (x:=.ref tps[i]) (by rw [List.getElem?_toArray,List.getElem?_map,List.getElem?_eq_getElem hit'];rfl) fun h1 it1 sb1=>?_)
  have hpt1:h1.get? tps[i]=some ot:=by rw [sb1.2 _ ni];exact keep _ _ nd ni hpt
  have hT:({ s with heap:=h1 }:Shared).TypeIs (.ref tps[i]) "tuple" :=⟨_,hpt1,hct⟩
  have kp1:∀b o,b≠d->b≠it->h₀.get? b=some o->h1.get? b=some o:=fun b o z1 z2 z3=>by rw [sb1.2 _ z2];exact keep b o z1 z2 z3
  have hD1:h1.DictOfH knd d (qs.take i):=Zi3 hD (fun o ho=>by rw [sb1.2 _ hdi];exact ho) fun y hy=>is_ h1 kp1 y (List.mem_of_mem_take hy)
  refine wpAny_bind (wpAny_holding (wpAny_bind (wpAny_tryCatch ?_)))
  unfold Builtin.Dict.pairItems
  refine wpAny_bind (wpAny_typeOf hT ?_)
  rw [if_pos (by decide)]
  refine wpAny_bind (wpAny_seqItems (s:={ s with heap:=h1 }) hpt1 hdt (wpAny_pure ?_))
  refine wpAny_holding (wpAny_dictSet_heap (s:={ s with heap:=h1 }) (hu' _) (is_ h1 kp1 q hqm) hD1 (fun h2 hD2 sb2=>?_) ?_)
  ·refine wpAny_pure ⟨Code.quiet_builtin _ (by trivial),?_⟩
   have hno:atKey (qs.take i) q.1=none:=by
    cases e:atKey (qs.take i) q.1 with
    | none=>rfl
    | some z =>
     unfold atKey at e
     obtain ⟨y,hy,_⟩:=Option.map_eq_some_iff.mp e
     have y0:=List.find?_some hy
     have y1:y.1=q.1:=of_decide_eq_true y0
     have m1:y.1∈(qs.map (·.1)).take i:=by rw [<-List.map_take];exact List.mem_map.mpr ⟨y,List.mem_of_find?_eq_some hy,rfl⟩
     rw [y1] at m1
     exact absurd m1 (Zea hnd (by rw [List.getElem?_map,hqi];rfl))
   have hst:storedH (qs.take i) q.1 q.2.1 q.2.2=qs.take (i+1):=by rw [storedH_new hno,List.take_add_one,hqi];rfl
   rw [hst] at hD2
   refine ih (i+1) { s with heap:=h2,toks:=_ } (j+1) _ (by omega) ?_ hD2 (fun b o n1 n2 z=>?_) fun h' tk'=>hq h' tk'
   ·exact it1.at fun o z=>by rw [sb2.2 _ hdi.symm];exact z
   ·rw [sb2.2 _ n1];exact kp1 b o n1 n2 z
  ·rw [List.length_take];omega
theorem Zgn{n:Nat}{s:Shared}{Q:Value->Shared->Prop}{E:Value->Shared->Prop}(hh:A.handled=none)(hu:knd.room A.in1.in1) (hx:s.heap.get? l=some { cls:=.type "list",data:=.seq (tps.map Value.ref).toArray n }) (hp:Zdf knd s.heap tps qs) (hnd:(qs.map (·.1)).Nodup) (hsz:qs.length<=sizeLine)
  (h:∀h' tk' dd,h'.DictOfH knd dd qs->dd=s.heap.objs.size->s.heap.get? dd=none->(∀b o,s.heap.get? b=some o->h'.get? b=some o)->Q (.ref dd) { s with heap:=h',toks:=tk' }) :
  wpAny (model prog w) A (call (.type "dict") [.ref l]) Q E s:=by
 refine callType_codes (Q₁:=fun obj s₁=>obj=.ref s.heap.objs.size/\s₁={ s with heap:=s.heap.push { cls:=.type "dict",data:=.dict #[] } }) F.kt_called_dict (F.kt_typeCall_dict_1 _) F.entry_dict_init (kt_code_dict_new _ ⟨rfl,rfl⟩) ?_
 rintro obj s₁ ⟨rfl,rfl⟩
 have hnew:(s.heap.push { cls:=.type "dict",data:=.dict #[] }).DictOfH knd s.heap.objs.size []:=Heap.DictOfH.new s.heap
 have hx1:(s.heap.push { cls:=.type "dict",data:=.dict #[] }).get? l=some { cls:=.type "list",data:=.seq (tps.map Value.ref).toArray n }:=Heap.get?_push_of_some _ hx
 refine ⟨hnew.typeIs,F.args_dict_init_2 _ _,?_⟩
 unfold Builtin.«dict.__init__»
 refine wpAny_bind ?_
 unfold Builtin.Dict.selfAndRest
 refine wpAny_bind (wpAny_notOrdered_dict hnew.typeIs ?_)
 show wpAny _ _ (pure (s.heap.objs.size,[Value.ref l])) _ _ _
 refine wpAny_pure ?_
 show wpAny _ _ (Builtin.Dict.updateFrom "dict.__init__" s.heap.objs.size (.ref l) [] .none) _ _ _
 unfold Builtin.Dict.updateFrom
 refine wpAny_bind (wpAny_typeOf (T := "list") ⟨_,hx1,rfl⟩ ?_)
 rw [if_pos (by decide)]
 obtain ⟨h0,g0,d0,t0,os0⟩:=s
 dsimp only at *
 refine wpAny_bind (Zrw hh hx1 fun h1 tk1 k1=>?_)
 simp only [Option.isNone_none,if_true]
 have hx2:=k1 _ _ hx1
 have hl2:h1.IsList l (tps.map Value.ref).toArray:=⟨_,hx2,rfl,n,rfl⟩
 refine wpAny_bind (wpAny_rule (wpAny_bind (wpAny_pyIter_list (s:=⟨h1,g0,d0,tk1,os0⟩) hl2 (wpAny_pure ⟨Code.quiet_builtin _ (by trivial),?_⟩))))
 have k2:∀b o,h0.get? b=some o->(h1.push { cls:=.type "list_iterator",data:=.fields #[.ref l,.int 0 0] }).get? b=some o:=fun b o z=>Heap.get?_push_of_some _ (k1 _ _ (Heap.get?_push_of_some _ z))
 have hd1:h1.get? h0.objs.size=some { cls:=.type "dict",data:=.dict #[] }:=k1 _ _ (Heap.get?_push_size h0 rfl)
 have lt1:h0.objs.size<h1.objs.size:=Heap.lt_size hd1
 have hll:l<h0.objs.size:=Heap.lt_size hx
 have hfar:∀c o,h0.get? c=some o->c≠h0.objs.size/\c≠h1.objs.size:=fun c o z=>by
  have:=Heap.lt_size z
  exact ⟨Nat.ne_of_lt this,Nat.ne_of_lt (Nat.lt_trans this lt1)⟩
 refine Zne (A:=A.in1) (knd:=knd) (h₀:=h1.push { cls:=.type "list_iterator",data:=.fields #[.ref l,.int 0 0] }) (l:=l) (tps:=tps) (qs:=qs) hh hu (Nat.ne_of_lt lt1) ?_ (Nat.ne_of_lt hll) (Nat.ne_of_lt (Nat.lt_trans hll lt1)) ?_ hnd hsz (fun p z=>?_) (fun q z=>?_) qs.length 0 ⟨h1.push { cls:=.type "list_iterator",data:=.fields #[.ref l,.int 0 0] },g0,d0,tk1,os0⟩ 0 0 (by omega) ?_ ?_ (fun _ _ _ _ z=>z) fun h' tk' hD kp=>?_
 ·exact ⟨_,k2 _ _ hx,rfl,n,rfl⟩
 ·exact Paired.mapP hp fun p q ⟨⟨o,m,z2,z3⟩,ok,z4,z5⟩=>⟨⟨o,m,k2 _ _ z2,z3⟩,ok,k2 _ _ z4,z5⟩
 ·obtain ⟨i,hi,rfl⟩:=List.getElem_of_mem z
  obtain ⟨q,_,⟨o,m,z2,_⟩,_⟩:=Paired.get hp (i:=i) (a:=tps[i]) (List.getElem?_eq_getElem hi)
  exact hfar _ _ z2
 ·obtain ⟨ok,z4,_⟩:=hp.key q z
  exact hfar _ _ z4
 ·exact ⟨_,Heap.get?_push_size h1 rfl,rfl,rfl⟩
 ·exact Zi3 hnew (fun o ho=>Heap.get?_push_of_some _ (k1 _ _ ho)) fun y hy=>by cases hy
 ·refine ⟨rfl,h h' tk' h0.objs.size hD rfl (Heap.get?_none_of_le (Nat.le_refl _)) fun b o z=>kp b o ?_ ?_ (k2 b o z)⟩
  ·exact (hfar _ _ z).1
  ·exact (hfar _ _ z).2
end
def Zta:List V->Hp->VK->Prop:=fun xs H Q=>∃(l:Addr) (tps:List Addr) (kvs:List (List Key×V)),xs=[.ref l]/\H l=some (.lst (tps.map V.ref)) /\
 Paired (fun t (q:List Key×V)=>∃a,H t=some (.tup [.ref a,q.2])/\H a=some (.tup (q.1.map kV))) tps kvs/\(kvs.map Prod.fst).Nodup/\New H (.dT kvs) Q
theorem Zph{X:Cx}(hc:X.calm=true)(hu:X.A.units+64<cLine):Xo X (.type "dict") Zta:=by
 intro pins s σ H xs us Q I r h
 obtain ⟨l,tps,kvs,rfl,hl,hp,hn,q⟩:=h
 obtain ⟨u,rfl,ru⟩:=Zc5 r
 cases ru
 obtain ⟨hz,its,n,rv,hg⟩:=(show Yn X.prog X.w H s.heap l (.lst (tps.map V.ref)) from I.hok l _ hl)
 rw [Zec rv] at hg
 have key:∀{tps:List Addr} {kvs:List (List Key×V)},Paired (fun t (q:List Key×V)=>∃a,H t=some (.tup [.ref a,q.2])/\H a=some (.tup (q.1.map kV))) tps kvs->∃qs,KT H kvs qs/\Zdf (tupleKind (Yg X.prog X.w)) s.heap tps qs:=by
  intro tps kvs hp
  induction hp with
  | nil=>exact ⟨[],.nil,.nil⟩
  | cons r t ih =>
   rename_i p q _ _
   obtain ⟨qs,h1,h2⟩:=ih
   obtain ⟨a,ra,rk⟩:=r
   obtain ⟨_,its,rv,o,ho,hcl,m,hd⟩:=(show Yn X.prog X.w H s.heap p (.tup [.ref a,q.2]) from I.hok p _ ra)
   obtain ⟨k,v,rfl,rk1,rv2⟩:=Zqw rv
   cases (show k=Value.ref a from rk1)
   obtain ⟨_,its2,r2,o2,ho2,hcl2,m2,hd2⟩:=(show Yn X.prog X.w H s.heap a (.tup (q.1.map kV)) from I.hok a _ rk)
   exact ⟨(q.1,a,v) ::qs,.cons ⟨rfl,rk,rv2⟩ h1,.cons ⟨⟨o,m,ho,hcl,hd⟩,o2,ho2,fun h' e=>⟨o2,_,m2,e,hcl2,hd2,by simpa using Zgt r2⟩⟩ h2⟩
 obtain ⟨qs,hkv,hpi⟩:=key hp
 have hql:kvs.length=qs.length:=Paired.length hkv
 have hle:kvs.length<=sizeLine:=by
  have:=Paired.length hp
  rw [List.length_map] at hz
  omega
 have hnd:(qs.map (·.1)).Nodup:=by
  have:∀{kvs:List (List Key×V)} {qs:List (List Key×Addr×Value)},KT H kvs qs->qs.map (·.1)=kvs.map Prod.fst:=by
   intro kvs qs z
   induction z with
   | nil=>rfl
   | cons r t ih=>rw [List.map_cons,List.map_cons,ih,r.1]
  rw [this hkv]
  exact hn
 refine Zgn (knd:=tupleKind (Yg X.prog X.w)) (I.ok.hd hc) (tupleKind_room_in1 (A:=X.A.in1) (by show X.A.units+1+1<cLine;omega)) hg hpi hnd (by rw [<-hql];exact hle) fun h' tk' dd hD hdd hn' k=>?_
 have hsm:dd≠sysModules:=fun z=>by
  have hb:=I.big
  rw [<-hdd,z] at hb
  exact Nat.lt_irrefl _ hb
 have hH0:H dd=none:=by
  cases e:H dd with
  | none=>rfl
  | some u =>
   obtain ⟨ob,z⟩:=(I.hok dd u e).there
   rw [hn'] at z
   cases z
 obtain ⟨o,es,ep,e1,e2,e3,e4,_,e5⟩:=hD
 obtain ⟨hH,J⟩:=I.laidAt (t':=tk') (o:=.dT kvs) k hn' (show Yn X.prog X.w (upd H dd (.dT kvs)) h' dd (.dT kvs) from ⟨hle,beq_eq_false_iff_ne.mpr hsm,qs,hkv.keeps fun b ys e=>by rw [Zj (Zi e hH0)];exact e,o,es,ep,e1,e2,e3,e4,e5⟩)
 exact ⟨.ref dd,_,J,rfl,q.at dd hH⟩
end L2
end
section
namespace L2
open PySem PySem.Spec PyProof.Rows
section
variable {prog:Program} {w:World} {A:Around} {E:Value->Shared->Prop} {s:Shared}
theorem Zk5{a b:Str}{t u:Tok}{Q:Bool->Shared->Prop}(h:Q (decide (a.cps.toList<b.cps.toList)) s):wpAny (model prog w) A (oneLt' false (.str a t) (.str b u)) Q E s:=by
 rw [oneLt'_eq]
 simp only [Bool.false_eq_true,if_false]
 refine wpAny_bind (wpAny_richCompare_same (op:=.Lt) (typeIs_str s a t) (typeIs_str s b u) slot_str_lt (call_str_lt ⟨(fun z=>nomatch z),?_⟩))
 exact wpAny_truthy_bool h
theorem Zo1{x y:Addr}{ox oy:Obj}{n e p q p' q':Str}{t1 t2 t3 t4 u1 u2 u3 u4:Tok}{m1 m2:Nat}{Q:Bool->Shared->Prop}(hx:s.heap.get? x=some ox)(dx:ox.data=.seq #[.str n t1,.str e t2,.str p t3,.str q t4] m1)
  (hy:s.heap.get? y=some oy) (dy:oy.data=.seq #[.str n u1,.str e u2,.str p' u3,.str q' u4] m2) (ne:p≠p') (h:Q (decide (p.cps.toList<p'.cps.toList)) s):wpAny (model prog w) A (keyLt' (tuples' true) (.ref x) (.ref y)) Q E s:=by
 show wpAny _ _ (Builtin.List.listItems (.ref x) >>=fun xs=>_) Q E s
 refine wpAny_bind (listItems_at hx dx ?_)
 show wpAny _ _ (Builtin.List.listItems (.ref y) >>=fun ys=>_) Q E s
 refine wpAny_bind (listItems_at hy dy ?_)
 have hz:(#[Value.str n t1,.str e t2,.str p t3,.str q t4].toList.zip #[Value.str n u1,.str e u2,.str p' u3,.str q' u4].toList).zipIdx=[((.str n t1,.str n u1),0),((.str e t2,.str e u2),1),((.str p t3,.str p' u3),2),((.str q t4,.str q' u4),3)]:=rfl
 rw [hz,List.forIn_cons]
 refine wpAny_bind (wpAny_bind (wpAny_bind (wpAny_eqBool_str ?_)))
 rw [decide_eq_true rfl]
 refine wpAny_pure ?_
 show wpAny _ _ (forIn _ _ _) _ _ _
 rw [List.forIn_cons]
 refine wpAny_bind (wpAny_bind (wpAny_eqBool_str ?_))
 rw [decide_eq_true rfl]
 refine wpAny_pure ?_
 show wpAny _ _ (forIn _ _ _) _ _ _
 rw [List.forIn_cons]
 refine wpAny_bind (wpAny_bind (wpAny_eqBool_str ?_))
 rw [decide_eq_false ne]
 refine wpAny_bind (Zk5 ?_)
 exact wpAny_pure (wpAny_pure (wpAny_pure h))
theorem Zkx{x:Addr}{ox:Obj}{v:Value}{xs:List Value}{m:Nat}{Q:Option Value->Shared->Prop}(hx:s.heap.get? x=some ox) (cx:ox.cls=.type "tuple") (dx:ox.data=.seq (v ::xs).toArray m) (h:Q (some v) s):wpAny (model prog w) A (firstOfTuple' (.ref x)) Q E s:=by
 show wpAny _ _ (typeOf (.ref x) >>=fun ty=>_) Q E s
 refine wpAny_bind (wpAny_typeOf (T := "tuple") ⟨_,hx,cx⟩ ?_)
 simp only [bne_self_eq_false,Bool.false_eq_true,if_false]
 exact wpAny_bind (listItems_at hx dx (wpAny_pure h))
theorem Zmx{x y:Addr}{ox oy:Obj}{n n':Str}{xs ys:List Value}{t u:Tok}{m1 m2:Nat}{Q:SortKind->Shared->Prop}(hx:s.heap.get? x=some ox) (cx:ox.cls=.type "tuple") (dx:ox.data=.seq (.str n t ::xs).toArray m1)
  (hy:s.heap.get? y=some oy) (cy:oy.cls=.type "tuple") (dy:oy.data=.seq (.str n' u ::ys).toArray m2) (h:Q (tuples' true) s):wpAny (model prog w) A (keyKind' #[.ref x,.ref y]) Q E s:=by
 have tx:s.TypeIs (.ref x) "tuple" :=⟨_,hx,cx⟩
 have ty:s.TypeIs (.ref y) "tuple" :=⟨_,hy,cy⟩
 rw [keyKind'_eq,show (#[Value.ref x,.ref y]:Array Value)=[Value.ref x,.ref y].toArray from rfl,List.mapM_toArray,List.mapM_cons,List.mapM_cons,List.mapM_nil]
 simp only [map_bind,map_pure,bind_assoc,pure_bind]
 refine wpAny_bind (Zkx hx cx dx (wpAny_bind (Zkx hy cy dy ?_)))
 rw [if_pos (by simp)]
 refine wpAny_bind (wpAny_rule ?_)
 rw [show Array.filterMap id #[some (Value.str n t),some (.str n' u)]=[Value.str n t,.str n' u].toArray from rfl,oneTypeOnly'_eq,List.mapM_toArray,List.mapM_cons,List.mapM_cons,List.mapM_nil]
 refine wpAny_pure ((congrArg (fun b=>Q (tuples' b) s) (?_:_=true)).mpr h)
 rw [if_pos (by simp)]
 rfl
theorem Zv1{x y:Value}{kd:SortKind}{st:SortSt}{Q:Option Nat->SortSt->Prop}(hk:kindOf st=kd)(ha:arrOf st=#[(x,x),(y,y)])(hlt:∀(E':Value->Shared->Prop) (Q':Bool->Shared->Prop),Q' false s->wpAny (model prog w) A (keyLt' kd y x) Q' E' s)
  (h:Q (some 2) st):wpS (model prog w) A E s (countRun' 0 2) Q st:=by
 rw [countRun0_eq]
 unfold ascLoop
 refine wpS_bind (wpS_forRange (I:=fun i c st'=>st'=st/\c=(none,i)) ?_ ?_ ⟨rfl,rfl⟩)
 ·rintro i c st' h1 h2 ⟨rfl,rfl⟩
  have:i=1:=by omega
  subst this
  rw [ltAt'_eq]
  refine wpS_bind (wpS_bind (wpS_get ?_))
  show wpS _ _ _ _ (do let p <-elem' (arrOf st') 1;let q <-elem' (arrOf st') 0;lt' p q) _ st'
  rw [ha,elem'_eq,elem'_eq]
  refine wpS_bind (wpS_pure (wpS_bind (wpS_pure ?_)))
  rw [lt'_eq]
  refine wpS_bind (wpS_get ?_)
  rw [hk]
  refine wpS_bind (wpS_lift (wpAny_attempt (hlt _ _ ⟨rfl,?_⟩)))
  exact wpS_pure (wpS_pure ⟨rfl,rfl⟩)
 ·rintro c st' ⟨rfl,rfl⟩
  exact wpS_pure h
theorem Zto{x y:Value}{kd:SortKind}{Q:Unit->SortSt->Prop}(hlt:∀(E':Value->Shared->Prop) (Q':Bool->Shared->Prop),Q' false s->wpAny (model prog w) A (keyLt' kd y x) Q' E' s)
  (h:∀p,Q () (SortSt.mk' kd #[(x,x),(y,y)] p 7 none)):wpS (model prog w) A E s sortRuns' Q (SortSt.mk' kd #[(x,x),(y,y)] #[] 7 none):=by
 rw [sortRuns'_eq]
 refine wpS_bind (wpS_get ?_)
 dsimp only
 refine wpS_bind (wpS_mono (wpS_forRange (I:=fun i c st'=>(i=0/\c=(none,0)/\st'=SortSt.mk' kd #[(x,x),(y,y)] #[] 7 none)\/(1<=i/\c=(none,2)/\st'=SortSt.mk' kd #[(x,x),(y,y)] #[(0,2,0)] 7 none))
  (Q:=fun c st'=>c=(none,2)/\st'=SortSt.mk' kd #[(x,x),(y,y)] #[(0,2,0)] 7 none) ?_ ?_ (.inl ⟨rfl,rfl,rfl⟩)) ?_)
 ·rintro i c st' _ hi (⟨rfl,rfl,rfl⟩|⟨h1,rfl,rfl⟩)
  ·dsimp only
   rw [if_neg (by show ¬(0:Nat) ≥ 2;decide)]
   refine wpS_bind (Zv1 rfl rfl hlt ?_)
   dsimp only
   rw [if_neg (by show ¬(2:Nat)<minRun' 2 2 0;decide)]
   refine wpS_bind (wpS_get ?_)
   exact wpS_bind (wpS_modify (wpS_pure (.inr ⟨by omega,rfl,rfl⟩)))
  ·dsimp only
   rw [if_pos (by show (2:Nat) ≥ 2;decide)]
   exact wpS_pure ⟨rfl,rfl⟩
 ·rintro c st' (⟨z,_,_⟩|⟨_,h1,h2⟩)
  ·exact absurd z (by show ¬max 0 2=0;decide)
  ·exact ⟨h1,h2⟩
 ·rintro c st' ⟨rfl,rfl⟩
  dsimp only
  refine wpS_bind (wpS_mono (wpS_forRange (I:=fun _ c st'=>c=(none,())/\st'=SortSt.mk' kd #[(x,x),(y,y)] #[(0,2,0)] 7 none) (Q:=fun c st'=>c=(none,())/\st'=SortSt.mk' kd #[(x,x),(y,y)] #[(0,2,0)] 7 none) ?_ (fun _ _ z=>z) ⟨rfl,rfl⟩) ?_)
  ·rintro i c st' _ _ ⟨rfl,rfl⟩
   refine wpS_bind (wpS_get ?_)
   rw [if_pos (by show (1:Nat)<=1;decide)]
   exact wpS_pure ⟨rfl,rfl⟩
  ·rintro c st' ⟨rfl,rfl⟩
   exact wpS_pure (h _)
def Ybc(prog:Program)(w:World)(A:Around)(s:Shared)(a:Addr)(vs:List Value):Prop:=vs.length<2\/∃x y kd,vs=[x,y]/\∀s':Shared,(∀b o,b≠a->s.heap.get? b=some o->s'.heap.get? b=some o) ->
 (∀(E':Value->Shared->Prop) (Q':SortKind->Shared->Prop),Q' kd s'->wpAny (model prog w) A (keyKind' #[x,y]) Q' E' s')/\∀(E':Value->Shared->Prop) (Q':Bool->Shared->Prop),Q' false s'->wpAny (model prog w) A (keyLt' kd y x) Q' E' s'
theorem Zsf{a:Addr}{vs:List Value}{n:Nat}{P:Fin->Shared->Prop} (hl:s.heap.get? a=some (seqObj "list" vs.toArray n)) (hc:Ybc prog w A s a vs)
  (h:P (.done (.ret .none)) { s with heap:=sortedHeap s.heap a vs vs.toArray }):wpAny (model prog w) A (Builtin.«list.sort» ⟨[.ref a],[]⟩) P E s:=by
 rw [list_sort_plain]
 have hlt:a<s.heap.objs.size:=Heap.lt_size hl
 have hfew:vs.length<=sizeLine:=by
  rw [sizeLine_eq]
  rcases hc with hc|⟨x,y,kd,rfl,_⟩
  ·omega
  ·show 2<=_;omega
 refine wpAny_bind (listItems_at hl rfl (wpAny_bind (listUpdate_at hl rfl ?_ (hsz:=by simpa using hfew))))
 obtain ⟨e1,hl1⟩:∃e1,(s.heap.update a (Obj.mapSeq fun _=>#[])).get? a=some (seqObj "list" #[] e1):=⟨_,get?_update_seq hl _⟩
 refine wpAny_bind (seqEpoch_at hl1 rfl (wpAny_bind (wpAny_newTuple (hsz:=by simpa using hfew) (wpAny_bind (wpAny_newList (wpAny_holding ?_))))))
 have hl2:(((s.heap.update a (Obj.mapSeq fun _=>#[])).push (seqObj "tuple" vs.toArray 0)).push (seqObj "list" #[] 0)).get? a=some (seqObj "list" #[] e1):=by
  rw [Heap.get?_push_ne _ _ _ (by rw [size_push',Heap.size_update];exact Nat.ne_of_lt (Nat.lt_succ_of_lt hlt)),Heap.get?_push_ne _ _ _ (by rw [Heap.size_update];exact Nat.ne_of_lt hlt)]
  exact hl1
 have keep:∀b o,b≠a->s.heap.get? b=some o->(((s.heap.update a (Obj.mapSeq fun _=>#[])).push (seqObj "tuple" vs.toArray 0)).push (seqObj "list" #[] 0)).get? b=some o:=fun b o ne hb=>by
  have hb':=Heap.lt_size hb
  rw [Heap.get?_push_ne _ _ _ (by rw [size_push',Heap.size_update];exact Nat.ne_of_lt (Nat.lt_succ_of_lt hb')),Heap.get?_push_ne _ _ _ (by rw [Heap.size_update];exact Nat.ne_of_lt hb'),Heap.get?_update_other _ _ (Ne.symm ne)]
  exact hb
 show wpAny (model prog w) A _ P E { s with heap:=((s.heap.update a (Obj.mapSeq fun _=>#[])).push (seqObj "tuple" vs.toArray 0)).push (seqObj "list" #[] 0) }
 dsimp only
 rcases hc with hc|⟨x,y,kd,rfl,hc⟩
 ·have h2:vs.toArray.size<2:=by simpa using hc
  rw [if_pos h2,if_pos h2]
  refine wpAny_bind (wpAny_pure ?_)
  rw [StateT.run_pure]
  refine wpAny_bind (wpAny_pure ?_)
  dsimp only
  refine wpAny_bind (seqEpoch_at hl2 rfl (wpAny_bind (listUpdate_at hl2 rfl ?_ (hsz2:=by rw [Array.size_map];show (pairsOf vs).size<=_;rw [pairsOf_size,sizeLine_eq];omega))))
  simp only [bne_self_eq_false,Bool.false_eq_true,if_false]
  have:(vs.toArray.zip vs.toArray).map (·.2)=vs.toArray:=by
   match vs,hc with
   | [],_=>simp
   | [_],_=>simp
  refine wpAny_pure ?_
  show P _ { s with heap:=(((s.heap.update a (Obj.mapSeq fun _=>#[])).push (seqObj "tuple" vs.toArray 0)).push (seqObj "list" #[] 0)).update a (Obj.mapSeq fun _=>(vs.toArray.zip vs.toArray).map (·.2)) }
  rw [this]
  exact h
 ·obtain ⟨c1,c2⟩:=hc { s with heap:=(((s.heap.update a (Obj.mapSeq fun _=>#[])).push (seqObj "tuple" [x,y].toArray 0)).push (seqObj "list" #[] 0)) } keep
  rw [if_neg (by show ¬(2:Nat)<2;decide),if_neg (by show ¬(2:Nat)<2;decide)]
  refine wpAny_bind (c1 _ _ ?_)
  rw [show [x,y].toArray.zip [x,y].toArray=#[(x,x),(y,y)] by simp]
  refine wpAny_bind (wpAny_mono (Zto (Q:=fun _ st=>∃p,st=SortSt.mk' kd #[(x,x),(y,y)] p 7 none) c2 fun p=>⟨p,rfl⟩) ?_ fun _ _ e=>e)
  rintro ⟨⟨⟩,st'⟩ s' ⟨rfl,p,rfl⟩
  dsimp only
  refine wpAny_bind (seqEpoch_at hl2 rfl (wpAny_bind (listUpdate_at hl2 rfl ?_ (hsz2:=by rw [Array.size_map];show (2:Nat)<=_;rw [sizeLine_eq];omega))))
  simp only [bne_self_eq_false,Bool.false_eq_true,if_false]
  refine wpAny_pure ?_
  show P _ { s with heap:=(((s.heap.update a (Obj.mapSeq fun _=>#[])).push (seqObj "tuple" [x,y].toArray 0)).push (seqObj "list" #[] 0)).update a (Obj.mapSeq fun _=>(#[(x,x),(y,y)]:Array (Value×Value)).map (·.2)) }
  rw [show (#[(x,x),(y,y)]:Array (Value×Value)).map (·.2)=[x,y].toArray by simp]
  exact h
theorem Zok{l:Addr}{vs:List Value}{Q:Value->Shared->Prop}(hl:s.heap.IsList l vs.toArray)(hz:vs.length<=sizeLine)
  (hc:∀s':Shared,(∀b o,s.heap.get? b=some o->s'.heap.get? b=some o)->Ybc prog w A.in1.in1 s' (s.heap.objs.size+1) vs)
  (h:Q (.ref (s.heap.objs.size+1)) { s with heap:=sortedAll s.heap vs vs.toArray }):wpAny (model prog w) A (call (.builtin "sorted") [.ref l]) Q E s:=by
 refine Calls.call_function_entry kind_sorted plain_sorted entry_sorted (args_sorted1 _) ?_
 unfold Builtin.«sorted»
 refine wpAny_bind (m:=checkCount "sorted" 1 1 _) (wpAny_pure (wpAny_bind (collect_list hl (hsz:=hz) (wpAny_bind (wpAny_newList (hsz:=hz) ?_)))))
 have hs:((s.heap.push (seqObj "list" #[] 0)).update s.heap.objs.size (Obj.mapSeq (· ++ vs.toArray))).objs.size=s.heap.objs.size+1:=by rw [Heap.size_update,size_push']
 have hL:(((s.heap.push (seqObj "list" #[] 0)).update s.heap.objs.size (Obj.mapSeq (· ++ vs.toArray))).push (seqObj "list" vs.toArray 0)).get? (s.heap.objs.size+1)=some (seqObj "list" vs.toArray 0):=by
  rw [<-hs];exact Heap.get?_push_size _ rfl
 have kp:∀b o,s.heap.get? b=some o->(((s.heap.push (seqObj "list" #[] 0)).update s.heap.objs.size (Obj.mapSeq (· ++ vs.toArray))).push (seqObj "list" vs.toArray 0)).get? b=some o:=fun b o hb=>by
  have lt:=Heap.lt_size hb
  rw [Heap.get?_push_ne _ _ _ (by rw [hs];exact Nat.ne_of_lt (Nat.lt_succ_of_lt lt)),Heap.get?_update_other _ _ (Nat.ne_of_gt lt)]
  exact Heap.get?_push_of_some _ hb
 show wpAny _ _ _ _ _ { s with heap:=((s.heap.push (seqObj "list" #[] 0)).update s.heap.objs.size (Obj.mapSeq (· ++ vs.toArray))).push (seqObj "list" vs.toArray 0) }
 rw [hs]
 refine wpAny_bind (wpAny_holding (wpAny_call_entry slot_list_sort ⟨_,hL,rfl⟩ entry_list_sort (Zsf hL (hc _ kp) ⟨_,rfl,?_⟩) (args_list_sort _)))
 exact wpAny_pure ⟨_,rfl,h⟩
end
theorem Zt6{a b c d:Str}{us:List Value}(h:Yd [.str a,.str b,.str c,.str d] us):∃t1 t2 t3 t4,us=[.str a t1,.str b t2,.str c t3,.str d t4]:=by
 cases h with
 | cons z1 h =>
  cases h with
  | cons z2 h =>
   cases h with
   | cons z3 h =>
    cases h with
    | cons z4 h =>
     cases h
     obtain ⟨t1,rfl⟩:=z1
     obtain ⟨t2,rfl⟩:=z2
     obtain ⟨t3,rfl⟩:=z3
     obtain ⟨t4,rfl⟩:=z4
     exact ⟨_,_,_,_,rfl⟩
def Zq1(K:Frag):List V->Hp->VK->Prop:=fun xs H Q=>∃(p:Addr) (as:List Addr),xs=[.ref p]/\H p=some (.lst (as.map V.ref)) /\
 (as.length<2\/∃(a b:Addr) (n e x1 x2 y1 y2:Str),as=[a,b]/\H a=some (.tup [.str n,.str e,.str x1,.str x2])/\H b=some (.tup [.str n,.str e,.str y1,.str y2])/\y1≠x1/\¬y1.cps.toList<x1.cps.toList)/\New H (.lst (as.map V.ref)) Q
theorem Znv{X:Cx}:Xo X (.builtin "sorted") (Zq1 X.K):=by
 intro pins s σ H xs us Q I r h
 obtain ⟨p,as,rfl,hp,hc,q⟩:=h
 obtain ⟨u,rfl,rx⟩:=Zc5 r
 cases rx
 obtain ⟨hz,its,n,rv,hg⟩:=(show Yn X.prog X.w H s.heap p (.lst (as.map V.ref)) from I.hok p _ hp)
 have hits:=Zec rv
 rw [hits] at hg
 rw [List.length_map] at hz
 refine Zok (vs:=as.map Value.ref) ⟨_,hg,rfl,n,rfl⟩ (by rw [List.length_map];exact hz) (fun s' kp=>?_) ?_
 ·rcases hc with hc|⟨a,b,m,e,x1,x2,y1,y2,rfl,ha,hb,ne,hlt⟩
  ·exact .inl (by rw [List.length_map];exact hc)
  ·obtain ⟨_,ia,ra,oa,ga,ca,na,da⟩:=(show Yn X.prog X.w H s.heap a (.tup [.str m,.str e,.str x1,.str x2]) from I.hok a _ ha)
   obtain ⟨_,ib,rb,ob,gb,cb,nb,db⟩:=(show Yn X.prog X.w H s.heap b (.tup [.str m,.str e,.str y1,.str y2]) from I.hok b _ hb)
   refine .inr ⟨.ref a,.ref b,tuples' true,rfl,fun s2 k2=>?_⟩
   have far:∀{c:Addr} {o:Obj},s.heap.get? c=some o->c≠s.heap.objs.size+1:=fun {c o} z=>Nat.ne_of_lt (Nat.lt_succ_of_lt (Heap.lt_size z))
   have ga2:=k2 a _ (far ga) (kp _ _ ga)
   have gb2:=k2 b _ (far gb) (kp _ _ gb)
   obtain ⟨t1,t2,t3,t4,rfl⟩:=Zt6 ra
   obtain ⟨u1,u2,u3,u4,rfl⟩:=Zt6 rb
   refine ⟨fun E' Q' h=>Zmx ga2 ca da gb2 cb db h,fun E' Q' h=>Zo1 gb2 db ga2 da ne ?_⟩
   rw [decide_eq_false hlt]
   exact h
 ·obtain ⟨e,he⟩:=sortedAll_at s.heap (as.map Value.ref) (as.map Value.ref).toArray
  have hn:H (s.heap.objs.size+1)=none:=I.hok.fresh (Nat.le_succ _)
  exact ⟨.ref (s.heap.objs.size+1),_,I.laid (a:=s.heap.objs.size+1) (o:=.lst (as.map V.ref)) (t':=s.toks) (fun b o h=>sortedAll_old h) (Nat.le_succ _) (show Yn X.prog X.w _ _ _ (.lst _) from ⟨by rw [List.length_map];exact hz,as.map Value.ref,e,hits ▸ rv,he⟩),rfl,q.at _ hn⟩
end L2
end
section
namespace L2
open PySem PySem.Spec PyProof.Rows
section
variable {prog:Program} {w:World} {A:Around} {E:Value->Shared->Prop} {s:Shared} {o:Array Keyed} {κ:KeyKind} {kd:SortKind}
def Lts(prog:Program)(w:World)(A:Around)(s:Shared)(κ:KeyKind)(kd:SortKind):Prop :=
 ∀(x y:Value) (a b:κ.α) (E':Value->Shared->Prop) (Q':Bool->Shared->Prop),κ.keyOf x=some a->κ.keyOf y=some b->a≠b->Q' (κ.blt a b) s->wpAny (model prog w) A (keyLt' kd x y) Q' E' s
def Zzx(κ:KeyKind)(o:Array Keyed):Prop:=(o.toList.map fun p=>κ.keyOf p.1).Nodup
variable (hL:Lts prog w A s κ kd) (k:KeysOf κ o) (d:Zzx κ o)
include hL k d
end
end L2
namespace L2
open PySem PySem.Spec PyProof.Rows
def Ybm(h:Heap):Value->Option (List Nat)
 | .ref a=>match h.get? a with
  | some o=>match o.cls,o.data with
   | .type "tuple",.seq its _=>match (its[0]? :Option Value) with
    | some (.str x _)=>some x.cps.toList
    | _=>none
   | _,_=>none
  | none=>none
 | _=>none
section
variable {prog:Program} {w:World} {A:Around} {E:Value->Shared->Prop} {s:Shared}
theorem Zzt:∀{vs:List Value},vs.length<2->(vs.toArray.zip vs.toArray).map (·.2)=vs.toArray
 | [],_=>by simp
 | [_],_=>by simp
 | _ ::_ ::_,h=>absurd h (by simp)
theorem Yan{α β:Type}{f:α->β}{R:β->β->Prop}:∀{vs:List α},vs.length<2->(vs.map f).Pairwise R
 | [],_=>.nil
 | [_],_=>List.pairwise_singleton _ _
 | _ ::_ ::_,h=>absurd h (by simp)
theorem Ycf{α:Type}:∀{vs:List α},2<=vs.length->∃a b r,vs=a ::b ::r
 | a ::b ::r,_=>⟨a,b,r,rfl⟩
end
end L2
namespace L2
open PySem PySem.Spec PyProof.Rows
def Zlb:Value->Addr
 | .ref a=>a
 | _=>0
theorem Zlr:∀{out:List Value} {as:List Addr},(∀v∈out,v∈as.map Value.ref)->out=(out.map Zlb).map Value.ref
 | [],_,_=>rfl
 | v ::out,as,h=>by
  obtain ⟨a,_,e⟩:=List.mem_map.mp (h v List.mem_cons_self)
  rw [List.map_cons,List.map_cons,<-Zlr fun u hu=>h u (List.mem_cons_of_mem _ hu),<-e]
  rfl
theorem Zk1:∀as:List Addr,Yd (as.map V.ref) (as.map Value.ref)
 | []=>.nil
 | a ::as=>.cons rfl (Zk1 as)
end L2
end
section
namespace L2
open PySem PySem.Spec PyProof.Rows
end L2
end
section
namespace L2
open PySem PyProof.Rows
section
variable {prog:Program} {w:World} {A:Around} {E:Value->Shared->Prop} {s:Shared} {o:Array Keyed} {kd:SortKind} {p:Array (Nat×Nat×Nat)} {st:SortSt}
def Znh(prog:Program)(w:World)(A:Around)(s:Shared)(kd:SortKind)(o:Array Keyed):Prop :=
 ∀x∈o,∀y∈o,∀(E':Value->Shared->Prop) (Q':Bool->Shared->Prop),(∀b,Q' b s)->wpAny (model prog w) A (keyLt' kd x.1 y.1) Q' E' s
structure Ps(kd:SortKind)(o:Array Keyed)(p:Array (Nat×Nat×Nat))(st:SortSt):Prop where
 perm:(arrOf st).Perm o
 kind:kindOf st=kd
 good:failedOf st=none
 pend:pendingOf st=p
theorem Ps.many(h:Ps kd o p st):(arrOf st).size=o.size:=h.perm.size_eq
theorem Ps.to(h:Ps kd o p st){xs:Array Keyed}(q:xs.Perm (arrOf st)):Ps kd o p (setArr st xs):=⟨q.trans h.perm,h.kind,h.good,h.pend⟩
theorem Ps.mem(h:Ps kd o p st){x:Keyed}(hx:x∈arrOf st):x∈o:=h.perm.mem_iff.mp hx
theorem Xk{arr:Array Keyed}{i:Nat}{Q:Keyed->SortSt->Prop}(hi:i<arr.size)(q:Q arr[i] st):wpS (model prog w) A E s (elem' arr i) Q st:=by
 rw [elem'_eq,getElem?_pos arr i hi]
 exact wpS_pure q
theorem ifS{α:Type}{c:Prop}[Decidable c]{x y:StateT SortSt Sem α}{R:α->SortSt->Prop}(h1:c->wpS (model prog w) A E s x R st)(h2:¬c->wpS (model prog w) A E s y R st):wpS (model prog w) A E s (if c then x else y) R st:=by
 by_cases z:c
 ·rw [if_pos z];exact h1 z
 ·rw [if_neg z];exact h2 z
theorem Zy4{α:Type}{m n:StateT SortSt Sem α}{Q:α->SortSt->Prop}(C:SortSt->Prop)(a:(∀st2:SortSt,C st2->wpS (model prog w) A E s m Q st2)->wpS (model prog w) A E s n Q st)(b:∀st2:SortSt,C st2->wpS (model prog w) A E s m Q st2):wpS (model prog w) A E s n Q st:=a b
theorem Zyr{α β:Type}{m:β->StateT SortSt Sem α}{Q:α->SortSt->Prop}{n:StateT SortSt Sem α}(C:β->SortSt->Prop)(a:(∀x st2,C x st2->wpS (model prog w) A E s (m x) Q st2)->wpS (model prog w) A E s n Q st)(b:∀x st2,C x st2->wpS (model prog w) A E s (m x) Q st2):wpS (model prog w) A E s n Q st:=a b
theorem Zvz{α β γ:Type}{m:β->γ->StateT SortSt Sem α}{Q:α->SortSt->Prop}{n:StateT SortSt Sem α}(C:β->γ->SortSt->Prop)(a:(∀x y st2,C x y st2->wpS (model prog w) A E s (m x y) Q st2)->wpS (model prog w) A E s n Q st)(b:∀x y st2,C x y st2->wpS (model prog w) A E s (m x y) Q st2):wpS (model prog w) A E s n Q st:=a b
def Zze:Nat->StateT SortSt Sem Unit:=sortPriv% PySem.Builtin.setMinGallop
def Gs(st st2:SortSt):Prop:=kindOf st2=kindOf st/\arrOf st2=arrOf st/\pendingOf st2=pendingOf st/\failedOf st2=failedOf st
theorem Zh8{g:Nat}{Q:Unit->SortSt->Prop}{st0:SortSt}(h:Gs st0 st)(q:∀st2,Gs st0 st2->Q () st2):wpS (model prog w) A E s (Zze g) Q st:=wpS_modify (q _ ⟨h.1,h.2.1,h.2.2.1,h.2.2.2⟩)
variable (L:Znh prog w A s kd o)
include L
theorem Zjk{x y:Keyed}{Q:Option Bool->SortSt->Prop}(hk:kindOf st=kd)(hx:x∈o)(hy:y∈o)(q:∀b,Q (some b) st):wpS (model prog w) A E s (lt' x y) Q st:=by
 rw [lt'_eq]
 refine wpS_bind (wpS_get ?_)
 rw [hk]
 exact wpS_bind (wpS_lift (wpAny_attempt (L x hx y hy _ _ fun b=>⟨rfl,wpS_pure (q b)⟩)))
theorem Zjo{i j:Nat}{Q:Option Bool->SortSt->Prop}(h:Ps kd o p st)(hi:i<o.size)(hj:j<o.size)(q:∀b,Q (some b) st):wpS (model prog w) A E s (ltAt' i j) Q st:=by
 rw [ltAt'_eq]
 refine wpS_bind (wpS_get (wpS_bind (Xk (by rw [h.many];exact hi) (wpS_bind (Xk (by rw [h.many];exact hj) ?_)))))
 exact Zjk L h.kind (h.mem (Array.getElem_mem _)) (h.mem (Array.getElem_mem _)) q
theorem Zr4{lo m:Nat}{Q:Option Nat->SortSt->Prop}(h:Ps kd o p st)(h1:1<=m)(hm:lo+m<=o.size)(q:∀n st2,Ps kd o p st2->1<=n->n<=m->Q (some n) st2):wpS (model prog w) A E s (countRun' lo m) Q st:=by
 have up:∀(a:Nat) (st:SortSt) (R:Option (Option Nat)×Nat->SortSt->Prop),1<=a->a<=m->Ps kd o p st->(∀n,a<=n->n<=m->R (none,n) st) ->
   wpS (model prog w) A E s (forIn [a:m] ((none,a):Option (Option Nat)×Nat) fun _ __s=>do
    let __x <-ltAt' (lo+__s.snd) (lo+__s.snd-1)
    match __x with
    | some smaller=>if smaller=true then pure (ForInStep.done (none,__s.snd)) else pure (ForInStep.yield (none,__s.snd+1))
    | _=>pure (ForInStep.done (some none,__s.snd))) R st:=fun a st R h1 h2 h q=>by
  refine wpS_forRange (I:=fun n c st2=>st2=st/\c=(none,n)) ?_ ?_ ⟨rfl,rfl⟩
  ·rintro n c st2 a1 a2 ⟨rfl,rfl⟩
   refine wpS_bind (Zjo L h (by omega) (by omega) fun b=>?_)
   cases b with
   | true=>exact wpS_pure (q n a1 (by omega))
   | false=>exact wpS_pure ⟨rfl,rfl⟩
  ·rintro c st2 ⟨rfl,rfl⟩
   exact q _ (by omega) (by omega)
 rw [countRun'_eq]
 refine wpS_bind (up 1 st _ (Nat.le_refl _) h1 h fun n n1 n2=>?_)
 dsimp only
 by_cases hnm:n=m
 ·rw [if_pos (by simpa using hnm)]
  exact wpS_pure (q n st h n1 n2)
 rw [if_neg (by simpa using hnm)]
 apply Zy4 (Ps kd o p)
 case a =>
  intro Z5
  by_cases hb:n >1
  ·rw [if_pos hb]
   refine wpS_bind (Zjo L h (by omega) (by omega) fun b=>?_)
   cases b with
   | true=>exact wpS_pure (q n st h n1 n2)
   | false=>exact wpS_bind (wpS_reverse (Z5 _ (h.to (mirror_perm _ _ _ _))))
  ·rw [if_neg hb]
   exact Z5 st h
 intro st2 h2
 refine wpS_bind (wpS_lift (wpAny_rule ⟨rfl,?_⟩))
 refine wpS_bind (wpS_mono (wpS_forRange (I:=fun i c st3=>Ps kd o p st3/\∃e,c=(none,i,e)) (Q:=fun c st3=>Ps kd o p st3/\∃i e,c=(none,i,e)/\n+1<=i/\i<=m) ?_ ?_ ⟨h2,0,rfl⟩) ?_)
 ·rintro i c st3 a1 a2 ⟨h3,e,rfl⟩
  dsimp only
  refine wpS_bind (Zjo L h3 (by omega) (by omega) fun b=>?_)
  cases b with
  | true =>
   show wpS _ _ _ _ (if e >0 then _ else _) _ _
   by_cases he:e >0
   ·rw [if_pos he]
    exact wpS_bind (wpS_reverse (wpS_pure ⟨h3.to (mirror_perm _ _ _ _),0,rfl⟩))
   ·rw [if_neg he]
    exact wpS_pure ⟨h3,0,rfl⟩
  | false =>
   refine wpS_bind (Zjo L h3 (by omega) (by omega) fun b=>?_)
   cases b with
   | true=>exact wpS_pure ⟨h3,i,e,rfl,a1,by omega⟩
   | false=>exact wpS_pure ⟨h3,e+1,rfl⟩
 ·rintro c st3 ⟨h3,e,rfl⟩
  exact ⟨h3,_,e,rfl,by omega,by omega⟩
 ·rintro c st3 ⟨h3,i,e,rfl,a1,a2⟩
  dsimp only
  apply Zy4 (Ps kd o p)
  case a =>
   intro Z5
   by_cases he:e >0
   ·rw [if_pos he]
    exact wpS_bind (wpS_reverse (Z5 _ (h3.to (mirror_perm _ _ _ _))))
   ·rw [if_neg he]
    exact Z5 st3 h3
  intro st4 h4
  refine wpS_bind (wpS_reverse ?_)
  have h5:=h4.to (mirror_perm (arrOf st4) lo (lo+i) ((lo+i-lo) / 2))
  exact wpS_bind (up i _ _ (by omega) a2 h5 fun k k1 k2=>wpS_pure (q k _ h5 (by omega) k2))
theorem Zwt{lo n r:Nat}{Q:Bool->SortSt->Prop}(h:Ps kd o p st)(hn:lo+n<=o.size)(q:∀st2,Ps kd o p st2->Q true st2):wpS (model prog w) A E s (binarySort' lo n r) Q st:=by
 rw [binarySort'_eq]
 refine wpS_bind (wpS_mono (wpS_forRange (I:=fun _ c st2=>c=(none,())/\Ps kd o p st2) (Q:=fun c st2=>c=(none,())/\Ps kd o p st2) ?_ (fun _ _ z=>z) ⟨rfl,h⟩) ?_)
 ·rintro x c st2 x1 x2 ⟨rfl,h2⟩
  refine wpS_bind (wpS_mono (wpS_forRange (I:=fun _ c st3=>st3=st2/\∃l u,c=(none,l,u)/\u<=x) (Q:=fun c st3=>st3=st2/\∃l u,c=(none,l,u)/\u<=x) ?_ (fun _ _ z=>z) ⟨rfl,0,x,rfl,Nat.le_refl _⟩) ?_)
  ·rintro y c st3 _ _ ⟨rfl,l,u,rfl,hu⟩
   dsimp only
   by_cases z:l ≥ u
   ·rw [if_pos z]
    exact wpS_pure ⟨rfl,l,u,rfl,hu⟩
   ·rw [if_neg z]
    refine wpS_bind (Zjo L h2 (by omega) (by omega) fun b=>?_)
    cases b with
    | true=>exact wpS_pure ⟨rfl,l,(l+u) / 2,rfl,by omega⟩
    | false=>exact wpS_pure ⟨rfl,(l+u) / 2+1,u,rfl,hu⟩
  ·rintro c st3 ⟨rfl,l,u,rfl,hu⟩
   show wpS _ _ _ _ (do moveDown' (lo+x) (lo+l);pure (ForInStep.yield (none,()))) _ _
   rw [moveDown'_eq]
   exact wpS_bind (wpS_modify (wpS_pure ⟨rfl,h2.to (bubble_perm _ _ _)⟩))
 ·rintro c st2 ⟨rfl,h2⟩
  exact wpS_pure (q st2 h2)
def Zvv:Bool->Keyed->Array Keyed->Nat->Nat->Nat->StateT SortSt Sem (Option Nat):=sortPriv% PySem.Builtin.gallop
def Zuk:Array Keyed->Array Keyed->StateT SortSt Sem (Array Keyed):=sortPriv% PySem.Builtin.mergeLo
def Zt0:Array Keyed->Array Keyed->StateT SortSt Sem (Array Keyed):=sortPriv% PySem.Builtin.mergeHi
theorem Zeg{left:Bool}{key:Keyed}{arr:Array Keyed}{base n hint:Nat}{Q:Option Nat->SortSt->Prop}(hk:kindOf st=kd)(hkey:key∈o)(ha:∀x∈arr,x∈o)(hb:base+n<=arr.size)(hh:hint<n)(q:∀k,k<=n->Q (some k) st) :
  wpS (model prog w) A E s (Zvv left key arr base n hint) Q st:=by
 have bey:∀(i:Nat) (R:Option Bool->SortSt->Prop),i<n->(∀b,R (some b) st)->wpS (model prog w) A E s (do
   let x <-elem' arr (base+i)
   if left=true then lt' x key else do
    let y <-lt' key x
    pure (Option.map (fun x=>!x) y)) R st:=fun i R hi r=>by
  have hi':base+i<arr.size:=by omega
  refine wpS_bind (Xk hi' ?_)
  have hm:=ha _ (Array.getElem_mem hi')
  cases left with
  | true=>exact Zjk L hk hm hkey r
  | false=>exact wpS_bind (Zjk L hk hkey hm fun b=>wpS_pure (r _))
 refine wpS_bind (bey hint _ hh fun b=>?_)
 have on:∀{f:Nat->Option (Option Nat)×Nat×Nat->StateT SortSt Sem (ForInStep (Option (Option Nat)×Nat×Nat))} {R:Option (Option Nat)×Nat×Nat->SortSt->Prop} (G:Nat->Prop) {l u:Nat},G u ->
   (∀i l u (R':ForInStep (Option (Option Nat)×Nat×Nat)->SortSt->Prop),G u->(∀l u,G u->R' (.done (none,l,u)) st/\R' (.yield (none,l,u)) st)->wpS (model prog w) A E s (f i (none,l,u)) R' st)->(∀l u,G u->R (none,l,u) st)->wpS (model prog w) A E s (forIn [:n] (none,l,u) f) R st:=fun {f R} G {l u} g hf r =>
  wpS_mono (wpS_forRange (I:=fun _ c st2=>st2=st/\∃l u,c=(none,l,u)/\G u) (Q:=fun c st2=>st2=st/\∃l u,c=(none,l,u)/\G u) (fun i c st2 _ _ ⟨e,l,u,e2,gu⟩=>by subst e e2;exact hf i l u _ gu fun l u gu=>⟨⟨rfl,l,u,rfl,gu⟩,⟨rfl,l,u,rfl,gu⟩⟩) (fun _ _ z=>z) ⟨rfl,l,u,rfl,g⟩) fun c st2 ⟨e,l,u,e2,gu⟩=>by subst e e2;exact r l u gu
 have go:∀{c:Prop} [Decidable c] {x y:StateT SortSt Sem (ForInStep (Option (Option Nat)×Nat×Nat))} {R:ForInStep (Option (Option Nat)×Nat×Nat)->SortSt->Prop},(c->wpS (model prog w) A E s x R st)->(¬c->wpS (model prog w) A E s y R st)->wpS (model prog w) A E s (if c then x else y) R st:=fun {c _ x y R} h1 h2=>by
  by_cases z:c
  ·rw [if_pos z];exact h1 z
  ·rw [if_neg z];exact h2 z
 cases b with
 | true =>
  refine wpS_bind (on (fun _=>True) trivial (fun i l u R' _ r=>go (fun _=>wpS_pure (r l u trivial).1) fun (z:¬u ≥ n-hint)=>wpS_bind (bey (hint+u) _ (by omega) fun b=>?_)) fun l u _=>?_)
  ·cases b with
   | true=>exact wpS_pure (r _ _ trivial).2
   | false=>exact wpS_pure (r _ _ trivial).1
  ·refine wpS_bind (on (fun u=>u<=n) (show hint+min u (n-hint)<=n by omega) (fun i l u R' hu r=>go (fun _=>wpS_pure (r l u hu).1) fun (z:¬l ≥ u)=>wpS_bind (bey (l+(u-l) / 2) _ (by omega) fun b=>?_)) fun l u hu=>wpS_pure (q u hu))
   cases b with
   | true=>exact wpS_pure (r _ _ hu).2
   | false=>exact wpS_pure (r _ _ (show l+(u-l) / 2<=n by omega)).2
 | false =>
  refine wpS_bind (on (fun _=>True) trivial (fun i l u R' _ r=>go (fun _=>wpS_pure (r l u trivial).1) fun (z:¬u ≥ hint+1)=>wpS_bind (bey (hint-u) _ (by omega) fun b=>?_)) fun l u _=>?_)
  ·cases b with
   | true=>exact wpS_pure (r _ _ trivial).1
   | false=>exact wpS_pure (r _ _ trivial).2
  ·refine wpS_bind (on (fun u=>u<=n) (show hint-l<=n by omega) (fun i l u R' hu r=>go (fun _=>wpS_pure (r l u hu).1) fun (z:¬l ≥ u)=>wpS_bind (bey (l+(u-l) / 2) _ (by omega) fun b=>?_)) fun l u hu=>wpS_pure (q u hu))
   cases b with
   | true=>exact wpS_pure (r _ _ hu).2
   | false=>exact wpS_pure (r _ _ (show l+(u-l) / 2<=n by omega)).2
omit L
def Mg(a b:Array Keyed)(out:Array Keyed)(x y:List Keyed):Prop:=(out.toList++(x++y)).Perm (a.toList++b.toList)
variable {a b out:Array Keyed} {x y z:List Keyed} {v:Keyed}
omit L in
theorem Mg.one(h:Mg a b out (v ::x) y):Mg a b (out.push v) x y:=by
 unfold Mg at h ⊢
 rw [Array.toList_push,List.append_assoc]
 exact h
omit L in
theorem Mg.two(h:Mg a b out x (v ::y)):Mg a b (out.push v) x y:=by
 unfold Mg at h ⊢
 rw [Array.toList_push,List.append_assoc]
 exact (List.Perm.append_left _ (List.perm_middle (l₁:=x)).symm).trans h
theorem Mg.ones(h:Mg a b out (z++x) y){t:Array Keyed}(e:t.toList.Perm z):Mg a b (out++t) x y:=by
 unfold Mg at h ⊢
 rw [Array.toList_append,List.append_assoc,<-List.append_assoc t.toList]
 exact (((e.append_right x).append_right y).append_left _).trans h
theorem Mg.twos(h:Mg a b out x (z++y)){t:Array Keyed}(e:t.toList.Perm z):Mg a b (out++t) x y:=by
 unfold Mg at h ⊢
 rw [Array.toList_append,List.append_assoc]
 refine (List.Perm.append_left _ ?_).trans h
 rw [<-List.append_assoc,<-List.append_assoc]
 exact ((e.append_right x).trans List.perm_append_comm).append_right y
theorem Mg.swap(h:Mg a b out x y):(out.toList++(y++x)).Perm (a.toList++b.toList):=(List.perm_append_comm.append_left _).trans h
theorem Zf5{arr:Array Keyed}{i:Nat}(h:i<arr.size):arr.toList.drop i=arr[i] ::arr.toList.drop (i+1):=by
 rw [List.drop_eq_getElem_cons (by simpa using h)]
 simp
theorem Zll{arr:Array Keyed}{i k:Nat}:arr.toList.drop i=(arr.extract i (i+k)).toList++arr.toList.drop (i+k):=by
 rw [Array.toList_extract,List.extract_eq_take_drop,show i+k-i=k by omega,<-List.drop_drop,List.take_append_drop]
theorem Zh1{arr:Array Keyed}{i:Nat}:(arr.extract i arr.size).toList=arr.toList.drop i:=by
 rw [Array.toList_extract,List.extract_eq_take_drop,List.take_of_length_le (by simp)]
theorem Mg.perm{x' y':List Keyed}(h:Mg a b out x y)(hx:x'.Perm x)(hy:y'.Perm y):Mg a b out x' y':=((hx.append hy).append_left _).trans h
theorem Zf1{arr:Array Keyed}{i:Nat}(h1:1<=i)(h:i<=arr.size):(arr.toList.take i).Perm (arr[i-1] ::arr.toList.take (i-1)):=by
 have e:arr.toList.take i=arr.toList.take (i-1)++[arr[i-1]]:=by
  have:=List.take_add_one (l:=arr.toList) (i:=i-1)
  rw [show i-1+1=i by omega,Array.getElem?_toList,getElem?_pos arr (i-1) (by omega)] at this
  exact this
 rw [e]
 exact List.perm_append_comm
theorem Zlf{arr:Array Keyed}{i n:Nat}(h:i<=n):(arr.toList.take n).Perm ((arr.extract i n).reverse.toList++arr.toList.take i):=by
 have e:arr.toList.take n=arr.toList.take i++(arr.extract i n).toList:=by
  have:=List.take_add (l:=arr.toList) (i:=i) (j:=n-i)
  rw [show i+(n-i)=n by omega] at this
  rw [this,Array.toList_extract,List.extract_eq_take_drop]
 rw [e,Array.toList_reverse]
 exact List.perm_append_comm.trans ((List.reverse_perm _).symm.append_right _)
theorem Zmh{arr:Array Keyed}{i:Nat}:(arr.extract 0 i).toList=arr.toList.take i:=by
 rw [Array.toList_extract,List.extract_eq_take_drop]
 rfl
section
variable {C D F:Type} {pd:Array Keyed->Nat->Nat->Prop} {fd:Array Keyed->Nat->Nat->D->C} {ls:List Keyed} {fu:Array Keyed->F->C} {G G1 G2:C->SortSt->Prop}
def GoS(st:SortSt)(pd:Array Keyed->Nat->Nat->Prop)(fd:Array Keyed->Nat->Nat->D->C)(c:C)(s2:SortSt):Prop:=Gs st s2/\∃o i j d,c=fd o i j d/\pd o i j
def UnS(st:SortSt)(ls:List Keyed)(fu:Array Keyed->F->C)(c:C)(s2:SortSt):Prop:=Gs st s2/\∃r d,c=fu r d/\r.toList.Perm ls
theorem Zbd(h:∀o i j d s2,Gs st s2->pd o i j->G (fd o i j d) s2)(c:C)(s2:SortSt)(z:GoS st pd fd c s2):G c s2:=by
 obtain ⟨h2,o,i,j,d,rfl,hp⟩:=z
 exact h o i j d s2 h2 hp
theorem Zgz(h:∀r d s2,Gs st s2->r.toList.Perm ls->G (fu r d) s2)(c:C)(s2:SortSt)(z:UnS st ls fu c s2):G c s2:=by
 obtain ⟨h2,r,d,rfl,hp⟩:=z
 exact h r d s2 h2 hp
theorem Zmu(h1:∀c s2,G1 c s2->G c s2)(h2:∀c s2,G2 c s2->G c s2)(c:C)(s2:SortSt)(z:G1 c s2\/G2 c s2):G c s2:=z.elim (h1 c s2) (h2 c s2)
end
def DlS(a b:Array Keyed)(n:Nat)(out:Array Keyed)(i j:Nat):Prop:=Mg a b out (a.toList.drop i) (b.toList.drop j)/\i+1<a.size/\j<b.size/\n<i+j
def DhS(a b:Array Keyed)(n:Nat)(out:Array Keyed)(i j:Nat):Prop:=Mg a b out (a.toList.take i) (b.toList.take j)/\1<=i/\i<=a.size/\2<=j/\j<=b.size/\n+i+j<a.size+b.size
include L
theorem Zzh{Q:Array Keyed->SortSt->Prop}(hk:kindOf st=kd)(ha:∀x∈a,x∈o)(hb:∀x∈b,x∈o)(a1:1<=a.size)(b1:1<=b.size)(q:∀(r:Array Keyed) st2,Gs st st2->r.toList.Perm (a.toList++b.toList)->Q r st2):wpS (model prog w) A E s (Zuk a b) Q st:=by
 have h:Gs st st:=⟨rfl,rfl,rfl,rfl⟩
 refine wpS_bind (wpS_lift (wpAny_rule ⟨rfl,?_⟩))
 refine wpS_bind (Xk (show 0<b.size by omega) ?_)
 have m0:Mg a b #[b[0]] (a.toList.drop 0) (b.toList.drop 1):=by
  have:Mg a b #[] (a.toList.drop 0) (b.toList.drop 0):=List.Perm.refl _
  rw [Zf5 (show 0<b.size by omega)] at this
  exact this.two
 have fin1:∀{out:Array Keyed} {i j:Nat},Mg a b out (a.toList.drop i) (b.toList.drop j)->(out++a.extract i a.size++b.extract j b.size).toList.Perm (a.toList++b.toList):=fun z=>by
  rw [Array.toList_append,Array.toList_append,Zh1,Zh1,List.append_assoc];exact z
 have fin2:∀{out:Array Keyed} {i j:Nat},Mg a b out (a.toList.drop i) (b.toList.drop j)->(out++b.extract j b.size++a.extract i a.size).toList.Perm (a.toList++b.toList):=fun z=>by
  rw [Array.toList_append,Array.toList_append,Zh1,Zh1,List.append_assoc];exact z.swap
 refine ifS (fun _=>wpS_pure (q _ _ h (fin1 m0))) fun e1=>ifS (fun _=>wpS_pure (q _ _ h (fin2 m0))) fun e2=>?_
 have e1:¬1=b.size:=by simpa using e1
 have e2:¬1=a.size:=by simpa using e2
 refine wpS_bind (wpS_get ?_)
 refine wpS_bind (wpS_mono (wpS_forRange
  (I:=fun k=>GoS st (DlS a b k) fun o i j d=>(none,o,i,j,d))
  (Q:=UnS st (a.toList++b.toList) fun r d=>(some r,d)) ?_ ?_ ⟨h,_,_,_,_,rfl,m0,by omega,by omega,by omega⟩) ?_)
 rotate_left
 ·exact Zbd fun o i j d s2 h2 hp=>absurd hp.2.2.2 (by have:=hp.2.1;have:=hp.2.2.1;omega)
 ·exact Zgz fun r d s2 h2 hr=>wpS_pure (q r s2 h2 hr)
 intro k c st2 _ k2
 revert c st2
 refine Zbd fun out i j d st2 h2 hp=>?_
 refine wpS_bind (wpS_mono (wpS_forRange
  (I:=fun k'=>GoS st (DlS a b (k+k')) fun o i j d=>(none,o,i,j,d))
  (Q:=fun c s2=>UnS st (a.toList++b.toList) (fun r d=>(some r,d)) c s2\/GoS st (DlS a b (k+1)) (fun o i j d=>(none,o,i,j,d)) c s2) ?_ ?_ ⟨h2,_,_,_,_,rfl,hp⟩) ?_)
 ·clear hp h2
  intro k' c st3 _ k3
  revert c st3
  refine Zbd fun out i j d st3 h3 hp=>?_
  have m:=hp.1;have i1:=hp.2.1;have j1:=hp.2.2.1;have k1:=hp.2.2.2
  dsimp only
  refine wpS_bind (Xk j1 (wpS_bind (Xk (show i<a.size by omega) (wpS_bind (Zjk L (h3.1.trans hk) (hb _ (Array.getElem_mem _)) (ha _ (Array.getElem_mem _)) fun c=>?_)))))
  cases c with
  | true =>
   refine wpS_bind (Xk j1 ?_)
   rw [Zf5 j1] at m
   refine ifS (fun _=>wpS_pure (.inl ⟨h3,_,_,rfl,fin1 m.two⟩)) fun (z:¬(j+1 ==b.size)=true)=>?_
   have z:¬j+1=b.size:=by simpa using z
   exact ifS (fun _=>wpS_pure (.inr ⟨h3,_,_,_,_,rfl,m.two,i1,by omega,by omega⟩)) fun _=>wpS_pure ⟨h3,_,_,_,_,rfl,m.two,i1,by omega,by omega⟩
  | false =>
   refine wpS_bind (Xk (show i<a.size by omega) ?_)
   rw [Zf5 (show i<a.size by omega)] at m
   refine ifS (fun _=>wpS_pure (.inl ⟨h3,_,_,rfl,fin2 m.one⟩)) fun (z:¬(i+1+1 ==a.size)=true)=>?_
   have z:¬i+1+1=a.size:=by simpa using z
   exact ifS (fun _=>wpS_pure (.inr ⟨h3,_,_,_,_,rfl,m.one,by omega,j1,by omega⟩)) fun _=>wpS_pure ⟨h3,_,_,_,_,rfl,m.one,by omega,j1,by omega⟩
 ·exact Zbd fun o i j d s2 h2 hp=>.inr ⟨h2,_,_,_,_,rfl,hp.1,hp.2.1,hp.2.2.1,by have:=hp.2.2.2;omega⟩
 clear hp h2
 refine Zmu (Zgz fun r d st3 h3 hr=>wpS_pure ⟨h3,r,_,rfl,hr⟩) (Zbd fun out i j d st3 h3 hp=>?_)
 refine wpS_bind (wpS_lift (wpAny_rule ⟨rfl,?_⟩))
 refine wpS_bind (wpS_mono (wpS_forRange
  (I:=fun k'=>GoS st (DlS a b (k+1)) fun o i j d=>(none,o,i,j,d))
  (Q:=fun c s2=>UnS st (a.toList++b.toList) (fun r d=>(some r,d)) c s2\/GoS st (DlS a b (k+1)) (fun o i j d=>(none,o,i,j,d)) c s2) ?_ (fun _ _=>.inr) ⟨h3,_,_,_,_,rfl,hp⟩) ?_)
 ·clear hp h3
  intro k' c st3 _ k3
  revert c st3
  refine Zbd fun out i j d st3 h3 hp=>?_
  have m:=hp.1;have i1:=hp.2.1;have j1:=hp.2.2.1;have k1:=hp.2.2.2
  dsimp only
  generalize d.1=g
  apply Zyr (fun (_:Nat) st2=>Gs st st2)
  case a =>
   intro Z5
   refine ifS (fun _=>?_) (fun _=>?_)
   ·generalize g-1=g'
    exact Z5 g' st3 h3
   ·exact Z5 g st3 h3
  intro g st4 h4
  refine wpS_bind (Zh8 h4 fun st5 h5=>?_)
  refine wpS_bind (Xk j1 (wpS_bind (Zeg L (h5.1.trans hk) (hb _ (Array.getElem_mem _)) ha (by omega) (by omega) fun k5 hk5=>?_)))
  dsimp only
  have m5:=m
  rw [Zll (i:=i) (k:=k5)] at m5
  apply Zvz (fun (out:Array Keyed) (i:Nat) st2=>Gs st st2/\Mg a b out (a.toList.drop i) (b.toList.drop j)/\i+1<a.size/\k+1<i+j)
  case a =>
   intro Z5
   refine ifS (fun _=>ifS (fun _=>wpS_pure (.inl ⟨h5,_,_,rfl,fin2 (m5.ones (List.Perm.refl _))⟩)) fun z1=>ifS (fun _=>wpS_pure (.inl ⟨h5,_,_,rfl,fin1 (m5.ones (List.Perm.refl _))⟩)) fun z2=>?_) (fun _=>?_)
   ·have z1:¬i+k5+1=a.size:=by simpa using z1
    have z2:¬i+k5=a.size:=by simpa using z2
    have r1:i+k5+1<a.size:=by omega
    have r2:k+1<i+k5+j:=by omega
    have r3:=m5.ones (List.Perm.refl _)
    revert r1 r2 r3
    generalize i+k5=i'
    generalize out++a.extract i i'=out'
    exact fun r1 r2 r3=>Z5 out' i' st5 ⟨h5,r3,r1,r2⟩
   ·exact Z5 out i st5 ⟨h5,m,i1,k1⟩
  clear m5 m i1 k1 h5 hk5
  intro out i st6 hp
  have h6:=hp.1;have m:=hp.2.1;have i1:=hp.2.2.1;have k1:=hp.2.2.2
  refine wpS_bind (Xk j1 ?_)
  rw [Zf5 j1] at m
  refine ifS (fun _=>wpS_pure (.inl ⟨h6,_,_,rfl,fin1 m.two⟩)) fun z=>?_
  have z:¬j+1=b.size:=by simpa using z
  refine wpS_bind (Xk (show i<a.size by omega) (wpS_bind (Zeg L (h6.1.trans hk) (ha _ (Array.getElem_mem _)) hb (by omega) (by omega) fun k7 hk7=>?_)))
  dsimp only
  have m7:=m.two
  have m8:=m7
  rw [Zll (i:=j+1) (k:=k7)] at m8
  apply Zvz (fun (out:Array Keyed) (j:Nat) st2=>Gs st st2/\Mg a b out (a.toList.drop i) (b.toList.drop j)/\j<b.size/\k+1<i+j)
  case a =>
   intro Z5
   refine ifS (fun _=>ifS (fun _=>wpS_pure (.inl ⟨h6,_,_,rfl,fin1 (m8.twos (List.Perm.refl _))⟩)) fun z1=>?_) (fun _=>?_)
   ·have z1:¬j+1+k7=b.size:=by simpa using z1
    have r1:j+1+k7<b.size:=by omega
    have r2:k+1<i+(j+1+k7):=by omega
    have r3:=m8.twos (List.Perm.refl _)
    revert r1 r2 r3
    generalize j+1+k7=j'
    generalize out.push b[j]++b.extract (j+1) j'=out'
    exact fun r1 r2 r3=>Z5 out' j' st6 ⟨h6,r3,r1,r2⟩
   ·exact Z5 _ _ st6 ⟨h6,m7,by omega,by omega⟩
  clear m7 m8 m k1 h6 hk7 z j1
  intro out j st7 hp
  have h7:=hp.1;have m:=hp.2.1;have j1:=hp.2.2.1;have k1:=hp.2.2.2
  refine wpS_bind (Xk (show i<a.size by omega) ?_)
  rw [Zf5 (show i<a.size by omega)] at m
  refine ifS (fun _=>wpS_pure (.inl ⟨h7,_,_,rfl,fin2 m.one⟩)) fun z=>?_
  have z:¬i+1+1=a.size:=by simpa using z
  exact ifS (fun _=>wpS_pure (.inr ⟨h7,_,_,_,_,rfl,m.one,by omega,j1,by omega⟩)) fun _=>wpS_pure ⟨h7,_,_,_,_,rfl,m.one,by omega,j1,by omega⟩
 exact Zmu (Zgz fun r d st3 h3 hr=>wpS_pure ⟨h3,r,_,rfl,hr⟩) (Zbd fun out i j d st3 h3 hp=>wpS_bind (Zh8 h3 fun st5 h5=>wpS_pure ⟨h5,_,_,_,_,rfl,hp⟩))
theorem Zyd{Q:Array Keyed->SortSt->Prop}(hk:kindOf st=kd)(ha:∀x∈a,x∈o)(hb:∀x∈b,x∈o)(a1:1<=a.size)(b1:1<=b.size)(q:∀(r:Array Keyed) st2,Gs st st2->r.toList.Perm (a.toList++b.toList)->Q r st2):wpS (model prog w) A E s (Zt0 a b) Q st:=by
 have h:Gs st st:=⟨rfl,rfl,rfl,rfl⟩
 refine wpS_bind (wpS_lift (wpAny_rule ⟨rfl,?_⟩))
 refine wpS_bind (Xk (show a.size-1<a.size by omega) ?_)
 have m0:Mg a b #[a[a.size-1]] (a.toList.take (a.size-1)) (b.toList.take b.size):=by
  have:Mg a b #[] (a.toList.take a.size) (b.toList.take b.size):=by
   rw [List.take_of_length_le (by simp),List.take_of_length_le (by simp)]
   exact List.Perm.refl _
  exact (this.perm (Zf1 a1 (Nat.le_refl _)).symm (List.Perm.refl _)).one
 have fin1:∀{out:Array Keyed} {i j:Nat},Mg a b out (a.toList.take i) (b.toList.take j)->(a.extract 0 i++b.extract 0 j++out.reverse).toList.Perm (a.toList++b.toList):=fun z=>by
  rw [Array.toList_append,Array.toList_append,Zmh,Zmh,Array.toList_reverse]
  exact (List.perm_append_comm.trans ((List.reverse_perm _).append_right _)).trans z
 have fin2:∀{out:Array Keyed} {i j:Nat},Mg a b out (a.toList.take i) (b.toList.take j)->(b.extract 0 j++a.extract 0 i++out.reverse).toList.Perm (a.toList++b.toList):=fun z=>by
  rw [Array.toList_append,Array.toList_append,Zmh,Zmh,Array.toList_reverse]
  exact (List.perm_append_comm.trans ((List.reverse_perm _).append_right _)).trans z.swap
 refine ifS (fun _=>wpS_pure (q _ _ h (fin1 m0))) fun e1=>ifS (fun _=>wpS_pure (q _ _ h (fin2 m0))) fun e2=>?_
 have e1:¬a.size-1=0:=by simpa using e1
 have e2:¬b.size=1:=by simpa using e2
 refine wpS_bind (wpS_get ?_)
 refine wpS_bind (wpS_mono (wpS_forRange
  (I:=fun k=>GoS st (DhS a b k) fun o i j d=>(none,i,j,o,d))
  (Q:=UnS st (a.toList++b.toList) fun r d=>(some r,d)) ?_ ?_ ⟨h,_,_,_,_,rfl,m0,by omega,by omega,by omega,by omega,by omega⟩) ?_)
 rotate_left
 ·exact Zbd fun o i j d s2 h2 hp=>absurd hp.2.2.2.2.2 (by have:=hp.2.1;have:=hp.2.2.2.1;omega)
 ·exact Zgz fun r d s2 h2 hr=>wpS_pure (q r s2 h2 hr)
 intro k c st2 _ k2
 revert c st2
 refine Zbd fun out i j d st2 h2 hp=>?_
 refine wpS_bind (wpS_mono (wpS_forRange
  (I:=fun k'=>GoS st (DhS a b (k+k')) fun o i j d=>(none,i,j,o,d))
  (Q:=fun c s2=>UnS st (a.toList++b.toList) (fun r d=>(some r,d)) c s2\/GoS st (DhS a b (k+1)) (fun o i j d=>(none,i,j,o,d)) c s2) ?_ ?_ ⟨h2,_,_,_,_,rfl,hp⟩) ?_)
 ·clear hp h2
  intro k' c st3 _ k3
  revert c st3
  refine Zbd fun out i j d st3 h3 hp=>?_
  have m:=hp.1;have i1:=hp.2.1;have i2:=hp.2.2.1;have j1:=hp.2.2.2.1;have j2:=hp.2.2.2.2.1;have k1:=hp.2.2.2.2.2
  dsimp only
  refine wpS_bind (Xk (show j-1<b.size by omega) (wpS_bind (Xk (show i-1<a.size by omega) (wpS_bind (Zjk L (h3.1.trans hk) (hb _ (Array.getElem_mem _)) (ha _ (Array.getElem_mem _)) fun c=>?_)))))
  cases c with
  | true =>
   refine wpS_bind (Xk (show i-1<a.size by omega) ?_)
   have m:=(m.perm (Zf1 i1 i2).symm (List.Perm.refl _)).one
   refine ifS (fun _=>wpS_pure (.inl ⟨h3,_,_,rfl,fin1 m⟩)) fun z=>?_
   have z:¬i-1=0:=by simpa using z
   exact ifS (fun _=>wpS_pure (.inr ⟨h3,_,_,_,_,rfl,m,by omega,by omega,j1,j2,by omega⟩)) fun _=>wpS_pure ⟨h3,_,_,_,_,rfl,m,by omega,by omega,j1,j2,by omega⟩
  | false =>
   refine wpS_bind (Xk (show j-1<b.size by omega) ?_)
   have m:=(m.perm (List.Perm.refl _) (Zf1 (by omega) j2).symm).two
   refine ifS (fun _=>wpS_pure (.inl ⟨h3,_,_,rfl,fin2 m⟩)) fun z=>?_
   have z:¬j-1=1:=by simpa using z
   exact ifS (fun _=>wpS_pure (.inr ⟨h3,_,_,_,_,rfl,m,i1,i2,by omega,by omega,by omega⟩)) fun _=>wpS_pure ⟨h3,_,_,_,_,rfl,m,i1,i2,by omega,by omega,by omega⟩
 ·exact Zbd fun o i j d s2 h2 hp=>.inr ⟨h2,_,_,_,_,rfl,hp.1,hp.2.1,hp.2.2.1,hp.2.2.2.1,hp.2.2.2.2.1,by have:=hp.2.2.2.2.2;omega⟩
 clear hp h2
 refine Zmu (Zgz fun r d st3 h3 hr=>wpS_pure ⟨h3,r,_,rfl,hr⟩) (Zbd fun out i j d st3 h3 hp=>?_)
 refine wpS_bind (wpS_lift (wpAny_rule ⟨rfl,?_⟩))
 refine wpS_bind (wpS_mono (wpS_forRange
  (I:=fun k'=>GoS st (DhS a b (k+1)) fun o i j d=>(none,i,j,o,d))
  (Q:=fun c s2=>UnS st (a.toList++b.toList) (fun r d=>(some r,d)) c s2\/GoS st (DhS a b (k+1)) (fun o i j d=>(none,i,j,o,d)) c s2) ?_ (fun _ _=>.inr) ⟨h3,_,_,_,_,rfl,hp⟩) ?_)
 ·clear hp h3
  intro k' c st3 _ k3
  revert c st3
  refine Zbd fun out i j d st3 h3 hp=>?_
  have m:=hp.1;have i1:=hp.2.1;have i2:=hp.2.2.1;have j1:=hp.2.2.2.1;have j2:=hp.2.2.2.2.1;have k1:=hp.2.2.2.2.2
  dsimp only
  generalize d.1=g
  apply Zyr (fun (_:Nat) st2=>Gs st st2)
  case a =>
   intro Z5
   refine ifS (fun _=>?_) (fun _=>?_)
   ·generalize g-1=g'
    exact Z5 g' st3 h3
   ·exact Z5 g st3 h3
  intro g st4 h4
  refine wpS_bind (Zh8 h4 fun st5 h5=>?_)
  refine wpS_bind (Xk (show j-1<b.size by omega) (wpS_bind (Zeg L (h5.1.trans hk) (hb _ (Array.getElem_mem _)) ha (by omega) (by omega) fun k5 hk5=>?_)))
  dsimp only
  generalize i-k5=ac
  have m5:=(m.perm (Zlf hk5).symm (List.Perm.refl _)).ones (List.Perm.refl _)
  apply Zvz (fun (out:Array Keyed) (i:Nat) st2=>Gs st st2/\Mg a b out (a.toList.take i) (b.toList.take j)/\1<=i/\i<=a.size/\k+1+i+j<a.size+b.size)
  case a =>
   intro Z5
   refine ifS (fun _=>ifS (fun _=>wpS_pure (.inl ⟨h5,_,_,rfl,fin1 m5⟩)) fun z1=>?_) (fun _=>?_)
   ·have z1:¬k5=0:=by simpa using z1
    have r1:1<=k5:=by omega
    have r2:k5<=a.size:=by omega
    have r3:k+1+k5+j<a.size+b.size:=by omega
    have r4:=m5
    revert r4 r1 r2 r3
    generalize out++(a.extract k5 i).reverse=out'
    generalize k5=i'
    exact fun r1 r2 r3 r4=>Z5 out' i' st5 ⟨h5,r4,r1,r2,r3⟩
   ·exact Z5 out i st5 ⟨h5,m,i1,i2,k1⟩
  clear m5 m i1 i2 k1 h5 hk5
  intro out i st6 hp
  have h6:=hp.1;have m:=hp.2.1;have i1:=hp.2.2.1;have i2:=hp.2.2.2.1;have k1:=hp.2.2.2.2
  refine wpS_bind (Xk (show j-1<b.size by omega) ?_)
  have m:=(m.perm (List.Perm.refl _) (Zf1 (by omega) j2).symm).two
  refine ifS (fun _=>wpS_pure (.inl ⟨h6,_,_,rfl,fin2 m⟩)) fun z=>?_
  have z:¬j-1=1:=by simpa using z
  refine wpS_bind (Xk (show i-1<a.size by omega) (wpS_bind (Zeg L (h6.1.trans hk) (ha _ (Array.getElem_mem _)) hb (by omega) (by omega) fun k7 hk7=>?_)))
  dsimp only
  generalize j-1-k7=bc
  have m8:=(m.perm (List.Perm.refl _) (Zlf hk7).symm).twos (List.Perm.refl _)
  apply Zvz (fun (out:Array Keyed) (j:Nat) st2=>Gs st st2/\Mg a b out (a.toList.take i) (b.toList.take j)/\2<=j/\j<=b.size/\k+1+i+j<a.size+b.size)
  case a =>
   intro Z5
   refine ifS (fun _=>ifS (fun _=>wpS_pure (.inl ⟨h6,_,_,rfl,fin2 m8⟩)) fun z1=>ifS (fun _=>wpS_pure (.inl ⟨h6,_,_,rfl,fin1 m8⟩)) fun z2=>?_) (fun _=>?_)
   ·have z1:¬k7=1:=by simpa using z1
    have z2:¬k7=0:=by simpa using z2
    have r1:2<=k7:=by omega
    have r2:k7<=b.size:=by omega
    have r3:k+1+i+k7<a.size+b.size:=by omega
    have r4:=m8
    revert r4 r1 r2 r3
    generalize out.push b[j-1]++(b.extract k7 (j-1)).reverse=out'
    generalize k7=j'
    exact fun r1 r2 r3 r4=>Z5 out' j' st6 ⟨h6,r4,r1,r2,r3⟩
   ·exact Z5 _ _ st6 ⟨h6,m,by omega,by omega,by omega⟩
  clear m8 m k1 h6 hk7 z j1 j2
  intro out j st7 hp
  have h7:=hp.1;have m:=hp.2.1;have j1:=hp.2.2.1;have j2:=hp.2.2.2.1;have k1:=hp.2.2.2.2
  refine wpS_bind (Xk (show i-1<a.size by omega) ?_)
  have m:=(m.perm (Zf1 i1 i2).symm (List.Perm.refl _)).one
  refine ifS (fun _=>wpS_pure (.inl ⟨h7,_,_,rfl,fin1 m⟩)) fun z=>?_
  have z:¬i-1=0:=by simpa using z
  exact ifS (fun _=>wpS_pure (.inr ⟨h7,_,_,_,_,rfl,m,by omega,by omega,j1,j2,by omega⟩)) fun _=>wpS_pure ⟨h7,_,_,_,_,rfl,m,by omega,by omega,j1,j2,by omega⟩
 exact Zmu (Zgz fun r d st3 h3 hr=>wpS_pure ⟨h3,r,_,rfl,hr⟩) (Zbd fun out i j d st3 h3 hp=>wpS_bind (Zh8 h3 fun st5 h5=>wpS_pure ⟨h5,_,_,_,_,rfl,hp⟩))
omit L
theorem Zvr{σ:Type}{M:Model}{Q:PUnit->σ->Prop}{s0 s1:σ}(h:Q ⟨⟩ s1):wpS M A E s (set s1:StateT σ Sem PUnit) Q s0:=by
 unfold wpS
 rw [StateT.run_set]
 exact wpAny_pure ⟨rfl,h⟩
theorem Zig:∀(l:List Keyed) (off k:Nat) (arr:Array Keyed),off+k+l.length<=arr.size->((l.zipIdx k).foldl (fun a x=>a.setIfInBounds (off+x.2) x.1) arr).toList=arr.toList.take (off+k)++l++arr.toList.drop (off+k+l.length)
 | [],off,k,arr,_=>by simp
 | x ::l,off,k,arr,h=>by
  rw [List.length_cons] at h
  rw [List.zipIdx_cons,List.foldl_cons,Zig l off (k+1) _ (by rw [Array.size_setIfInBounds];omega),Array.toList_setIfInBounds]
  have e1:(arr.toList.set (off+k) x).take (off+(k+1))=arr.toList.take (off+k)++[x]:=by
   rw [show off+(k+1)=off+k+1 by omega,List.take_add_one,List.take_set_of_le (Nat.le_refl _),List.getElem?_set_self (by simpa using (by omega:off+k<arr.size))]
   rfl
  rw [e1,List.drop_set_of_lt (by omega),List.length_cons,List.append_assoc,List.append_assoc,show off+(k+1)+l.length=off+k+(l.length+1) by omega]
  simp
theorem Zr6{arr m:Array Keyed}{i j k:Nat}(hij:i<=j)(hjk:j<=k)(hk:k<=arr.size)(hm:m.toList.Perm ((arr.extract i j).toList++(arr.extract j k).toList)) :
  ((m.toList.zipIdx).foldl (fun a x=>a.setIfInBounds (i+x.2) x.1) arr).Perm arr:=by
 have e:(arr.extract i j).toList++(arr.extract j k).toList=(arr.toList.drop i).take (k-i):=by
  rw [Array.toList_extract,Array.toList_extract,List.extract_eq_take_drop,List.extract_eq_take_drop,show k-i=(j-i)+(k-j) by omega,List.take_add,List.drop_drop,show i+(j-i)=j by omega]
 rw [e] at hm
 have hl:=hm.length_eq
 have ha:arr.toList.length=arr.size:=Array.length_toList
 rw [List.length_take,List.length_drop,ha] at hl
 rw [Array.perm_iff_toList_perm,Zig m.toList i 0 arr (by omega)]
 have e2:arr.toList=arr.toList.take i++(arr.toList.drop i).take (k-i)++arr.toList.drop (i+(k-i)):=by
  rw [<-List.take_add,List.take_append_drop]
 rw [show i+0+m.toList.length=i+(k-i) by omega]
 exact ((hm.append_left _).append_right _).trans (by rw [Nat.add_zero,<-e2])
def Ch:Nat->List (Nat×Nat×Nat)->Nat->Prop
 | a,[],b=>a=b
 | a,x ::r,b=>x.1=a/\1<=x.2.1/\Ch (a+x.2.1) r b
theorem Ch.le:∀{l:List (Nat×Nat×Nat)} {a b:Nat},Ch a l b->a<=b
 | [],_,_,h=>Nat.le_of_eq h
 | _ ::_,_,_,⟨_,_,h⟩=>Nat.le_trans (Nat.le_add_right _ _) h.le
theorem Ch.snoc{n q:Nat}:∀{l:List (Nat×Nat×Nat)} {a b:Nat},Ch a l b->1<=n->Ch a (l++[(b,n,q)]) (b+n)
 | [],_,_,h,hn=>by cases (h:_=_);exact ⟨rfl,hn,rfl⟩
 | _ ::_,_,_,⟨h1,h2,h⟩,hn=>⟨h1,h2,h.snoc hn⟩
theorem Ch.mod{f:Nat×Nat×Nat->Nat×Nat×Nat}(hf:∀x,(f x).1=x.1/\(f x).2.1=x.2.1):∀{l:List (Nat×Nat×Nat)} {k a b:Nat},Ch a l b->Ch a (l.modify k f) b
 | [],k,_,_,h=>by rw [List.modify_nil];exact h
 | x ::r,0,_,_,⟨h1,h2,h⟩=>by rw [List.modify_zero_cons];exact ⟨(hf x).1.trans h1,by rw [(hf x).2];exact h2,by rw [(hf x).2];exact h⟩
 | x ::r,k+1,_,_,⟨h1,h2,h⟩=>by rw [List.modify_succ_cons];exact ⟨h1,h2,h.mod hf⟩
theorem Ch.two{x y:Nat×Nat×Nat}{post:List (Nat×Nat×Nat)}:∀{pre:List (Nat×Nat×Nat)} {a b:Nat},Ch a (pre++x ::y ::post) b->x.1+x.2.1=y.1/\1<=x.2.1/\1<=y.2.1/\y.1+y.2.1<=b/\Ch a (pre++(x.1,x.2.1+y.2.1,x.2.2) ::post) b
 | [],a,b,⟨h1,h2,h3,h4,h⟩=>⟨by rw [h1,h3],h2,h4,by rw [h3];exact h.le,h1,by show 1<=x.2.1+y.2.1;omega,by show Ch (a+(x.2.1+y.2.1)) post b;rw [<-Nat.add_assoc];exact h⟩
 | z ::pre,a,b,⟨h1,h2,h⟩=>by
  obtain ⟨g1,g2,g3,g4,g⟩:=h.two
  exact ⟨g1,g2,g3,g4,h1,h2,g⟩
include L
theorem Zwv{pre post:List (Nat×Nat×Nat)}{x y:Nat×Nat×Nat}{Q:Bool->SortSt->Prop}(h:Ps kd o p st)(hp:p.toList=pre++x ::y ::post)(e:x.1+x.2.1=y.1)(hb:y.1+y.2.1<=o.size)(n1:1<=x.2.1)(n2:1<=y.2.1)
  (q:∀(p2:Array (Nat×Nat×Nat)) st2,p2.toList=pre++(x.1,x.2.1+y.2.1,x.2.2) ::post->Ps kd o p2 st2->Q true st2):wpS (model prog w) A E s (mergeAt' pre.length) Q st:=by
 obtain ⟨sa,na,pw⟩:=x
 obtain ⟨sb,nb,qw⟩:=y
 have g1:(pendingOf st)[pre.length]? =some (sa,na,pw):=by rw [h.pend,<-Array.getElem?_toList,hp];simp
 have g2:(pendingOf st)[pre.length+1]? =some (sb,nb,qw):=by rw [h.pend,<-Array.getElem?_toList,hp];simp
 dsimp only at e hb n1 n2 q
 have es:=h.many
 refine wpS_bind (wpS_get ?_)
 show wpS _ _ _ _ (match ((pendingOf st)[pre.length]?,(pendingOf st)[pre.length+1]?) with
  | (some (sa,na,power),some (sb,nb,snd))=>_
  | x=>_) _ _
 rw [g1,g2]
 refine wpS_bind (Zvr ?_)
 have p2:(((pendingOf st).setIfInBounds pre.length (sa,na+nb,pw)).eraseIdxIfInBounds (pre.length+1)).toList=pre++(sa,na+nb,pw) ::post:=by
  rw [h.pend,Array.toList_eraseIdxIfInBounds,Array.toList_setIfInBounds,hp,List.set_append_right _ _ (Nat.le_refl _),List.eraseIdx_append_of_length_le (Nat.le_succ _)]
  simp
 have hm:∀x∈arrOf st,x∈o:=fun x hx=>h.mem hx
 have hk2:∀st2:SortSt,Ps kd o (((pendingOf st).setIfInBounds pre.length (sa,na+nb,pw)).eraseIdxIfInBounds (pre.length+1)) st2->Q true st2:=fun st2 z=>q _ st2 p2 z
 clear q
 refine wpS_bind (Xk (show sb<(arrOf st).size by omega) (wpS_bind (Zeg L h.kind (hm _ (Array.getElem_mem _)) hm (show sa+na<=(arrOf st).size by omega) (show 0<na by omega) fun k hk=>?_)))
 refine ifS (fun _=>wpS_pure (hk2 _ ⟨h.perm,h.kind,h.good,rfl⟩)) fun (z:¬(na-k ==0)=true)=>?_
 have z:¬na-k=0:=by simpa using z
 refine wpS_bind (Xk (show sa+k+(na-k)-1<(arrOf st).size by omega) (wpS_bind (Zeg L h.kind (hm _ (Array.getElem_mem _)) hm (show sb+nb<=(arrOf st).size by omega) (show nb-1<nb by omega) fun k2 hk3=>?_)))
 refine ifS (fun _=>wpS_pure (hk2 _ ⟨h.perm,h.kind,h.good,rfl⟩)) fun (z2:¬(k2 ==0)=true)=>?_
 have z2:¬k2=0:=by simpa using z2
 have jn:∀(r:Array Keyed) (st1 st2:SortSt),Gs st1 st2->arrOf st1=arrOf st->kindOf st1=kd->failedOf st1=none->pendingOf st1=((pendingOf st).setIfInBounds pre.length (sa,na+nb,pw)).eraseIdxIfInBounds (pre.length+1)->r.toList.Perm (((arrOf st).extract (sa+k) sb).toList++((arrOf st).extract sb (sb+k2)).toList) ->
   wpS (model prog w) A E s (do
    modify fun s=>setArr s (r.toList.zipIdx.foldl (fun a x=>a.setIfInBounds (sa+k+x.2) x.1) (arrOf s))
    let x <-get
    pure (failedOf x).isNone) Q st2:=fun r st1 st2 g b1 b2 b3 b4 hr=>by
  refine wpS_bind (wpS_modify (wpS_bind (wpS_get (wpS_pure ?_))))
  have e3:failedOf st2=none:=g.2.2.2.trans b3
  have e4:=g.2.1.trans b1
  show Q (failedOf st2).isNone _
  rw [e3]
  refine hk2 _ ⟨?_,g.1.trans b2,e3,g.2.2.1.trans b4⟩
  show (r.toList.zipIdx.foldl (fun a x=>a.setIfInBounds (sa+k+x.2) x.1) (arrOf st2)).Perm o
  rw [e4]
  exact (Zr6 (by omega) (by omega) (by omega) hr).trans h.perm
 have z0:1<=((arrOf st).extract (sa+k) sb).size:=by rw [Array.size_extract];omega
 have z3:1<=((arrOf st).extract sb (sb+k2)).size:=by rw [Array.size_extract];omega
 have c1:∀{i j:Nat},∀x∈(arrOf st).extract i j,x∈o:=fun x hx=>hm x (by
  rw [<-Array.mem_toList_iff] at hx ⊢
  rw [Array.toList_extract,List.extract_eq_take_drop] at hx
  exact List.mem_of_mem_drop (List.mem_of_mem_take hx))
 exact ifS (fun _=>wpS_bind (Zzh L h.kind c1 c1 z0 z3 fun r st2 g hr=>jn r _ st2 g rfl h.kind h.good rfl hr)) (fun _=>wpS_bind (Zyd L h.kind c1 c1 z0 z3 fun r st2 g hr=>jn r _ st2 g rfl h.kind h.good rfl hr))
omit L in
theorem Zzc{α:Type}{l:List α}{i:Nat}(h:i+1<l.length):∃pre x y post,l=pre++x ::y ::post/\pre.length=i:=by
 refine ⟨l.take i,l[i],l[i+1],l.drop (i+2),?_,by rw [List.length_take];omega⟩
 rw [<-List.drop_eq_getElem_cons,<-List.drop_eq_getElem_cons,List.take_append_drop]
theorem Zqq{lo i:Nat}{Q:Bool->SortSt->Prop}(h:Ps kd o p st)(c:Ch 0 p.toList lo)(hlo:lo<=o.size)(hi:i+1<p.size)(q:∀(p2:Array (Nat×Nat×Nat)) st2,Ps kd o p2 st2->Ch 0 p2.toList lo->Q true st2):wpS (model prog w) A E s (mergeAt' i) Q st:=by
 obtain ⟨pre,x,y,post,e,rfl⟩:=Zzc (l:=p.toList) (i:=i) (by simpa using hi)
 rw [e] at c
 obtain ⟨c1,c2,c3,c4,c5⟩:=c.two
 exact Zwv L h e c1 (by omega) c2 c3 fun p2 st2 e2 h2=>q p2 st2 h2 (by rw [e2];exact c5)
theorem Zs3{Q:Unit->SortSt->Prop}(h:Ps kd o #[] st)(q:∀st2,(arrOf st2).Perm o->failedOf st2=none->Q () st2):wpS (model prog w) A E s sortRuns' Q st:=by
 rw [sortRuns'_eq]
 refine wpS_bind (wpS_get ?_)
 dsimp only
 rw [h.many]
 generalize minRun' o.size o.size 0=mr
 refine wpS_bind (wpS_mono (wpS_forRange (I:=fun _ c st2=>∃lo p,c=(none,lo)/\Ps kd o p st2/\Ch 0 p.toList lo/\lo<=o.size) (Q:=fun c st2=>∃lo p,c=(none,lo)/\Ps kd o p st2/\Ch 0 p.toList lo/\lo<=o.size) ?_ (fun _ _ z=>z) ⟨0,#[],rfl,h,rfl,Nat.zero_le _⟩) ?_)
 ·rintro x c st2 _ _ ⟨lo,p,rfl,h2,c2,hlo⟩
  dsimp only
  refine ifS (fun _=>wpS_pure ⟨lo,p,rfl,h2,c2,hlo⟩) fun z=>?_
  refine wpS_bind (Zr4 L h2 (by omega) (by omega) fun n st3 h3 n1 n2=>?_)
  dsimp only
  apply Zyr (fun (n:Nat) st2=>Ps kd o p st2/\1<=n/\lo+n<=o.size)
  case a =>
   intro Z5
   refine ifS (fun z2=>wpS_bind (wpS_lift (wpAny_rule ⟨rfl,wpS_bind (Zwt L h3 (by omega) fun st4 h4=>?_)⟩))) fun _=>?_
   ·have r1:1<=min (o.size-lo) mr:=by omega
    have r2:lo+min (o.size-lo) mr<=o.size:=by omega
    simp only [Bool.not_true,Bool.false_eq_true,if_false]
    revert r1 r2
    generalize min (o.size-lo) mr=n'
    exact fun r1 r2=>Z5 n' st4 ⟨h4,r1,r2⟩
   ·exact Z5 n st3 ⟨h3,n1,by omega⟩
  clear h2 h3 n1 n2
  rintro n st4 ⟨h4,n1,n2⟩
  refine wpS_bind (wpS_get ?_)
  apply Zy4 (fun st2=>∃p,Ps kd o p st2/\Ch 0 p.toList lo)
  case a =>
   intro Z5
   cases hb:(pendingOf st4).back? with
   | none=>exact Z5 st4 ⟨p,h4,c2⟩
   | some y =>
    refine wpS_bind (wpS_mono (wpS_forRange (I:=fun _ c st5=>c=(none,())/\∃p,Ps kd o p st5/\Ch 0 p.toList lo) (Q:=fun c st5=>c=(none,())/\∃p,Ps kd o p st5/\Ch 0 p.toList lo) ?_ (fun _ _ z=>z) ⟨rfl,p,h4,c2⟩) ?_)
    ·rintro x c st5 _ _ ⟨rfl,p5,h5,c5⟩
     refine wpS_bind (wpS_get ?_)
     by_cases hs:(pendingOf st5).size >1
     ·rw [if_pos hs,getElem?_pos (pendingOf st5) ((pendingOf st5).size-2) (by omega)]
      refine ifS (fun _=>wpS_pure ⟨rfl,p5,h5,c5⟩) fun _=>wpS_bind (Zqq L h5 c5 hlo ?_ fun p6 st6 h6 c6=>wpS_pure ⟨rfl,p6,h6,c6⟩)
      rw [<-h5.pend]
      omega
     ·rw [if_neg hs]
      exact wpS_pure ⟨rfl,p5,h5,c5⟩
    ·rintro c st5 ⟨rfl,p5,h5,c5⟩
     refine wpS_bind (wpS_modify (Z5 _ ⟨_,⟨h5.perm,h5.kind,h5.good,rfl⟩,?_⟩))
     rw [h5.pend,Array.toList_modify]
     refine Ch.mod (fun _=>?_) c5
     exact ⟨rfl,rfl⟩
  rintro st5 ⟨p5,h5,c5⟩
  refine wpS_bind (wpS_modify (wpS_pure ⟨lo+n,_,rfl,⟨h5.perm,h5.kind,h5.good,rfl⟩,?_,n2⟩))
  rw [h5.pend,Array.toList_push]
  exact c5.snoc n1
 ·rintro c st2 ⟨lo,p,rfl,h2,c2,hlo⟩
  dsimp only
  refine wpS_bind (wpS_mono (wpS_forRange (I:=fun _ c st5=>c=(none,())/\∃p,Ps kd o p st5/\Ch 0 p.toList lo) (Q:=fun c st5=>c=(none,())/\∃p,Ps kd o p st5/\Ch 0 p.toList lo) ?_ (fun _ _ z=>z) ⟨rfl,p,h2,c2⟩) ?_)
  ·rintro x c st3 _ _ ⟨rfl,p3,h3,c3⟩
   refine wpS_bind (wpS_get ?_)
   refine ifS (fun _=>wpS_pure ⟨rfl,p3,h3,c3⟩) fun z=>wpS_bind (Zqq L h3 c3 hlo ?_ fun p6 st6 h6 c6=>wpS_pure ⟨rfl,p6,h6,c6⟩)
   rw [h3.pend] at z ⊢
   have hif:∀b:Bool,(if b=true then p3.size-2-1 else p3.size-2)+1<p3.size:=fun b=>by cases b <;>simp <;>omega
   exact hif _
  ·rintro c st3 ⟨rfl,p3,h3,c3⟩
   exact wpS_pure (q st3 h3.perm h3.good)
end
end L2
end
section
namespace L2
open PySem PySem.Spec PyProof.Rows
section
variable {prog:Program} {w:World} {A:Around} {E:Value->Shared->Prop} {s:Shared} {d it:Addr} {i ep:Nat} {es:Array DictEntry}
end
end L2
end
section
namespace L2
open PySem PySem.Spec PyProof.Rows
section
variable {prog:Program} {w:World} {A:Around} {E:Value->Shared->Prop} {s:Shared}
theorem Zw4:∀{vs:List Value},vs.length<2->(vs.toArray.zip vs.toArray).map (·.2)=vs.toArray
 | [],_=>by simp
 | [_],_=>by simp
 | _ ::_ ::_,h=>absurd h (by simp)
theorem Zs9{a:Addr}{vs:List Value}{n:Nat}{kd:SortKind}{P:Fin->Shared->Prop} (hl:s.heap.get? a=some (seqObj "list" vs.toArray n)) (hz:vs.length<=sizeLine)
  (hk:2<=vs.length->∀hp:Heap,(∀b ob,b≠a->s.heap.get? b=some ob->hp.get? b=some ob)->(∀Q:SortKind->Shared->Prop,Q kd { s with heap:=hp }->wpAny (model prog w) A (keyKind' vs.toArray) Q E { s with heap:=hp })/\Znh prog w A { s with heap:=hp } kd (pairsOf vs))
  (h:∀out:List Value,out.Perm vs->P (.done (.ret .none)) { s with heap:=sortedHeap s.heap a vs out.toArray }):wpAny (model prog w) A (Builtin.«list.sort» ⟨[.ref a],[]⟩) P E s:=by
 rw [list_sort_plain]
 have hlt:a<s.heap.objs.size:=Heap.lt_size hl
 refine wpAny_bind (listItems_at hl rfl (wpAny_bind (listUpdate_at hl rfl ?_ (hsz:=by simpa using hz))))
 obtain ⟨e1,hl1⟩:∃e1,(s.heap.update a (Obj.mapSeq fun _=>#[])).get? a=some (seqObj "list" #[] e1):=⟨_,get?_update_seq hl _⟩
 refine wpAny_bind (seqEpoch_at hl1 rfl (wpAny_bind (wpAny_newTuple (hsz:=by simpa using hz) (wpAny_bind (wpAny_newList (wpAny_holding ?_))))))
 generalize hH:((s.heap.update a (Obj.mapSeq fun _=>#[])).push (seqObj "tuple" vs.toArray 0)).push (seqObj "list" #[] 0)=hp
 have keep:∀b ob,(s.heap.update a (Obj.mapSeq fun _=>#[])).get? b=some ob->hp.get? b=some ob:=fun b ob hb=>by
  rw [<-hH]
  exact Heap.get?_push_of_some _ (Heap.get?_push_of_some _ hb)
 have hl2:=keep _ _ hl1
 have keep:∀b ob,b≠a->s.heap.get? b=some ob->hp.get? b=some ob:=fun b ob ne hb=>keep b ob (by rw [Heap.get?_update_other _ _ (Ne.symm ne)];exact hb)
 have fin:∀out:List Value,out.Perm vs->P (.done (.ret .none)) { s with heap:=hp.update a (Obj.mapSeq fun _=>out.toArray) }:=fun out h1=>by
  have:=h out h1
  unfold sortedHeap at this
  rw [hH] at this
  exact this
 show wpAny (model prog w) A _ P E { s with heap:=hp }
 dsimp only
 by_cases h2:vs.toArray.size<2
 ·rw [if_pos h2,if_pos h2]
  refine wpAny_bind (wpAny_pure ?_)
  rw [StateT.run_pure]
  refine wpAny_bind (wpAny_pure ?_)
  dsimp only
  refine wpAny_bind (seqEpoch_at hl2 rfl (wpAny_bind (listUpdate_at hl2 rfl ?_ (hsz2:=by rw [Array.size_map];show (pairsOf vs).size<=_;rw [pairsOf_size];omega))))
  simp only [bne_self_eq_false,Bool.false_eq_true,if_false]
  refine wpAny_pure ?_
  show P _ { s with heap:=hp.update a (Obj.mapSeq fun _=>(vs.toArray.zip vs.toArray).map (·.2)) }
  rw [Zw4 (by simpa using h2)]
  exact fin vs (List.Perm.refl _)
 ·rw [if_neg h2,if_neg h2]
  have h2':2<=vs.length:=by
   have:¬vs.length<2:=by simpa using h2
   omega
  obtain ⟨k1,k2⟩:=hk h2' hp keep
  refine wpAny_bind (k1 _ ?_)
  refine wpAny_bind (wpAny_mono (Zs3 k2 (st:=SortSt.mk' kd (vs.toArray.zip vs.toArray) #[] 7 none) (Q:=fun _ st=>(arrOf st).Perm (pairsOf vs)/\failedOf st=none) ⟨Array.Perm.refl _,rfl,rfl,rfl⟩ fun st z1 z2=>⟨z1,z2⟩) ?_ fun _ _ e=>e)
  rintro ⟨⟨⟩,st⟩ s' ⟨rfl,p1,p2⟩
  dsimp only
  have hsz:(arrOf st).size=vs.length:=p1.size_eq.trans (pairsOf_size _)
  refine wpAny_bind (seqEpoch_at hl2 rfl (wpAny_bind (listUpdate_at hl2 rfl ?_ (hsz2:=by rw [Array.size_map,hsz];omega))))
  rw [p2]
  simp only [bne_self_eq_false,Bool.false_eq_true,if_false]
  refine wpAny_pure ?_
  have pl:(arrOf st).toList.Perm (vs.zip vs):=by rw [<-pairsOf_toList];exact Array.perm_iff_toList_perm.mp p1
  have eo:(arrOf st).map (·.2)=((arrOf st).toList.map (·.2)).toArray:=by rw [<-Array.toList_map,Array.toArray_toList]
  show P _ { s with heap:=hp.update a (Obj.mapSeq fun _=>(arrOf st).map (·.2)) }
  rw [eo]
  exact fin _ ((pl.map _).trans (by rw [List.map_snd_zip (Nat.le_refl _)]))
def Zlx(h:Heap)(v:Value):Prop:=∃(a:Addr) (ob:Obj) (x:Value) (xs:List Value) (n:Nat),v=.ref a/\h.get? a=some ob/\ob.cls=.type "tuple" /\ob.data=.seq (x ::xs).toArray n/\∀y∈x ::xs,∃p t,y=Value.str p t
theorem Zqv{b fin:Bool}{Q:Bool->Shared->Prop}(q:∀b,Q b s):∀(l:List (Value×Value)) (i:Nat),(∀p∈l,(∃x t,p.1=Value.str x t)/\∃x t,p.2=Value.str x t)->PySem.W.KatLex prog w A b fin Q l i s
 | [],_,_=>PySem.W.kat_nil (q _)
 | (u,v) ::l,i,h=>by
  obtain ⟨⟨x,t,rfl⟩,y,t',rfl⟩:=h _ List.mem_cons_self
  refine PySem.W.kat_cons (wpAny_eqBool_str (PySem.W.kat_go (fun _=>PySem.W.kat_yes (Zqv q l (i+1) fun p hp=>h p (List.mem_cons_of_mem _ hp))) fun _=>PySem.W.kat_no ?_))
  cases b && i ==0 with
  | true=>exact oneLt_str (q _)
  | false=>exact Zk5 (q _)
theorem Zt7{vs:List Value}(h:∀v∈vs,Zlx s.heap v):Znh prog w A s (tuples' true) (pairsOf vs):=fun x hx y hy E' Q' q=>by
 have mem:∀x∈pairsOf vs,Zlx s.heap x.1:=fun x hx=>by
  rw [<-Array.mem_toList_iff,pairsOf_toList] at hx
  exact h _ (List.of_mem_zip hx).1
 obtain ⟨a,oa,u,us,n,ea,ga,ca,da,ra⟩:=mem x hx
 obtain ⟨b,ob,v,vs,m,eb,gb,cb,db,rb⟩:=mem y hy
 rw [ea,eb]
 refine PySem.W.kat_lt ga da gb db (Zqv q _ 0 fun p hp=>?_)
 exact ⟨ra _ (by simpa using (List.of_mem_zip hp).1),rb _ (by simpa using (List.of_mem_zip hp).2)⟩
theorem Zrx{vs:List Value}{Q:SortKind->Shared->Prop}(h:∀v∈vs,Zlx s.heap v)(h2:2<=vs.length)(q:Q (tuples' true) s):wpAny (model prog w) A (keyKind' vs.toArray) Q E s:=by
 have all:∀l:List Value,(∀v∈l,Zlx s.heap v)->∃fs,PySem.W.KatTups s.heap l fs/\fs.length=l.length/\∀f∈fs,∃p t,f=Value.str p t:=by
  intro l
  induction l with
  | nil=>exact fun _=>⟨[],PySem.W.KatTups.nil,rfl,fun _ z=>nomatch z⟩
  | cons v l ih =>
   intro h
   obtain ⟨fs,h1,h2,h3⟩:=ih fun v hv=>h v (List.mem_cons_of_mem _ hv)
   obtain ⟨a,oa,u,us,n,rfl,ga,ca,da,ra⟩:=h v List.mem_cons_self
   refine ⟨u ::fs,PySem.W.KatTups.cons ga ca da rfl h1,by rw [List.length_cons,List.length_cons,h2],fun f hf=>?_⟩
   rcases List.mem_cons.mp hf with rfl|hf
   ·exact ra _ List.mem_cons_self
   ·exact h3 f hf
 obtain ⟨fs,h1,e,h3⟩:=all vs h
 refine PySem.W.kat_kind (T:=.type "str") h1 (by omega) (fun v hv=>?_) (by decide) q
 obtain ⟨p,t,rfl⟩:=h3 v hv
 exact .now
end
end L2
end
section
namespace L2
open PySem PySem.Spec PyProof.Rows
theorem Zk2{α β:Type}{R:α->β->Prop}{as as':List α}(p:as'.Perm as):∀{bs:List β},Paired R as bs->∃bs',bs'.Perm bs/\Paired R as' bs':=by
 induction p with
 | nil=>exact fun h=>⟨_,List.Perm.refl _,h⟩
 | cons x _ ih =>
  rintro _ (_|⟨r,t⟩)
  obtain ⟨bs',p,q⟩:=ih t
  exact ⟨_,p.cons _,.cons r q⟩
 | swap x y l =>
  rintro _ (_|⟨r,_|⟨r',t⟩⟩)
  exact ⟨_,.swap _ _ _,.cons r' (.cons r t)⟩
 | trans _ _ ih1 ih2 =>
  intro bs h
  obtain ⟨b1,p1,q1⟩:=ih2 h
  obtain ⟨b2,p2,q2⟩:=ih1 q1
  exact ⟨b2,p2.trans p1,q2⟩
end L2
end
section
namespace L2
open PySem PySem.Spec PyProof.Rows
end L2
end
section
namespace L2
open PySem PySem.Spec PyProof.Rows
section
variable {prog:Program} {w:World} {A:Around} {E:Value->Shared->Prop} {s:Shared}
def Zjx{α:Type}[DecidableEq α](lt:α->α->Bool):List α->List α->Bool
 | [],[]=>false
 | [],_ ::_=>true
 | _ ::_,[]=>false
 | a ::x,b ::y=>if a=b then Zjx lt x y else lt a b
def ltT(a b:Str):Bool:=decide (a.cps.toList<b.cps.toList)
theorem Ze8:∀{ks:List Str} {vs:List Value},ItemsAre (PySem.strKind prog w) ks vs->StrsAre vs ks
 | _,_,.nil=>.nil
 | _,_,.cons h t=>by
  obtain ⟨u,rfl⟩:=Value.isStrOf_shape h
  exact .cons _ _ (Ze8 t)
theorem Zkd{x y:List Str}{a b:Addr}{P:Fin->Shared->Prop}(hx:IsTupleKey (PySem.strKind prog w) s.heap x a)(hy:IsTupleKey (PySem.strKind prog w) s.heap y b)(h:P (.done (.ret (.bool (Zjx ltT x y)))) s) :
  wpAny (model prog w) A (Builtin.«tuple.__lt__» ⟨[.ref a,.ref b],[]⟩) P E s:=by
 have hTb:=hy.typeIs
 obtain ⟨oa,xs,na,hoa,_,hda,hia⟩:=hx
 obtain ⟨ob,ys,nb,hob,_,hdb,hib⟩:=hy
 show wpAny _ _ (isInstance (.ref b) (.type "tuple") >>=_) _ _ s
 refine wpAny_bind (wpAny_isInstance hTb isSubtype_tuple_tuple ?_)
 simp only [Bool.not_true,Bool.false_eq_true,if_false]
 refine wpAny_bind (wpAny_tupleItemsOf hoa hda (wpAny_bind (wpAny_tupleItemsOf hob hdb (wpAny_bind ?_))))
 have hia:=Ze8 hia
 have hib:=Ze8 hib
 refine wpAny_forIn_list _ (fun Z5 r s'=>r.1=none/\s'=s/\∃x' y' xs' ys',Z5=List.zip xs' ys'/\StrsAre xs' x'/\StrsAre ys' y'/\Zjx ltT x' y'=Zjx ltT x y/\decide (xs'.length<ys'.length)=decide (xs.size<ys.size)) _ ?_ ?_ _ _ ⟨rfl,rfl,x,y,xs.toList,ys.toList,rfl,hia,hib,rfl,by simp⟩
 ·rintro ⟨u,v⟩ Z5 r s' ⟨hr,rfl,x',y',xs',ys',hz,hx',hy',hdec,hlen⟩
  cases hx' with
  | nil=>simp at hz
  | cons k1 t1 hx'' =>
   cases hy' with
   | nil=>simp at hz
   | cons k2 t2 hy'' =>
    simp only [List.zip_cons_cons,List.cons.injEq,Prod.mk.injEq] at hz
    obtain ⟨⟨rfl,rfl⟩,rfl⟩:=hz
    refine wpAny_bind (wpAny_eqBool_str ?_)
    by_cases hk:k1=k2
    ·rw [decide_eq_true hk]
     simp only [Bool.not_true,Bool.false_eq_true,if_false]
     refine wpAny_pure ⟨rfl,rfl,_,_,_,_,rfl,hx'',hy'',?_,by simpa using hlen⟩
     rw [<-hdec]
     exact (if_pos hk).symm
    ·rw [decide_eq_false hk]
     simp only [Bool.not_false,if_true]
     have hf:ltT k1 k2=Zjx ltT x y:=by rw [<-hdec];exact (if_neg hk).symm
     refine wpAny_bind (wpAny_rule (wpAny_bind (wpAny_richCompare_same (op:=.Lt) (typeIs_str s' k1 t1) (typeIs_str s' k2 t2) slot_str_lt (call_str_lt ⟨(fun z=>nomatch z),?_⟩))))
     rw [<-hf] at h
     exact wpAny_bind (wpAny_pure (wpAny_pure (wpAny_pure h)))
 ·rintro ⟨r1,r2⟩ s' ⟨hr,rfl,x',y',xs',ys',hz,hx',hy',hdec,hlen⟩
  simp only at hr
  subst hr
  refine wpAny_pure ?_
  have hfin:decide (xs.size<ys.size)=Zjx ltT x y:=by
   rw [<-hdec,<-hlen]
   cases hx' with
   | nil =>
    cases hy' with
    | nil=>simp [Zjx]
    | cons _ _ _=>simp [Zjx]
   | cons _ _ _ =>
    cases hy' with
    | nil=>simp [Zjx]
    | cons _ _ _=>simp at hz
  show P (.done (.ret (.bool (decide (xs.size<ys.size))))) s'
  rw [hfin]
  exact h
theorem Zr3{x y:List Str}{a b:Addr}{Q:Bool->Shared->Prop}(hu:A.units<cLine)(hx:IsTupleKey (PySem.strKind prog w) s.heap x a)(hy:IsTupleKey (PySem.strKind prog w) s.heap y b)(h:Q (Zjx ltT x y) s):wpAny (model prog w) A (oneLt' false (.ref a) (.ref b)) Q E s:=by
 rw [oneLt'_eq]
 simp only [Bool.false_eq_true,if_false]
 exact wpAny_bind (wpAny_richCompare_same_room (op:=.Lt) hx.typeIs hy.typeIs PySem.F.slot_tuple_lt (wpAny_call_entry PySem.F.slot_tuple_lt hx.typeIs PySem.F.entry_tuple_lt (Zkd hx hy ⟨_,rfl,(fun e=>nomatch e),wpAny_truthy_bool h⟩) (PySem.F.args_tuple_lt_2 _ _)) hu)
end
end L2
end
section
namespace L2
open PySem PySem.Spec PyProof.Rows
def Zui(K:Frag):R2:=fun x y H Q=>∃a b xs ys,x=.ref a/\y=.ref b/\SqT K H a xs/\SqT K H b ys/\xs≠[]/\ys≠[]/\xs.length+ys.length<=sizeLine/\New H (.tup (xs++ys)) Q
theorem Zni{X:Cx}:OpR X (binaryOp .Add) (Zui X.K):=Zqo.imp fun x y H Q ⟨a,b,xs,ys,h1,h2,h3,h4,h5,h6,h7,h8⟩=>⟨a,b,xs,ys,h1,h2,h3,h4,h5,h7,fun z=>absurd z h6,fun _ p hp=>h8.at p hp⟩
section
variable {prog:Program} {w:World} {A:Around} {E:Value->Shared->Prop} {s:Shared}
def RtV(prog:Program)(w:World)(h:Heap)(v:Value):Prop:=∃(a:Addr) (ob:Obj) (p:Str) (t:Tok) (xs:List Value) (n:Nat),v=.ref a/\h.get? a=some ob/\ob.cls=.type "tuple" /\ob.data=.seq (.str p t ::xs).toArray n/\∀y∈xs,∃b ks,y=Value.ref b/\IsTupleKey (PySem.strKind prog w) h ks b
theorem RtV.mono{h h':Heap}{v:Value} (k:∀b ob,ob.cls=.type "tuple" ->h.get? b=some ob->h'.get? b=some ob) (x:RtV prog w h v):RtV prog w h' v:=by
 obtain ⟨a,ob,p,t,xs,n,e,f,c,d,r⟩:=x
 refine ⟨a,ob,p,t,xs,n,e,k a ob c f,c,d,fun y hy=>?_⟩
 obtain ⟨b,ks,e2,o,its,m,h1,h2,h3⟩:=r y hy
 exact ⟨b,ks,e2,o,its,m,k b o h2 h1,h2,h3⟩
theorem Zoo{fin:Bool}{Q:Bool->Shared->Prop}(hu:A.units<cLine)(q:∀b,Q b s):∀(l:List (Value×Value)) (i:Nat),(∀p∈l,(∃b ks,p.1=Value.ref b/\IsTupleKey (PySem.strKind prog w) s.heap ks b)/\∃b ks,p.2=Value.ref b/\IsTupleKey (PySem.strKind prog w) s.heap ks b)->PySem.W.KatLex prog w A true fin Q l (i+1) s
 | [],_,_=>PySem.W.kat_nil (q _)
 | (u,v) ::l,i,h=>by
  obtain ⟨⟨b,ks,e1,k1⟩,c,ms,e2,k2⟩:=h _ List.mem_cons_self
  have e1:u=.ref b:=e1
  have e2:v=.ref c:=e2
  subst e1 e2
  exact PySem.W.kat_cons (wpAny_eqBool_tuple hu k1 k2 (PySem.W.kat_go (fun _=>PySem.W.kat_yes (Zoo hu q l (i+1) fun p hp=>h p (List.mem_cons_of_mem _ hp))) fun _=>PySem.W.kat_no (show wpAny _ _ (oneLt' false (.ref b) (.ref c)) _ _ _ from Zr3 hu k1 k2 (q _))))
theorem Znd:∀{ks:List Str} {vs:List Value},StrsAre vs ks->ItemsAre (PySem.strKind prog w) ks vs
 | _,_,.nil=>.nil
 | _,_,.cons x t h=>.cons (by simp [PySem.strKind,Value.isStrOf]) (Znd h)
theorem Zw1{vs:List Value}(hu:A.units<cLine)(h:∀v∈vs,RtV prog w s.heap v):Znh prog w A s (tuples' true) (pairsOf vs):=fun x hx y hy E' Q' q=>by
 have mem:∀x∈pairsOf vs,RtV prog w s.heap x.1:=fun x hx=>by
  rw [<-Array.mem_toList_iff,pairsOf_toList] at hx
  exact h _ (List.of_mem_zip hx).1
 obtain ⟨a,oa,p,t,us,n,ea,ga,ca,da,ra⟩:=mem x hx
 obtain ⟨b,ob,p',t',vs,m,eb,gb,cb,db,rb⟩:=mem y hy
 rw [ea,eb]
 refine PySem.W.kat_lt ga da gb db ?_
 show PySem.W.KatLex prog w A true _ Q' ((.str p t,.str p' t') ::us.zip vs) 0 s
 exact PySem.W.kat_cons (wpAny_eqBool_str (PySem.W.kat_go (fun _=>PySem.W.kat_yes (Zoo hu q _ 0 fun z hz=>⟨ra _ (List.of_mem_zip hz).1,rb _ (List.of_mem_zip hz).2⟩)) fun _=>PySem.W.kat_no (oneLt_str (q _))))
theorem Zt4{vs:List Value}{Q:SortKind->Shared->Prop}(h:∀v∈vs,RtV prog w s.heap v)(h2:2<=vs.length)(q:Q (tuples' true) s):wpAny (model prog w) A (keyKind' vs.toArray) Q E s:=by
 have all:∀l:List Value,(∀v∈l,RtV prog w s.heap v)->∃fs,PySem.W.KatTups s.heap l fs/\fs.length=l.length/\∀f∈fs,∃p t,f=Value.str p t:=by
  intro l
  induction l with
  | nil=>exact fun _=>⟨[],PySem.W.KatTups.nil,rfl,fun _ z=>nomatch z⟩
  | cons v l ih =>
   intro h
   obtain ⟨fs,h1,h2,h3⟩:=ih fun v hv=>h v (List.mem_cons_of_mem _ hv)
   obtain ⟨a,oa,p,t,us,n,rfl,ga,ca,da,ra⟩:=h v List.mem_cons_self
   refine ⟨.str p t ::fs,PySem.W.KatTups.cons ga ca da rfl h1,by rw [List.length_cons,List.length_cons,h2],fun f hf=>?_⟩
   rcases List.mem_cons.mp hf with rfl|hf
   ·exact ⟨p,t,rfl⟩
   ·exact h3 f hf
 obtain ⟨fs,h1,e,h3⟩:=all vs h
 refine PySem.W.kat_kind (T:=.type "str") h1 (by omega) (fun v hv=>?_) (by decide) q
 obtain ⟨p,t,rfl⟩:=h3 v hv
 exact .now
end
theorem Zjc{X:Cx}(hu:X.A.units+64<cLine){pins:List (Addr×Obj)}{s:Shared}{σ:St}{H:Hp}{Q:VK}{p:Addr}{ts:List Addr}(I:Inv X pins σ H s)(pl:PlainL s.heap p (ts.map Value.ref).toArray)(hzl:(ts.map Value.ref).length<=sizeLine){Pv:Heap->Value->Prop}(tx:∀v∈ts.map Value.ref,Pv s.heap v)
  (pm:∀{h h':Heap} {v:Value},(∀b ob,ob.cls=.type "tuple" ->h.get? b=some ob->h'.get? b=some ob)->Pv h v->Pv h' v)
  (pk:∀{A:Around} {E:Value->Shared->Prop} {s:Shared} {vs:List Value} {Q:SortKind->Shared->Prop},(∀v∈vs,Pv s.heap v)->2<=vs.length->Q (tuples' true) s->wpAny (model X.prog X.w) A (keyKind' vs.toArray) Q E s)
  (pa:∀{A:Around} {s:Shared} {vs:List Value},A.units<cLine->(∀v∈vs,Pv s.heap v)->Znh X.prog X.w A s (tuples' true) (pairsOf vs))
  (q:∀ts':List Addr,ts'.Perm ts->New H (.lst (ts'.map V.ref)) Q):wpAny (model X.prog X.w) X.A (call (.builtin "sorted") [.ref p]) (EP X pins σ Q) X.xe s:=by
 refine Calls.call_function_entry kind_sorted plain_sorted entry_sorted (args_sorted1 _) ?_
 unfold Builtin.«sorted»
 refine wpAny_bind (m:=checkCount "sorted" 1 1 _) (wpAny_pure (wpAny_bind (collect_list pl.isList (hsz:=hzl) (wpAny_bind (wpAny_newList (hsz:=hzl) ?_)))))
 generalize hV:ts.map Value.ref=vs at tx hzl pl ⊢
 have hs:((s.heap.push (seqObj "list" #[] 0)).update s.heap.objs.size (Obj.mapSeq (· ++ vs.toArray))).objs.size=s.heap.objs.size+1:=by rw [Heap.size_update,size_push']
 have hL:(((s.heap.push (seqObj "list" #[] 0)).update s.heap.objs.size (Obj.mapSeq (· ++ vs.toArray))).push (seqObj "list" vs.toArray 0)).get? (s.heap.objs.size+1)=some (seqObj "list" vs.toArray 0):=by
  rw [<-hs];exact Heap.get?_push_size _ rfl
 have kp:∀b o,s.heap.get? b=some o->(((s.heap.push (seqObj "list" #[] 0)).update s.heap.objs.size (Obj.mapSeq (· ++ vs.toArray))).push (seqObj "list" vs.toArray 0)).get? b=some o:=fun b o hb=>by
  have lt:=Heap.lt_size hb
  rw [Heap.get?_push_ne _ _ _ (by rw [hs];exact Nat.ne_of_lt (Nat.lt_succ_of_lt lt)),Heap.get?_update_other _ _ (Nat.ne_of_gt lt)]
  exact Heap.get?_push_of_some _ hb
 show wpAny _ _ _ _ _ { s with heap:=((s.heap.push (seqObj "list" #[] 0)).update s.heap.objs.size (Obj.mapSeq (· ++ vs.toArray))).push (seqObj "list" vs.toArray 0) }
 rw [hs]
 have fin:∀out:List Value,out.Perm vs->∃y H',Inv X pins σ H' { s with heap:=sortedAll s.heap vs out.toArray }/\Yl y (.ref (s.heap.objs.size+1))/\Q y H':=fun out hp2=>by
  subst hV
  have eo:out=(out.map Zlb).map Value.ref:=Zlr fun v hv=>hp2.mem_iff.mp hv
  have hperm:(out.map Zlb).Perm ts:=by
   have:=hp2.map Zlb
   rw [List.map_map,show (Zlb ∘ Value.ref)=id from rfl,List.map_id] at this
   exact this
  generalize hA:out.map Zlb=as' at eo hperm
  subst eo
  obtain ⟨e,he⟩:=sortedAll_at s.heap (ts.map Value.ref) (as'.map Value.ref).toArray
  have hl:=hperm.length_eq
  rw [List.length_map] at hzl
  exact ⟨.ref (s.heap.objs.size+1),_,I.laid (a:=s.heap.objs.size+1) (o:=.lst (as'.map V.ref)) (t':=s.toks) (fun b o h=>sortedAll_old h) (Nat.le_succ _) (show Yn X.prog X.w _ _ _ (.lst _) from ⟨by rw [List.length_map];omega,as'.map Value.ref,e,Zk1 _,he⟩),rfl,(q as' hperm).at _ (I.hok.fresh (Nat.le_succ _))⟩
 unfold sortedAll at fin
 generalize hG:((s.heap.push (seqObj "list" #[] 0)).update s.heap.objs.size (Obj.mapSeq (· ++ vs.toArray))).push (seqObj "list" vs.toArray 0)=hp at hL kp fin ⊢
 have so:∀(A:Around) (E:Value->Shared->Prop) (P:Fin->Shared->Prop),A.units<cLine->(∀out:List Value,out.Perm vs->P (.done (.ret .none)) { s with heap:=sortedHeap hp (s.heap.objs.size+1) vs out.toArray })->wpAny (model X.prog X.w) A (Builtin.«list.sort» ⟨[.ref (s.heap.objs.size+1)],[]⟩) P E { s with heap:=hp }:=fun A E P hA h =>
  have mono:∀h2:Heap,(∀b ob,b≠s.heap.objs.size+1->hp.get? b=some ob->h2.get? b=some ob)->∀v∈vs,Pv h2 v:=fun h2 k v hv=>pm (fun b ob c hb=>k b ob (fun z=>by
   have:=Heap.lt_size hb
   rw [z] at this
   exact absurd this (Nat.not_lt.mpr (Nat.le_succ _))) (kp b ob hb)) (tx v hv)
  Zs9 (s:={ s with heap:=hp }) (kd:=tuples' true) hL hzl (fun l2 h2 k=>⟨fun Q q=>pk (s:={ s with heap:=h2 }) (mono h2 k) l2 q,pa (s:={ s with heap:=h2 }) hA (mono h2 k)⟩) h
 exact wpAny_bind (wpAny_holding (wpAny_call_entry slot_list_sort ⟨_,hL,rfl⟩ entry_list_sort (so _ _ _ (by simp only [Xv];omega) fun out hp2=>⟨_,rfl,wpAny_pure ⟨_,rfl,fin out hp2⟩⟩) (args_list_sort _)))
def Zuj(K:Frag):List V->Hp->VK->Prop:=fun xs H Q=>∃(p:Addr) (ts:List Addr),xs=[.ref p]/\SqL K H p (ts.map V.ref)/\(∀t∈ts,∃(sig:Str) (us:List Addr),H t=some (.tup (.str sig ::us.map V.ref))/\∀u∈us,∃l:List Str,H u=some (.tup (l.map V.str)))/\∀ts':List Addr,ts'.Perm ts->New H (.lst (ts'.map V.ref)) Q
theorem Zpe{X:Cx}(hu:X.A.units+64<cLine):Xo X (.builtin "sorted") (Zuj X.K):=by
 intro pins s σ H xs us Q I r h
 obtain ⟨p,ts,rfl,hp,hf,q⟩:=h
 obtain ⟨u,rfl,rx⟩:=Zc5 r
 cases rx
 obtain ⟨its,rv,pl,hz⟩:=I.list hp
 have hits:=Zec rv
 subst hits
 have hzl:(ts.map Value.ref).length<=sizeLine:=by rw [List.length_map] at hz ⊢;exact hz
 have tx:∀v∈ts.map Value.ref,RtV X.prog X.w s.heap v:=fun v hv=>by
  obtain ⟨t,ht,rfl⟩:=List.mem_map.mp hv
  obtain ⟨sig,us,h1,h2⟩:=hf t ht
  obtain ⟨_,its,rl,o2,f1,f2,m,f3⟩:=(show Yn X.prog X.w H s.heap t (.tup (.str sig ::us.map V.ref)) from I.hok _ _ h1)
  cases rl with
  | cons z zs =>
   obtain ⟨tk,rfl⟩:=z
   have hits:=Zec zs
   subst hits
   refine ⟨t,o2,sig,tk,_,m,rfl,f1,f2,f3,fun y hy=>?_⟩
   obtain ⟨u,hu2,rfl⟩:=List.mem_map.mp hy
   obtain ⟨l,hl⟩:=h2 u hu2
   obtain ⟨_,ws,rw',o3,g1,g2,m3,g3⟩:=(show Yn X.prog X.w H s.heap u (.tup (l.map V.str)) from I.hok _ _ hl)
   exact ⟨u,l,rfl,o3,ws.toArray,m3,g1,g2,g3,by simpa using Znd (Zfz rw')⟩
 exact Zjc hu I pl hzl tx RtV.mono Zt4 Zw1 q
theorem Zlx.up{h h':Heap}{v:Value} (k:∀b ob,ob.cls=.type "tuple" ->h.get? b=some ob->h'.get? b=some ob) (x:Zlx h v):Zlx h' v:=let ⟨b,ob,y,ys,m,e,f,c,d,r⟩:=x;⟨b,ob,y,ys,m,e,k b ob c f,c,d,r⟩
theorem Zua{ks:List Str}{vs:List Value}(h:StrsAre vs ks):∀y∈vs,∃p t,y=Value.str p t:=by
 induction h with
 | nil=>intro y hy;cases hy
 | cons x t _ ih =>
  intro y hy
  rcases List.mem_cons.mp hy with rfl|hy
  ·exact ⟨_,_,rfl⟩
  ·exact ih y hy
def Ztu(K:Frag):List V->Hp->VK->Prop:=fun xs H Q=>∃(p:Addr) (ts:List Addr),xs=[.ref p]/\SqL K H p (ts.map V.ref)/\(∀t∈ts,∃(x:Str) (l:List Str),H t=some (.tup ((x ::l).map V.str)))/\∀ts':List Addr,ts'.Perm ts->New H (.lst (ts'.map V.ref)) Q
theorem Zo6{X:Cx}(hu:X.A.units+64<cLine):Xo X (.builtin "sorted") (Ztu X.K):=by
 intro pins s σ H xs us Q I r h
 obtain ⟨p,ts,rfl,hp,hf,q⟩:=h
 obtain ⟨u,rfl,rx⟩:=Zc5 r
 cases rx
 obtain ⟨its,rv,pl,hz⟩:=I.list hp
 have hits:=Zec rv
 subst hits
 have hzl:(ts.map Value.ref).length<=sizeLine:=by rw [List.length_map] at hz ⊢;exact hz
 have tx:∀v∈ts.map Value.ref,Zlx s.heap v:=fun v hv=>by
  obtain ⟨t,ht,rfl⟩:=List.mem_map.mp hv
  obtain ⟨x,l,h1⟩:=hf t ht
  obtain ⟨_,its,rl,o2,f1,f2,m,f3⟩:=(show Yn X.prog X.w H s.heap t (.tup ((x ::l).map V.str)) from I.hok _ _ h1)
  cases rl with
  | cons z zs =>
   obtain ⟨tk,rfl⟩:=z
   refine ⟨t,o2,_,_,m,rfl,f1,f2,f3,fun y hy=>?_⟩
   rcases List.mem_cons.mp hy with rfl|hy
   ·exact ⟨_,_,rfl⟩
   ·exact Zua (Zfz zs) y hy
 exact Zjc hu I pl hzl tx Zlx.up Zrx (fun _=>Zt7) q
end L2
end
section
namespace L2
open PySem PySem.Spec PyProof.Rows
def Zn7(K:Frag):R2:=fun x y H Q=>∃(p l:Addr) (xs:List V) (ss:List Str),x=.ref l/\y=.ref p/\SqL K H p (ss.map V.str)/\SqT K H l xs/\Q (.bl true) H
theorem Zpc{X:Cx}(hu:X.A.units+64<cLine):OpR X (compareOp .NotIn) (Zn7 X.K):=by
 intro pins s σ H x y v u Q I rx ry h
 obtain ⟨p,l,xs,ss,rfl,rfl,hq,hl,q⟩:=h
 cases ry
 cases rx
 obtain ⟨its,r,pl,hz⟩:=I.list hq
 obtain ⟨its',r',pl',hz'⟩:=I.tuple hl
 have hS:=Zfz r
 refine SeqAt.notIn_listAt (fun _=>false) pl.isList (fun w hw=>?_) ⟨.bl _,H,I,rfl,?_⟩
 ·have hw:w∈its:=by simpa using hw
  have all:∀{ss:List Str} {its:List Value},StrsAre its ss->∀w∈its,∃x t,w=.str x t:=fun h=>by
   induction h with
   | nil=>intro w hw;cases hw
   | cons x t _ ih =>
    intro w hw
    rcases List.mem_cons.mp hw with z|z
    ·exact ⟨_,_,z⟩
    ·exact ih w z
  obtain ⟨x,t,rfl⟩:=all hS w hw
  exact SeqAt.EqAt.str_tuple x t pl' (by rw [Xv];omega)
 ·rw [show its.toArray.any (fun _=>false)=false by simp]
  exact q
def Zmg(K:Frag):R2:=fun x y H Q=>Zqz K x y H Q\/Zn7 K x y H Q
theorem Zvp{X:Cx}{k:Nat}(hr:Zao k X.A):OpR X (compareOp .NotIn) (Zmg X.K):=(Zw2 hr).or (Zpc hr.units)
theorem Zmb{X:Cx}:OpR X (compareOp .IsNot) (fun x y H Q=>∃b c,x=.bl b/\y=.bl c/\Q (.bl (b !=c)) H):=by
 intro pins s σ H x y v u Q I rx ry h
 obtain ⟨b,c,rfl,rfl,q⟩:=h
 cases rx
 cases ry
 exact PyProof.Rows.isnot_bool ⟨.bl (b !=c),H,I,rfl,q⟩
end L2
end
section
namespace L2
open PySem PySem.Spec PyProof.Rows
def Zmc(K:Frag):R2:=fun x y H Q=>∃a b xs ys,x=.ref a/\y=.ref b/\H a=some (.tup xs)/\H b=some (.tup ys)/\xs≠[]/\xs.length+ys.length<=sizeLine/\∀c H',Same H H'->H' c=some (.tup (xs++ys))->Q (.ref c) H'
theorem Yu{X:Cx}:OpR X (binaryOp .Add) (Zmc X.K):=Zqo.imp fun x y H Q ⟨a,b,xs,ys,h1,h2,h3,h4,h5,h6,h7⟩=>⟨a,b,xs,ys,h1,h2,SqT.of h3,SqT.of h4,h5,h6,fun z=>h7 a H (Same.refl _) (by rw [z,List.append_nil];exact h3),fun _ p hp=>h7 p _ (Same.new hp) Zh⟩
def Zuy(K:Frag):List V->Hp->VK->Prop:=fun xs H Q=>∃p ys,xs=[.ref p]/\SqL K H p ys/\New H (.tup ys) Q
theorem Zha{X:Cx}:Xo X (.type "tuple") (Zuy X.K):=Zeo.imp fun xs H Q ⟨p,ys,h1,h2,h3⟩=>⟨p,ys,h1,.inl ⟨h2,fun l hl=>h3.at l hl⟩⟩
end L2
end
section
namespace YM
open PySem L2 NM
def Zes(c k:Int):Int:=((c+7919 * k) * 48271%2147483647) * ((c+7919 * k) * 48271%2147483647+2 * k+1)%2147483629
theorem Ztr(c k:Int):0<=Zes c k:=Int.emod_nonneg _ (by decide)
theorem Zu2(c k:Int):Zes c k<2147483629:=Int.emod_lt_of_pos _ (by decide)
def Zm0(ns:List Int)(k:Nat):Int:=match ns[k]? with
 | some c=>Zes c k
 | none=>0
abbrev Zc:=Str×Str
def Yc(k:Str):List Str:=if k = "points" then ["stem", "left", "right"] else if k = "cross" then ["a", "b", "c", "d"] else if k = "plain" then ["a", "b"] else ["a"]
def Zdc(i:Int):Nat:=Zf3.getD i.toNat 0
def Zej(k:Nat):Str:=toString (k:Int)
def Ys(kind:Str)(c:Int)(k:Nat):Str:=if c%3=0 then ⟨#[kind.cps.toList.getD 0 0]⟩++Zej k else (⟨#[Zdc (c / 3%26)]⟩++⟨#[Zdc (c / 78%26)]⟩)++Zga "0" (c / 2028%3).toNat++Zej k
theorem Zfo:∀k,k<100->(Zej k).length<=2:=by trivial
theorem Zm9{k:Nat}(h:k<100):(k:Int).natAbs.log2<1920:=by
 rw [Int.natAbs_natCast]
 refine Nat.lt_of_le_of_lt (Nat.log2_le_self k) (by omega)
def Zen(a c:Nat):Nat:=if 48<=c/\c<=57 then a * 10+(c-48) else 0
def Zht(s:Str):Nat:=s.cps.toList.foldl Zen 0
theorem Zml:∀k,k<100->Zht (Zej k)=k:=by trivial
theorem Zfw:∀k,k<100->0<(Zej k).length:=by trivial
theorem Ztl:∀m,m<3->(Zga "0" m).cps.toList.foldl Zen 0=0:=by trivial
theorem Ztk:∀m,m<3->(Zga "0" m).length=m:=by trivial
theorem Zw5:∀i,i<26->97<=Zf3.getD i 0/\Zf3.getD i 0<=122:=by trivial
theorem Zku{i:Int}(h0:0<=i)(h1:i<26):97<=Zdc i/\Zdc i<=122:=Zw5 i.toNat (by omega)
theorem Zb6(x y:Str):(x++y).cps.toList=x.cps.toList++y.cps.toList:=PySem.W.KT.app_list x y
theorem Zcs{kind:Str}{c:Int}{k:Nat}(hk:57<kind.cps.toList.getD 0 0)(h:k<100):Zht (Ys kind c k)=k:=by
 have hbig:∀a c,57<c->Zen a c=0:=fun a c h=>by unfold Zen;rw [if_neg (by omega)]
 unfold Ys
 split
 ·unfold Zht
  rw [Zb6,List.foldl_append]
  show List.foldl Zen (Zen 0 (kind.cps.toList.getD 0 0)) _=k
  rw [hbig _ _ hk]
  exact Zml k h
 ·have a0:=Int.emod_nonneg (c / 3) (show (26:Int)≠0 by decide)
  have a1:=Int.emod_lt_of_pos (c / 3) (show (0:Int)<26 by decide)
  have b0:=Int.emod_nonneg (c / 78) (show (26:Int)≠0 by decide)
  have b1:=Int.emod_lt_of_pos (c / 78) (show (0:Int)<26 by decide)
  have z0:=Int.emod_nonneg (c / 2028) (show (3:Int)≠0 by decide)
  have z1:=Int.emod_lt_of_pos (c / 2028) (show (0:Int)<3 by decide)
  unfold Zht
  rw [Zb6,Zb6,Zb6,List.foldl_append,List.foldl_append,List.foldl_append]
  show List.foldl Zen (List.foldl Zen (Zen (Zen 0 (Zdc (c / 3%26))) (Zdc (c / 78%26))) _) _=k
  rw [hbig _ (Zdc (c / 78%26)) (by have:=Zku b0 b1;omega),Ztl _ (by omega)]
  exact Zml k h
theorem Zcm{kind:Str}{c:Int}{k:Nat}(h:k<100):2<=(Ys kind c k).length:=by
 have:=Zfw k h
 unfold Ys
 split
 ·rw [PySem.Str.length_append]
  show 2<=1+_
  omega
 ·rw [PySem.Str.length_append,PySem.Str.length_append,PySem.Str.length_append]
  show 2<=1+1+_+_
  omega
theorem Zsy{kind:Str}{c:Int}{k:Nat}(h:k<100):(Ys kind c k).length<=6:=by
 have:=Zfo k h
 unfold Ys
 split
 ·rw [PySem.Str.length_append]
  show 1+_<=6
  omega
 ·have z0:=Int.emod_nonneg (c / 2028) (show (3:Int)≠0 by decide)
  have z1:=Int.emod_lt_of_pos (c / 2028) (show (0:Int)<3 by decide)
  rw [PySem.Str.length_append,PySem.Str.length_append,PySem.Str.length_append,Ztk _ (by omega)]
  show 1+1+_+_<=6
  omega
def Yb(ps:List Zc):List Zc:=ps.flatMap fun p=>(Yc p.1).map fun e=>(p.2,e)
def Y0(js:List (Zc×Zc)):List Zc:=js.flatMap fun j=>[j.1,j.2]
theorem Zfc(a b:List Zc):Yb (a++b)=Yb a++Yb b:=List.flatMap_append ..
theorem Zco(a b:List (Zc×Zc)):Y0 (a++b)=Y0 a++Y0 b:=List.flatMap_append ..
def Wh:List Str:=["plain", "points", "cross", "gate", "stop"]
structure Net(ps:List Zc)(js:List (Zc×Zc))(opn:List Zc):Prop where
 perm:(Y0 js++opn).Perm (Yb ps)
 nd:(ps.map Prod.snd).Nodup
 apart:∀j∈js,j.1.1≠j.2.1
 kind:∀p∈ps,p.1∈Wh
inductive Zbi(n1 n2 n3 n4:Str):List Zc->List (Zc×Zc)->Zc->Zc->Prop
 | plain (a b:Str) (h:(a,b)∈[(("a" :Str),("b" :Str)),("b", "a")]):Zbi n1 n2 n3 n4 [("plain",n1)] [] (n1,a) (n1,b)
 | loop (a b:Str) (h:(a,b)∈[(("left" :Str),("right" :Str)),("right", "left")]):Zbi n1 n2 n3 n4 [("points",n1),("plain",n2),("plain",n3),("points",n4)] [((n1, "left"),(n2, "a")),((n1, "right"),(n3, "a")),((n2, "b"),(n4,a)),((n4,b),(n3, "b"))] (n1, "stem") (n4, "stem")
 | siding (x a b k:Str) (h:[x,a,b].Perm ["stem", "left", "right"]) (hk:k∈[("stop" :Str), "gate"]):Zbi n1 n2 n3 n4 [("points",n1),("plain",n2),(k,n3)] [((n1,x),(n2, "b")),((n2, "a"),(n3, "a"))] (n1,a) (n1,b)
 | cross (k:Str) (hk:k∈[("gate" :Str), "stop"]):Zbi n1 n2 n3 n4 [("cross",n1),("gate",n2),(k,n3)] [((n1, "c"),(n2, "a")),((n3, "a"),(n1, "d"))] (n1, "a") (n1, "b")
theorem Zib{α:Type}{d:α}{l m:List α}(is:List Nat)(h:is.Perm (List.range m.length))(e:l=is.map fun i=>m.getD i d):l.Perm m:=by
 have h2:((List.range m.length).map fun i=>m.getD i d)=m:=by
  apply List.ext_getElem
  ·simp
  ·intro i h1 h3
   simp [List.getD_eq_getElem?_getD,h3]
 rw [e]
 exact (h.map _).trans (by rw [h2])
theorem Zbi.sub{n1 n2 n3 n4:Str}{ps:List Zc}{js:List (Zc×Zc)}{a b:Zc}(h:Zbi n1 n2 n3 n4 ps js a b):(ps.map Prod.snd).Sublist [n1,n2,n3,n4]:=by
 cases h with
 | plain=>exact .cons_cons _ (List.nil_sublist _)
 | loop=>exact List.Sublist.refl _
 | siding=>exact .cons_cons _ (.cons_cons _ (.cons_cons _ (List.nil_sublist _)))
 | cross=>exact .cons_cons _ (.cons_cons _ (.cons_cons _ (List.nil_sublist _)))
theorem Zeb{k:Str} (hk:k = "gate" \/k = "stop"):Yc k=[("a" :Str)]:=by rcases hk with rfl|rfl <;>decide +kernel
theorem Zg4:Yc "points" =[("stem" :Str), "left", "right"]:=by trivial
theorem Zdo:Yc "plain" =[("a" :Str), "b"]:=by trivial
theorem Zpp:Yc "cross" =[("a" :Str), "b", "c", "d"]:=by trivial
theorem Zbi.perm{n1 n2 n3 n4:Str}{ps:List Zc}{js:List (Zc×Zc)}{a b:Zc}(h:Zbi n1 n2 n3 n4 ps js a b):(Y0 js++[a,b]).Perm (Yb ps):=by
 cases h with
 | plain a b h =>
  simp only [List.mem_cons,List.mem_nil_iff,or_false,Prod.mk.injEq] at h
  rcases h with ⟨rfl,rfl⟩|⟨rfl,rfl⟩
  ·simp [Y0,Yb,Zdo]
  ·simp only [Y0,Yb,Zdo,List.flatMap_nil,List.flatMap_cons,List.map_cons,List.map_nil,List.nil_append,List.append_nil]
   exact List.Perm.swap _ _ _
 | loop a b h =>
  have he:Yb [("points",n1),("plain",n2),("plain",n3),("points",n4)]=([(n1, "stem"),(n1, "left"),(n1, "right"),(n2, "a"),(n2, "b"),(n3, "a"),(n3, "b"),(n4, "stem"),(n4, "left"),(n4, "right")]:List Zc):=by simp [Yb,Zg4,Zdo]
  rw [he]
  simp only [List.mem_cons,List.mem_nil_iff,or_false,Prod.mk.injEq] at h
  rcases h with ⟨rfl,rfl⟩|⟨rfl,rfl⟩
  ·exact Zib (d:=(n1,n1)) [1,3,2,5,4,8,9,6,0,7] (show List.Perm _ (List.range 10) by decide) rfl
  ·exact Zib (d:=(n1,n1)) [1,3,2,5,4,9,8,6,0,7] (show List.Perm _ (List.range 10) by decide) rfl
 | siding x a b k h hk =>
  have hk':k = "gate" \/k = "stop" :=by
   simp only [List.mem_cons,List.mem_nil_iff,or_false] at hk
   exact hk.symm
  have he:Yb [("points",n1),("plain",n2),(k,n3)]=([("stem" :Str), "left", "right"].map fun e=>(n1,e))++([(n2, "a"),(n2, "b"),(n3, "a")]:List Zc):=by simp [Yb,Zg4,Zdo,Zeb hk']
  rw [he]
  refine List.Perm.trans ?_ (List.Perm.append_right _ (h.map fun e=>(n1,e)))
  exact Zib (d:=(n1,n1)) [0,4,3,5,1,2] (show List.Perm _ (List.range 6) by decide) rfl
 | cross k hk =>
  have hk':k = "gate" \/k = "stop" :=by
   simp only [List.mem_cons,List.mem_nil_iff,or_false] at hk
   exact hk
  have he:Yb [("cross",n1),("gate",n2),(k,n3)]=([(n1, "a"),(n1, "b"),(n1, "c"),(n1, "d"),(n2, "a"),(n3, "a")]:List Zc):=by simp [Yb,Zpp,Zeb hk',Zeb (k := "gate") (.inl rfl)]
  rw [he]
  exact Zib (d:=(n1,n1)) [2,4,5,3,0,1] (show List.Perm _ (List.range 6) by decide) rfl
theorem Zbi.kind{n1 n2 n3 n4:Str}{ps:List Zc}{js:List (Zc×Zc)}{a b:Zc}(h:Zbi n1 n2 n3 n4 ps js a b):∀p∈ps,p.1∈Wh:=by
 cases h with
 | plain=>intro p hp;simp at hp;subst hp;simp [Wh]
 | loop=>intro p hp;simp at hp;rcases hp with rfl|rfl|rfl|rfl <;>simp [Wh]
 | siding x a b k h hk=>intro p hp;simp at hp hk;rcases hp with rfl|rfl|rfl <;>rcases hk with rfl|rfl <;>simp [Wh]
 | cross k hk=>intro p hp;simp at hp hk;rcases hp with rfl|rfl|rfl <;>rcases hk with rfl|rfl <;>simp [Wh]
theorem Zbi.apart{n1 n2 n3 n4:Str}{ps:List Zc}{js:List (Zc×Zc)}{a b:Zc}(h:Zbi n1 n2 n3 n4 ps js a b)(nd:[n1,n2,n3,n4].Nodup):∀j∈js,j.1.1≠j.2.1:=by
 simp only [List.nodup_cons,List.mem_cons,List.mem_nil_iff,or_false,not_or,List.not_mem_nil,not_false_eq_true,List.nodup_nil,and_true] at nd
 obtain ⟨⟨a1,a2,a3⟩,⟨b1,b2⟩,c1⟩:=nd
 cases h with
 | plain=>intro j hj;cases hj
 | loop=>intro j hj;simp at hj;rcases hj with rfl|rfl|rfl|rfl <;>first|assumption|exact Ne.symm (by assumption)
 | siding x a b k h hk=>intro j hj;simp at hj;rcases hj with rfl|rfl <;>first|assumption|exact Ne.symm (by assumption)
 | cross k hk=>intro j hj;simp at hj;rcases hj with rfl|rfl <;>first|assumption|exact Ne.symm (by assumption)
theorem Zbi.opens{n1 n2 n3 n4:Str}{ps:List Zc}{js:List (Zc×Zc)}{a b:Zc}(h:Zbi n1 n2 n3 n4 ps js a b):a.1∈ps.map Prod.snd/\b.1∈ps.map Prod.snd:=by
 cases h <;>simp
theorem Zd0{ps:List Zc}{e:Zc}(h:e∈Yb ps):e.1∈ps.map Prod.snd:=by
 obtain ⟨p,hp,he⟩:=List.mem_flatMap.mp h
 obtain ⟨x,_,rfl⟩:=List.mem_map.mp he
 exact List.mem_map.mpr ⟨p,hp,rfl⟩
theorem Net.more{ps:List Zc}{js:List (Zc×Zc)}{e:Zc}{n1 n2 n3 n4:Str}{qs:List Zc}{ks:List (Zc×Zc)}{a b:Zc}(h:Net ps js [e])(B:Zbi n1 n2 n3 n4 qs ks a b)(nd:[n1,n2,n3,n4].Nodup)(new:∀n∈[n1,n2,n3,n4],n∉ps.map Prod.snd):Net (ps++qs) (js++ks++[(e,a)]) [b]:=by
 have he:e.1∈ps.map Prod.snd:=Zd0 (h.perm.subset (by simp))
 have ha:a.1∉ps.map Prod.snd:=new _ (B.sub.subset B.opens.1)
 refine ⟨?_,?_,?_,?_⟩
 ·rw [Zco,Zco,Zfc]
  refine List.Perm.trans ?_ (h.perm.append B.perm)
  show (Y0 js++Y0 ks++[e,a]++[b]).Perm ((Y0 js++[e])++(Y0 ks++[a,b]))
  rw [List.append_assoc,List.append_assoc,List.append_assoc]
  refine List.Perm.append_left _ ?_
  show (Y0 ks++([e]++[a,b])).Perm ([e]++(Y0 ks++[a,b]))
  rw [<-List.append_assoc,<-List.append_assoc]
  exact List.Perm.append_right _ List.perm_append_comm
 ·rw [List.map_append,List.nodup_append]
  exact ⟨h.nd,List.Pairwise.sublist B.sub nd,fun x hx y hy z=>new y (B.sub.subset hy) (z ▸ hx)⟩
 ·intro j hj
  rw [List.mem_append,List.mem_append] at hj
  rcases hj with (z|z)|z
  ·exact h.apart j z
  ·exact B.apart nd j z
  ·simp at z
   subst z
   exact fun y=>ha (y ▸ he)
 ·intro p hp
  rcases List.mem_append.mp hp with z|z
  ·exact h.kind p z
  ·exact B.kind p z
def Zmp(s:Str)(n:Nat):Prop:=∃kd c k,(96<kd.cps.toList.getD 0 0/\kd.cps.toList.getD 0 0<123)/\k<n/\s=Ys kd c k
theorem Zbi.len{n1 n2 n3 n4:Str}{ps:List Zc}{js:List (Zc×Zc)}{a b:Zc}(h:Zbi n1 n2 n3 n4 ps js a b):ps.length<=4/\js.length<=4:=by
 cases h <;>simp
structure Zdl(i:Nat)(ps:List Zc)(js:List (Zc×Zc))(cur:Zc):Prop where
 net:Net ps js [cur]
 pl:ps.length<=1+4 * i
 jl:js.length<=5 * i
 nm:∀p∈ps,p=((("gate" :Str),("g" :Str)):Zc)\/Zmp p.2 (4 * i)
theorem Zdl.start:Zdl 0 [("gate", "g")] [] ("g", "a"):=by
 refine ⟨⟨?_,by simp,by simp,by simp [Wh]⟩,by simp,by simp,by simp⟩
 simp [Y0,Yb,Zeb (k := "gate") (.inl rfl)]
theorem Zrd{x s:Str}(hx:x.length=1)(h:2<=s.length):s≠x:=fun z=>by rw [z] at h;omega
theorem Zdl.more{i:Nat}{ps:List Zc}{js:List (Zc×Zc)}{cur:Zc}{k1 k2 k3 k4:Str}{c1 c2 c3 c4:Int}{qs:List Zc}{ks:List (Zc×Zc)}{a b:Zc}(h:Zdl i ps js cur)(hi:i<20)
  (g1:96<k1.cps.toList.getD 0 0/\k1.cps.toList.getD 0 0<123) (g2:96<k2.cps.toList.getD 0 0/\k2.cps.toList.getD 0 0<123) (g3:96<k3.cps.toList.getD 0 0/\k3.cps.toList.getD 0 0<123) (g4:96<k4.cps.toList.getD 0 0/\k4.cps.toList.getD 0 0<123)
  (B:Zbi (Ys k1 c1 (4 * i)) (Ys k2 c2 (4 * i+1)) (Ys k3 c3 (4 * i+2)) (Ys k4 c4 (4 * i+3)) qs ks a b):Zdl (i+1) (ps++qs) (js++ks++[(cur,a)]) b:=by
 have v1:=Zcs (c:=c1) (Nat.lt_trans (by decide) g1.1) (show 4 * i<100 by omega)
 have v2:=Zcs (c:=c2) (Nat.lt_trans (by decide) g2.1) (show 4 * i+1<100 by omega)
 have v3:=Zcs (c:=c3) (Nat.lt_trans (by decide) g3.1) (show 4 * i+2<100 by omega)
 have v4:=Zcs (c:=c4) (Nat.lt_trans (by decide) g4.1) (show 4 * i+3<100 by omega)
 have ne:∀{x y:Str} {m n:Nat},Zht x=m->Zht y=n->m≠n->x≠y:=fun hx hy hn z=>hn (by rw [<-hx,<-hy,z])
 have nd:[Ys k1 c1 (4 * i),Ys k2 c2 (4 * i+1),Ys k3 c3 (4 * i+2),Ys k4 c4 (4 * i+3)].Nodup:=by
  simp [ne v1 v2 (by omega),ne v1 v3 (by omega),ne v1 v4 (by omega),ne v2 v3 (by omega),ne v2 v4 (by omega),ne v3 v4 (by omega)]
 have all:∀n∈[Ys k1 c1 (4 * i),Ys k2 c2 (4 * i+1),Ys k3 c3 (4 * i+2),Ys k4 c4 (4 * i+3)],4 * i<=Zht n/\2<=n.length/\Zmp n (4 * (i+1)):=by
  intro n hn
  simp only [List.mem_cons,List.mem_nil_iff,or_false] at hn
  rcases hn with rfl|rfl|rfl|rfl
  ·exact ⟨by omega,Zcm (by omega),_,_,_,g1,by omega,rfl⟩
  ·exact ⟨by omega,Zcm (by omega),_,_,_,g2,by omega,rfl⟩
  ·exact ⟨by omega,Zcm (by omega),_,_,_,g3,by omega,rfl⟩
  ·exact ⟨by omega,Zcm (by omega),_,_,_,g4,by omega,rfl⟩
 refine ⟨h.net.more B nd fun n hn hm=>?_,?_,?_,?_⟩
 ·obtain ⟨p,hp,rfl⟩:=List.mem_map.mp hm
  obtain ⟨a1,a2,_⟩:=all _ hn
  rcases h.nm p hp with z|⟨kd,c,k,hk,hlt,e⟩
  ·exact Zrd (x := "g") (by trivial) a2 (by rw [z])
  ·rw [e,Zcs (Nat.lt_trans (by decide) hk.1) (by omega)] at a1
   omega
 ·have:=B.len.1;have:=h.pl;rw [List.length_append];omega
 ·have:=B.len.2;have:=h.jl;rw [List.length_append,List.length_append];show _+_+1<=_;omega
 ·intro p hp
  rcases List.mem_append.mp hp with z|z
  ·rcases h.nm p z with y|⟨kd,c,k,hk,hlt,e⟩
   ·exact .inl y
   ·exact .inr ⟨kd,c,k,hk,by omega,e⟩
  ·exact .inr (all _ (B.sub.subset (List.mem_map.mpr ⟨p,z,rfl⟩))).2.2
theorem Zdl.done{i:Nat}{ps:List Zc}{js:List (Zc×Zc)}{cur:Zc}(h:Zdl i ps js cur)(hi:i<20):Net (ps++[(("gate" :Str),("h" :Str))]) (js++[(cur,(("h" :Str),("a" :Str)))]) []:=by
 have hno:("h" :Str)∉ps.map Prod.snd:=fun z=>by
  obtain ⟨p,hp,e⟩:=List.mem_map.mp z
  rcases h.nm p hp with y|⟨kd,c,k,hk,hlt,y⟩
  ·rw [y] at e
   exact absurd e (by trivial)
  ·exact Zrd (x := "h") (by trivial) (Zcm (kind:=kd) (c:=c) (k:=k) (by omega)) (by rw [<-y];exact e)
 have hc:cur.1∈ps.map Prod.snd:=Zd0 (h.net.perm.subset (by simp))
 refine ⟨?_,?_,?_,?_⟩
 ·rw [Zco,Zfc,List.append_nil]
  have he:Yb [("gate", "h")]=([("h", "a")]:List Zc):=by simp [Yb,Zeb (k := "gate") (.inl rfl)]
  rw [he]
  show (Y0 js++([cur]++[(("h" :Str),("a" :Str))])).Perm _
  rw [<-List.append_assoc]
  exact List.Perm.append_right _ h.net.perm
 ·rw [List.map_append,List.nodup_append]
  exact ⟨h.net.nd,by simp,fun x hx y hy z=>by simp at hy;rw [z,hy] at hx;exact hno hx⟩
 ·intro j hj
  rcases List.mem_append.mp hj with z|z
  ·exact h.net.apart j z
  ·simp at z
   subst z
   exact fun y=>hno (by have y:cur.1=("h" :Str):=y;rw [<-y];exact hc)
 ·intro p hp
  rcases List.mem_append.mp hp with z|z
  ·exact h.net.kind p z
  ·simp at z
   subst z
   simp [Wh]
def Zav(j:Nat):Str := "e" ++ Zej j
def Ze0(Z5:List Zc)(i:Nat)(nps:List Zc)(njs:List (Zc×Zc)):Prop:=∃ks:List Str,ks.length=i/\(∀k∈ks,k = "gate" \/k = "stop")/\nps=(List.range i).map (fun j=>(ks.getD j "gate",Zav j))/\njs=(List.range i).map (fun j=>(Z5.getD j ("", ""),(Zav j,("a" :Str))))
theorem Ze0.more{Z5:List Zc}{i:Nat}{nps:List Zc}{njs:List (Zc×Zc)}{k:Str}{q:Zc}(h:Ze0 Z5 i nps njs) (hk:k = "gate" \/k = "stop") (hq:Z5[i]? =some q):Ze0 Z5 (i+1) (nps++[(k,Zav i)]) (njs++[(q,(Zav i,("a" :Str)))]):=by
 obtain ⟨ks,hl,hks,rfl,rfl⟩:=h
 refine ⟨ks++[k],by rw [List.length_append,hl];rfl,?_,?_,?_⟩
 ·intro x hx
  rcases List.mem_append.mp hx with z|z
  ·exact hks x z
  ·simp at z;rw [z];exact hk
 ·rw [List.range_succ,List.map_append]
  congr 1
  ·refine List.map_congr_left fun j hj=>?_
   have hj:=List.mem_range.mp hj
   rw [List.getD_eq_getElem?_getD,List.getD_eq_getElem?_getD,List.getElem?_append_left (by omega)]
  ·show [(k,Zav i)]=[((ks++[k]).getD i "gate",Zav i)]
   rw [List.getD_eq_getElem?_getD,List.getElem?_append_right (by omega),hl,Nat.sub_self]
   rfl
 ·rw [List.range_succ,List.map_append]
  congr 1
  show [(q,(Zav i,("a" :Str)))]=[(Z5.getD i ("", ""),(Zav i,("a" :Str)))]
  rw [List.getD_eq_getElem?_getD,hq]
  rfl
theorem Zuv(k:Str):(Yc k).Nodup:=by
 unfold Yc
 split
 ·decide +kernel
 ·split
  ·decide +kernel
  ·split <;>decide +kernel
theorem Za3:∀{ps:List Zc},(ps.map Prod.snd).Nodup->(Yb ps).Nodup
 | [],_=>List.nodup_nil
 | p ::ps,h=>by
  rw [List.map_cons,List.nodup_cons] at h
  rw [show Yb (p ::ps)=((Yc p.1).map fun e=>(p.2,e))++Yb ps from List.flatMap_cons ..,List.nodup_append]
  refine ⟨?_,Za3 h.2,?_⟩
  ·refine List.Pairwise.map _ (fun a b z y=>z ?_) (Zuv p.1)
   exact (Prod.mk.inj y).2
  ·intro x hx y hy z
   obtain ⟨e,_,rfl⟩:=List.mem_map.mp hx
   rw [<-z] at hy
   exact h.1 (Zd0 hy)
theorem Net.ond{ps:List Zc}{js:List (Zc×Zc)}{o:List Zc}(h:Net ps js o):o.Nodup:=by
 have:=(h.perm.nodup_iff).mpr (Za3 h.nd)
 exact (List.nodup_append.mp this).2.1
theorem Net.add{ps:List Zc}{js:List (Zc×Zc)}{o:List Zc}{k n:Str}(h:Net ps js o)(hn:n∉ps.map Prod.snd)(hk:k∈Wh):Net (ps++[(k,n)]) js (o++(Yc k).map fun e=>(n,e)):=by
 refine ⟨?_,?_,h.apart,?_⟩
 ·rw [Zfc,<-List.append_assoc]
  have:Yb [(k,n)]=(Yc k).map fun e=>(n,e):=by simp [Yb]
  rw [this]
  exact List.Perm.append_right _ h.perm
 ·rw [List.map_append,List.nodup_append]
  exact ⟨h.nd,by simp,fun x hx y hy z=>by simp at hy;rw [z,hy] at hx;exact hn hx⟩
 ·intro p hp
  rcases List.mem_append.mp hp with z|z
  ·exact h.kind p z
  ·simp at z
   rw [z]
   exact hk
theorem Net.join{ps:List Zc}{js:List (Zc×Zc)}{o o':List Zc}{a b:Zc}(h:Net ps js o)(hp:(a ::b ::o').Perm o)(ne:a.1≠b.1):Net ps (js++[(a,b)]) o':=by
 refine ⟨?_,h.nd,?_,h.kind⟩
 ·rw [Zco]
  refine List.Perm.trans ?_ h.perm
  show (Y0 js++[a,b]++o').Perm _
  rw [List.append_assoc]
  exact List.Perm.append_left _ hp
 ·intro j hj
  rcases List.mem_append.mp hj with z|z
  ·exact h.apart j z
  ·simp at z
   rw [z]
   exact ne
theorem Zez{α:Type}:∀{l:List α} {i:Nat} {a:α},l[i]? =some a->(a ::l.eraseIdx i).Perm l
 | [],_,_,h=>by cases h
 | x ::l,0,a,h=>by cases h;exact List.Perm.refl _
 | x ::l,i+1,a,h=>by
  rw [List.eraseIdx_cons_succ]
  exact (List.Perm.swap x a _).trans ((Zez (l:=l) h).cons x)
theorem Zu7{α:Type}{l m:List α}{i j:Nat}{a b:α}(ha:l[i]? =some a)(hb:m[j]? =some b):(a ::b ::(l.eraseIdx i++m.eraseIdx j)).Perm (l++m):=by
 refine List.Perm.trans ?_ ((Zez ha).append (Zez hb))
 show List.Perm _ (a ::(l.eraseIdx i++(b ::m.eraseIdx j)))
 exact (List.perm_middle.symm).cons a
theorem Zrr{l:List Zc}{a:Zc}(nd:l.Nodup)(ha:a∈l):(a ::l.filter fun e=>decide (e≠a)).Perm l:=by
 induction l with
 | nil=>cases ha
 | cons x l ih =>
  rw [List.nodup_cons] at nd
  by_cases z:x=a
  ·subst z
   rw [List.filter_cons,if_neg (by simp)]
   have:(l.filter fun e=>decide (e≠x))=l:=List.filter_eq_self.mpr fun e he=>decide_eq_true fun y=>nd.1 (y ▸ he)
   rw [this]
  ·rw [List.filter_cons,if_pos (decide_eq_true z)]
   have ha':a∈l:=by
    rcases List.mem_cons.mp ha with y|y
    ·exact absurd y.symm z
    ·exact y
   exact (List.Perm.swap x a _).trans ((ih nd.2 ha').cons x)
theorem Zsp{r:Zc}{l:List Zc}{a:Zc}(nd:(r ::l).Nodup)(ha:a∈l):(a ::r ::l.filter fun e=>decide (e≠a)).Perm (r ::l) :=
 (List.Perm.swap r a _).trans ((Zrr (List.nodup_cons.mp nd).2 ha).cons r)
theorem Zqb{j:Nat}(h:j<100):Zht (Zav j)=j:=by
 unfold Zav Zht
 rw [Zb6,List.foldl_append]
 exact Zml j h
theorem Zrt:∀k,k<100->(Zej k).cps.toList.getD 0 0<=57:=by trivial
theorem Zs7{kd:Str}{c:Int}{k j:Nat}(hj:j<100)(hk:kd.cps.toList.getD 0 0≠101):Ys kd c k≠Zav j:=by
 intro z
 have z':=congrArg (fun s:Str=>s.cps.toList) z
 have he:(Zav j).cps.toList=101 ::(Zej j).cps.toList:=by unfold Zav;rw [Zb6];rfl
 simp only [he] at z'
 unfold Ys at z'
 split at z'
 ·rw [Zb6] at z'
  exact hk (List.cons.inj z').1
 ·rw [Zb6,Zb6,Zb6] at z'
  have b0:=Int.emod_nonneg (c / 78) (show (26:Int)≠0 by decide)
  have b1:=Int.emod_lt_of_pos (c / 78) (show (0:Int)<26 by decide)
  have hb:=Zku b0 b1
  have z2:=(List.cons.inj z').2
  have hf:=Zrt j hj
  rw [<-z2] at hf
  have:Zdc (c / 78%26)<=57:=hf
  omega
theorem Net.closed{ps:List Zc}{js:List (Zc×Zc)}{Z5 nps:List Zc}{njs:List (Zc×Zc)}(h:Net ps js Z5)(hc:Ze0 Z5 Z5.length nps njs)(hl:Z5.length<=90)(hn:∀j,j<90->Zav j∉ps.map Prod.snd):Net (ps++nps) (js++njs) []:=by
 obtain ⟨ks,hkl,hks,rfl,rfl⟩:=hc
 have hno:∀n,n<=Z5.length->Net (ps++(List.range n).map fun j=>(ks.getD j "gate",Zav j)) (js++(List.range n).map fun j=>(Z5.getD j ("", ""),(Zav j,("a" :Str)))) (Z5.drop n):=by
  intro n
  induction n with
  | zero=>intro _;simpa using h
  | succ n ih =>
   intro hn'
   have h0:=ih (by omega)
   have hlt:n<Z5.length:=by omega
   have hkd:ks.getD n "gate" = "gate" \/ks.getD n "gate" = "stop" :=hks _ (by
    rw [List.getD_eq_getElem?_getD,List.getElem?_eq_getElem (by omega)]
    exact List.getElem_mem _)
   have hnew:Zav n∉(ps++(List.range n).map fun j=>(ks.getD j "gate",Zav j)).map Prod.snd:=by
    rw [List.map_append,List.mem_append]
    rintro (z|z)
    ·exact hn n (by omega) z
    ·rw [List.map_map] at z
     obtain ⟨j,hj,e⟩:=List.mem_map.mp z
     have hj:=List.mem_range.mp hj
     have:=congrArg Zht e
     rw [Zqb (by omega)] at this
     have h2:Zht (Zav j)=n:=this
     rw [Zqb (by omega)] at h2
     omega
   have h1:=h0.add hnew (k:=ks.getD n "gate") (by rcases hkd with z|z <;>rw [z] <;>simp [Wh])
   rw [Zeb hkd] at h1
   have hd:Z5.drop n=Z5.getD n ("", "") ::Z5.drop (n+1):=by
    rw [List.drop_eq_getElem_cons hlt,List.getD_eq_getElem?_getD,List.getElem?_eq_getElem hlt]
    rfl
   have hin:(Z5.getD n ("", "")).1≠Zav n:=by
    have:Z5.getD n ("", "")∈Z5.drop n:=by rw [hd];simp
    have h3:=Zd0 (h0.perm.subset (List.mem_append_right _ this))
    exact fun z=>hnew (z ▸ h3)
   have h2:=h1.join (a:=Z5.getD n ("", "")) (b:=(Zav n, "a")) (o':=Z5.drop (n+1)) (by
    rw [hd]
    show List.Perm _ (Z5.getD n ("", "") ::(Z5.drop (n+1)++[(Zav n,("a" :Str))]))
    exact (List.perm_append_singleton _ _).symm.cons _) hin
   rw [List.range_succ,List.map_append,List.map_append,<-List.append_assoc,<-List.append_assoc]
   exact h2
 have:=hno Z5.length (Nat.le_refl _)
 rwa [List.drop_length] at this
end YM
end
section
namespace YM
open PySem L2 NM
theorem Zh3:∀k∈Wh,57<k.cps.toList.getD 0 0/\k.cps.toList.getD 0 0≠101/\0<k.length/\k.length<=6/\(Yc k).length<=4/\0<(Yc k).length:=by trivial
def nmD(s:Str)(n:Nat):Prop:=∃kd∈Wh,∃(c:Int) (k:Nat),k<n/\s=Ys kd c k
structure Xm(i m:Nat)(ps:List Zc)(js:List (Zc×Zc))(Z5:List Zc):Prop where
 net:Net ps js Z5
 sum:ps.length+Z5.length<=39
 jl:js.length<=m
 nm:∀p∈ps,nmD p.2 i
theorem Xm.start:Xm 0 0 [] [] []:=⟨⟨List.Perm.refl _,List.nodup_nil,by simp,by simp⟩,by simp,by simp,by simp⟩
theorem Xm.mono{i m i' m':Nat}{ps:List Zc}{js:List (Zc×Zc)}{Z5:List Zc}(h:Xm i m ps js Z5)(hi:i<=i')(hm:m<=m'):Xm i' m' ps js Z5 :=
 ⟨h.net,h.sum,Nat.le_trans h.jl hm,fun p hp=>let ⟨kd,h1,c,k,h2,h3⟩:=h.nm p hp;⟨kd,h1,c,k,by omega,h3⟩⟩
theorem Xm.new{i m:Nat}{ps:List Zc}{js:List (Zc×Zc)}{Z5:List Zc}{kd:Str}{c:Int}(h:Xm i m ps js Z5)(hi:i<100)(hk:kd∈Wh):Ys kd c i∉ps.map Prod.snd:=fun z=>by
 obtain ⟨p,hp,e⟩:=List.mem_map.mp z
 obtain ⟨kd',h1,c',k,h2,h3⟩:=h.nm p hp
 have:=congrArg Zht (e.symm.trans h3)
 rw [Zcs (Zh3 _ hk).1 hi,Zcs (Zh3 _ h1).1 (by omega)] at this
 omega
theorem Xm.add{i m:Nat}{ps:List Zc}{js:List (Zc×Zc)}{Z5:List Zc}{kd:Str}{c:Int}(h:Xm i m ps js Z5)(hi:i<100)(hk:kd∈Wh)(hs:ps.length+Z5.length+(Yc kd).length<=38):Xm (i+1) m (ps++[(kd,Ys kd c i)]) js (Z5++(Yc kd).map fun e=>(Ys kd c i,e)):=by
 refine ⟨h.net.add (h.new hi hk) hk,?_,h.jl,?_⟩
 ·rw [List.length_append,List.length_append,List.length_map];show _+1+_<=39;omega
 ·intro p hp
  rcases List.mem_append.mp hp with z|z
  ·exact (h.mono (Nat.le_succ i) (Nat.le_refl m)).nm p z
  ·simp at z
   rw [z]
   exact ⟨kd,hk,c,i,by omega,rfl⟩
theorem Xm.join{i m:Nat}{ps:List Zc}{js:List (Zc×Zc)}{o o':List Zc}{a b:Zc}(h:Xm i m ps js o)(hp:(a ::b ::o').Perm o)(ne:a.1≠b.1):Xm i (m+1) ps (js++[(a,b)]) o':=by
 refine ⟨h.net.join hp ne,?_,?_,h.nm⟩
 ·have:=h.sum
  have hl:=hp.length_eq
  simp at hl
  omega
 ·rw [List.length_append];exact Nat.succ_le_succ h.jl
theorem Xm.done{i m:Nat}{ps:List Zc}{js:List (Zc×Zc)}{Z5 nps:List Zc}{njs:List (Zc×Zc)}(h:Xm i m ps js Z5)(hi:i<=100)(hc:Ze0 Z5 Z5.length nps njs):Net (ps++nps) (js++njs) []:=by
 have hs:=h.sum
 refine h.net.closed hc (by omega) fun j hj z=>?_
 obtain ⟨p,hp,e⟩:=List.mem_map.mp z
 obtain ⟨kd',h1,c',k,h2,h3⟩:=h.nm p hp
 exact Zs7 (by omega) (Zh3 _ h1).2.1 (h3.symm.trans e)
theorem Zft{α β:Type}{R:α->β->Prop}:∀{l:List α} {m:List β},Paired R l m->∀i,Paired R (l.eraseIdx i) (m.eraseIdx i)
 | _,_,.nil,_=>.nil
 | _,_,.cons r t,0=>t
 | _,_,.cons r t,i+1=>.cons r (Zft t i)
theorem Zld{α β:Type}(f:α->β):∀(l:List α) (i:Nat),(l.map f).eraseIdx i=(l.eraseIdx i).map f
 | [],_=>rfl
 | _ ::_,0=>rfl
 | x ::l,i+1=>by rw [List.map_cons,List.eraseIdx_cons_succ,List.eraseIdx_cons_succ,List.map_cons,Zld f l i]
def Zay(k:Nat):Str := "p" ++ Zej k
def Zch(n:Nat):List Zc:=[(("gate" :Str),("g" :Str))]++((List.range n).map fun k=>(("plain" :Str),Zay k))++[(("gate" :Str),("h" :Str))]
def Zrc(n:Nat):List (Zc×Zc):=[((("g" :Str),("a" :Str)),(Zay 0,("a" :Str))),((("h" :Str),("a" :Str)),(Zay (n-1),("b" :Str)))]++(List.range (n-1)).map fun k=>((Zay k,("b" :Str)),(Zay (k+1),("a" :Str)))
theorem Zrg:∀n∈[9,10,11,12,13,14],(Y0 (Zrc n)++[]).Perm (Yb (Zch n)):=by trivial
theorem Zww:∀n∈[9,10,11,12,13,14],((Zch n).map Prod.snd).Nodup:=by trivial
theorem Zpi:∀n∈[9,10,11,12,13,14],∀j∈Zrc n,j.1.1≠j.2.1:=by trivial
theorem Zsv:∀n∈[9,10,11,12,13,14],∀p∈Zch n,p.1∈Wh:=by trivial
theorem Zu8{n:Nat}(h:n∈[9,10,11,12,13,14]):Net (Zch n) (Zrc n) []:=⟨Zrg n h,Zww n h,Zpi n h,Zsv n h⟩
end YM
end
section
namespace K24
open PySem L2 NM
def top(i:Nat):Stmt:=PySem.Challenge.pw_yardkeep_k24_other_things.main.body.getD i (.Pass ⟨0,0,0,0⟩)
abbrev Zcn:Stmt:=top 5
theorem Zpy:Zt ["thing"] ["thing"] (Zd Zcn):=⟨rfl,rfl,rfl,by trivial,rfl,by trivial,by trivial⟩
abbrev Xs:Stmt:=Y8 (top 6) 0
theorem Zgp:Zt ["self", "name"] ["self", "name"] (Zd Xs):=⟨rfl,rfl,rfl,by trivial,rfl,by trivial,by trivial⟩
abbrev Za4:Stmt:=Y8 (top 6) 1
theorem Zms:Zt ["self"] ["self"] (Zd Za4):=⟨rfl,rfl,rfl,by trivial,rfl,by trivial,by trivial⟩
abbrev Za7:Stmt:=Y8 (top 6) 2
theorem Zmq:Zt ["self"] ["self"] (Zd Za7):=⟨rfl,rfl,rfl,by trivial,rfl,by trivial,by trivial⟩
abbrev Zag:Stmt:=Y8 (top 6) 3
theorem Zkj:Zt ["self", "lie"] ["self", "lie"] (Zd Zag):=⟨rfl,rfl,rfl,by trivial,rfl,by trivial,by trivial⟩
abbrev Zai:Stmt:=Y8 (top 6) 4
theorem Zda:Zt ["self", "end", "lie", "one", "two"] ["self", "end", "lie"] (Zd Zai):=⟨rfl,rfl,rfl,by trivial,rfl,by trivial,by trivial⟩
abbrev W8:Stmt:=Y8 (top 6) 5
theorem Zj4:Zt ["self"] ["self"] (Zd W8):=⟨rfl,rfl,rfl,by trivial,rfl,by trivial,by trivial⟩
abbrev Za0:Stmt:=Y8 (top 8) 0
theorem Zl4:Zt ["self"] ["self"] (Zd Za0):=⟨rfl,rfl,rfl,by trivial,rfl,by trivial,by trivial⟩
abbrev Zaa:Stmt:=Y8 (top 8) 1
theorem Zj2:Zt ["self", "lie"] ["self", "lie"] (Zd Zaa):=⟨rfl,rfl,rfl,by trivial,rfl,by trivial,by trivial⟩
abbrev Ws:Stmt:=Y8 (top 10) 0
theorem Zjj:Zt ["self"] ["self"] (Zd Ws):=⟨rfl,rfl,rfl,by trivial,rfl,by trivial,by trivial⟩
abbrev Wu:Stmt:=Y8 (top 10) 1
theorem Zjt:Zt ["self"] ["self"] (Zd Wu):=⟨rfl,rfl,rfl,by trivial,rfl,by trivial,by trivial⟩
abbrev X7:Stmt:=Y8 (top 10) 2
theorem Zhp:Zt ["self", "lie"] ["self", "lie"] (Zd X7):=⟨rfl,rfl,rfl,by trivial,rfl,by trivial,by trivial⟩
abbrev Wa:Stmt:=Y8 (top 10) 3
theorem Zhc:Zt ["self"] ["self"] (Zd Wa):=⟨rfl,rfl,rfl,by trivial,rfl,by trivial,by trivial⟩
abbrev Zan:Stmt:=Y8 (top 11) 0
theorem Zkg:Zt ["self"] ["self"] (Zd Zan):=⟨rfl,rfl,rfl,by trivial,rfl,by trivial,by trivial⟩
abbrev Wy:Stmt:=Y8 (top 11) 1
theorem Ziq:Zt ["self", "lie"] ["self", "lie"] (Zd Wy):=⟨rfl,rfl,rfl,by trivial,rfl,by trivial,by trivial⟩
abbrev Wn:Stmt:=Y8 (top 11) 2
theorem Ziy:Zt ["self"] ["self"] (Zd Wn):=⟨rfl,rfl,rfl,by trivial,rfl,by trivial,by trivial⟩
abbrev Zaj:Stmt:=top 14
theorem Zat:Zt ["tracks", "end", "name", "entry", "part", "steps"] ["tracks", "end"] (Zd Zaj):=⟨rfl,rfl,rfl,by trivial,rfl,by trivial,by trivial⟩
abbrev Zad:Stmt:=top 15
theorem Zkb:Zt ["step"] ["step"] (Zd Zad):=⟨rfl,rfl,rfl,by trivial,rfl,by trivial,by trivial⟩
abbrev W9:Stmt:=top 16
theorem Zj8:Zt ["tracks", "step"] ["tracks", "step"] (Zd W9):=⟨rfl,rfl,rfl,by trivial,rfl,by trivial,by trivial⟩
abbrev Zbs:Stmt:=top 19
theorem Zc2:Zt ["tracks", "begun", "post", "last", "passed"] ["tracks", "begun"] (Zd Zbs):=⟨rfl,rfl,rfl,by trivial,rfl,by trivial,by trivial⟩
abbrev Wr:Stmt:=top 20
theorem W4:Zt ["tracks", "signal", "found", "begun", "ahead", "step"] ["tracks", "signal"] (Zd Wr):=⟨rfl,rfl,rfl,by trivial,rfl,by trivial,by trivial⟩
abbrev Zbo:Stmt:=top 21
theorem Zg1:Zt ["tracks", "thing", "place"] ["tracks", "thing"] (Zd Zbo):=⟨rfl,rfl,rfl,by trivial,rfl,by trivial,by trivial⟩
abbrev Zcp:Stmt:=top 30
theorem Zo0:Zt ["thing"] ["thing"] (Zd Zcp):=⟨rfl,rfl,rfl,by trivial,rfl,by trivial,by trivial⟩
abbrev Zb2:Stmt:=top 31
theorem Zod:Zt ["end", "ends"] ["end", "ends"] (Zd Zb2):=⟨rfl,rfl,rfl,by trivial,rfl,by trivial,by trivial⟩
abbrev Ww:Stmt:=top 32
theorem Zja:Zt ["name", "known"] ["name", "known"] (Zd Ww):=⟨rfl,rfl,rfl,by trivial,rfl,by trivial,by trivial⟩
abbrev Xt:Stmt:=top 33
theorem Zbu:Zt ["parts", "part_of", "part"] ["parts"] (Zd Xt):=⟨rfl,rfl,rfl,by trivial,rfl,by trivial,by trivial⟩
abbrev Xz:Stmt:=top 34
theorem Wf:Zt ["part_of", "part_at", "name", "part", "end"] ["part_of"] (Zd Xz):=⟨rfl,rfl,rfl,by trivial,rfl,by trivial,by trivial⟩
abbrev Wq:Stmt:=top 35
theorem Zd5:Zt ["join", "part_at", "joined", "end"] ["join", "part_at", "joined"] (Zd Wq):=⟨rfl,rfl,rfl,by trivial,rfl,by trivial,by trivial⟩
abbrev Wt:Stmt:=top 36
theorem Zcu:Zt ["joins", "part_at", "joined", "join"] ["joins", "part_at"] (Zd Wt):=⟨rfl,rfl,rfl,by trivial,rfl,by trivial,by trivial⟩
abbrev Wo:Stmt:=top 37
theorem Zjm:Zt ["end", "part_at", "ends_with_signals"] ["end", "part_at", "ends_with_signals"] (Zd Wo):=⟨rfl,rfl,rfl,by trivial,rfl,by trivial,by trivial⟩
abbrev Zbr:Stmt:=top 38
theorem Zb8:Zt ["signals", "part_at", "post_of", "signal", "name", "end"] ["signals", "part_at"] (Zd Zbr):=⟨rfl,rfl,rfl,by trivial,rfl,by trivial,by trivial⟩
abbrev Xb:Stmt:=Y8 (top 39) 0
theorem Zaw:Zt ["self", "parts", "joins", "signals", "asked_signals", "part_at"] ["self", "parts", "joins", "signals"] (Zd Xb):=⟨rfl,rfl,rfl,by trivial,rfl,by trivial,by trivial⟩
abbrev X8:Stmt:=Y8 (top 39) 2
theorem Zhh:Zt ["self", "name"] ["self", "name"] (Zd X8):=⟨rfl,rfl,rfl,by trivial,rfl,by trivial,by trivial⟩
abbrev Xr:Stmt:=Y8 (top 39) 3
theorem Zgx:Zt ["self", "end"] ["self", "end"] (Zd Xr):=⟨rfl,rfl,rfl,by trivial,rfl,by trivial,by trivial⟩
abbrev Y6:Stmt:=Y8 (top 39) 4
theorem Zel:Zt ["self", "end"] ["self", "end"] (Zd Y6):=⟨rfl,rfl,rfl,by trivial,rfl,by trivial,by trivial⟩
abbrev Xj:Stmt:=Y8 (top 39) 5
theorem Zfq:Zt ["self"] ["self"] (Zd Xj):=⟨rfl,rfl,rfl,by trivial,rfl,by trivial,by trivial⟩
abbrev Xu:Stmt:=Y8 (top 39) 6
theorem Zgq:Zt ["self", "signal"] ["self", "signal"] (Zd Xu):=⟨rfl,rfl,rfl,by trivial,rfl,by trivial,by trivial⟩
abbrev Zab:Stmt:=top 41
theorem Zem:Zt ["_law_cell", "_law_k", "_law_left"] ["_law_cell", "_law_k"] (Zd Zab):=⟨rfl,rfl,rfl,by trivial,rfl,by trivial,by trivial⟩
abbrev X9:Stmt:=top 42
theorem Zhk:Zt ["_law_script", "_law_k"] ["_law_script", "_law_k"] (Zd X9):=⟨rfl,rfl,rfl,by trivial,rfl,by trivial,by trivial⟩
abbrev Zap:Stmt:=top 43
theorem Zj1:Zt ["_law_script", "_law_at", "_law_end"] ["_law_script", "_law_at", "_law_end"] (Zd Zap):=⟨rfl,rfl,rfl,by trivial,rfl,by trivial,by trivial⟩
abbrev Za6:Stmt:=top 44
theorem Zmk:Zt ["_law_kind"] ["_law_kind"] (Zd Za6):=⟨rfl,rfl,rfl,by trivial,rfl,by trivial,by trivial⟩
abbrev Wg:Stmt:=top 45
theorem Zcc:Zt ["_law_kind", "_law_cell", "_law_k", "_law_letters", "_law_first"] ["_law_kind", "_law_cell", "_law_k"] (Zd Wg):=⟨rfl,rfl,rfl,by trivial,rfl,by trivial,by trivial⟩
abbrev Zaf:Stmt:=top 46
theorem Z9:Zt ["_law_cell", "_law_names", "_law_one", "_law_two", "_law_three", "_law_four", "_law_way", "_law_ends_here", "_law_far", "_law_joins", "_law_parts", "_law_turn", "_law_aside", "_law_rest"] ["_law_cell", "_law_names"] (Zd Zaf):=⟨rfl,rfl,rfl,by trivial,rfl,by trivial,by trivial⟩
abbrev Za5:Stmt:=top 47
theorem Y3:Zt ["_law_cells_here", "_law_parts", "_law_joins", "_law_end", "_law_k", "_law_cell", "_law_names", "_law_block_here"] ["_law_cells_here"] (Zd Za5):=⟨rfl,rfl,rfl,by trivial,rfl,by trivial,by trivial⟩
abbrev Wp:Stmt:=top 48
theorem Zbc:Zt ["_law_parts", "_law_joins", "_law_rest", "_law_cell", "_law_j", "_law_end", "_law_name"] ["_law_parts", "_law_joins", "_law_rest", "_law_cell"] (Zd Wp):=⟨rfl,rfl,rfl,by trivial,rfl,by trivial,by trivial⟩
abbrev Zac:Stmt:=top 49
theorem Yk:Zt ["_law_cells_here", "_law_parts", "_law_joins", "_law_rest", "_law_k", "_law_cell", "_law_kind", "_law_ends_here", "_law_name", "_law_fresh", "_law_near", "_law_other"] ["_law_cells_here"] (Zd Zac):=⟨rfl,rfl,rfl,by trivial,rfl,by trivial,by trivial⟩
abbrev Xc:Stmt:=top 50
theorem Z8:Zt ["_law_parts", "_law_cell", "_law_letters", "_law_ends_here", "_law_kind", "_law_name", "_law_end", "_law_found", "_law_k", "_law_draw"] ["_law_parts", "_law_cell"] (Zd Xc):=⟨rfl,rfl,rfl,by trivial,rfl,by trivial,by trivial⟩
abbrev Za8:Stmt:=top 51
theorem Zal:Zt ["_law_cell", "_law_k", "_law_names", "_law_parts", "_law_joins", "_law_signals"] ["_law_cell"] (Zd Za8):=⟨rfl,rfl,rfl,by trivial,rfl,by trivial,by trivial⟩
abbrev We:Stmt:=top 52
theorem Xe:Zt ["_law_cells_here", "_law_cell", "_law_found", "_law_parts", "_law_joins", "_law_at"] ["_law_cells_here", "_law_cell"] (Zd We):=⟨rfl,rfl,rfl,by trivial,rfl,by trivial,by trivial⟩
abbrev Za2:Stmt:=top 53
theorem Zmo:Zt ["_law_kind", "_law_name"] ["_law_kind", "_law_name"] (Zd Za2):=⟨rfl,rfl,rfl,by trivial,rfl,by trivial,by trivial⟩
abbrev Wv:Stmt:=top 54
theorem Zjl:Zt ["_law_yard"] ["_law_yard"] (Zd Wv):=⟨rfl,rfl,rfl,by trivial,rfl,by trivial,by trivial⟩
abbrev Zb0:Stmt:=top 55
theorem Xa:Zt ["_law_yard", "_law_joined", "_law_one", "_law_other", "_law_kinds", "_law_kind", "_law_name", "_law_stands", "_law_place", "_law_end"] ["_law_yard"] (Zd Zb0):=⟨rfl,rfl,rfl,by trivial,rfl,by trivial,by trivial⟩
abbrev Zak:Stmt:=top 56
theorem Zjy:Zt ["_law_kind", "_law_end"] ["_law_kind", "_law_end"] (Zd Zak):=⟨rfl,rfl,rfl,by trivial,rfl,by trivial,by trivial⟩
abbrev Za1:Stmt:=top 57
theorem Zl1:Zt ["_law_plan", "_law_end"] ["_law_plan", "_law_end"] (Zd Za1):=⟨rfl,rfl,rfl,by trivial,rfl,by trivial,by trivial⟩
abbrev Wd:Stmt:=top 58
theorem Zhi:Zt ["_law_plan", "_law_step"] ["_law_plan", "_law_step"] (Zd Wd):=⟨rfl,rfl,rfl,by trivial,rfl,by trivial,by trivial⟩
abbrev Zah:Stmt:=top 59
theorem Xi:Zt ["_law_plan", "_law_row", "_law_cells_here", "_law_into_here", "_law_steps", "_law_cell", "_law_some", "_law_parts", "_law_alone"] ["_law_plan", "_law_row", "_law_cells_here"] (Zd Zah):=⟨rfl,rfl,rfl,by trivial,rfl,by trivial,by trivial⟩
abbrev Wx:Stmt:=top 60
theorem Yp:Zt ["_law_route", "_law_cell", "_law_at", "_law_step", "_law_other", "_law_ahead", "_law_behind", "_law_some"] ["_law_route", "_law_cell"] (Zd Wx):=⟨rfl,rfl,rfl,by trivial,rfl,by trivial,by trivial⟩
abbrev Zfs:Stmt:=top 61
theorem Zc1:Zt ["_law_script", "_law_yard", "_law_tracks_here", "_law_cell", "_law_things", "_law_row", "_law_thing", "_law_due", "_law_found", "_law_route", "_law_odd"] ["_law_script"] (Zd Zfs):=⟨rfl,rfl,rfl,by trivial,rfl,by trivial,by trivial⟩
set_option genInjectivity false in
set_option genSizeOfSpec false in
structure Tx(K:Frag)(mg:Str->Option Value) where
 d_is_name:Dn K "is_name" "is_name" Zcn ["thing"]
 m_is_name:mg "is_name" =some (.ref d_is_name.f)
 d_Part___init__:Dn K "__init__" "Part.__init__" Xs ["self", "name"]
 d_Part_ends:Dn K "ends" "Part.ends" Za4 ["self"]
 d_Part_lies:Dn K "lies" "Part.lies" Za7 ["self"]
 d_Part_pairs:Dn K "pairs" "Part.pairs" Zag ["self", "lie"]
 d_Part_leads:DnD K "leads" "Part.leads" Zai ["self", "end", "lie"] (.str "")
 d_Part_bears:Dn K "bears" "Part.bears" W8 ["self"]
 d_Stop_ends:Dn K "ends" "Stop.ends" Za0 ["self"]
 d_Stop_pairs:Dn K "pairs" "Stop.pairs" Zaa ["self", "lie"]
 d_Points_ends:Dn K "ends" "Points.ends" Ws ["self"]
 d_Points_lies:Dn K "lies" "Points.lies" Wu ["self"]
 d_Points_pairs:Dn K "pairs" "Points.pairs" X7 ["self", "lie"]
 d_Points_bears:Dn K "bears" "Points.bears" Wa ["self"]
 d_Cross_ends:Dn K "ends" "Cross.ends" Zan ["self"]
 d_Cross_pairs:Dn K "pairs" "Cross.pairs" Wy ["self", "lie"]
 d_Cross_bears:Dn K "bears" "Cross.bears" Wn ["self"]
 d_steps_into:Dn K "steps_into" "steps_into" Zaj ["tracks", "end"]
 m_steps_into:mg "steps_into" =some (.ref d_steps_into.f)
 d_end_behind:Dn K "end_behind" "end_behind" Zad ["step"]
 m_end_behind:mg "end_behind" =some (.ref d_end_behind.f)
 d_ends_there:Dn K "ends_there" "ends_there" W9 ["tracks", "step"]
 m_ends_there:mg "ends_there" =some (.ref d_ends_there.f)
 d_steps_on:Dn K "steps_on" "steps_on" Zbs ["tracks", "begun"]
 m_steps_on:mg "steps_on" =some (.ref d_steps_on.f)
 d_routes_from:Dn K "routes_from" "routes_from" Wr ["tracks", "signal"]
 m_routes_from:mg "routes_from" =some (.ref d_routes_from.f)
 d_is_route:Dn K "is_route" "is_route" Zbo ["tracks", "thing"]
 m_is_route:mg "is_route" =some (.ref d_is_route.f)
 d_is_pair:Dn K "is_pair" "is_pair" Zcp ["thing"]
 m_is_pair:mg "is_pair" =some (.ref d_is_pair.f)
 d_is_known:Dn K "is_known" "is_known" Zb2 ["end", "ends"]
 m_is_known:mg "is_known" =some (.ref d_is_known.f)
 d_refuse_name:Dn K "refuse_name" "refuse_name" Ww ["name", "known"]
 m_refuse_name:mg "refuse_name" =some (.ref d_refuse_name.f)
 d_parts_by_name:Dn K "parts_by_name" "parts_by_name" Xt ["parts"]
 m_parts_by_name:mg "parts_by_name" =some (.ref d_parts_by_name.f)
 d_ends_to_parts:Dn K "ends_to_parts" "ends_to_parts" Xz ["part_of"]
 m_ends_to_parts:mg "ends_to_parts" =some (.ref d_ends_to_parts.f)
 d_refuse_join:Dn K "refuse_join" "refuse_join" Wq ["join", "part_at", "joined"]
 m_refuse_join:mg "refuse_join" =some (.ref d_refuse_join.f)
 d_joined_ends:Dn K "joined_ends" "joined_ends" Wt ["joins", "part_at"]
 m_joined_ends:mg "joined_ends" =some (.ref d_joined_ends.f)
 d_refuse_post:Dn K "refuse_post" "refuse_post" Wo ["end", "part_at", "ends_with_signals"]
 m_refuse_post:mg "refuse_post" =some (.ref d_refuse_post.f)
 d_posts_of:Dn K "posts_of" "posts_of" Zbr ["signals", "part_at"]
 m_posts_of:mg "posts_of" =some (.ref d_posts_of.f)
 d_Tracks___init__:DnD K "__init__" "Tracks.__init__" Xb ["self", "parts", "joins", "signals"] .non
 d_Tracks_named:Dn K "named" "Tracks.named" X8 ["self", "name"]
 d_Tracks_beyond:Dn K "beyond" "Tracks.beyond" Xr ["self", "end"]
 d_Tracks_signal_at:Dn K "signal_at" "Tracks.signal_at" Y6 ["self", "end"]
 d_Tracks_signals:Dn K "signals" "Tracks.signals" Xj ["self"]
 d_Tracks_end_of:Dn K "end_of" "Tracks.end_of" Xu ["self", "signal"]
 d__law_mixed:Dn K "_law_mixed" "_law_mixed" Zab ["_law_cell", "_law_k"]
 m__law_mixed:mg "_law_mixed" =some (.ref d__law_mixed.f)
 d__law_cell_at:Dn K "_law_cell_at" "_law_cell_at" X9 ["_law_script", "_law_k"]
 m__law_cell_at:mg "_law_cell_at" =some (.ref d__law_cell_at.f)
 d__law_cells:Dn K "_law_cells" "_law_cells" Zap ["_law_script", "_law_at", "_law_end"]
 m__law_cells:mg "_law_cells" =some (.ref d__law_cells.f)
 d__law_ends:Dn K "_law_ends" "_law_ends" Za6 ["_law_kind"]
 m__law_ends:mg "_law_ends" =some (.ref d__law_ends.f)
 d__law_name_by:Dn K "_law_name_by" "_law_name_by" Wg ["_law_kind", "_law_cell", "_law_k"]
 m__law_name_by:mg "_law_name_by" =some (.ref d__law_name_by.f)
 d__law_block:Dn K "_law_block" "_law_block" Zaf ["_law_cell", "_law_names"]
 m__law_block:mg "_law_block" =some (.ref d__law_block.f)
 d__law_line:Dn K "_law_line" "_law_line" Za5 ["_law_cells_here"]
 m__law_line:mg "_law_line" =some (.ref d__law_line.f)
 d__law_closed:Dn K "_law_closed" "_law_closed" Wp ["_law_parts", "_law_joins", "_law_rest", "_law_cell"]
 m__law_closed:mg "_law_closed" =some (.ref d__law_closed.f)
 d__law_drawn:Dn K "_law_drawn" "_law_drawn" Zac ["_law_cells_here"]
 m__law_drawn:mg "_law_drawn" =some (.ref d__law_drawn.f)
 d__law_signals_by:Dn K "_law_signals_by" "_law_signals_by" Xc ["_law_parts", "_law_cell"]
 m__law_signals_by:mg "_law_signals_by" =some (.ref d__law_signals_by.f)
 d__law_long:Dn K "_law_long" "_law_long" Za8 ["_law_cell"]
 m__law_long:mg "_law_long" =some (.ref d__law_long.f)
 d__law_yard_by:Dn K "_law_yard_by" "_law_yard_by" We ["_law_cells_here", "_law_cell"]
 m__law_yard_by:mg "_law_yard_by" =some (.ref d__law_yard_by.f)
 d__law_part:Dn K "_law_part" "_law_part" Za2 ["_law_kind", "_law_name"]
 m__law_part:mg "_law_part" =some (.ref d__law_part.f)
 d__law_tracks:Dn K "_law_tracks" "_law_tracks" Wv ["_law_yard"]
 m__law_tracks:mg "_law_tracks" =some (.ref d__law_tracks.f)
 d__law_map:Dn K "_law_map" "_law_map" Zb0 ["_law_yard"]
 m__law_map:mg "_law_map" =some (.ref d__law_map.f)
 d__law_leads:Dn K "_law_leads" "_law_leads" Zak ["_law_kind", "_law_end"]
 m__law_leads:mg "_law_leads" =some (.ref d__law_leads.f)
 d__law_into:Dn K "_law_into" "_law_into" Za1 ["_law_plan", "_law_end"]
 m__law_into:mg "_law_into" =some (.ref d__law_into.f)
 d__law_ends_so:Dn K "_law_ends_so" "_law_ends_so" Wd ["_law_plan", "_law_step"]
 m__law_ends_so:mg "_law_ends_so" =some (.ref d__law_ends_so.f)
 d__law_round:Dn K "_law_round" "_law_round" Zah ["_law_plan", "_law_row", "_law_cells_here"]
 m__law_round:mg "_law_round" =some (.ref d__law_round.f)
 d__law_spoilt:Dn K "_law_spoilt" "_law_spoilt" Wx ["_law_route", "_law_cell"]
 m__law_spoilt:mg "_law_spoilt" =some (.ref d__law_spoilt.f)
 CPart:Addr
 mPart:mg "Part" =some (.ref CPart)
 clPart:Cls K CPart
 nPart_name:Wj K CPart "name"
 mkPart:Mk K CPart d_Part___init__.f
 mtPart_ends:X1 K CPart "ends" d_Part_ends.f
 mtPart_lies:X1 K CPart "lies" d_Part_lies.f
 mtPart_pairs:X1 K CPart "pairs" d_Part_pairs.f
 mtPart_bears:X1 K CPart "bears" d_Part_bears.f
 mtPart_leads:X1 K CPart "leads" d_Part_leads.f
 CPlain:Addr
 mPlain:mg "Plain" =some (.ref CPlain)
 clPlain:Cls K CPlain
 nPlain_name:Wj K CPlain "name"
 mkPlain:Mk K CPlain d_Part___init__.f
 mtPlain_ends:X1 K CPlain "ends" d_Part_ends.f
 mtPlain_lies:X1 K CPlain "lies" d_Part_lies.f
 mtPlain_pairs:X1 K CPlain "pairs" d_Part_pairs.f
 mtPlain_bears:X1 K CPlain "bears" d_Part_bears.f
 mtPlain_leads:X1 K CPlain "leads" d_Part_leads.f
 CStop:Addr
 mStop:mg "Stop" =some (.ref CStop)
 clStop:Cls K CStop
 nStop_name:Wj K CStop "name"
 mkStop:Mk K CStop d_Part___init__.f
 mtStop_ends:X1 K CStop "ends" d_Stop_ends.f
 mtStop_lies:X1 K CStop "lies" d_Part_lies.f
 mtStop_pairs:X1 K CStop "pairs" d_Stop_pairs.f
 mtStop_bears:X1 K CStop "bears" d_Part_bears.f
 mtStop_leads:X1 K CStop "leads" d_Part_leads.f
 CGate:Addr
 mGate:mg "Gate" =some (.ref CGate)
 clGate:Cls K CGate
 nGate_name:Wj K CGate "name"
 mkGate:Mk K CGate d_Part___init__.f
 mtGate_ends:X1 K CGate "ends" d_Stop_ends.f
 mtGate_lies:X1 K CGate "lies" d_Part_lies.f
 mtGate_pairs:X1 K CGate "pairs" d_Stop_pairs.f
 mtGate_bears:X1 K CGate "bears" d_Part_bears.f
 mtGate_leads:X1 K CGate "leads" d_Part_leads.f
 CPoints:Addr
 mPoints:mg "Points" =some (.ref CPoints)
 clPoints:Cls K CPoints
 nPoints_name:Wj K CPoints "name"
 mkPoints:Mk K CPoints d_Part___init__.f
 mtPoints_ends:X1 K CPoints "ends" d_Points_ends.f
 mtPoints_lies:X1 K CPoints "lies" d_Points_lies.f
 mtPoints_pairs:X1 K CPoints "pairs" d_Points_pairs.f
 mtPoints_bears:X1 K CPoints "bears" d_Points_bears.f
 mtPoints_leads:X1 K CPoints "leads" d_Part_leads.f
 CCross:Addr
 mCross:mg "Cross" =some (.ref CCross)
 clCross:Cls K CCross
 nCross_name:Wj K CCross "name"
 mkCross:Mk K CCross d_Part___init__.f
 mtCross_ends:X1 K CCross "ends" d_Cross_ends.f
 mtCross_lies:X1 K CCross "lies" d_Part_lies.f
 mtCross_pairs:X1 K CCross "pairs" d_Cross_pairs.f
 mtCross_bears:X1 K CCross "bears" d_Cross_bears.f
 mtCross_leads:X1 K CCross "leads" d_Part_leads.f
 CTracks:Addr
 mTracks:mg "Tracks" =some (.ref CTracks)
 clTracks:Cls K CTracks
 nTracks_part_of:Wj K CTracks "part_of"
 nTracks_joined:Wj K CTracks "joined"
 nTracks_post_of:Wj K CTracks "post_of"
 nTracks_signal_on:Wj K CTracks "signal_on"
 mkTracks:Mk K CTracks d_Tracks___init__.f
 mtTracks_named:X1 K CTracks "named" d_Tracks_named.f
 mtTracks_beyond:X1 K CTracks "beyond" d_Tracks_beyond.f
 mtTracks_signal_at:X1 K CTracks "signal_at" d_Tracks_signal_at.f
 mtTracks_signals:X1 K CTracks "signals" d_Tracks_signals.f
 mtTracks_end_of:X1 K CTracks "end_of" d_Tracks_end_of.f
 n_len:mg "len" =none
 n_range:mg "range" =none
 n_isinstance:mg "isinstance" =none
 n_list:mg "list" =none
 n_dict:mg "dict" =none
 n_tuple:mg "tuple" =none
 n_str:mg "str" =none
 n_enumerate:mg "enumerate" =none
 n_max:mg "max" =none
 n_min:mg "min" =none
 n_sum:mg "sum" =none
 n_sorted:mg "sorted" =none
 n_all:mg "all" =none
 kTT:kitOne K (.type "tuple") (.type "tuple")=some true
 kSS:kitOne K (.type "str") (.type "str")=some true
 kNT:kitOne K (.type "NoneType") (.type "tuple")=some false
 kIT:kitOne K (.type "int") (.type "tuple")=some false
 kST:kitOne K (.type "str") (.type "tuple")=some false
 kLT:kitOne K (.type "list") (.type "tuple")=some false
 kBT:kitOne K (.type "bool") (.type "tuple")=some false
 iPart:kitOne K (.ref CPart) (.ref CStop)=some false
 iPlain:kitOne K (.ref CPlain) (.ref CStop)=some false
 iStop:kitOne K (.ref CStop) (.ref CStop)=some true
 iGate:kitOne K (.ref CGate) (.ref CStop)=some true
 iPoints:kitOne K (.ref CPoints) (.ref CStop)=some false
 iCross:kitOne K (.ref CCross) (.ref CStop)=some false
 c_LETTERS:∃tk,mg "LETTERS" =some (.str "abcdefghijklmnopqrstuvwxyz" tk)
 c_FIGURES:∃tk,mg "FIGURES" =some (.str "0123456789" tk)
 c_LONGEST_NAME:∃tk,mg "LONGEST_NAME" =some (.int 6 tk)
 c_MOST_PARTS:∃tk,mg "MOST_PARTS" =some (.int 40 tk)
 c_MOST_SIGNALS:∃tk,mg "MOST_SIGNALS" =some (.int 40 tk)
 c_MOST_STEPS:∃tk,mg "MOST_STEPS" =some (.int 12 tk)
 a_NO_END:Addr
 c_NO_END:mg "NO_END" =some (.ref a_NO_END)
 t_NO_END:∀H:Hp,SqT K H a_NO_END ([.str "",.str ""]:List V)
 tG:PySem.W.specialIn K (.builtin "object.__class__") "__get__" =some (some (.builtin "getset_descriptor.__get__"))
 tK:PySem.W.takesIn K (.builtin "object.__class__")=some true
 tcPart:findIn K (.ref CPart) "__class__" =some (some (.builtin "object.__class__"))
 tmPart:PySem.W.mroIn K CPart (.type "object")=some true
 tcPlain:findIn K (.ref CPlain) "__class__" =some (some (.builtin "object.__class__"))
 tmPlain:PySem.W.mroIn K CPlain (.type "object")=some true
 tcStop:findIn K (.ref CStop) "__class__" =some (some (.builtin "object.__class__"))
 tmStop:PySem.W.mroIn K CStop (.type "object")=some true
 tcGate:findIn K (.ref CGate) "__class__" =some (some (.builtin "object.__class__"))
 tmGate:PySem.W.mroIn K CGate (.type "object")=some true
 tcPoints:findIn K (.ref CPoints) "__class__" =some (some (.builtin "object.__class__"))
 tmPoints:PySem.W.mroIn K CPoints (.type "object")=some true
 tcCross:findIn K (.ref CCross) "__class__" =some (some (.builtin "object.__class__"))
 tmCross:PySem.W.mroIn K CCross (.type "object")=some true
section
variable {P:Program} {w:World} {K:Frag} {mg:Str->Option Value} {base:Heap}
seal PySem.wpAny
open YM
def Zqu:Sp:=fun vs H Q _=>∃c k:Int,vs=[.int c,.int k]/\Q (.int (Zes c k)) H
def Zuz(K:Frag):Sp:=fun vs H Q _=>∃(a:Addr) (ns:List Int) (k:Nat),vs=[.ref a,.int k]/\SqL K H a (ns.map V.int)/\Q (.int (Zm0 ns k)) H
theorem Zti(T:Tx K mg):Z1 P w K mg base CX0 1 T.d__law_mixed.f T.d__law_mixed.fd ["_law_cell", "_law_k"] Zqu:=by
 refine T.d__law_mixed.F.okW Zem fun cdv A outer s H vs Q E hr h=>?_
 ·obtain ⟨c,k,rfl,q⟩:=h
  refine WSs.step (Zx (i:=2) Zem.nd (Zl Yo (Zl Zgy (Zl Wl (pv 0) (Zl Zgy Ze (pv 1))) Ze) Ze)) ?_
  refine ⟨_,rfl,_,rfl,_,_,rfl,rfl,.inl ⟨by decide,by decide⟩,.inl ⟨_,_,rfl,rfl,_,_,rfl,rfl,.inr ⟨by decide,by decide⟩,_,_,rfl,rfl,(by show (0:Int)<2147483647;decide),?_⟩⟩
  refine WSs.last (Zq (Zl Yo (Zl Zgy (pv 2) (Zl Wl (Zl Wl (pv 2) (Zl Zgy Ze (pv 1))) Ze)) Ze)) ?_
  refine ⟨_,rfl,_,rfl,_,rfl,_,_,rfl,rfl,.inl ⟨by decide,by decide⟩,.inl ⟨_,_,rfl,rfl,.inl ⟨_,_,rfl,rfl,_,_,rfl,rfl,.inl ?_,_,_,rfl,rfl,(by show (0:Int)<2147483629;decide),q⟩⟩⟩
  have h1:=Int.emod_nonneg ((c+7919 * k) * 48271) (show (2147483647:Int)≠0 by decide)
  have h2:=Int.emod_lt_of_pos ((c+7919 * k) * 48271) (show (0:Int)<2147483647 by decide)
  constructor <;>omega
theorem Zbg(T:Tx K mg){k:Nat}(h:1<=k:=by decide):Z1 P w K mg base CX0 k T.d__law_mixed.f T.d__law_mixed.fd ["_law_cell", "_law_k"] Zqu:=(Zti T).mono h
theorem Zv3(T:Tx K mg):Z1 P w K mg base CX0 2 T.d__law_cell_at.f T.d__law_cell_at.fd ["_law_script", "_law_k"] (Zuz K):=by
 refine T.d__law_cell_at.F.okW Zhk fun cdv A outer s H vs Q E hr h=>?_
 ·obtain ⟨a,ns,k,rfl,hS,q⟩:=h
  refine WSs.step (Ye (Zs Zfx (pv 1) (Z0 (r:=X0 K) X3 (by rfl) T.n_len PySem.boot_len (Zb (pv 0) Za)) (Z4 _)) Z2 Zv) ?_
  refine ⟨_,rfl,_,rfl,.inl ⟨a,_,rfl,.inl hS,_,_,rfl,rfl,_,rfl,Ym (fun hlt=>?_) (fun hlt=>?_)⟩⟩
  ·have hlt:=of_decide_eq_true hlt
   rw [List.length_map] at hlt
   have hk:k<ns.length:=by omega
   have e:ns[k]? =some ns[k]:=by simp [hk]
   refine WSs.last (Zq (Zu (Zbg T) hr rfl T.m__law_mixed T.d__law_mixed.F.kp T.d__law_mixed.b .nil Z3 (Zb (Zp (r:=rIx K) Zk (pv 0) (pv 1) (fun _ _=>rfl)) (Zb (pv 1) Za)))) ⟨_,rfl,_,rfl,.inl ⟨a,_,_,V.int ns[k],rfl,rfl,hS,Zn (by rw [List.getElem?_map,e];rfl),_,rfl,ns[k],k,rfl,?_⟩⟩
   unfold Zm0 at q
   rw [e] at q
   exact q
  ·have hlt:¬((k:Int)<((ns.map V.int).length:Int)):=fun z=>hlt (decide_eq_true z)
   rw [List.length_map] at hlt
   have e:ns[k]? =none:=List.getElem?_eq_none (by omega)
   unfold Zm0 at q
   rw [e] at q
   exact WSs.last (Zq Ze) q
theorem Zcz(T:Tx K mg){k:Nat}(h:2<=k:=by decide):Z1 P w K mg base CX0 k T.d__law_cell_at.f T.d__law_cell_at.fd ["_law_script", "_law_k"] (Zuz K):=(Zv3 T).mono h
def Ztx:Sp:=fun vs H Q _=>∃k:Str,vs=[.str k]/\∀p H',Same H H'->H p=none->H' p=some (.lst ((Yc k).map V.str))->Q (.ref p) H'
theorem Zl8(T:Tx K mg):Z1 P w K mg base CX0 1 T.d__law_ends.f T.d__law_ends.fd ["_law_kind"] Ztx:=by
 refine T.d__law_ends.F.okW Zmk fun cdv A outer s H vs Q E hr h=>?_
 ·obtain ⟨k,rfl,q⟩:=h
  refine WSs.step (Ye (Zs (r:=Zaz K) (Zba hr) (pv 0) Zf (Z4 _)) Z2 Zv) ⟨_,rfl,.inl ⟨rfl,_,rfl,Ym (fun hc=>?_) (fun hc=>?_)⟩⟩
  ·have hc:k = "points" :=by simpa using hc
   subst hc
   exact WSs.last (Zq (Zm (Zb Zf (Zb Zf (Zb Zf Za))))) ⟨sz (by simp),fun p H1 s1 n1 e1=>q p H1 s1 n1 e1⟩
  have h1:¬k = "points" :=by simpa using hc
  refine WSs.step (Ye (Zs (r:=Zaz K) (Zba hr) (pv 0) Zf (Z4 _)) Z2 Zv) ⟨_,rfl,.inl ⟨rfl,_,rfl,Ym (fun hc=>?_) (fun hc=>?_)⟩⟩
  ·have hc:k = "cross" :=by simpa using hc
   subst hc
   exact WSs.last (Zq (Zm (Zb Zf (Zb Zf (Zb Zf (Zb Zf Za)))))) ⟨sz (by simp),fun p H1 s1 n1 e1=>q p H1 s1 n1 e1⟩
  have h2:¬k = "cross" :=by simpa using hc
  refine WSs.step (Ye (Zs (r:=Zaz K) (Zba hr) (pv 0) Zf (Z4 _)) Z2 Zv) ⟨_,rfl,.inl ⟨rfl,_,rfl,Ym (fun hc=>?_) (fun hc=>?_)⟩⟩
  ·have hc:k = "plain" :=by simpa using hc
   subst hc
   exact WSs.last (Zq (Zm (Zb Zf (Zb Zf Za)))) ⟨sz (by simp),fun p H1 s1 n1 e1=>q p H1 s1 n1 e1⟩
  have h3:¬k = "plain" :=by simpa using hc
  exact WSs.last (Zq (Zm (Zb Zf Za))) ⟨sz (by simp),fun p H1 s1 n1 e1=>q p H1 s1 n1 (by unfold Yc;rw [if_neg h1,if_neg h2,if_neg h3];exact e1)⟩
theorem Zg5(T:Tx K mg){k:Nat}(h:1<=k:=by decide):Z1 P w K mg base CX0 k T.d__law_ends.f T.d__law_ends.fd ["_law_kind"] Ztx:=(Zl8 T).mono h
theorem Zjb{n:Nat}{i:Int}{l:List Nat}(hl:l.length=n)(h0:0<=i)(h1:i<n):atI l i=some (l.getD i.toNat 0):=by
 have e:i=((i.toNat:Nat):Int):=by omega
 have hi:i.toNat<l.length:=by omega
 rw [e]
 refine Zn ?_
 rw [List.getD_eq_getElem?_getD,Int.toNat_natCast,List.getElem?_eq_getElem hi]
 rfl
def Zol:Sp:=fun vs H Q _=>∃(kind:Str) (c:Int) (k:Nat),vs=[.str kind,.int c,.int k]/\0<kind.length/\kind.length<=100/\0<=c/\k<100/\Q (.str (Ys kind c k)) H
theorem Zho(T:Tx K mg):Z1 P w K mg base CX0 1 T.d__law_name_by.f T.d__law_name_by.fd ["_law_kind", "_law_cell", "_law_k"] Zol:=by
 refine T.d__law_name_by.F.okW Zcc fun cdv A outer s H vs Q E hr h=>?_
 ·obtain ⟨kind,c,k,rfl,hk0,hkl,hc,hk,q⟩:=h
  refine WSs.step (Zx (i:=3) Zcc.nd Zf) ?_
  have fl:=Zfo k hk
  refine WSs.step (Ye (Zs (r:=Zaz K) (Zba hr) (Zl Yo (pv 1) Ze) Ze (Z4 _)) Z2 Zv) ⟨_,rfl,_,_,rfl,rfl,(by show (0:Int)<3;decide),.inl ⟨rfl,_,rfl,Ym (fun hc3=>?_) (fun hc3=>?_)⟩⟩
  ·have hc3:c%3=0:=by simpa using hc3
   unfold Ys at q
   rw [if_pos hc3] at q
   refine WSs.last (Zq (Zl Wl (Zp (r:=rIx K) Zk (pv 0) Ze (fun _ _=>rfl)) (Xx Zbf (by rfl) T.n_str PyProof.Rows.boot_str (Zb (pv 2) Za)))) ⟨_,rfl,.inr (.inr ⟨kind,0,kind.cps.toList.getD 0 0,rfl,rfl,sz (by omega),?_,_,rfl,(k:Int),rfl,Zm9 hk,.inr (.inl ⟨_,_,rfl,rfl,sz ?_,q⟩)⟩)⟩
   ·have:(0:Int)<kind.cps.toList.length:=by rw [Array.length_toList];exact Int.ofNat_lt.mpr hk0
    exact Zjb (n:=kind.cps.toList.length) rfl (by decide) this
   ·show 1+(Zej k).length<=1000
    omega
  have hc3:¬c%3=0:=by simpa using hc3
  have a0:=Int.emod_nonneg (c / 3) (show (26:Int)≠0 by decide)
  have a1:=Int.emod_lt_of_pos (c / 3) (show (0:Int)<26 by decide)
  have b0:=Int.emod_nonneg (c / 78) (show (26:Int)≠0 by decide)
  have b1:=Int.emod_lt_of_pos (c / 78) (show (0:Int)<26 by decide)
  have z0:=Int.emod_nonneg (c / 2028) (show (3:Int)≠0 by decide)
  have z1:=Int.emod_lt_of_pos (c / 2028) (show (0:Int)<3 by decide)
  obtain ⟨zn,hzn⟩:∃zn:Nat,c / 2028%3=(zn:Int):=⟨(c / 2028%3).toNat,by omega⟩
  unfold Ys at q
  rw [if_neg hc3,hzn,Int.toNat_natCast] at q
  refine WSs.step (Zx (i:=4) Zcc.nd (Zl Wl (Zp (r:=rIx K) Zk (pv 3) (Zl Yo (Zl Yt (pv 1) Ze) Ze) (fun _ _=>rfl)) (Zp (r:=rIx K) Zk (pv 3) (Zl Yo (Zl Yt (pv 1) Ze) Ze) (fun _ _=>rfl)))) ⟨_,rfl,_,rfl,_,_,rfl,rfl,⟨by decide,by decide⟩,_,_,rfl,rfl,(by show (0:Int)<26;decide),.inr (.inr ⟨_,_,Zdc (c / 3%26),rfl,rfl,sz (by rw [Zia];decide),(by rw [Zmz];exact Zjb (n:=26) rfl a0 a1),?_⟩)⟩
  refine ⟨_,rfl,_,rfl,_,_,rfl,rfl,⟨by decide,by decide⟩,_,_,rfl,rfl,(by show (0:Int)<26;decide),.inr (.inr ⟨_,_,Zdc (c / 78%26),rfl,rfl,sz (by rw [Zia];decide),(by rw [Zmz];exact Zjb (n:=26) rfl b0 b1),.inr (.inl ⟨_,_,rfl,rfl,sz (by show 1+1<=1000;decide),?_⟩)⟩)⟩
  have rl:(Zga "0" zn).length<=2:=by
   have:zn<3:=by omega
   have hd:∀m,m<3->(Zga "0" m).length<=2:=by trivial
   exact hd zn this
  have ll:(⟨#[Zdc (c / 3%26)]⟩++⟨#[Zdc (c / 78%26)]⟩:Str).length=2:=by rw [PySem.Str.length_append];rfl
  refine WSs.last (Zq (Zl Wl (Zl Wl (pv 4) (Zl Zv5 Zf (Zl Yo (Zl Yt (pv 1) Ze) Ze))) (Xx Zbf (by rfl) T.n_str PyProof.Rows.boot_str (Zb (pv 2) Za)))) ⟨_,rfl,_,rfl,_,_,rfl,rfl,⟨by decide,by decide⟩,_,_,rfl,rfl,(by show (0:Int)<3;decide), "0",zn,rfl,by rw [<-hzn],by show 1 * zn<=1000;omega,by omega,.inr (.inl ⟨_,_,rfl,rfl,sz (by rw [ll];omega),_,rfl,(k:Int),rfl,Zm9 hk,.inr (.inl ⟨_,_,rfl,rfl,sz ?_,q⟩)⟩)⟩
  show _+(Zej k).length<=1000
  rw [PySem.Str.length_append,ll]
  omega
theorem Zd7(T:Tx K mg){k:Nat}(h:1<=k:=by decide):Z1 P w K mg base CX0 k T.d__law_name_by.f T.d__law_name_by.fd ["_law_kind", "_law_cell", "_law_k"] Zol:=(Zho T).mono h
def Zw(H:Hp)(t:Addr)(q:Zc):Prop:=H t=some (.tup [.str q.1,.str q.2])
def W7(H:Hp)(t:Addr)(j:Zc×Zc):Prop:=∃a b,H t=some (.tup [.ref a,.ref b])/\Zw H a j.1/\Zw H b j.2
def Zz(H:Hp)(l:Addr)(ps:List Zc):Prop:=∃ts:List Addr,H l=some (.lst (ts.map V.ref))/\Paired (Zw H) ts ps
def Yj(H:Hp)(l:Addr)(js:List (Zc×Zc)):Prop:=∃ts:List Addr,H l=some (.lst (ts.map V.ref))/\Paired (W7 H) ts js
theorem Zw.mono{H H':Hp}{t:Addr}{q:Zc}(e:Same H H')(h:Zw H t q):Zw H' t q:=e.at h
theorem W7.mono{H H':Hp}{t:Addr}{j:Zc×Zc}(e:Same H H')(h:W7 H t j):W7 H' t j:=let ⟨a,b,h1,h2,h3⟩:=h;⟨a,b,e.at h1,h2.mono e,h3.mono e⟩
theorem Zz.mono{H H':Hp}{l:Addr}{ps:List Zc}(e:Same H H')(h:Zz H l ps):Zz H' l ps:=let ⟨ts,h1,h2⟩:=h;⟨ts,e.at h1,Paired.mapP h2 fun _ _ r=>r.mono e⟩
theorem Yj.mono{H H':Hp}{l:Addr}{js:List (Zc×Zc)}(e:Same H H')(h:Yj H l js):Yj H' l js:=let ⟨ts,h1,h2⟩:=h;⟨ts,e.at h1,Paired.mapP h2 fun _ _ r=>r.mono e⟩
def Zqi:Sp:=fun vs H Q _=>∃(c:Int) (nl:Addr) (n1 n2 n3 n4:Str),vs=[.int c,.ref nl]/\H nl=some (.lst [.str n1,.str n2,.str n3,.str n4]) /\
 ∀(t:Addr) (H':Hp) (pl jl ie oe:Addr) (ps:List Zc) (js:List (Zc×Zc)) (e1 e2:Zc),Same H H'->H' t=some (.tup [.ref pl,.ref jl,.ref ie,.ref oe])->Zz H' pl ps->Yj H' jl js->Zw H' ie e1->Zw H' oe e2->Zbi n1 n2 n3 n4 ps js e1 e2->Q (.ref t) H'
theorem Zmt{n:Int}{u v:V}:∃w,atI [u,v] (n%2)=some w/\((n%2=0/\w=u)\/(n%2=1/\w=v)):=by
 have h0:=Int.emod_nonneg n (show (2:Int)≠0 by decide)
 have h1:=Int.emod_lt_of_pos n (show (0:Int)<2 by decide)
 generalize n%2=m at h0 h1
 have:m=0\/m=1:=by omega
 rcases this with rfl|rfl
 ·exact ⟨u,rfl,.inl ⟨rfl,rfl⟩⟩
 ·exact ⟨v,rfl,.inr ⟨rfl,rfl⟩⟩
theorem Zvh{l D:Addr}{xs:List Str}{x:Str}{H1:Hp}{Q:VK}{σ:St}(hl:H1 l=some (.lst (xs.map V.str)))(hn:xs.length<=100)(hD:H1 D=none)(q:∀H',Same H1 H'->H' D=some (.lst ((xs.filter fun e=>decide (e≠x)).map V.str))->Q (.ref D) H'){fr:St->St}(hfr:fr σ=[none,some (.str x)]){tf:TT}(htf:tf=Zxl (tOp (Zj7 K) (Zka 0) (Zka 1))) :
  Zdx (Itl K l) fr (Zd8 0) tf (Zka 0) Q σ H1 D:=by
 refine Xq (xs:=xs.map V.str) (fun i ys H'=>ys=((xs.take i).filter fun e=>decide (e≠x)).map V.str/\H' D=some (.lst ys)/\Same H1 H') ⟨rfl,Zh,Same.new hD⟩ ?_ ?_ ?_
 ·rintro i ys H' _ ⟨_,_,sm⟩
  exact SqL.of (sm.at hl)
 ·rintro k v ys H' hk ⟨rfl,hD',sm⟩
  rw [List.getElem?_map] at hk
  obtain ⟨y,hy,rfl⟩:=Option.map_eq_some_iff.mp hk
  unfold Zdb
  rw [hfr,htf]
  refine ⟨W2.set rfl,_,rfl,_,rfl,.inl ⟨rfl,_,rfl,Ym (fun hc=>?_) (fun hc=>?_)⟩⟩
  ·have hc:y≠x:=by simpa using hc
   refine ⟨_,rfl,hD',?_,?_,Zh,fun b o e=>?_⟩
   ·rw [List.length_map]
    have:=List.length_filter_le (fun e:Str=>decide (e≠x)) (xs.take k)
    rw [List.length_take] at this
    exact Zy (by omega)
   ·rw [List.take_add_one,hy,List.filter_append,List.map_append,show (some y).toList=[y] from rfl,List.filter_cons,if_pos (decide_eq_true hc)]
    rfl
   ·rw [Zj (Zi e hD)];exact sm.at e
  ·have hc:¬y≠x:=by simpa using hc
   refine ⟨?_,hD',sm⟩
   rw [List.take_add_one,hy,List.filter_append,show (some y).toList=[y] from rfl,List.filter_cons,if_neg (by simpa using hc),List.filter_nil,List.append_nil]
 ·rintro ys H6 ⟨rfl,hD6,s6⟩
  rw [List.length_map,List.take_length] at hD6
  exact q H6 s6 hD6
theorem Zkh(T:Tx K mg):Z1 P w K mg base CX0 1 T.d__law_block.f T.d__law_block.fd ["_law_cell", "_law_names"] Zqi:=by
 refine T.d__law_block.F.okW Z9 fun cdv A outer s H vs Q E hr h=>?_
 ·obtain ⟨c,nl,n1,n2,n3,n4,rfl,hnl,q⟩:=h
  refine WSs.step (Zp7 (pv 1) (Zyi rfl (Z6 (Y5 (i:=2) Z9.nd) (Z6 (Y5 (i:=3) Z9.nd) (Z6 (Y5 (i:=4) Z9.nd) (Z6 (Y5 (i:=5) Z9.nd) X2)))))) ⟨_,rfl,nl,_,rfl,SqL.of hnl,rfl,_,_,rfl,_,_,rfl,_,_,rfl,_,_,rfl,rfl,?_⟩
  refine WSs.step (Zx (i:=6) Z9.nd (Zl Yo (pv 0) Ze)) ⟨_,rfl,_,_,rfl,rfl,(by show (0:Int)<8;decide),?_⟩
  refine WSs.step (Ye (Zs Zfx (pv 6) Ze (Z4 _)) Z2 Zv) ⟨_,rfl,_,_,rfl,rfl,_,rfl,Ym (fun _=>?_) (fun _=>?_)⟩
  ·refine WSs.step (Zx (i:=7) Z9.nd (Zp (r:=rIx K) Zk (Zm (Zb (Zm (Zb Zf (Zb Zf Za))) (Zb (Zm (Zb Zf (Zb Zf Za))) Za))) (Zl Yo (Zl Yt (pv 0) Ze) Ze) (fun _ _=>rfl))) ⟨sz (by simp),fun la H1 s1 _ e1=>⟨sz (by simp),fun lb H2 s2 _ e2=>⟨sz (by simp),fun ll H3 s3 _ e3=>⟨_,rfl,_,_,rfl,rfl,⟨by decide,by decide⟩,_,_,rfl,rfl,(by show (0:Int)<2;decide),?_⟩⟩⟩⟩
   obtain ⟨l7,a,b,hat,h7,hab⟩:∃l7 a b,atI [V.ref la,.ref lb] (c / 8%2)=some (.ref l7)/\H3 l7=some (.lst [.str a,.str b])/\(a,b)∈[(("a" :Str),("b" :Str)),("b", "a")]:=by
    obtain ⟨w,hw,h | h⟩:=Zmt (n:=c / 8) (u:=V.ref la) (v:=V.ref lb)
    ·exact ⟨la, "a", "b",by rw [hw,h.2],s3.at (s2.at e1),by simp⟩
    ·exact ⟨lb, "b", "a",by rw [hw,h.2],s3.at e2,by simp⟩
   refine .inl ⟨ll,_,_,.ref l7,rfl,rfl,SqL.of e3,hat,?_⟩
   have s03:=s1.trans (s2.trans s3)
   refine WSs.last (Zq (Zg (Zb (Zm (Zb (Zg (Zb Zf (Zb (pv 2) Za))) Za)) (Zb (Zm Za) (Zb (Zg (Zb (pv 2) (Zb (Zp (r:=rIx K) Zk (pv 7) Ze (fun _ _=>rfl)) Za))) (Zb (Zg (Zb (pv 2) (Zb (Zp (r:=rIx K) Zk (pv 7) Ze (fun _ _=>rfl)) Za))) Za)))))) ⟨_,rfl,sz (by simp),fun t1 H4 s4 _ e4=>⟨sz (by simp),fun pl H5 s5 _ e5=>⟨sz (by simp),fun jl H6 s6 _ e6=>⟨_,rfl,_,rfl,.inl ⟨l7,_,_,.str a,rfl,rfl,SqL.of (s6.at (s5.at (s4.at h7))),rfl,sz (by simp),fun ie H7 s7 _ e7=>⟨_,rfl,_,rfl,.inl ⟨l7,_,_,.str b,rfl,rfl,SqL.of (s7.at (s6.at (s5.at (s4.at h7)))),rfl,sz (by simp),fun oe H8 s8 _ e8=>⟨sz (by simp),fun t H9 s9 _ e9=>?_⟩⟩⟩⟩⟩⟩⟩⟩
   exact q t H9 pl jl ie oe _ _ _ _ (s03.trans (s4.trans (s5.trans (s6.trans (s7.trans (s8.trans s9)))))) e9 ⟨[t1],s9.at (s8.at (s7.at (s6.at e5))),.cons (s9.at (s8.at (s7.at (s6.at (s5.at e4))))) .nil⟩ ⟨[],s9.at (s8.at (s7.at e6)),.nil⟩ (s9.at (s8.at e7)) (s9.at e8) (.plain a b hab)
  refine WSs.step (Ye (Zs Zfx (pv 6) Ze (Z4 _)) Z2 Zv) ⟨_,rfl,_,_,rfl,rfl,_,rfl,Ym (fun _=>?_) (fun _=>?_)⟩
  ·refine WSs.step (Zx (i:=8) Z9.nd (Zp (r:=rIx K) Zk (Zm (Zb (Zm (Zb Zf (Zb Zf Za))) (Zb (Zm (Zb Zf (Zb Zf Za))) Za))) (Zl Yo (Zl Yt (pv 0) Ze) Ze) (fun _ _=>rfl))) ⟨sz (by simp),fun la H1 s1 _ e1=>⟨sz (by simp),fun lb H2 s2 _ e2=>⟨sz (by simp),fun ll H3 s3 _ e3=>⟨_,rfl,_,_,rfl,rfl,⟨by decide,by decide⟩,_,_,rfl,rfl,(by show (0:Int)<2;decide),?_⟩⟩⟩⟩
   obtain ⟨l7,a,b,hat,h7,hab⟩:∃l7 a b,atI [V.ref la,.ref lb] (c / 8%2)=some (.ref l7)/\H3 l7=some (.lst [.str a,.str b])/\(a,b)∈[(("left" :Str),("right" :Str)),("right", "left")]:=by
    obtain ⟨w,hw,h | h⟩:=Zmt (n:=c / 8) (u:=V.ref la) (v:=V.ref lb)
    ·exact ⟨la, "left", "right",by rw [hw,h.2],s3.at (s2.at e1),by simp⟩
    ·exact ⟨lb, "right", "left",by rw [hw,h.2],s3.at e2,by simp⟩
   refine .inl ⟨ll,_,_,.ref l7,rfl,rfl,SqL.of e3,hat,?_⟩
   have s03:=s1.trans (s2.trans s3)
   refine WSs.step (Zx (i:=9) Z9.nd (Zm (Zb (Zg (Zb (Zg (Zb (pv 2) (Zb Zf Za))) (Zb (Zg (Zb (pv 3) (Zb Zf Za))) Za))) (Zb (Zg (Zb (Zg (Zb (pv 2) (Zb Zf Za))) (Zb (Zg (Zb (pv 4) (Zb Zf Za))) Za))) Za)))) ⟨_,rfl,sz (by simp),fun a1 H4 s4 _ f1=>⟨_,rfl,sz (by simp),fun a2 H5 s5 _ f2=>⟨sz (by simp),fun j1 H6 s6 _ f3=>⟨_,rfl,sz (by simp),fun a3 H7 s7 _ f4=>⟨_,rfl,sz (by simp),fun a4 H8 s8 _ f5=>⟨sz (by simp),fun j2 H9 s9 _ f6=>⟨sz (by simp),fun jA H10 s10 _ f7=>?_⟩⟩⟩⟩⟩⟩⟩
   have J1:W7 H10 j1 ((n1, "left"),(n2, "a")):=⟨a1,a2,s10.at (s9.at (s8.at (s7.at f3))),s10.at (s9.at (s8.at (s7.at (s6.at (s5.at f1))))),s10.at (s9.at (s8.at (s7.at (s6.at f2))))⟩
   have J2:W7 H10 j2 ((n1, "right"),(n3, "a")):=⟨a3,a4,s10.at f6,s10.at (s9.at (s8.at f4)),s10.at (s9.at f5)⟩
   have s0A:=s03.trans (s4.trans (s5.trans (s6.trans (s7.trans (s8.trans (s9.trans s10))))))
   have h7:=(s4.trans (s5.trans (s6.trans (s7.trans (s8.trans (s9.trans s10)))))).at h7
   clear s1 s2 s3 s4 s5 s6 s7 s8 s9 s10 f1 f2 f3 f4 f5 f6 e1 e2 e3 s03
   refine WSs.step (Zx (i:=9) Z9.nd (Zl Wl (pv 9) (Zm (Zb (Zg (Zb (Zg (Zb (pv 3) (Zb Zf Za))) (Zb (Zg (Zb (pv 5) (Zb (Zp (r:=rIx K) Zk (pv 8) Ze (fun _ _=>rfl)) Za))) Za))) (Zb (Zg (Zb (Zg (Zb (pv 5) (Zb (Zp (r:=rIx K) Zk (pv 8) Ze (fun _ _=>rfl)) Za))) (Zb (Zg (Zb (pv 4) (Zb Zf Za))) Za))) Za))))) ⟨_,rfl,_,rfl,sz (by simp),fun b1 H11 s11 _ f1=>⟨_,rfl,_,rfl,.inl ⟨l7,_,_,.str a,rfl,rfl,SqL.of (s11.at h7),rfl,sz (by simp),fun b2 H12 s12 _ f2=>⟨sz (by simp),fun j3 H13 s13 _ f3=>⟨_,rfl,_,rfl,.inl ⟨l7,_,_,.str b,rfl,rfl,SqL.of (s13.at (s12.at (s11.at h7))),rfl,sz (by simp),fun b3 H14 s14 _ f4=>⟨_,rfl,sz (by simp),fun b4 H15 s15 _ f5=>⟨sz (by simp),fun j4 H16 s16 _ f6=>⟨sz (by simp),fun jB H17 s17 _ f8=>.inr (.inr ⟨jA,jB,_,_,rfl,rfl,(s11.trans (s12.trans (s13.trans (s14.trans (s15.trans (s16.trans s17)))))).at f7,f8,sz (by simp),fun jl H18 s18 _ f9=>?_⟩)⟩⟩⟩⟩⟩⟩⟩⟩⟩
   have sAB:=s11.trans (s12.trans (s13.trans (s14.trans (s15.trans (s16.trans (s17.trans s18))))))
   have J3:W7 H18 j3 ((n2, "b"),(n4,a)):=⟨b1,b2,(s14.trans (s15.trans (s16.trans (s17.trans s18)))).at f3,(s12.trans (s13.trans (s14.trans (s15.trans (s16.trans (s17.trans s18)))))).at f1,(s13.trans (s14.trans (s15.trans (s16.trans (s17.trans s18))))).at f2⟩
   have J4:W7 H18 j4 ((n4,b),(n3, "b")):=⟨b3,b4,(s17.trans s18).at f6,(s15.trans (s16.trans (s17.trans s18))).at f4,(s16.trans (s17.trans s18)).at f5⟩
   have hjl:Yj H18 jl [((n1, "left"),(n2, "a")),((n1, "right"),(n3, "a")),((n2, "b"),(n4,a)),((n4,b),(n3, "b"))]:=⟨[j1,j2,j3,j4],f9,.cons (J1.mono sAB) (.cons (J2.mono sAB) (.cons J3 (.cons J4 .nil)))⟩
   have s0B:=s0A.trans sAB
   clear J1 J2 J3 J4 s11 s12 s13 s14 s15 s16 s17 s18 sAB s0A f1 f2 f3 f4 f5 f6 f7 f8 f9 h7
   refine WSs.step (Zx (i:=10) Z9.nd (Zm (Zb (Zg (Zb Zf (Zb (pv 2) Za))) (Zb (Zg (Zb Zf (Zb (pv 3) Za))) (Zb (Zg (Zb Zf (Zb (pv 4) Za))) (Zb (Zg (Zb Zf (Zb (pv 5) Za))) Za)))))) ⟨_,rfl,sz (by simp),fun c1 G1 s1 _ f1=>⟨_,rfl,sz (by simp),fun c2 G2 s2 _ f2=>⟨_,rfl,sz (by simp),fun c3 G3 s3 _ f3=>⟨_,rfl,sz (by simp),fun c4 G4 s4 _ f4=>⟨sz (by simp),fun pl G5 s5 _ f5=>?_⟩⟩⟩⟩⟩
   have hpl:Zz G5 pl [("points",n1),("plain",n2),("plain",n3),("points",n4)]:=⟨[c1,c2,c3,c4],f5,.cons (s5.at (s4.at (s3.at (s2.at f1)))) (.cons (s5.at (s4.at (s3.at f2))) (.cons (s5.at (s4.at f3)) (.cons (s5.at f4) .nil)))⟩
   have sG:=s1.trans (s2.trans (s3.trans (s4.trans s5)))
   refine WSs.last (Zq (Zg (Zb (pv 10) (Zb (pv 9) (Zb (Zg (Zb (pv 2) (Zb Zf Za))) (Zb (Zg (Zb (pv 5) (Zb Zf Za))) Za)))))) ⟨_,rfl,_,rfl,_,rfl,sz (by simp),fun ie G6 s6 _ f6=>⟨_,rfl,sz (by simp),fun oe G7 s7 _ f7=>⟨sz (by simp),fun t G8 s8 _ f8=>?_⟩⟩⟩
   have sG8:=s6.trans (s7.trans s8)
   exact q t G8 pl jl ie oe _ _ _ _ (s0B.trans (sG.trans sG8)) f8 (hpl.mono sG8) (hjl.mono (sG.trans sG8)) ((s7.trans s8).at f6) (s8.at f7) (.loop a b hab)
  refine WSs.step (Ye (Zs Zfx (pv 6) Ze (Z4 _)) Z2 Zv) ⟨_,rfl,_,_,rfl,rfl,_,rfl,Ym (fun _=>?_) (fun _=>?_)⟩
  ·refine WSs.step (Zx (i:=7) Z9.nd (Zm (Zb Zf (Zb Zf (Zb Zf Za))))) ⟨sz (by simp),fun le H1 s1 _ e1=>?_⟩
   refine WSs.step (Zx (i:=11) Z9.nd (Zl Yo (Zl Yt (pv 0) Ze) Ze)) ⟨_,rfl,_,_,rfl,rfl,⟨by decide,by decide⟩,_,_,rfl,rfl,(by show (0:Int)<3;decide),?_⟩
   obtain ⟨x,r0,r1,hat,hfl,hpm⟩:∃x r0 r1:Str,atI [V.str "stem",.str "left",.str "right"] (2-c / 8%3)=some (.str x)/\(([("stem" :Str), "left", "right"].filter fun e=>decide (e≠x))=[r0,r1])/\[x,r0,r1].Perm ["stem", "left", "right"]:=by
    have h0:=Int.emod_nonneg (c / 8) (show (3:Int)≠0 by decide)
    have h1:=Int.emod_lt_of_pos (c / 8) (show (0:Int)<3 by decide)
    generalize c / 8%3=m at h0 h1
    have:m=0\/m=1\/m=2:=by omega
    rcases this with rfl|rfl|rfl
    ·exact ⟨"right", "stem", "left",rfl,by trivial,by trivial⟩
    ·exact ⟨"left", "stem", "right",rfl,by trivial,by trivial⟩
    ·exact ⟨"stem", "left", "right",rfl,by trivial,by trivial⟩
   refine WSs.step (Zx (i:=12) Z9.nd (Zp (r:=rIx K) Zk (pv 7) (Zl Zi6 Ze (pv 11)) (fun _ _=>rfl))) ⟨_,rfl,_,rfl,_,_,rfl,rfl,.inl ⟨le,_,_,.str x,rfl,rfl,SqL.of e1,hat,?_⟩⟩
   refine WSs.step (Zx (i:=9) Z9.nd (Zm (Zb (Zg (Zb (Zg (Zb (pv 2) (Zb (pv 12) Za))) (Zb (Zg (Zb (pv 3) (Zb Zf Za))) Za))) (Zb (Zg (Zb (Zg (Zb (pv 3) (Zb Zf Za))) (Zb (Zg (Zb (pv 4) (Zb Zf Za))) Za))) Za)))) ⟨_,rfl,_,rfl,sz (by simp),fun a1 H2 s2 _ f1=>⟨_,rfl,sz (by simp),fun a2 H3 s3 _ f2=>⟨sz (by simp),fun j1 H4 s4 _ f3=>⟨_,rfl,sz (by simp),fun a3 H5 s5 _ f4=>⟨_,rfl,sz (by simp),fun a4 H6 s6 _ f5=>⟨sz (by simp),fun j2 H7 s7 _ f6=>⟨sz (by simp),fun jl H8 s8 _ f7=>?_⟩⟩⟩⟩⟩⟩⟩
   have hjl:Yj H8 jl [((n1,x),(n2, "b")),((n2, "a"),(n3, "a"))]:=⟨[j1,j2],f7,.cons ⟨a1,a2,(s5.trans (s6.trans (s7.trans s8))).at f3,(s3.trans (s4.trans (s5.trans (s6.trans (s7.trans s8))))).at f1,(s4.trans (s5.trans (s6.trans (s7.trans s8)))).at f2⟩ (.cons ⟨a3,a4,s8.at f6,(s6.trans (s7.trans s8)).at f4,(s7.trans s8).at f5⟩ .nil)⟩
   have s28:=s2.trans (s3.trans (s4.trans (s5.trans (s6.trans (s7.trans s8)))))
   have s08:=s1.trans s28
   have e1:=s28.at e1
   clear s1 s2 s3 s4 s5 s6 s7 s8 f1 f2 f3 f4 f5 f6 f7 s28
   refine WSs.step (Zb3 (i:=13) (N':=["_law_end", "_law_aside"]) Z9.nd rfl (Or.inl rfl) rfl (Ya.std 1 [12] rfl (by trivial) (by trivial) rfl ⟨rfl,trivial⟩ rfl rfl ⟨⟨_,rfl,rfl,rfl⟩,trivial⟩) (Yx (pv 7)) (fun _ _ _ _=>(Zbn (i:=0) (by show (["_law_end", "_law_aside"]:List Str).Nodup;decide +kernel))) (fun _ _ _ _=>(Zgf (Zs (r:=Zj7 K) (Znp hr) (pv 0) (pv 1) (Z4 _)))) (fun _ _ _ _=>(pv 0))) ⟨_,rfl,le,rfl,⟨_,SqL.of e1⟩,fun lr hlr=>?_⟩
   refine Zvh (xs:=["stem", "left", "right"]) (x:=x) e1 (by decide) hlr (fun H9 s9 e9=>?qq) ?aa ?bb
   case aa=>rfl
   case bb=>rfl
   rw [hfl] at e9
   obtain ⟨kd,hkd,hkm⟩:∃kd:Str,atI [V.str "stop",.str "gate"] (c / 24%2)=some (.str kd)/\kd∈[("stop" :Str), "gate"]:=by
    obtain ⟨w,hw,h | h⟩:=Zmt (n:=c / 24) (u:=V.str "stop") (v:=V.str "gate")
    ·exact ⟨"stop",by rw [hw,h.2],by simp⟩
    ·exact ⟨"gate",by rw [hw,h.2],by simp⟩
   refine WSs.step (Zx (i:=10) Z9.nd (Zm (Zb (Zg (Zb Zf (Zb (pv 2) Za))) (Zb (Zg (Zb Zf (Zb (pv 3) Za))) (Zb (Zg (Zb (Zp (r:=rIx K) Zk (Zm (Zb Zf (Zb Zf Za))) (Zl Yo (Zl Yt (pv 0) Ze) Ze) (fun _ _=>rfl)) (Zb (pv 4) Za))) Za))))) ⟨_,rfl,sz (by simp),fun c1 G1 s1 _ f1=>⟨_,rfl,sz (by simp),fun c2 G2 s2 _ f2=>⟨sz (by simp),fun lk G3 s3 _ f3=>⟨_,rfl,_,_,rfl,rfl,⟨by decide,by decide⟩,_,_,rfl,rfl,(by show (0:Int)<2;decide),.inl ⟨lk,_,_,.str kd,rfl,rfl,SqL.of f3,hkd,_,rfl,sz (by simp),fun c3 G4 s4 _ f4=>⟨sz (by simp),fun pl G5 s5 _ f5=>?_⟩⟩⟩⟩⟩⟩
   have hpl:Zz G5 pl [("points",n1),("plain",n2),(kd,n3)]:=⟨[c1,c2,c3],f5,.cons (s5.at (s4.at (s3.at (s2.at f1)))) (.cons (s5.at (s4.at (s3.at f2))) (.cons (s5.at f4) .nil))⟩
   have sG:=s1.trans (s2.trans (s3.trans (s4.trans s5)))
   obtain ⟨a,b,ha,hb,hab⟩:∃a b:Str,atI [V.str r0,.str r1] (c / 48%2)=some (.str a)/\atI [V.str r0,.str r1] (1-c / 48%2)=some (.str b)/\[x,a,b].Perm ["stem", "left", "right"]:=by
    have h0:=Int.emod_nonneg (c / 48) (show (2:Int)≠0 by decide)
    have h1:=Int.emod_lt_of_pos (c / 48) (show (0:Int)<2 by decide)
    generalize c / 48%2=m at h0 h1
    have:m=0\/m=1:=by omega
    rcases this with rfl|rfl
    ·exact ⟨r0,r1,rfl,rfl,hpm⟩
    ·exact ⟨r1,r0,rfl,rfl,((List.Perm.swap r0 r1 []).cons x).trans hpm⟩
   refine WSs.last (Zq (Zg (Zb (pv 10) (Zb (pv 9) (Zb (Zg (Zb (pv 2) (Zb (Zp (r:=rIx K) Zk (pv 13) (Zl Yo (Zl Yt (pv 0) Ze) Ze) (fun _ _=>rfl)) Za))) (Zb (Zg (Zb (pv 2) (Zb (Zp (r:=rIx K) Zk (pv 13) (Zl Zi6 Ze (Zl Yo (Zl Yt (pv 0) Ze) Ze)) (fun _ _=>rfl)) Za))) Za)))))) ⟨_,rfl,_,rfl,_,rfl,_,rfl,_,rfl,_,_,rfl,rfl,⟨by decide,by decide⟩,_,_,rfl,rfl,(by show (0:Int)<2;decide),.inl ⟨lr,_,_,.str a,rfl,rfl,SqL.of (sG.at e9),ha,sz (by simp),fun ie G6 s6 _ f6=>?_⟩⟩
   refine ⟨_,rfl,_,rfl,_,rfl,_,_,rfl,rfl,⟨by decide,by decide⟩,_,_,rfl,rfl,(by show (0:Int)<2;decide),_,_,rfl,rfl,.inl ⟨lr,_,_,.str b,rfl,rfl,SqL.of (s6.at (sG.at e9)),hb,sz (by simp),fun oe G7 s7 _ f7=>⟨sz (by simp),fun t G8 s8 _ f8=>?_⟩⟩⟩
   have sG8:=s6.trans (s7.trans s8)
   exact q t G8 pl jl ie oe _ _ _ _ (s08.trans (s9.trans (sG.trans sG8))) f8 (hpl.mono sG8) (hjl.mono (s9.trans (sG.trans sG8))) ((s7.trans s8).at f6) (s8.at f7) (.siding x a b kd hab hkm)
  refine WSs.step (Zx (i:=9) Z9.nd (Zm (Zb (Zg (Zb (Zg (Zb (pv 2) (Zb Zf Za))) (Zb (Zg (Zb (pv 3) (Zb Zf Za))) Za))) (Zb (Zg (Zb (Zg (Zb (pv 4) (Zb Zf Za))) (Zb (Zg (Zb (pv 2) (Zb Zf Za))) Za))) Za)))) ⟨_,rfl,sz (by simp),fun a1 H2 s2 _ f1=>⟨_,rfl,sz (by simp),fun a2 H3 s3 _ f2=>⟨sz (by simp),fun j1 H4 s4 _ f3=>⟨_,rfl,sz (by simp),fun a3 H5 s5 _ f4=>⟨_,rfl,sz (by simp),fun a4 H6 s6 _ f5=>⟨sz (by simp),fun j2 H7 s7 _ f6=>⟨sz (by simp),fun jl H8 s8 _ f7=>?_⟩⟩⟩⟩⟩⟩⟩
  have hjl:Yj H8 jl [((n1, "c"),(n2, "a")),((n3, "a"),(n1, "d"))]:=⟨[j1,j2],f7,.cons ⟨a1,a2,(s5.trans (s6.trans (s7.trans s8))).at f3,(s3.trans (s4.trans (s5.trans (s6.trans (s7.trans s8))))).at f1,(s4.trans (s5.trans (s6.trans (s7.trans s8)))).at f2⟩ (.cons ⟨a3,a4,s8.at f6,(s6.trans (s7.trans s8)).at f4,(s7.trans s8).at f5⟩ .nil)⟩
  have s08:=s2.trans (s3.trans (s4.trans (s5.trans (s6.trans (s7.trans s8)))))
  clear s2 s3 s4 s5 s6 s7 s8 f1 f2 f3 f4 f5 f6 f7
  obtain ⟨kd,hkd,hkm⟩:∃kd:Str,atI [V.str "gate",.str "stop"] (c / 8%2)=some (.str kd)/\kd∈[("gate" :Str), "stop"]:=by
   obtain ⟨w,hw,h | h⟩:=Zmt (n:=c / 8) (u:=V.str "gate") (v:=V.str "stop")
   ·exact ⟨"gate",by rw [hw,h.2],by simp⟩
   ·exact ⟨"stop",by rw [hw,h.2],by simp⟩
  refine WSs.step (Zx (i:=10) Z9.nd (Zm (Zb (Zg (Zb Zf (Zb (pv 2) Za))) (Zb (Zg (Zb Zf (Zb (pv 3) Za))) (Zb (Zg (Zb (Zp (r:=rIx K) Zk (Zm (Zb Zf (Zb Zf Za))) (Zl Yo (Zl Yt (pv 0) Ze) Ze) (fun _ _=>rfl)) (Zb (pv 4) Za))) Za))))) ⟨_,rfl,sz (by simp),fun c1 G1 s1 _ f1=>⟨_,rfl,sz (by simp),fun c2 G2 s2 _ f2=>⟨sz (by simp),fun lk G3 s3 _ f3=>⟨_,rfl,_,_,rfl,rfl,⟨by decide,by decide⟩,_,_,rfl,rfl,(by show (0:Int)<2;decide),.inl ⟨lk,_,_,.str kd,rfl,rfl,SqL.of f3,hkd,_,rfl,sz (by simp),fun c3 G4 s4 _ f4=>⟨sz (by simp),fun pl G5 s5 _ f5=>?_⟩⟩⟩⟩⟩⟩
  have hpl:Zz G5 pl [("cross",n1),("gate",n2),(kd,n3)]:=⟨[c1,c2,c3],f5,.cons (s5.at (s4.at (s3.at (s2.at f1)))) (.cons (s5.at (s4.at (s3.at f2))) (.cons (s5.at f4) .nil))⟩
  have sG:=s1.trans (s2.trans (s3.trans (s4.trans s5)))
  refine WSs.last (Zq (Zg (Zb (pv 10) (Zb (pv 9) (Zb (Zg (Zb (pv 2) (Zb Zf Za))) (Zb (Zg (Zb (pv 2) (Zb Zf Za))) Za)))))) ⟨_,rfl,_,rfl,_,rfl,sz (by simp),fun ie G6 s6 _ f6=>⟨_,rfl,sz (by simp),fun oe G7 s7 _ f7=>⟨sz (by simp),fun t G8 s8 _ f8=>?_⟩⟩⟩
  have sG8:=s6.trans (s7.trans s8)
  exact q t G8 pl jl ie oe _ _ _ _ (s08.trans (sG.trans sG8)) f8 (hpl.mono sG8) (hjl.mono (sG.trans sG8)) ((s7.trans s8).at f6) (s8.at f7) (.cross kd hkm)
theorem Zl6(T:Tx K mg){k:Nat}(h:1<=k:=by decide):Z1 P w K mg base CX0 k T.d__law_block.f T.d__law_block.fd ["_law_cell", "_law_names"] Zqi:=(Zkh T).mono h
end
end K24
end
section
namespace K24
open PySem L2 NM YM
section
variable {P:Program} {w:World} {K:Frag} {mg:Str->Option Value} {base:Heap}
seal PySem.wpAny
theorem Zcv(xs:List V)(k:Nat):Zfd xs (some (k:Int)) none=xs.drop k:=by
 unfold Zfd
 rw [HT.sIx_nat,HT.sIx_none]
 by_cases h:k<=xs.length
 ·rw [Nat.min_eq_left h,List.take_of_length_le (by rw [List.length_drop];exact Nat.le_refl _)]
 ·rw [Nat.min_eq_right (by omega),List.drop_length,List.take_nil,List.drop_of_length_le (by omega)]
theorem Ze2(xs:List V)(k:Nat):Zfd xs none (some (k:Int))=xs.take k:=by
 unfold Zfd
 rw [HT.sIx_nat,HT.sIx_none,List.drop_zero,Nat.sub_zero]
 by_cases h:k<=xs.length
 ·rw [Nat.min_eq_left h]
 ·rw [Nat.min_eq_right (by omega),List.take_length,List.take_of_length_le (by omega)]
theorem Zz.app{H:Hp}{l:Addr}{ts us:List Addr}{ps qs:List Zc}(h1:Paired (Zw H) ts ps)(h2:Paired (Zw H) us qs)(e:H l=some (.lst (ts.map V.ref++us.map V.ref))):Zz H l (ps++qs):=⟨ts++us,by rw [List.map_append];exact e,Paired.append h1 h2⟩
theorem Yj.app{H:Hp}{l:Addr}{ts us:List Addr}{ps qs:List (Zc×Zc)}(h1:Paired (W7 H) ts ps)(h2:Paired (W7 H) us qs)(e:H l=some (.lst (ts.map V.ref++us.map V.ref))):Yj H l (ps++qs):=⟨ts++us,by rw [List.map_append];exact e,Paired.append h1 h2⟩
def Ztn(K:Frag):Sp:=fun vs H Q _=>∃(cl:Addr) (cs:List Int),vs=[.ref cl]/\SqL K H cl (cs.map V.int)/\(∀c∈cs,0<=c) /\
 ∀(t:Addr) (H':Hp) (pl jl:Addr) (ps:List Zc) (js:List (Zc×Zc)),Same H H'->H' t=some (.tup [.ref pl,.ref jl])->Zz H' pl ps->Yj H' jl js->H pl=none->H jl=none->Net ps js []->ps.length<=38->(∀p∈ps,p=((("gate" :Str),("g" :Str)):Zc)\/p=((("gate" :Str),("h" :Str)):Zc)\/Zmp p.2 36)->Q (.ref t) H'
theorem Zm4(T:Tx K mg):Z1 P w K mg base CX0 2 T.d__law_line.f T.d__law_line.fd ["_law_cells_here"] (Ztn K):=by
 refine T.d__law_line.F.okW Y3 fun cdv A outer s H vs Q E hr h=>?_
 ·obtain ⟨cl,cs,rfl,hcl,hcs,q⟩:=h
  refine WSs.step (Zx (i:=1) Y3.nd (Zm (Zb (Zg (Zb Zf (Zb Zf Za))) Za))) ⟨sz (by simp),fun t1 H1 s1 _ e1=>⟨sz (by simp),fun pl0 H2 s2 n2 e2=>?_⟩⟩
  refine WSs.step (Zx (i:=2) Y3.nd (Zm Za)) ⟨sz (by simp),fun jl0 H3 s3 n3 e3=>?_⟩
  refine WSs.step (Zx (i:=3) Y3.nd (Zg (Zb Zf (Zb Zf Za)))) ⟨sz (by simp),fun e0 H4 s4 n4 e4=>?_⟩
  have s04:=s1.trans (s2.trans (s3.trans s4))
  have hp0:Zz H4 pl0 [("gate", "g")]:=⟨[t1],s4.at (s3.at e2),.cons (s4.at (s3.at (s2.at e1))) .nil⟩
  have hj0:Yj H4 jl0 []:=⟨[],s4.at e3,.nil⟩
  have f0:H pl0=none:=s1.free n2
  have f1:H jl0=none:=s1.free (s2.free n3)
  clear s1 s2 s3 s4 n2 n3 n4 e1 e2 e3
  refine WSs.step (Wi PassesOwn.never rfl (Zh6 rfl T.n_enumerate (Zb (Yr (r:=Zbq K) Zcl (pv 0) Yz (Yy Ze)) Za)) (Zbt rfl (Z6 (Y5 (i:=4) Y3.nd) (Z6 (Y5 (i:=5) Y3.nd) X2))) Z2) ⟨_,rfl,_,rfl,.inr (.inl ⟨cl,_,rfl,s04.seq hcl,fun c9 H5 s5 n5 e5=>⟨c9,rfl,⟨_,SqL.of e5⟩,?_⟩⟩)⟩
  rw [show (some (9:Int))=some ((9:Nat):Int) from rfl,Ze2,<-List.map_take] at e5
  have s05:=s04.trans s5
  let I1:=fun (i:Nat) (σ:St) (H':Hp)=>Same H5 H'/\∃pl jl e o4 o5 o6 o7 ps js cur,σ=[some (.ref cl),some (.ref pl),some (.ref jl),some (.ref e),o4,o5,o6,o7]/\Zz H' pl ps/\Yj H' jl js/\Zw H' e cur/\Zdl i ps js cur/\H pl=none/\H jl=none
  refine Zfh (xs:=(cs.take 9).map V.int) I1
   ⟨Same.refl _,pl0,jl0,e0,none,none,none,none,_,_,_,rfl,hp0.mono s5,hj0.mono s5,s5.at e4,Zdl.start,f0,f1⟩ ?_ ?_ ?_
  ·rintro i σ H' _ ⟨sm,_⟩
   exact SqL.of (sm.at e5)
  ·rintro i v σ H6 hi ⟨s6,pl,jl,e,o4,o5,o6,o7,ps,js,cur,rfl,hpl,hjl,hpe,hok,fp,fj⟩ tp H7 s7 n7 e7
   rw [List.getElem?_map] at hi
   obtain ⟨c,hc,rfl⟩:=Option.map_eq_some_iff.mp hi
   have hi9:i<9:=by
    have:=(List.getElem?_eq_some_iff.mp hc).1
    rw [List.length_take] at this
    omega
   have hc0:0<=c:=hcs c (List.mem_of_mem_take (List.mem_of_getElem? hc))
   refine ⟨tp,_,rfl,SqT.of e7,rfl,_,_,rfl,_,_,rfl,rfl,?_⟩
   have s07:=s6.trans s7
   have hpl:=hpl.mono s7
   have hjl:=hjl.mono s7
   have hpe:=hpe.mono s7
   obtain ⟨nm,hnm⟩:∃nm:Nat->Str,nm=fun j=>Ys ((["p", "q", "r", "t"]:List Str).getD j "p") (c / 96+5 * (j:Int)) (4 * i+j):=⟨_,rfl⟩
   refine WSs.step (Zb3 (i:=6) (N':=["_law_j", "_law_cell", "_law_k"]) Y3.nd rfl (Or.inl rfl) rfl (Ya.std 1 [5,4] rfl (by trivial) (by trivial) rfl ⟨rfl,rfl,trivial⟩ rfl rfl ⟨⟨_,rfl,rfl,rfl⟩,⟨_,rfl,rfl,rfl⟩,trivial⟩) (Zeh rfl T.n_range (Zb Ze Za)) (fun _ _ _ _=>(Zbn (i:=0) (by show (["_law_j", "_law_cell", "_law_k"]:List Str).Nodup;decide +kernel))) (fun _ _ _ _=>W0) (fun _ _ _ _=>(Zu (Zd7 T) hr rfl T.m__law_name_by T.d__law_name_by.F.kp T.d__law_name_by.b .nil Z3 (Zb (Zp (r:=rIx K) Zk (Zm (Zb Zf (Zb Zf (Zb Zf (Zb Zf Za))))) (pv 0) (fun _ _=>rfl)) (Zb (Zl Wl (Zl Yt (pv 1) Ze) (Zl Zgy Ze (pv 0))) (Zb (Zl Wl (Zl Zgy Ze (pv 2)) (pv 0)) Za)))))) ⟨_,rfl,by decide,by decide,fun D hD=>Zcq (lo:=0) (n:=4) (fun j ys H'=>ys=((List.range j).map nm).map V.str/\H' D=some (.lst ys)/\Same H7 H') ⟨rfl,Zh,Same.new hD⟩ ?_ ?_⟩
   ·rintro j ys H8 hj ⟨rfl,hD8,s8⟩
    unfold Zdb
    obtain ⟨kd,hkd⟩:∃kd,kd=(["p", "q", "r", "t"]:List Str).getD j "p" :=⟨_,rfl⟩
    have hj4:j=0\/j=1\/j=2\/j=3:=by omega
    have hat:atI [V.str "p",.str "q",.str "r",.str "t"] ((0:Int)+(j:Int))=some (.str kd):=by
     rw [hkd]
     rcases hj4 with rfl|rfl|rfl|rfl <;>rfl
    have hkl:kd.length=1:=by
     rw [hkd]
     rcases hj4 with rfl|rfl|rfl|rfl <;>decide +kernel
    refine ⟨W2.set rfl,sz (by simp),fun lq H9 s9 n9 e9=>⟨_,rfl,.inl ⟨lq,_,_,.str kd,rfl,rfl,SqL.of e9,hat,_,rfl,_,_,rfl,rfl,⟨by decide,by decide⟩,_,rfl,_,_,rfl,rfl,.inl ⟨by decide,by decide⟩,.inl ⟨_,_,rfl,rfl,_,rfl,_,_,rfl,rfl,.inl ⟨by decide,by decide⟩,_,rfl,.inl ⟨_,_,rfl,rfl,kd,c / 96+5 * (j:Int),4 * i+j,?_,by omega,by omega,?_,by omega,s9.at hD8,?_,?_,Zh,fun b o z=>?_⟩⟩⟩⟩⟩
    ·show [V.str kd,V.int (c / 96+5 * (0+(j:Int))),V.int (4 * (i:Int)+(0+(j:Int)))]=_
     rw [show (0:Int)+(j:Int)=j by omega,show 4 * (i:Int)+(j:Int)=((4 * i+j:Nat):Int) by omega]
    ·have:=Int.ediv_nonneg hc0 (show (0:Int)<=96 by decide)
     omega
    ·rw [List.length_map,List.length_map,List.length_range];exact Zy (by omega)
    ·rw [List.range_succ,List.map_append,List.map_append,hnm,hkd]
     rfl
    ·rw [Zj (Zi z hD)];exact s9.at (s8.at z)
   ·rintro ys H8 ⟨rfl,hD8,s8⟩
    have hpl:=hpl.mono s8
    have hjl:=hjl.mono s8
    have hpe:=hpe.mono s8
    refine WSs.step (Zx (i:=7) Y3.nd (Zu (Zl6 T) hr rfl T.m__law_block T.d__law_block.F.kp T.d__law_block.b .nil Z3 (Zb (pv 5) (Zb (pv 6) Za)))) ⟨_,rfl,_,rfl,c,D,nm 0,nm 1,nm 2,nm 3,rfl,hD8,fun t H9 bp bj ie oe qs ks a b s9 e9 hbp hbj hie hoe B=>?_⟩
    subst hnm
    have hok':=hok.more (by omega) (by trivial) (by trivial) (by trivial) (by trivial) B
    obtain ⟨ts,ht,hts⟩:=hpl.mono s9
    obtain ⟨us,hu,hus⟩:=hbp
    obtain ⟨js1,hj1,hjs1⟩:=hjl.mono s9
    obtain ⟨js2,hj2,hjs2⟩:=hbj
    have lp:=hok.pl
    have lj:=hok.jl
    have lb:=B.len
    have c1:=Paired.length hts
    have c2:=Paired.length hus
    have c3:=Paired.length hjs1
    have c4:=Paired.length hjs2
    refine WSs.step (Zx (i:=1) Y3.nd (Zl Wl (pv 1) (Zp (r:=rIx K) Zk (pv 7) Ze (fun _ _=>rfl)))) ⟨_,rfl,_,rfl,.inr (.inl ⟨t,_,_,.ref bp,rfl,rfl,SqT.of e9,rfl,.inr (.inr ⟨pl,bp,_,_,rfl,rfl,ht,hu,?_,fun pl' H10 s10 n10 e10=>?_⟩)⟩)⟩
    ·rw [List.length_map,List.length_map];exact sz (by omega)
    refine WSs.step (Zx (i:=2) Y3.nd (Zl Wl (Zl Wl (pv 2) (Zp (r:=rIx K) Zk (pv 7) Ze (fun _ _=>rfl))) (Zm (Zb (Zg (Zb (pv 3) (Zb (Zp (r:=rIx K) Zk (pv 7) Ze (fun _ _=>rfl)) Za))) Za)))) ⟨_,rfl,_,rfl,.inr (.inl ⟨t,_,_,.ref bj,rfl,rfl,SqT.of (s10.at e9),rfl,.inr (.inr ⟨jl,bj,_,_,rfl,rfl,s10.at hj1,s10.at hj2,?_,fun jm H11 s11 n11 e11=>⟨_,rfl,_,rfl,.inr (.inl ⟨t,_,_,.ref ie,rfl,rfl,SqT.of (s11.at (s10.at e9)),rfl,sz (by simp),fun tj H12 s12 n12 e12=>⟨sz (by simp),fun l2 H13 s13 n13 e13=>.inr (.inr ⟨jm,l2,_,_,rfl,rfl,(s12.trans s13).at e11,e13,?_,fun jl' H14 s14 n14 e14=>?_⟩)⟩⟩)⟩⟩)⟩)⟩
    ·rw [List.length_map,List.length_map];exact sz (by omega)
    ·rw [List.length_append,List.length_map,List.length_map];exact sz (by simp;omega)
    have s104:=s11.trans (s12.trans (s13.trans s14))
    have s94:=s10.trans s104
    refine WSs.last (Zx (i:=3) Y3.nd (Zp (r:=rIx K) Zk (pv 7) Ze (fun _ _=>rfl))) ⟨_,rfl,.inr (.inl ⟨t,_,_,.ref oe,rfl,rfl,SqT.of (s94.at e9),rfl,s07.trans (s8.trans (s9.trans s94)),pl',jl',oe,_,_,_,_,_,_,_,rfl,?_,?_,hoe.mono s94,hok',?_,?_⟩)⟩
    ·exact Zz.app (ts:=ts) (us:=us) (Paired.mapP hts fun _ _ r=>r.mono s94) (Paired.mapP hus fun _ _ r=>r.mono s94) (s104.at e10)
    ·have hall:Paired (W7 H14) (js1++js2) (js++ks):=Paired.append (Paired.mapP hjs1 fun _ _ r=>r.mono s94) (Paired.mapP hjs2 fun _ _ r=>r.mono s94)
     refine Yj.app (ts:=js1++js2) (us:=[tj]) hall (.cons ⟨e,ie,(s13.trans s14).at e12,(hpe.mono s9).mono s94,hie.mono s94⟩ .nil) ?_
     rw [List.map_append]
     exact e14
    ·exact s05.free (s07.free (s8.free (s9.free n10)))
    ·exact s05.free (s07.free (s8.free (s9.free ((s10.trans (s11.trans (s12.trans s13))).free n14))))
  ·rintro σ H6 ⟨s6,pl,jl,e,o4,o5,o6,o7,ps,js,cur,rfl,hpl,hjl,hpe,hok,fp,fj⟩
   rw [List.length_map,List.length_take] at hok
   have hm:min 9 cs.length<=9:=Nat.min_le_left ..
   have hdone:=hok.done (by omega)
   obtain ⟨ts,ht,hts⟩:=hpl
   obtain ⟨js1,hj1,hjs1⟩:=hjl
   have lp:=hok.pl
   have lj:=hok.jl
   have c1:=Paired.length hts
   have c3:=Paired.length hjs1
   refine WSs.last (Zq (Zg (Zb (Zl Wl (pv 1) (Zm (Zb (Zg (Zb Zf (Zb Zf Za))) Za))) (Zb (Zl Wl (pv 2) (Zm (Zb (Zg (Zb (pv 3) (Zb (Zg (Zb Zf (Zb Zf Za))) Za))) Za))) Za)))) ⟨_,rfl,sz (by simp),fun t1 H7 s7 _ e7=>⟨sz (by simp),fun l1 H8 s8 _ e8=>.inr (.inr ⟨pl,l1,_,_,rfl,rfl,s8.at (s7.at ht),e8,?_,fun pl' H9 s9 n9 e9=>⟨_,rfl,_,rfl,sz (by simp),fun t2 H10 s10 _ e10=>⟨sz (by simp),fun t3 H11 s11 _ e11=>⟨sz (by simp),fun l2 H12 s12 _ e12=>.inr (.inr ⟨jl,l2,_,_,rfl,rfl,(s7.trans (s8.trans (s9.trans (s10.trans (s11.trans s12))))).at hj1,e12,?_,fun jl' H13 s13 n13 e13=>⟨sz (by simp),fun t H14 s14 _ e14=>?_⟩⟩)⟩⟩⟩⟩)⟩⟩
   ·rw [List.length_map];exact sz (by simp;omega)
   ·rw [List.length_map];exact sz (by simp;omega)
   have s612:=s7.trans (s8.trans (s9.trans (s10.trans (s11.trans s12))))
   have s614:=s612.trans (s13.trans s14)
   have s914:=s10.trans (s11.trans (s12.trans (s13.trans s14)))
   refine q t H14 pl' jl' _ _ (s05.trans (s6.trans s614)) e14 ?_ ?_ (s05.free (s6.free (s7.free (s8.free n9)))) (s05.free (s6.free (s612.free n13))) hdone ?_ ?_
   ·exact Zz.app (ts:=ts) (us:=[t1]) (Paired.mapP hts fun _ _ r=>r.mono s614) (.cons ((s8.trans (s9.trans s914)).at e7) .nil) (s914.at e9)
   ·exact Yj.app (ts:=js1) (us:=[t3]) (Paired.mapP hjs1 fun _ _ r=>r.mono s614) (.cons ⟨e,t2,(s12.trans (s13.trans s14)).at e11,hpe.mono s614,(s11.trans (s12.trans (s13.trans s14))).at e10⟩ .nil) (s14.at e13)
   ·rw [List.length_append];simp;omega
   ·intro p hp
    rcases List.mem_append.mp hp with z|z
    ·rcases hok.nm p z with y|⟨kd,c,k,h1,h2,h3⟩
     ·exact .inl y
     ·exact .inr (.inr ⟨kd,c,k,h1,by omega,h3⟩)
    ·simp at z
     subst z
     exact .inr (.inl rfl)
theorem Zoq(T:Tx K mg){k:Nat}(h:2<=k:=by decide):Z1 P w K mg base CX0 k T.d__law_line.f T.d__law_line.fd ["_law_cells_here"] (Ztn K):=(Zm4 T).mono h
def Zqa(K:Frag):Sp:=fun vs H Q _=>∃(a:Addr) (ns:List Int) (i j:Nat),vs=[.ref a,.int i,.int j]/\SqL K H a (ns.map V.int)/\ns.length<=63/\i<=1000/\j<=1000 /\
 ∀(p:Addr) (H':Hp) (cs:List Int),Same H H'->H p=none->H' p=some (.lst (cs.map V.int))->(∀c∈cs,0<=c/\c<2147483629)->cs.length<=63->Q (.ref p) H'
theorem Zkc(T:Tx K mg):Z1 P w K mg base CX0 2 T.d__law_cells.f T.d__law_cells.fd ["_law_script", "_law_at", "_law_end"] (Zqa K):=by
 refine T.d__law_cells.F.okW Zj1 fun cdv A outer s H vs Q E hr h=>?_
 ·obtain ⟨a,ns,i,j,rfl,hS,hn,hi,hj,q⟩:=h
  have hmin:(if ((ns.map V.int).length:Int)<(j:Int) then ((ns.map V.int).length:Int) else (j:Int))=((min j ns.length:Nat):Int):=by
   rw [List.length_map]
   split <;>omega
  refine WSs.last (Zq (Xn (N':=["_law_k", "_law_script"]) rfl (Ya.std 1 [0] rfl (by trivial) (by trivial) rfl ⟨rfl,trivial⟩ rfl rfl ⟨⟨_,rfl,rfl,rfl⟩,trivial⟩) (Zgj rfl T.n_range (Zb (pv 1) (Zb (Z0 (Zsm rfl) (by rfl) T.n_min PyProof.Rows.boot_min (Zb (pv 2) (Zb (Z0 (r:=X0 K) X3 (by rfl) T.n_len PySem.boot_len (Zb (pv 0) Za)) Za))) Za))) (fun _ _ _ _=>(Zbn (i:=0) (by show (["_law_k", "_law_script"]:List Str).Nodup;decide +kernel))) (fun _ _ _ _=>W0) (fun _ _ _ _=>(Zu (Zbg T) hr rfl T.m__law_mixed T.d__law_mixed.F.kp T.d__law_mixed.b .nil Z3 (Zb (Zp (r:=rIx K) Zk (pv 1) (pv 0) (fun _ _=>rfl)) (Zb (pv 0) Za)))))) ⟨_,rfl,_,rfl,_,rfl,.inl ⟨a,_,rfl,.inl hS,_,_,rfl,_,_,rfl,?_,fun D hD=>?_⟩⟩
  ·rw [hmin];omega
  rw [hmin]
  obtain ⟨m,hm⟩:∃m:Nat,(((min j ns.length:Nat):Int)-(i:Int)).toNat=m:=⟨_,rfl⟩
  rw [hm]
  refine Zcq (lo:=(i:Int)) (n:=m) (fun k ys H'=>(∃cs:List Int,ys=cs.map V.int/\cs.length=k/\∀c∈cs,0<=c/\c<2147483629)/\H' D=some (.lst ys)/\Same H H') ⟨⟨[],rfl,rfl,by simp⟩,Zh,Same.new hD⟩ ?_ ?_
  ·rintro k ys H2 hk ⟨⟨cs,rfl,hcl,hcs⟩,hD2,s2⟩
   unfold Zdb
   have hlt:i+k<ns.length:=by omega
   refine ⟨W2.set rfl,_,rfl,_,rfl,.inl ⟨a,_,_,.int (ns.getD (i+k) 0),rfl,rfl,s2.seq hS,?_,_,rfl,_,_,rfl,hD2,?_,⟨cs++[Zes (ns.getD (i+k) 0) ((i:Int)+(k:Int))],?_,?_,?_⟩,Zh,fun b o e=>?_⟩⟩
   ·rw [show (i:Int)+(k:Int)=((i+k:Nat):Int) by omega]
    refine Zn ?_
    rw [List.getElem?_map,List.getElem?_eq_getElem hlt,List.getD_eq_getElem?_getD,List.getElem?_eq_getElem hlt]
    rfl
   ·rw [List.length_map];exact Zy (by omega)
   ·rw [List.map_append];rfl
   ·rw [List.length_append];simp;exact hcl
   ·intro c hc
    rcases List.mem_append.mp hc with z|z
    ·exact hcs c z
    ·simp at z
     rw [z]
     exact ⟨Ztr _ _,Zu2 _ _⟩
   ·rw [Zj (Zi e hD)];exact s2.at e
  ·rintro ys H2 ⟨⟨cs,rfl,hcl,hcs⟩,hD2,s2⟩
   exact q D H2 cs s2 hD hD2 hcs (by omega)
theorem Zmy(T:Tx K mg){k:Nat}(h:2<=k:=by decide):Z1 P w K mg base CX0 k T.d__law_cells.f T.d__law_cells.fd ["_law_script", "_law_at", "_law_end"] (Zqa K):=(Zkc T).mono h
theorem Zam{H:Hp}{c:Addr}{o:HO}{xs:List V}{ts:List Addr}{ps:List Zc}(h:Paired (Zw H) ts ps)(hc:H c=some (.lst xs)):Paired (Zw (upd H c o)) ts ps :=
 Paired.mapP h fun t q r=>by
  unfold Zw at r ⊢
  rw [Zj fun z=>by rw [z,hc] at r;cases r]
  exact r
theorem W7.off{H:Hp}{c t:Addr}{o:HO}{xs:List V}{j:Zc×Zc}(h:W7 H t j)(hc:H c=some (.lst xs)):W7 (upd H c o) t j:=by
 obtain ⟨a,b,h1,h2,h3⟩:=h
 unfold Zw at h2 h3
 have ne:∀{t:Addr} {ys:List V},H t=some (.tup ys)->t≠c:=fun h z=>by rw [z,hc] at h;cases h
 exact ⟨a,b,by rw [Zj (ne h1)];exact h1,by unfold Zw;rw [Zj (ne h2)];exact h2,by unfold Zw;rw [Zj (ne h3)];exact h3⟩
theorem Zb1{H:Hp}{c:Addr}{o:HO}{xs:List V}{ts:List Addr}{js:List (Zc×Zc)}(h:Paired (W7 H) ts js)(hc:H c=some (.lst xs)):Paired (W7 (upd H c o)) ts js:=Paired.mapP h fun _ _ r=>r.off hc
def Zn9:Sp:=fun vs H Q _=>∃(pl jl rl:Addr) (c:Int) (ps:List Zc) (js:List (Zc×Zc)) (Z5:List Zc),vs=[.ref pl,.ref jl,.ref rl,.int c]/\Zz H pl ps/\Yj H jl js/\Zz H rl Z5/\pl≠jl/\rl≠pl/\rl≠jl/\ps.length<=100/\js.length<=200/\Z5.length<=90 /\
 ∀(H':Hp) (nps:List Zc) (njs:List (Zc×Zc)),(∀b o,b≠pl->b≠jl->H b=some o->H' b=some o)->Zz H' pl (ps++nps)->Yj H' jl (js++njs)->Ze0 Z5 Z5.length nps njs->Q .non H'
theorem Zi8(T:Tx K mg):Z1 P w K mg base CX0 2 T.d__law_closed.f T.d__law_closed.fd ["_law_parts", "_law_joins", "_law_rest", "_law_cell"] Zn9:=by
 refine T.d__law_closed.F.okW Zbc fun cdv A outer s H vs Q E hr h=>?_
 ·obtain ⟨pl,jl,rl,c,ps,js,Z5,rfl,hpl,hjl,⟨rs,hrl,hrs⟩,n1,n2,n3,lp,lj,lr,q⟩:=h
  have lrs:=Paired.length hrs
  let I2:=fun (i:Nat) (σ:St) (H':Hp)=>(∃o4 o5 o6,σ=[some (.ref pl),some (.ref jl),some (.ref rl),some (.int c),o4,o5,o6])/\(∀b o,b≠pl->b≠jl->H b=some o->H' b=some o)/\∃nps njs,Zz H' pl (ps++nps)/\Yj H' jl (js++njs)/\Ze0 Z5 i nps njs
  refine WSs.last (Wi PassesOwn.never rfl (Zh6 rfl T.n_enumerate (Zb (pv 2) Za)) (Zbt rfl (Z6 (Y5 (i:=4) Zbc.nd) (Z6 (Y5 (i:=5) Zbc.nd) X2))) Z2) ⟨_,rfl,rl,rfl,⟨_,SqL.of hrl⟩,Zfh (xs:=rs.map V.ref) I2
   ⟨⟨none,none,none,rfl⟩,fun _ _ _ _ z=>z,[],[],by rw [List.append_nil];exact hpl,by rw [List.append_nil];exact hjl,[],rfl,by simp,rfl,rfl⟩ ?_ ?_ ?_⟩
  ·rintro i σ H' _ ⟨_,km,_⟩
   exact SqL.of (km _ _ n2 n3 hrl)
  ·rintro i v σ H2 hi ⟨⟨o4,o5,o6,rfl⟩,km,nps,njs,⟨ts,ht,hts⟩,⟨us,hu,hus⟩,hcl⟩ tp H3 s3 n3' e3
   rw [List.getElem?_map] at hi
   obtain ⟨te,hte,rfl⟩:=Option.map_eq_some_iff.mp hi
   obtain ⟨y,hy,hye⟩:=Paired.get hrs hte
   have hil:i<rs.length:=(List.getElem?_eq_some_iff.mp hte).1
   obtain ⟨ks,hkl,hks,hnp,hnj⟩:=id hcl
   have c1:=Paired.length hts
   have c2:=Paired.length hus
   rw [List.length_append,hnp,List.length_map,List.length_range] at c1
   rw [List.length_append,hnj,List.length_map,List.length_range] at c2
   have hye2:Zw H2 te y:=by
    unfold Zw at hye ⊢
    refine km _ _ (fun z=>?_) (fun z=>?_) hye
    ·obtain ⟨_,h1,_⟩:=hpl;rw [z,h1] at hye;cases hye
    ·obtain ⟨_,h1,_⟩:=hjl;rw [z,h1] at hye;cases hye
   refine ⟨tp,_,rfl,SqT.of e3,rfl,_,_,rfl,_,_,rfl,rfl,?_⟩
   have fl:=Zfo i (by omega)
   refine WSs.step (Zx (i:=6) Zbc.nd (Zl Wl Zf (Xx Zbf (by rfl) T.n_str PyProof.Rows.boot_str (Zb (pv 4) Za)))) ⟨_,rfl,(i:Int),rfl,Zm9 (by omega),.inr (.inl ⟨_,_,rfl,rfl,sz (by show 1+(Zej i).length<=1000;omega),?_⟩)⟩
   obtain ⟨kd,hkd,hkm⟩:∃kd:Str,atI [V.str "gate",.str "stop",.str "gate"] (Zes c (i:Int)%3)=some (.str kd)/\(kd = "gate" \/kd = "stop"):=by
    have h0:=Int.emod_nonneg (Zes c (i:Int)) (show (3:Int)≠0 by decide)
    have h1:=Int.emod_lt_of_pos (Zes c (i:Int)) (show (0:Int)<3 by decide)
    generalize Zes c (i:Int)%3=m at h0 h1
    have:m=0\/m=1\/m=2:=by omega
    rcases this with rfl|rfl|rfl
    ·exact ⟨"gate",rfl,.inl rfl⟩
    ·exact ⟨"stop",rfl,.inr rfl⟩
    ·exact ⟨"gate",rfl,.inl rfl⟩
   refine WSs.step (Wk (Zdq PySem.F.plainAttrs_list PySem.F.slot_list_append PySem.F.type_list_append Xy (pv 0) (Zb (Zg (Zb (Zp (r:=rIx K) Zk (Zm (Zb Zf (Zb Zf (Zb Zf Za)))) (Zl Yo (Zu (Zbg T) hr rfl T.m__law_mixed T.d__law_mixed.F.kp T.d__law_mixed.b .nil Z3 (Zb (pv 3) (Zb (pv 4) Za))) Ze) (fun _ _=>rfl)) (Zb (pv 6) Za))) Za))) ⟨_,rfl,.inl ⟨rfl,_,SqL.of (s3.at ht)⟩,sz (by simp),fun lk H4 s4 n4 e4=>⟨_,rfl,_,rfl,c,(i:Int),rfl,_,_,rfl,rfl,(by show (0:Int)<3;decide),.inl ⟨lk,_,_,.str kd,rfl,rfl,SqL.of e4,hkd,_,rfl,sz (by simp),fun t5 H5 s5 n5 e5=>⟨pl,_,_,rfl,rfl,s5.at (s4.at (s3.at ht)),?_,?_⟩⟩⟩⟩
   ·rw [List.length_map];exact Zy (by omega)
   have s25:=s3.trans (s4.trans s5)
   have hpl5:=s25.at ht
   have hts5:Paired (Zw H5) ts (ps++nps):=Paired.mapP hts fun _ _ r=>r.mono s25
   have hus5:Paired (W7 H5) us (js++njs):=Paired.mapP hus fun _ _ r=>r.mono s25
   have p6:Paired (Zw (upd H5 pl (.lst (ts.map V.ref++[.ref t5])))) (ts++[t5]) ((ps++nps)++[(kd,Zav i)]):=Zam (Paired.append hts5 (.cons e5 .nil)) hpl5
   have j6:=Zb1 (o:=.lst (ts.map V.ref++[.ref t5])) hus5 hpl5
   have hu6:upd H5 pl (.lst (ts.map V.ref++[.ref t5])) jl=some (.lst (us.map V.ref)):=(Zj (Ne.symm n1)).trans (s25.at hu)
   have k6:∀b o,b≠pl->b≠jl->H b=some o->upd H5 pl (.lst (ts.map V.ref++[.ref t5])) b=some o:=fun b o b1 b2 z=>(Zj b1).trans (s25.at (km b o b1 b2 z))
   have y6:Zw (upd H5 pl (.lst (ts.map V.ref++[.ref t5]))) te y:=by
    have z:=hye2.mono s25
    unfold Zw at z ⊢
    exact (Zj fun w=>by rw [w,hpl5] at z;cases z).trans z
   have e6:upd H5 pl (.lst (ts.map V.ref++[.ref t5])) pl=some (.lst ((ts++[t5]).map V.ref)):=by rw [Zh,List.map_append];rfl
   generalize (upd H5 pl (.lst (ts.map V.ref++[.ref t5])))=H6 at p6 j6 hu6 k6 y6 e6
   refine WSs.last (Wk (Zdq PySem.F.plainAttrs_list PySem.F.slot_list_append PySem.F.type_list_append Xy (pv 1) (Zb (Zg (Zb (pv 5) (Zb (Zg (Zb (pv 6) (Zb Zf Za))) Za))) Za))) ⟨_,rfl,.inl ⟨rfl,_,SqL.of hu6⟩,_,rfl,_,rfl,sz (by simp),fun t7 H7 s7 n7 e7=>⟨sz (by simp),fun t8 H8 s8 n8 e8=>⟨jl,_,_,rfl,rfl,s8.at (s7.at hu6),?_,⟨_,_,_,rfl⟩,fun b o b1 b2 z=>?_,nps++[(kd,Zav i)],njs++[(y,(Zav i,("a" :Str)))],⟨ts++[t5],?_,?_⟩,⟨us++[t8],?_,?_⟩,hcl.more hkm hy⟩⟩⟩
   ·rw [List.length_map];exact Zy (by omega)
   ·exact (Zj b2).trans (s8.at (s7.at (k6 b o b1 b2 z)))
   ·exact (Zj n1).trans (s8.at (s7.at e6))
   ·rw [<-List.append_assoc]
    exact Zam (Paired.mapP p6 fun _ _ r=>r.mono (s7.trans s8)) (s8.at (s7.at hu6))
   ·rw [Zh,List.map_append];rfl
   ·rw [<-List.append_assoc]
    exact Zb1 (Paired.append (Paired.mapP j6 fun _ _ r=>r.mono (s7.trans s8)) (.cons ⟨te,t7,e8,y6.mono (s7.trans s8),s8.at e7⟩ .nil)) (s8.at (s7.at hu6))
  ·rintro σ H2 ⟨⟨o4,o5,o6,rfl⟩,km,nps,njs,h1,h2,hcl⟩
   rw [List.length_map,lrs] at hcl
   exact q H2 nps njs km h1 h2 hcl
theorem Zkn(T:Tx K mg){k:Nat}(h:2<=k:=by decide):Z1 P w K mg base CX0 k T.d__law_closed.f T.d__law_closed.fd ["_law_parts", "_law_joins", "_law_rest", "_law_cell"] Zn9:=(Zi8 T).mono h
def trP(q:Zc):Tr:=.tup [.str q.1,.str q.2]
theorem Znm{H:Hp}{ts:List Addr}{ps:List Zc}(h:Paired (Zw H) ts ps):Paired (Im K H 1) (ps.map trP) (ts.map V.ref):=by
 induction h with
 | nil=>exact .nil
 | cons r _ ih=>exact .cons (Im.tup (SqT.of r) (.cons (.str _) (.cons (.str _) .nil))) ih
theorem Zz.im{H:Hp}{l:Addr}{ps:List Zc}(h:Zz H l ps):Im K H 2 (.lst (ps.map trP)) (.ref l):=let ⟨_,h1,h2⟩:=h;Im.lst (SqL.of h1) (Znm h2)
theorem Zjp{l D:Addr}{xs:List Str}{x:Str}{H1:Hp}{Q:VK}{σ:St}(hl:H1 l=some (.lst (xs.map V.str)))(hn:xs.length<=100)(hD:H1 D=none)(q:∀H',Same H1 H'->Zz H' D (xs.map fun e=>(x,e))->Q (.ref D) H'){fr:St->St}(hfr:fr σ=[none,some (.str x)]){te:TE}(hte:te=Ztg (Zky (Zka 1) (Zky (Zka 0) Zwr))) :
  Zdx (Itl K l) fr (Zd8 0) Zwi te Q σ H1 D:=by
 refine Xq (xs:=xs.map V.str) (fun i ys H'=>(∃ts:List Addr,ys=ts.map V.ref/\Paired (Zw H') ts ((xs.take i).map fun e=>(x,e)))/\H' D=some (.lst ys)/\Same H1 H') ⟨⟨[],rfl,.nil⟩,Zh,Same.new hD⟩ ?_ ?_ ?_
 ·rintro i ys H' _ ⟨_,_,sm⟩
  exact SqL.of (sm.at hl)
 ·rintro k v ys H' hk ⟨⟨ts,rfl,hts⟩,hD',sm⟩
  rw [List.getElem?_map] at hk
  obtain ⟨y,hy,rfl⟩:=Option.map_eq_some_iff.mp hk
  unfold Zdb
  rw [hfr,hte]
  have hlen:ts.length<=100:=by
   have:=Paired.length hts
   rw [List.length_map,List.length_take] at this
   omega
  refine ⟨W2.set rfl,_,rfl,_,rfl,sz (by simp),fun t H2 s2 n2 e2=>⟨s2.at hD',by rw [List.length_map];exact Zy (by omega),⟨ts++[t],by rw [List.map_append];rfl,?_⟩,Zh,fun b o e=>?_⟩⟩
  ·rw [List.take_add_one,hy,List.map_append]
   exact Zam (Paired.append (Paired.mapP hts fun _ _ r=>r.mono s2) (.cons e2 .nil)) (s2.at hD')
  ·rw [Zj (Zi e hD)];exact s2.at (sm.at e)
 ·rintro ys H6 ⟨⟨ts,rfl,hts⟩,hD6,s6⟩
  rw [List.length_map,List.take_length] at hts
  exact q H6 s6 ⟨ts,hD6,hts⟩
theorem Zw.offL{H:Hp}{c t:Addr}{o:HO}{xs:List V}{q:Zc}(h:Zw H t q)(hc:H c=some (.lst xs)):Zw (upd H c o) t q:=by
 unfold Zw at h ⊢
 exact (Zj fun z=>by rw [z,hc] at h;cases h).trans h
theorem Zz.offL{H:Hp}{c l:Addr}{o:HO}{xs:List V}{ps:List Zc}(h:Zz H l ps)(hc:H c=some (.lst xs))(ne:l≠c):Zz (upd H c o) l ps:=let ⟨ts,h1,h2⟩:=h;⟨ts,(Zj ne).trans h1,Zam h2 hc⟩
theorem Zz.erased{H:Hp}{l:Addr}{ts:List Addr}{ps:List Zc}(h1:H l=some (.lst (ts.map V.ref)))(h2:Paired (Zw H) ts ps)(k:Nat):Zz (upd H l (.lst ((ts.map V.ref).eraseIdx k))) l (ps.eraseIdx k):=⟨ts.eraseIdx k,by rw [Zh,Zld],Zam (Zft h2 k) h1⟩
theorem Zqj{k n:Nat}(h:k<n):seqIndex? (k:Int) n=some k:=by
 unfold seqIndex?
 have h1:¬(k:Int)<0:=by omega
 simp only [h1,if_false]
 rw [if_pos (by simp;omega)]
 simp
theorem Zb5{a:Int}{n:Nat}(h:0<n):∃k:Nat,a%(n:Int)=(k:Int)/\k<n:=by
 have h0:=Int.emod_nonneg a (show (n:Int)≠0 by omega)
 have h1:=Int.emod_lt_of_pos a (show (0:Int)<n by omega)
 exact ⟨(a%(n:Int)).toNat,by omega,by omega⟩
theorem Znx{α β:Type}{R:α->β->Prop}{l₁:List α}{l₂:List β}(h:Paired R l₁ l₂)(n:Nat):Paired R (l₁.drop n) (l₂.drop n):=by
 induction n generalizing l₁ l₂ with
 | zero=>exact h
 | succ n ih =>
  cases h with
  | nil=>exact .nil
  | cons _ t=>exact ih t
theorem Zle{l D:Addr}{ts:List Addr}{qs:List Zc}{keep:Zc->Bool}{w:Option V}{H1:Hp}{Q:VK}{σ:St}(hl:H1 l=some (.lst (ts.map V.ref)))(hts:Paired (Zw H1) ts qs)(hn:qs.length<=100)(hD:H1 D=none)(q:∀H',Same H1 H'->Zz H' D (qs.filter keep)->Q (.ref D) H'){fr:St->St}(hfr:fr σ=[none,w]){tf:TT}(htf:∀(t:Addr) (x:Zc) (H':Hp) (R:Bool->Hp->Prop),Same H1 H'->Zw H' t x->x∈qs->R (keep x) H'->tf [some (.ref t),w] H' R) :
  Zdx (Itl K l) fr (Zd8 0) tf (Zka 0) Q σ H1 D:=by
 have hln:=Paired.length hts
 refine Xq (xs:=ts.map V.ref) (fun i ys H'=>(∃ts':List Addr,ys=ts'.map V.ref/\Paired (Zw H1) ts' ((qs.take i).filter keep))/\H' D=some (.lst ys)/\Same H1 H') ⟨⟨[],rfl,.nil⟩,Zh,Same.new hD⟩ ?_ ?_ ?_
 ·rintro i ys H' _ ⟨_,_,sm⟩
  exact SqL.of (sm.at hl)
 ·rintro k v ys H' hk ⟨⟨ts',rfl,hs'⟩,hD',sm⟩
  rw [List.getElem?_map] at hk
  obtain ⟨t,ht,rfl⟩:=Option.map_eq_some_iff.mp hk
  obtain ⟨x,hx,r2⟩:=Paired.get hts ht
  unfold Zdb
  rw [hfr]
  have hlen:ts'.length<=100:=by
   rw [Paired.length hs']
   have:=List.length_filter_le keep (qs.take k)
   rw [List.length_take] at this
   omega
  refine ⟨W2.set rfl,htf t x H' _ sm (r2.mono sm) (List.mem_of_getElem? hx) (Ym (fun hc=>?_) (fun hc=>?_))⟩
  ·refine ⟨_,rfl,hD',by rw [List.length_map];exact Zy (by omega),⟨ts'++[t],by rw [List.map_append];rfl,?_⟩,Zh,fun b o e=>?_⟩
   ·rw [List.take_add_one,hx,List.filter_append]
    refine Paired.append hs' ?_
    rw [show (some x).toList=[x] from rfl,List.filter_cons,if_pos hc]
    exact .cons r2 .nil
   ·rw [Zj (Zi e hD)];exact sm.at e
  ·refine ⟨⟨ts',rfl,?_⟩,hD',sm⟩
   rw [List.take_add_one,hx,List.filter_append,show (some x).toList=[x] from rfl,List.filter_cons,if_neg hc,List.filter_nil,List.append_nil]
   exact hs'
 ·rintro ys H6 ⟨⟨ts',rfl,hs'⟩,hD6,s6⟩
  rw [List.length_map,hln,List.take_length] at hs'
  exact q H6 s6 ⟨ts',hD6,Paired.mapP hs' fun _ _ r=>r.mono s6⟩
def Zq4(K:Frag):Sp:=fun vs H Q _=>∃(cl:Addr) (cs:List Int),vs=[.ref cl]/\SqL K H cl (cs.map V.int)/\(∀c∈cs,0<=c)/\cs.length<=63 /\
 ∀(t:Addr) (H':Hp) (pl jl:Addr) (ps:List Zc) (js:List (Zc×Zc)) (n:Nat),Same H H'->H' t=some (.tup [.ref pl,.ref jl])->Zz H' pl ps->Yj H' jl js->H pl=none->H jl=none->Net ps js []->ps.length<=39->(∀p∈ps,nmD p.2 63\/∃j,j<90/\p.2=Zav j)->Q (.ref t) H'
theorem Zko(T:Tx K mg):Z1 P w K mg base CX0 3 T.d__law_drawn.f T.d__law_drawn.fd ["_law_cells_here"] (Zq4 K):=by
 refine T.d__law_drawn.F.okW Yk fun cdv A outer s H vs Q E hr h=>?_
 ·obtain ⟨cl,cs,rfl,hcl,hcs,hcn,q⟩:=h
  refine WSs.step (Zx (i:=1) Yk.nd (Zm Za)) ⟨sz (by simp),fun pl H1 s1 n1 e1=>?_⟩
  refine WSs.step (Zx (i:=2) Yk.nd (Zm Za)) ⟨sz (by simp),fun jl H2 s2 n2 e2=>?_⟩
  refine WSs.step (Zx (i:=3) Yk.nd (Zm Za)) ⟨sz (by simp),fun rl0 H3 s3 n3 e3=>?_⟩
  have s03:=s1.trans (s2.trans s3)
  have fp:H pl=none:=n1
  have fj:H jl=none:=s1.free n2
  have fr0:H rl0=none:=s1.free (s2.free n3)
  have npj:pl≠jl:=Zi e1 n2
  have nrp:rl0≠pl:=Ne.symm (Zi (s2.at e1) n3)
  have nrj:rl0≠jl:=Ne.symm (Zi e2 n3)
  have hp0:Zz H3 pl []:=⟨[],s3.at (s2.at e1),.nil⟩
  have hj0:Yj H3 jl []:=⟨[],s3.at e2,.nil⟩
  have hr0:Zz H3 rl0 []:=⟨[],e3,.nil⟩
  clear s1 s2 s3 n1 n2 n3 e1 e2 e3
  let I3:=fun (i:Nat) (σ:St) (H':Hp)=>Same H H'/\∃rl o4 o5 o6 o7 o8 o9 o10 o11 ps js Z5,σ=[some (.ref cl),some (.ref pl),some (.ref jl),some (.ref rl),o4,o5,o6,o7,o8,o9,o10,o11]/\Zz H' pl ps/\Yj H' jl js/\Zz H' rl Z5/\Xm i (2 * i) ps js Z5/\H rl=none/\rl≠pl/\rl≠jl
  refine WSs.step (Wi PassesOwn.never rfl (Zh6 rfl T.n_enumerate (Zb (pv 0) Za)) (Zbt rfl (Z6 (Y5 (i:=4) Yk.nd) (Z6 (Y5 (i:=5) Yk.nd) X2))) Z2) ⟨_,rfl,cl,rfl,⟨_,s03.seq hcl⟩,Zfh (xs:=cs.map V.int) I3
   ⟨s03,rl0,none,none,none,none,none,none,none,none,_,_,_,rfl,hp0,hj0,hr0,Xm.start,fr0,nrp,nrj⟩ ?_ ?_ ?_⟩
  ·rintro i σ H' _ ⟨sm,_⟩
   exact sm.seq hcl
  ·rintro i v σ H4 hi ⟨s4,rl,o4,o5,o6,o7,o8,o9,o10,o11,ps,js,Z5,rfl,hpl,hjl,hrl,hok,frl,nrp',nrj'⟩ tp H5 s5 n5 e5
   rw [List.getElem?_map] at hi
   obtain ⟨c,hc,rfl⟩:=Option.map_eq_some_iff.mp hi
   have hi63:i<63:=by
    have:=(List.getElem?_eq_some_iff.mp hc).1
    omega
   have hc0:0<=c:=hcs c (List.mem_of_getElem? hc)
   refine ⟨tp,_,rfl,SqT.of e5,rfl,_,_,rfl,_,_,rfl,rfl,?_⟩
   obtain ⟨kd,hkd,hkm⟩:∃kd:Str,atI [V.str "plain",.str "plain",.str "plain",.str "points",.str "points",.str "cross",.str "gate",.str "stop"] (c%8)=some (.str kd)/\kd∈Wh:=by
    have h0:=Int.emod_nonneg c (show (8:Int)≠0 by decide)
    have h1:=Int.emod_lt_of_pos c (show (0:Int)<8 by decide)
    generalize c%8=m at h0 h1
    have:m=0\/m=1\/m=2\/m=3\/m=4\/m=5\/m=6\/m=7:=by omega
    rcases this with rfl|rfl|rfl|rfl|rfl|rfl|rfl|rfl <;>exact ⟨_,rfl,by simp [Wh]⟩
   obtain ⟨g1,g2,g3,g4,g5,g6⟩:=Zh3 kd hkm
   refine WSs.step (Zx (i:=6) Yk.nd (Zp (r:=rIx K) Zk (Zm (Zb Zf (Zb Zf (Zb Zf (Zb Zf (Zb Zf (Zb Zf (Zb Zf (Zb Zf Za))))))))) (Zl Yo (pv 5) Ze) (fun _ _=>rfl))) ⟨sz (by simp),fun lk H6 s6 n6 e6=>⟨_,rfl,_,_,rfl,rfl,(by show (0:Int)<8;decide),.inl ⟨lk,_,_,.str kd,rfl,rfl,SqL.of e6,hkd,?_⟩⟩⟩
   refine WSs.step (Zx (i:=7) Yk.nd (Zu (Zg5 T) hr rfl T.m__law_ends T.d__law_ends.F.kp T.d__law_ends.b .nil Z3 (Zb (pv 6) Za))) ⟨_,rfl,kd,rfl,fun le H7 s7 n7 e7=>?_⟩
   have s47:=s5.trans (s6.trans s7)
   have s07:=s4.trans s47
   have nl1:pl≠le:=let ⟨_,z,_⟩:=hpl;Zi ((s5.trans s6).at z) n7
   have nl2:jl≠le:=let ⟨_,z,_⟩:=hjl;Zi ((s5.trans s6).at z) n7
   have hpl:=hpl.mono s47
   have hjl:=hjl.mono s47
   have hrl:=hrl.mono s47
   obtain ⟨ts,ht,hts⟩:=hpl
   obtain ⟨rs,hr',hrs⟩:=hrl
   have c1:=Paired.length hts
   have c2:=Paired.length hrs
   refine WSs.step (Ye (Zs Zkq (Zl Wl (Zl Wl (Z0 (r:=X0 K) X3 (by rfl) T.n_len PySem.boot_len (Zb (pv 1) Za)) (Z0 (r:=X0 K) X3 (by rfl) T.n_len PySem.boot_len (Zb (pv 3) Za))) (Z0 (r:=X0 K) X3 (by rfl) T.n_len PySem.boot_len (Zb (pv 7) Za))) Ze (Z4 _)) Z2 Zv) ⟨_,rfl,.inl ⟨pl,_,rfl,.inl (SqL.of ht),_,rfl,.inl ⟨rl,_,rfl,.inl (SqL.of hr'),.inl ⟨_,_,rfl,rfl,_,rfl,.inl ⟨le,_,rfl,.inl (SqL.of e7),.inl ⟨_,_,rfl,rfl,_,_,rfl,rfl,_,rfl,Ym (fun hgt=>?_) (fun hgt=>?_)⟩⟩⟩⟩⟩⟩
   ·exact WSs.last Znj ⟨s07,rl,_,_,_,_,_,_,_,_,ps,js,Z5,rfl,⟨ts,ht,hts⟩,hjl,⟨rs,hr',hrs⟩,hok.mono (by omega) (by omega),frl,nrp',nrj'⟩
   have hgt:ps.length+Z5.length+(Yc kd).length<=38:=by
    have z:¬(((ts.map V.ref).length:Int)+((rs.map V.ref).length:Int)+(((Yc kd).map V.str).length:Int) >38):=fun z=>hgt (decide_eq_true z)
    rw [List.length_map,List.length_map,List.length_map] at z
    omega
   obtain ⟨n,hn⟩:∃n,n=Ys kd (c / 8) i:=⟨_,rfl⟩
   refine WSs.step (Zx (i:=8) Yk.nd (Zu (Zd7 T) hr rfl T.m__law_name_by T.d__law_name_by.F.kp T.d__law_name_by.b .nil Z3 (Zb (pv 6) (Zb (Zl Yt (pv 5) Ze) (Zb (pv 4) Za))))) ⟨_,rfl,_,rfl,_,_,rfl,rfl,⟨by decide,by decide⟩,_,rfl,kd,c / 8,i,rfl,g3,by omega,Int.ediv_nonneg hc0 (by decide),by omega,?_⟩
   rw [<-hn]
   refine WSs.step (Wk (Zdq PySem.F.plainAttrs_list PySem.F.slot_list_append PySem.F.type_list_append Xy (pv 1) (Zb (Zg (Zb (pv 6) (Zb (pv 8) Za))) Za))) ⟨_,rfl,.inl ⟨rfl,_,SqL.of ht⟩,_,rfl,_,rfl,sz (by simp),fun t8 H8 s8 n8 e8=>⟨pl,_,_,rfl,rfl,s8.at ht,?_,?_⟩⟩
   ·rw [List.length_map];exact Zy (by omega)
   have ok8:=hok.add (c:=c / 8) (by omega) hkm hgt
   rw [<-hn] at ok8
   obtain ⟨us,hu,hus⟩:=hjl.mono s8
   have p9:Zz (upd H8 pl (.lst (ts.map V.ref++[.ref t8]))) pl (ps++[(kd,n)]):=⟨ts++[t8],by rw [Zh,List.map_append];rfl,Zam (Paired.append (Paired.mapP hts fun _ _ r=>r.mono s8) (.cons e8 .nil)) (s8.at ht)⟩
   have j9:Yj (upd H8 pl (.lst (ts.map V.ref++[.ref t8]))) jl js:=⟨us,(Zj (Ne.symm npj)).trans hu,Zb1 hus (s8.at ht)⟩
   have r9:Zz (upd H8 pl (.lst (ts.map V.ref++[.ref t8]))) rl Z5:=⟨rs,(Zj nrp').trans (s8.at hr'),Zam (Paired.mapP hrs fun _ _ r=>r.mono s8) (s8.at ht)⟩
   have e9:upd H8 pl (.lst (ts.map V.ref++[.ref t8])) le=_:=(Zj (Ne.symm nl1)).trans (s8.at e7)
   have s09:Same H (upd H8 pl (.lst (ts.map V.ref++[.ref t8]))):=fun b o z=>(Zj (Zi z fp)).trans (s8.at (s07.at z))
   generalize (upd H8 pl (.lst (ts.map V.ref++[.ref t8])))=H9 at p9 j9 r9 e9 s09
   have hok':=hok
   clear hts hrs ht hr' hu hus s8 s47 s07 hjl hok n8 e8
   refine WSs.step (Zb3 (i:=9) (N':=["_law_end", "_law_name"]) Yk.nd rfl (Or.inl rfl) rfl (Ya.std 1 [8] rfl (by trivial) (by trivial) rfl ⟨rfl,trivial⟩ rfl rfl ⟨⟨_,rfl,rfl,rfl⟩,trivial⟩) (Yx (pv 7)) (fun _ _ _ _=>(Zbn (i:=0) (by show (["_law_end", "_law_name"]:List Str).Nodup;decide +kernel))) (fun _ _ _ _=>W0) (fun _ _ _ _=>(Zg (Zb (pv 1) (Zb (pv 0) Za))))) ⟨_,rfl,le,rfl,⟨_,SqL.of e9⟩,fun lf hlf=>?_⟩
   refine Zjp (xs:=Yc kd) (x:=n) e9 (by omega) hlf (fun H10 s10 f10=>?qq) ?aa ?bb
   case aa=>rfl
   case bb=>rfl
   have p10:=p9.mono s10
   have j10:=j9.mono s10
   have r10:=r9.mono s10
   have s010:=s09.trans s10
   have flf:H lf=none:=s09.free hlf
   have nfp:lf≠pl:=let ⟨_,z,_⟩:=p9;Ne.symm (Zi z hlf)
   have nfj:lf≠jl:=let ⟨_,z,_⟩:=j9;Ne.symm (Zi z hlf)
   have nfr:lf≠rl:=let ⟨_,z,_⟩:=r9;Ne.symm (Zi z hlf)
   clear p9 j9 r9 s09 e9 s10
   let I4:=fun (σ:St) (H':Hp)=>Same H H'/\∃rest' fresh' js',σ=[some (.ref cl),some (.ref pl),some (.ref jl),some (.ref rl),some (.int i),some (.int c),some (.str kd),some (.ref le),some (.str n),some (.ref lf),o10,o11]/\Zz H' pl (ps++[(kd,n)])/\Yj H' jl js'/\Zz H' rl rest'/\Zz H' lf fresh'/\Xm (i+1) (2 * i+1) (ps++[(kd,n)]) js' (rest'++fresh')
   refine WSs.cut I4 ?_ ?_
   ·refine WS.of (Ye (Zs (r:=Zj7 K) (Znp hr) (pv 3) (Zm Za) (Z4 _)) Z2 Zv) ⟨_,rfl,sz (by simp),fun l0 H11 s11 n11 e11=>.inr (.inl ⟨2,.lst (Z5.map trP),.lst [],by decide,.inr ⟨_,_,rfl,rfl⟩,Zz.im (r10.mono s11),Im.lst (SqL.of e11) .nil,_,rfl,Ym (fun hne=>?_) (fun hne=>?_)⟩)⟩
    ·have hne:0<Z5.length:=by
      cases Z5 with
      | nil=>simp at hne
      | cons=>simp
     obtain ⟨rs1,hr1,hrs1⟩:=r10.mono s11
     obtain ⟨fs1,hf1,hfs1⟩:=f10.mono s11
     obtain ⟨us1,hu1,hus1⟩:=j10.mono s11
     have cr:=Paired.length hrs1
     have cf:=Paired.length hfs1
     have cu:=Paired.length hus1
     rw [List.length_map] at cf
     have hjl1:=hok'.jl
     obtain ⟨k1,hk1,hk1l⟩:=Zb5 (a:=c / 24) (n:=(rs1.map V.ref).length) (by rw [List.length_map];omega)
     obtain ⟨k2,hk2,hk2l⟩:=Zb5 (a:=c / 100) (n:=(fs1.map V.ref).length) (by rw [List.length_map];omega)
     obtain ⟨ta,hta⟩:∃ta,rs1[k1]? =some ta:=⟨_,List.getElem?_eq_getElem (by rw [List.length_map] at hk1l;exact hk1l)⟩
     obtain ⟨tb,htb⟩:∃tb,fs1[k2]? =some tb:=⟨_,List.getElem?_eq_getElem (by rw [List.length_map] at hk2l;exact hk2l)⟩
     obtain ⟨qa,hqa,hqat⟩:=Paired.get hrs1 hta
     obtain ⟨qb,hqb,hqbt⟩:=Paired.get hfs1 htb
     refine WSs.last (Wk (Zdq PySem.F.plainAttrs_list PySem.F.slot_list_append PySem.F.type_list_append Xy (pv 2) (Zb (Zg (Zb (Zdq PySem.F.plainAttrs_list PySem.F.slot_list_pop PySem.F.type_list_pop Zn3 (pv 3) (Zb (Zl Yo (Zl Yt (pv 5) Ze) (Z0 (r:=X0 K) X3 (by rfl) T.n_len PySem.boot_len (Zb (pv 3) Za))) Za)) (Zb (Zdq PySem.F.plainAttrs_list PySem.F.slot_list_pop PySem.F.type_list_pop Zn3 (pv 9) (Zb (Zl Yo (Zl Yt (pv 5) Ze) (Z0 (r:=X0 K) X3 (by rfl) T.n_len PySem.boot_len (Zb (pv 9) Za))) Za)) Za))) Za))) ⟨_,rfl,.inl ⟨rfl,_,SqL.of hu1⟩,_,rfl,.inl ⟨rfl,_,SqL.of hr1⟩,_,rfl,_,_,rfl,rfl,⟨by decide,by decide⟩,_,rfl,.inl ⟨rl,_,rfl,.inl (SqL.of hr1),_,_,rfl,rfl,by omega,rl,_,_,k1,.ref ta,rfl,rfl,hr1,by omega,by rw [List.length_map] at hk1l;omega,by rw [hk1];exact Zqj hk1l,by rw [List.getElem?_map,hta];rfl,?_⟩⟩
     have r12:=Zz.erased hr1 hrs1 k1
     have f12:=Zz.offL (o:=.lst ((rs1.map V.ref).eraseIdx k1)) ⟨fs1,hf1,hfs1⟩ hr1 nfr
     have p12:=(p10.mono s11).offL (o:=.lst ((rs1.map V.ref).eraseIdx k1)) hr1 (Ne.symm nrp')
     have hu12:upd H11 rl (.lst ((rs1.map V.ref).eraseIdx k1)) jl=_:=(Zj (Ne.symm nrj')).trans hu1
     have hus12:=Zb1 (o:=.lst ((rs1.map V.ref).eraseIdx k1)) hus1 hr1
     have hf12:upd H11 rl (.lst ((rs1.map V.ref).eraseIdx k1)) lf=_:=(Zj nfr).trans hf1
     have hfs12:=Zam (o:=.lst ((rs1.map V.ref).eraseIdx k1)) hfs1 hr1
     have a12:=hqat.offL (o:=.lst ((rs1.map V.ref).eraseIdx k1)) hr1
     have b12:=hqbt.offL (o:=.lst ((rs1.map V.ref).eraseIdx k1)) hr1
     have s12:Same H (upd H11 rl (.lst ((rs1.map V.ref).eraseIdx k1))):=fun b o z=>(Zj (Zi z frl)).trans (s11.at (s010.at z))
     generalize (upd H11 rl (.lst ((rs1.map V.ref).eraseIdx k1)))=H12 at r12 f12 p12 hu12 hus12 hf12 hfs12 a12 b12 s12
     refine ⟨_,rfl,.inl ⟨rfl,_,SqL.of hf12⟩,_,rfl,_,_,rfl,rfl,⟨by decide,by decide⟩,_,rfl,.inl ⟨lf,_,rfl,.inl (SqL.of hf12),_,_,rfl,rfl,by omega,lf,_,_,k2,.ref tb,rfl,rfl,hf12,by omega,by rw [List.length_map] at hk2l;omega,by rw [hk2];exact Zqj hk2l,by rw [List.getElem?_map,htb];rfl,?_⟩⟩
     have f13:=Zz.erased hf12 hfs12 k2
     have r13:=r12.offL (o:=.lst ((fs1.map V.ref).eraseIdx k2)) hf12 (Ne.symm nfr)
     have p13:=p12.offL (o:=.lst ((fs1.map V.ref).eraseIdx k2)) hf12 (Ne.symm nfp)
     have hu13:upd H12 lf (.lst ((fs1.map V.ref).eraseIdx k2)) jl=_:=(Zj (Ne.symm nfj)).trans hu12
     have hus13:=Zb1 (o:=.lst ((fs1.map V.ref).eraseIdx k2)) hus12 hf12
     have a13:=a12.offL (o:=.lst ((fs1.map V.ref).eraseIdx k2)) hf12
     have b13:=b12.offL (o:=.lst ((fs1.map V.ref).eraseIdx k2)) hf12
     have s13:Same H (upd H12 lf (.lst ((fs1.map V.ref).eraseIdx k2))):=fun b o z=>(Zj (Zi z flf)).trans (s12.at z)
     generalize (upd H12 lf (.lst ((fs1.map V.ref).eraseIdx k2)))=H13 at f13 r13 p13 hu13 hus13 a13 b13 s13
     refine ⟨sz (by simp),fun tj H14 s14 n14 e14=>⟨jl,_,_,rfl,rfl,s14.at hu13,?_,?_⟩⟩
     ·rw [List.length_map];exact Zy (by omega)
     have hu14:=s14.at hu13
     have hqn:qb.1=n:=by
      rw [List.getElem?_map] at hqb
      obtain ⟨x,_,rfl⟩:=Option.map_eq_some_iff.mp hqb
      rfl
     have hqo:qa.1≠qb.1:=by
      rw [hqn,hn]
      have h1:=Zd0 (hok'.net.perm.subset (List.mem_append_right _ (List.mem_of_getElem? hqa)))
      exact fun z=>hok'.new (by omega) hkm (z ▸ h1)
     refine ⟨fun b o z=>(Zj (Zi z fj)).trans (s14.at (s13.at z)),Z5.eraseIdx k1,_,js++[(qa,qb)],rfl,(p13.mono s14).offL hu14 npj,⟨us1++[tj],?_,?_⟩,(r13.mono s14).offL hu14 nrj',(f13.mono s14).offL hu14 nfj,ok8.join (Zu7 hqa hqb) hqo⟩
     ·rw [Zh,List.map_append];rfl
     ·exact Zb1 (Paired.append (Paired.mapP hus13 fun _ _ r=>r.mono s14) (.cons ⟨ta,tb,e14,a13.mono s14,b13.mono s14⟩ .nil)) hu14
    ·exact ⟨s010.trans s11,Z5,_,js,rfl,p10.mono s11,j10.mono s11,r10.mono s11,f10.mono s11,ok8.mono (Nat.le_refl _) (by omega)⟩
   rintro σ H12 ⟨s012,rest2,fresh2,js2,rfl,p12,j12,⟨rs2,hr12,hrs2⟩,⟨fs2,hf12,hfs2⟩,ok12⟩
   have sm12:=ok12.sum
   have cr:=Paired.length hrs2
   have cf:=Paired.length hfs2
   rw [List.length_append,List.length_append] at sm12
   refine WSs.step (Zx (i:=3) Yk.nd (Zl Wl (pv 3) (pv 9))) ⟨_,rfl,_,rfl,.inr (.inr ⟨rl,lf,_,_,rfl,rfl,hr12,hf12,?_,fun rm H13 s13 n13 e13=>?_⟩)⟩
   ·rw [List.length_map,List.length_map];exact sz (by omega)
   have r13:Zz H13 rm (rest2++fresh2):=Zz.app (Paired.mapP hrs2 fun _ _ r=>r.mono s13) (Paired.mapP hfs2 fun _ _ r=>r.mono s13) e13
   have p13:=p12.mono s13
   have j13:=j12.mono s13
   have s013:=s012.trans s13
   have frm:H rm=none:=s012.free n13
   have nmp:rm≠pl:=let ⟨_,z,_⟩:=p12;Ne.symm (Zi z n13)
   have nmj:rm≠jl:=let ⟨_,z,_⟩:=j12;Ne.symm (Zi z n13)
   clear hr12 hf12 hrs2 hfs2 p12 j12 s012 s13 p10 j10 r10 f10 s010 e13
   obtain ⟨op,hop⟩:∃op,op=rest2++fresh2:=⟨_,rfl⟩
   rw [<-hop] at r13 ok12
   have hopl:op.length<=39:=by rw [hop,List.length_append];omega
   clear hop sm12 cr cf
   obtain ⟨rs,hrm,hrs⟩:=r13
   have crs:=Paired.length hrs
   refine WSs.step (Zb3 (i:=10) (N':=["_law_end", "_law_rest"]) Yk.nd rfl (Or.inl rfl) rfl (Ya.std 1 [3] rfl (by trivial) (by trivial) rfl ⟨rfl,trivial⟩ rfl rfl ⟨⟨_,rfl,rfl,rfl⟩,trivial⟩) (Yx (Yr (r:=Zbq K) Zcl (pv 3) (Yy Ze) Yz)) (fun _ _ _ _=>(Zbn (i:=0) (by show (["_law_end", "_law_rest"]:List Str).Nodup;decide +kernel))) (fun _ _ _ _=>(Zgf (Zs (r:=Zj7 K) (Znp hr) (Zp (r:=rIx K) Zk (pv 0) Ze (fun _ _=>rfl)) (Zp (r:=rIx K) Zk (Zp (r:=rIx K) Zk (pv 1) Ze (fun _ _=>rfl)) Ze (fun _ _=>rfl)) (Z4 _)))) (fun _ _ _ _=>(pv 0))) ⟨_,rfl,_,rfl,.inr (.inl ⟨rm,_,rfl,SqL.of hrm,fun l1 H14 s14 n14 e14=>⟨l1,rfl,⟨_,SqL.of e14⟩,fun D hD=>?_⟩⟩)⟩
   rw [show (some (1:Int))=some ((1:Nat):Int) from rfl,Zcv,<-List.map_drop] at e14
   have hrs14:Paired (Zw H14) rs op:=Paired.mapP hrs fun _ _ r=>r.mono s14
   have hrm14:=s14.at hrm
   obtain ⟨q0,hq0⟩:∃q0,q0=op.getD 0 ("", ""):=⟨_,rfl⟩
   refine Zle (keep:=fun x=>decide (x.1≠q0.1)) (w:=some (.ref rm)) e14 (Znx hrs14 1) (by rw [List.length_drop];omega) hD (fun H15 s15 f15=>?q2) ?a2 ?b2
   case a2=>rfl
   case b2 =>
    intro t x H' R sm hx hm hR
    cases hrs14 with
    | nil=>simp at hm
    | cons r0 _ =>
     subst hq0
     refine ⟨_,rfl,.inr (.inl ⟨t,_,_,_,rfl,rfl,SqT.of hx,rfl,_,rfl,.inl ⟨rm,_,_,_,rfl,rfl,SqL.of (sm.at hrm14),(show atI _ ((0:Nat):Int)=_ from Zn rfl),.inr (.inl ⟨_,_,_,_,rfl,rfl,SqT.of (sm.at r0),rfl,.inl ⟨rfl,_,rfl,?_⟩⟩)⟩⟩)⟩
     simpa using hR
   obtain ⟨near,hnear⟩:∃near,near=(op.drop 1).filter fun x=>decide (x.1≠q0.1):=⟨_,rfl⟩
   rw [<-hnear] at f15
   have p15:=(p13.mono s14).mono s15
   have j15:=(j13.mono s14).mono s15
   have hrm15:=s15.at hrm14
   have hrs15:Paired (Zw H15) rs op:=Paired.mapP hrs14 fun _ _ r=>r.mono s15
   have s015:=s013.trans (s14.trans s15)
   clear p13 j13 s013 s14 s15 hrm14 hrs14 hrm hrs e14
   refine WSs.last (Ye (PW.pt (Zmm (Zs (r:=Zj7 K) (Znp hr) (pv 10) (Zm Za) (Z4 _)) (Zh4 (Zs (r:=Zaz K) (Zba hr) (Zl Yo (Zl Yt (pv 5) Ze) Ze) Ze (Z4 _))))) Z2 Zv) ⟨_,rfl,sz (by simp),fun l0 H16 s16 n16 e16=>.inr (.inl ⟨2,.lst (near.map trP),.lst [],by decide,.inr ⟨_,_,rfl,rfl⟩,Zz.im (f15.mono s16),Im.lst (SqL.of e16) .nil,_,rfl,Ym (fun hne=>?_) (fun hne=>?_)⟩)⟩
   ·refine ⟨_,rfl,_,_,rfl,rfl,⟨by decide,by decide⟩,_,_,rfl,rfl,(by show (0:Int)<3;decide),.inl ⟨rfl,_,rfl,Ym (fun _=>?_) (fun _=>?_)⟩⟩
    ·obtain ⟨ns,hnl,hns⟩:=f15.mono s16
     have cn:=Paired.length hns
     have hnl0:0<near.length:=by
      cases near with
      | nil=>simp at hne
      | cons=>simp
     obtain ⟨k3,hk3,hk3l⟩:=Zb5 (a:=c / 1500) (n:=(ns.map V.ref).length) (by rw [List.length_map];omega)
     obtain ⟨to,hto⟩:∃to,ns[k3]? =some to:=⟨_,List.getElem?_eq_getElem (by rw [List.length_map] at hk3l;exact hk3l)⟩
     obtain ⟨q3,hq3,hq3t⟩:=Paired.get hns hto
     have hq3m:q3∈near:=List.mem_of_getElem? hq3
     refine WSs.step (Zx (i:=11) Yk.nd (Zp (r:=rIx K) Zk (pv 10) (Zl Yo (Zl Yt (pv 5) Ze) (Z0 (r:=X0 K) X3 (by rfl) T.n_len PySem.boot_len (Zb (pv 10) Za))) (fun _ _=>rfl))) ⟨_,rfl,_,rfl,_,_,rfl,rfl,⟨by decide,by decide⟩,_,rfl,.inl ⟨D,_,rfl,.inl (SqL.of hnl),_,_,rfl,rfl,by omega,.inl ⟨D,_,_,.ref to,rfl,rfl,SqL.of hnl,by rw [hk3];exact Zn (by rw [List.getElem?_map,hto];rfl),?_⟩⟩⟩
     obtain ⟨us,hu,hus⟩:=j15.mono s16
     have cu:=Paired.length hus
     have hju:=ok12.jl
     have hrm16:=s16.at hrm15
     have hrs16:Paired (Zw H16) rs op:=Paired.mapP hrs15 fun _ _ r=>r.mono s16
     rw [hnear] at hq3m
     obtain ⟨hqd,hqk⟩:=List.mem_filter.mp hq3m
     have hqk:q3.1≠q0.1:=of_decide_eq_true hqk
     obtain ⟨t0,rs',tl,rfl,rfl,r0,hrt⟩:∃t0 rs' tl,rs=t0 ::rs'/\op=q0 ::tl/\Zw H16 t0 q0/\Paired (Zw H16) rs' tl:=by
      cases hrs16 with
      | nil=>simp at hqd
      | cons r0 rt=>exact ⟨_,_,_,rfl,by rw [hq0];rfl,by rw [hq0];exact r0,rt⟩
     have hqd:q3∈tl:=hqd
     refine WSs.step (Wk (Zdq PySem.F.plainAttrs_list PySem.F.slot_list_append PySem.F.type_list_append Xy (pv 2) (Zb (Zg (Zb (pv 11) (Zb (Zp (r:=rIx K) Zk (pv 3) Ze (fun _ _=>rfl)) Za))) Za))) ⟨_,rfl,.inl ⟨rfl,_,SqL.of hu⟩,_,rfl,_,rfl,.inl ⟨rm,_,_,.ref t0,rfl,rfl,SqL.of hrm16,(show atI _ ((0:Nat):Int)=_ from Zn rfl),sz (by simp),fun tj H17 s17 n17 e17=>⟨jl,_,_,rfl,rfl,s17.at hu,?_,?_⟩⟩⟩
     ·rw [List.length_map];exact Zy (by omega)
     have hu17:=s17.at hu
     have j18:Yj (upd H17 jl (.lst (us.map V.ref++[.ref tj]))) jl (js2++[(q3,q0)]):=⟨us++[tj],by rw [Zh,List.map_append];rfl,Zb1 (Paired.append (Paired.mapP hus fun _ _ r=>r.mono s17) (.cons ⟨to,t0,e17,hq3t.mono s17,r0.mono s17⟩ .nil)) hu17⟩
     have p18:=((p15.mono s16).mono s17).offL (o:=.lst (us.map V.ref++[.ref tj])) hu17 npj
     have hrm18:upd H17 jl (.lst (us.map V.ref++[.ref tj])) rm=_:=(Zj nmj).trans (s17.at hrm16)
     have hrt18:=Zam (o:=.lst (us.map V.ref++[.ref tj])) (Paired.mapP hrt fun _ _ r=>r.mono s17) hu17
     have q18:=(hq3t.mono s17).offL (o:=.lst (us.map V.ref++[.ref tj])) hu17
     have s18:Same H (upd H17 jl (.lst (us.map V.ref++[.ref tj]))):=fun b o z=>(Zj (Zi z fj)).trans (s17.at (s16.at (s015.at z)))
     generalize (upd H17 jl (.lst (us.map V.ref++[.ref tj])))=H18 at j18 p18 hrm18 hrt18 q18 s18
     refine WSs.last (Zx (i:=3) Yk.nd (Xn (N':=["_law_end", "_law_other"]) rfl (Ya.std 1 [11] rfl (by trivial) (by trivial) rfl ⟨rfl,trivial⟩ rfl rfl ⟨⟨_,rfl,rfl,rfl⟩,trivial⟩) (Yx (Yr (r:=Zbq K) Zcl (pv 3) (Yy Ze) Yz)) (fun _ _ _ _=>(Zbn (i:=0) (by show (["_law_end", "_law_other"]:List Str).Nodup;decide +kernel))) (fun _ _ _ _=>(Zgf (Zs (r:=Zj7 K) (Znp hr) (pv 0) (pv 1) (Z4 _)))) (fun _ _ _ _=>(pv 0)))) ⟨_,rfl,_,rfl,.inr (.inl ⟨rm,_,rfl,SqL.of hrm18,fun l2 H19 s19 n19 e19=>⟨l2,rfl,⟨_,SqL.of e19⟩,fun D2 hD2=>?_⟩⟩)⟩
     rw [show (some (1:Int))=some ((1:Nat):Int) from rfl,Zcv,<-List.map_drop] at e19
     have q19:=q18.mono s19
     refine Zle (ts:=rs') (qs:=tl) (keep:=fun x=>decide (x≠q3)) (w:=some (.ref to)) e19 (Paired.mapP hrt18 fun _ _ r=>r.mono s19) (by simp at hopl;omega) hD2 (fun H20 s20 f20=>?q4) ?a4 ?b4
     case a4=>rfl
     case b4 =>
      intro t x H' R sm hx hm hR
      refine ⟨_,rfl,_,rfl,.inr (.inl ⟨1,trP x,trP q3,by decide,.inl ⟨_,_,rfl,rfl⟩,Im.tup (SqT.of hx) (.cons (.str _) (.cons (.str _) .nil)),Im.tup (SqT.of (q19.mono sm)) (.cons (.str _) (.cons (.str _) .nil)),_,rfl,?_⟩)⟩
      have:(!decide (trP x=trP q3))=decide (x≠q3):=by
       rw [Bool.eq_iff_iff]
       simp [trP,Prod.ext_iff]
      rw [if_pos rfl,this]
      exact hR
     have s1820:=s19.trans s20
     exact ⟨s18.trans s1820,D2,_,_,_,_,_,_,_,_,_,_,_,rfl,p18.mono s1820,j18.mono s1820,f20,(ok12.join (Zsp ok12.net.ond hqd) hqk).mono (by omega) (by omega),(s18.trans s19).free hD2,(let ⟨_,z,_⟩:=p18;Ne.symm (Zi (s19.at z) hD2)),(let ⟨_,z,_⟩:=j18;Ne.symm (Zi (s19.at z) hD2))⟩
    ·exact ⟨s015.trans s16,rm,_,_,_,_,_,_,_,_,_,_,_,rfl,p15.mono s16,j15.mono s16,⟨rs,s16.at hrm15,Paired.mapP hrs15 fun _ _ r=>r.mono s16⟩,ok12.mono (by omega) (by omega),frm,nmp,nmj⟩
   ·exact ⟨s015.trans s16,rm,_,_,_,_,_,_,_,_,_,_,_,rfl,p15.mono s16,j15.mono s16,⟨rs,s16.at hrm15,Paired.mapP hrs15 fun _ _ r=>r.mono s16⟩,ok12.mono (by omega) (by omega),frm,nmp,nmj⟩
  ·rintro σ H4 ⟨s4,rl,o4,o5,o6,o7,o8,o9,o10,o11,ps,js,Z5,rfl,hpl,hjl,hrl,hok,frl,nrp',nrj'⟩
   rw [List.length_map] at hok
   have hsm:=hok.sum
   have hjb:=hok.jl
   refine WSs.step (Wk (Zu (Zkn T) hr rfl T.m__law_closed T.d__law_closed.F.kp T.d__law_closed.b .nil Z3 (Zb (pv 1) (Zb (pv 2) (Zb (pv 3) (Zb (Z0 (Zty rfl) (by rfl) T.n_sum PyProof.Rows.boot_sum (Zb (pv 0) Za)) Za)))))) ⟨_,rfl,_,rfl,_,rfl,_,rfl,cl,cs,rfl,s4.seq hcl,pl,jl,rl,Ztd cs,ps,js,Z5,rfl,hpl,hjl,hrl,npj,nrp',nrj',by omega,by omega,by omega,fun H5 nps njs km hp5 hj5 hcl5=>?_⟩
   have hnet:=hok.done (by omega) hcl5
   have hnl:nps.length=Z5.length:=by obtain ⟨ks,hk1,hk2,hk3,hk4⟩:=hcl5;rw [hk3,List.length_map,List.length_range]
   refine WSs.last (Zq (Zg (Zb (pv 1) (Zb (pv 2) Za)))) ⟨_,rfl,_,rfl,sz (by simp),fun t H6 s6 n6 e6=>q t H6 pl jl _ _ 0 (fun b o z=>s6.at (km b o (Zi z fp) (Zi z fj) (s4.at z))) e6 (hp5.mono s6) (hj5.mono s6) fp fj hnet ?_ ?_⟩
   ·rw [List.length_append];omega
   ·intro p hp
    rcases List.mem_append.mp hp with z|z
    ·obtain ⟨kd,h1,c,k,h2,h3⟩:=hok.nm p z
     exact .inl ⟨kd,h1,c,k,by omega,h3⟩
    ·obtain ⟨ks,hk1,hk2,hk3,hk4⟩:=hcl5
     rw [hk3] at z
     obtain ⟨j,hj,rfl⟩:=List.mem_map.mp z
     exact .inr ⟨j,by have:=List.mem_range.mp hj;omega,rfl⟩
theorem Zm2(T:Tx K mg){k:Nat}(h:3<=k:=by decide):Z1 P w K mg base CX0 k T.d__law_drawn.f T.d__law_drawn.fd ["_law_cells_here"] (Zq4 K):=(Zko T).mono h
def Zdh(n k:Nat):Str:=("s" :Str)++Str.ofString (toString (n:Int))++(⟨#[Zf3.getD (k / 26) 0]⟩:Str)++(⟨#[Zf3.getD (k%26) 0]⟩:Str)
theorem Zpn:∀i<26,Zf3.getD i 0=97+i:=by decide
theorem Zed(n k:Nat):(Zdh n k).cps.toList=(("s" :Str)++Str.ofString (toString (n:Int))).cps.toList++[Zf3.getD (k / 26) 0]++[Zf3.getD (k%26) 0]:=by
 unfold Zdh
 rw [PySem.W.KT.app_list,PySem.W.KT.app_list]
theorem Zs4{n n' k k':Nat}(hk:k<600)(hk':k'<600)(h:Zdh n k=Zdh n' k'):k=k':=by
 have:=congrArg (fun s:Str=>s.cps.toList) h
 simp only [Zed] at this
 obtain ⟨h1,h2⟩:=List.append_inj' this rfl
 obtain ⟨_,h3⟩:=List.append_inj' h1 rfl
 rw [List.cons.injEq] at h2 h3
 rw [Zpn _ (by omega),Zpn _ (by omega)] at h2 h3
 omega
def Zi5(H:Hp)(t:Addr)(q:Str×Str×Str):Prop:=H t=some (.tup [.str q.1,.str q.2.1,.str q.2.2])
def Zcd(H:Hp)(l:Addr)(sg:List (Str×Str×Str)):Prop:=∃ts:List Addr,H l=some (.lst (ts.map V.ref))/\Paired (Zi5 H) ts sg
def Wb(ps:List Zc):List Zc:=ps.flatMap fun p=>if p.1∈[("plain" :Str), "gate", "stop"] then (Yc p.1).map (fun x=>(p.2,x)) else []
theorem Zpv(ps:List Zc)(p:Zc):Wb (ps++[p])=Wb ps++(if p.1∈[("plain" :Str), "gate", "stop"] then (Yc p.1).map (fun x=>(p.2,x)) else []):=by
 unfold Wb
 rw [List.flatMap_append]
 simp
structure Zc4(es:List Zc)(i:Nat)(sg:List (Str×Str×Str)):Prop where
 at_:(sg.map fun q=>((q.2.1,q.2.2):Zc)).Sublist (es.take i)
 name:∀q∈sg,q.1=q.2.1\/∃n k,n<99/\k<i/\q.1=Zdh n k
 nd:(sg.map Prod.fst).Nodup
 len:sg.length<=40
theorem Zc4.skip{es:List Zc}{i:Nat}{sg:List (Str×Str×Str)}(h:Zc4 es i sg):Zc4 es (i+1) sg:=by
 refine ⟨h.at_.trans ?_,fun q hq=>?_,h.nd,h.len⟩
 ·rw [List.take_add_one];exact List.sublist_append_left _ _
 ·rcases h.name q hq with z|⟨n,k,a,b,c⟩
  ·exact .inl z
  ·exact .inr ⟨n,k,a,by omega,c⟩
theorem Zc4.add{es:List Zc}{i:Nat}{sg:List (Str×Str×Str)}{e:Zc}{nm:Str}(h:Zc4 es i sg)(he:es[i]? =some e)(hn:nm=e.1\/∃n,n<99/\nm=Zdh n i)(hnew:nm∉sg.map Prod.fst)(hl:sg.length<40):Zc4 es (i+1) (sg++[(nm,e.1,e.2)]):=by
 refine ⟨?_,fun q hq=>?_,?_,by rw [List.length_append];simp;omega⟩
 ·rw [List.take_add_one,he,List.map_append]
  exact List.Sublist.append h.at_ (List.Sublist.refl _)
 ·rcases List.mem_append.mp hq with z|z
  ·exact h.skip.name q z
  ·rw [List.mem_singleton] at z
   subst z
   rcases hn with y|⟨n,a,b⟩
   ·exact .inl y
   ·exact .inr ⟨n,i,a,by omega,b⟩
 ·rw [List.map_append,List.nodup_append]
  refine ⟨h.nd,by simp,fun a ha b hb z=>?_⟩
  simp at hb
  exact hnew (by rw [<-hb,<-z];exact ha)
theorem Zc4.fresh{es:List Zc}{i n:Nat}{sg:List (Str×Str×Str)}(h:Zc4 es i sg)(hi:i<600)(hne:∀n k e,e∈es->n<99->k<600->e.1≠Zdh n k)(hn:n<99):Zdh n i∉sg.map Prod.fst:=fun hm=>by
 obtain ⟨q,hq,e⟩:=List.mem_map.mp hm
 rcases h.name q hq with z|⟨n',k,a,b,c⟩
 ·have:((q.2.1,q.2.2):Zc)∈es:=List.mem_of_mem_take (h.at_.subset (List.mem_map.mpr ⟨q,hq,rfl⟩))
  exact hne n i _ this hn hi (z.symm.trans e)
 ·have:=Zs4 hi (by omega) (e.symm.trans c)
  omega
theorem Zcd.mono{H H':Hp}{l:Addr}{sg:List (Str×Str×Str)}(e:Same H H')(h:Zcd H l sg):Zcd H' l sg:=let ⟨ts,h1,h2⟩:=h;⟨ts,e.at h1,Paired.mapP h2 fun _ _ r=>e.at r⟩
def Zxp(K:Frag):Sp:=fun vs H Q _=>∃(pl:Addr) (c:Int) (ps:List Zc),vs=[.ref pl,.int c]/\Zz H pl ps/\ps.length<=45/\(∀n k e,e∈Wb ps->n<99->k<600->e.1≠Zdh n k) /\
 ∀(l:Addr) (H':Hp) (sg:List (Str×Str×Str)),Same H H'->H l=none->Zcd H' l sg->Zc4 (Wb ps) (Wb ps).length sg->Q (.ref l) H'
theorem Zh2(k:Str):(Yc k).length<=4:=by
 unfold Yc
 split
 ·decide
 ·split
  ·decide
  ·split <;>decide
theorem Zfn:∀ps:List Zc,(Wb ps).length<=4 * ps.length
 | []=>by simp [Wb]
 | p ::ps=>by
  have:=Zfn ps
  have h2:=Zh2 p.1
  rw [show Wb (p ::ps)=(if p.1∈[("plain" :Str), "gate", "stop"] then (Yc p.1).map (fun x=>((p.2,x):Zc)) else [])++Wb ps from rfl,List.length_append,List.length_cons]
  split
  ·rw [List.length_map];omega
  ·simp;omega
theorem Zpr{l D:Addr}{gs:List Addr}{sg:List (Str×Str×Str)}{H1:Hp}{Q:VK}{σ:St}(hl:H1 l=some (.lst (gs.map V.ref)))(hg:Paired (Zi5 H1) gs sg)(hn:sg.length<=100)(hD:H1 D=none)(q:∀H',Same H1 H'->H' D=some (.lst ((sg.map Prod.fst).map V.str))->Q (.ref D) H'){fr:St->St}(hfr:fr σ=[none]){te:TE}(hte:te=tOp (rIx K) (Zka 0) (tC (.int 0))) :
  Zdx (Itl K l) fr (Zd8 0) Zwi te Q σ H1 D:=by
 refine Xq (xs:=gs.map V.ref) (fun i ys H'=>ys=((sg.take i).map Prod.fst).map V.str/\H' D=some (.lst ys)/\Same H1 H') ⟨rfl,Zh,Same.new hD⟩ ?_ ?_ ?_
 ·rintro i ys H' _ ⟨_,_,sm⟩
  exact SqL.of (sm.at hl)
 ·rintro k v ys H' hk ⟨rfl,hD',sm⟩
  rw [List.getElem?_map] at hk
  obtain ⟨t,ht,rfl⟩:=Option.map_eq_some_iff.mp hk
  obtain ⟨g,hs,r2⟩:=Paired.get hg ht
  unfold Zdb
  rw [hfr,hte]
  refine ⟨W2.set rfl,_,rfl,.inr (.inl ⟨t,_,_,.str g.1,rfl,rfl,SqT.of (sm.at r2),rfl,hD',?_,?_,Zh,fun b o z=>?_⟩)⟩
  ·rw [List.length_map,List.length_map,List.length_take];exact Zy (by omega)
  ·rw [List.take_add_one,hs,List.map_append,List.map_append];rfl
  ·rw [Zj (Zi z hD)];exact sm.at z
 ·rintro ys H6 ⟨rfl,hD6,s6⟩
  refine q H6 s6 ?_
  rw [hD6,List.length_map,Paired.length hg,List.take_length]
theorem Zq6:∀n<99,(Str.ofString (toString ((n:Nat):Int))).length<=2:=by trivial
theorem Zvo:∀n<99,(((n:Nat):Int).natAbs).log2<1920:=by trivial
theorem Zey(T:Tx K mg):Z1 P w K mg base CX0 2 T.d__law_signals_by.f T.d__law_signals_by.fd ["_law_parts", "_law_cell"] (Zxp K):=by
 refine T.d__law_signals_by.F.okW Z8 fun cdv A outer s H vs Q E hr h=>?_
 ·obtain ⟨pl,c,ps,rfl,⟨ts,hts,hps⟩,hpl,hne,q⟩:=h
  have htl:ts.length=ps.length:=Paired.length hps
  refine WSs.step (Zx (i:=2) Z8.nd Zf) ?_
  refine WSs.step (Zx (i:=3) Z8.nd (Zm Za)) ⟨sz (by simp),fun l0 H1 s1 n1 e1=>?_⟩
  let I5:=fun (i:Nat) (σ:St) (H':Hp)=>∃le,(∃o4 o5 o6,σ=[some (.ref pl),some (.int c),some (.str "abcdefghijklmnopqrstuvwxyz"),some (.ref le),o4,o5,o6,none,none,none])/\Same H H'/\Zz H' le (Wb (ps.take i))
  refine WSs.step (Wi PassesOwn.never rfl (Yx (pv 0)) (Zbt rfl (Z6 (Y5 (i:=4) Z8.nd) (Z6 (Y5 (i:=5) Z8.nd) X2))) Z2) ⟨_,rfl,pl,rfl,⟨_,SqL.of (s1.at hts)⟩,W6 (xs:=ts.map V.ref) I5 ⟨l0,⟨none,none,none,rfl⟩,s1,[],e1,.nil⟩ ?_ ?_ ?_⟩
  ·rintro i σ H' _ ⟨_,_,sm,_⟩
   exact SqL.of (sm.at hts)
  ·rintro i v σ H2 hi ⟨le,⟨o4,o5,o6,rfl⟩,s2,us,hle,hus⟩
   rw [List.getElem?_map] at hi
   obtain ⟨t,ht,rfl⟩:=Option.map_eq_some_iff.mp hi
   obtain ⟨p,hp,rp⟩:=Paired.get hps ht
   have hil:i<ts.length:=(List.getElem?_eq_some_iff.mp ht).1
   have hbl:=Zfn (ps.take i)
   rw [List.length_take] at hbl
   have hul:us.length=(Wb (ps.take i)).length:=Paired.length hus
   have nxt:Wb (ps.take (i+1))=Wb (ps.take i)++(if p.1∈[("plain" :Str), "gate", "stop"] then (Yc p.1).map (fun x=>((p.2,x):Zc)) else []):=by
    rw [List.take_add_one,hp];exact Zpv _ _
   refine ⟨t,_,rfl,SqT.of (s2.at rp),rfl,_,_,rfl,_,_,rfl,rfl,?_⟩
   refine WSs.last (Ye (Zs (r:=Zhg K) (Zim hr) (pv 4) (Zm (Zb Zf (Zb Zf (Zb Zf Za)))) (by with_unfolding_all rfl)) Z2 Zv) ⟨_,rfl,sz (by simp),fun lk H3 s3 n3 e3=>.inl ⟨lk,_,rfl,.inl (SqL.of e3),rfl,rfl,_,rfl,?_⟩⟩
   rw [if_neg Bool.false_ne_true,show inV (.str p.1) [.str "plain",.str "gate",.str "stop"]=decide (p.1∈[("plain" :Str), "gate", "stop"]) from Zbk p.1 ["plain", "gate", "stop"]]
   refine Ym (fun hc=>?_) (fun hc=>⟨le,⟨_,_,_,rfl⟩,s2.trans s3,?_⟩)
   ·have hc:=of_decide_eq_true hc
    rw [if_pos hc] at nxt
    refine WSs.last (Zx (i:=3) Z8.nd (Zl Wl (pv 3) (Xn (N':=["_law_end", "_law_name"]) rfl (Ya.std 1 [5] rfl (by trivial) (by trivial) rfl ⟨rfl,trivial⟩ rfl rfl ⟨⟨_,rfl,rfl,rfl⟩,trivial⟩) (Yx (Zu (Zg5 T) hr rfl T.m__law_ends T.d__law_ends.F.kp T.d__law_ends.b .nil Z3 (Zb (pv 4) Za))) (fun _ _ _ _=>(Zbn (i:=0) (by show (["_law_end", "_law_name"]:List Str).Nodup;decide +kernel))) (fun _ _ _ _=>W0) (fun _ _ _ _=>(Zg (Zb (pv 1) (Zb (pv 0) Za))))))) ⟨_,rfl,_,rfl,p.1,rfl,fun lp H4 s4 n4 e4=>⟨lp,rfl,⟨_,SqL.of e4⟩,fun D hD=>?_⟩⟩
    have hel:=Zh2 p.1
    refine Zjp (xs:=Yc p.1) (x:=p.2) e4 (by omega) hD (fun H5 s5 f5=>?qq) ?aa ?bb
    case aa=>rfl
    case bb=>rfl
    case qq =>
     obtain ⟨vs,hv,hvs⟩:=f5
     have hvl:vs.length=(Yc p.1).length:=by rw [Paired.length hvs,List.length_map]
     have s35:=s3.trans (s4.trans s5)
     refine .inr (.inr ⟨le,D,_,_,rfl,rfl,s35.at hle,hv,by rw [List.length_map,List.length_map];exact sz (by omega),fun ln H6 s6 n6 e6=>⟨ln,⟨_,_,_,rfl⟩,s2.trans (s35.trans s6),?_⟩⟩)
     rw [nxt]
     exact ⟨us++vs,by rw [e6,List.map_append],Paired.append (Paired.mapP hus fun _ _ r=>(s35.trans s6).at r) (Paired.mapP hvs fun _ _ r=>s6.at r)⟩
   ·have hc:¬p.1∈[("plain" :Str), "gate", "stop"]:=fun z=>hc (decide_eq_true z)
    rw [nxt,if_neg hc,List.append_nil]
    exact Zz.mono s3 ⟨us,hle,hus⟩
  rintro σ H2 ⟨le,⟨o4,o5,o6,rfl⟩,s2,hE⟩
  rw [List.length_map,htl,List.take_length] at hE
  obtain ⟨us,hle,hus⟩:=hE
  have hbl:=Zfn ps
  have hul:us.length=(Wb ps).length:=Paired.length hus
  obtain ⟨es,hes⟩:∃es,es=Wb ps:=⟨_,rfl⟩
  rw [<-hes] at hus hul hne q hbl
  refine WSs.step (Zx (i:=7) Z8.nd (Zm Za)) ⟨sz (by simp),fun lf H3 s3 n3 e3=>?_⟩
  let I6:=fun (i:Nat) (σ:St) (H':Hp)=>(∃o5 o6 o8 o9,σ=[some (.ref pl),some (.int c),some (.str "abcdefghijklmnopqrstuvwxyz"),some (.ref le),o4,o5,o6,some (.ref lf),o8,o9])/\Same H2 H'/\∃sg,Zcd H' lf sg/\Zc4 es i sg
  refine WSs.step (Wi PassesOwn.never rfl (Zh6 rfl T.n_enumerate (Zb (pv 3) Za)) (Zbt rfl (Z6 (Y5 (i:=8) Z8.nd) (Z6 (Y5 (i:=6) Z8.nd) X2))) Z2) ⟨_,rfl,le,rfl,⟨_,SqL.of (s3.at hle)⟩,Zfh (xs:=us.map V.ref) I6 ⟨⟨_,_,none,none,rfl⟩,s3,[],⟨[],e3,.nil⟩,⟨List.nil_sublist _,(fun _ z=>nomatch z),List.nodup_nil,Nat.zero_le _⟩⟩ ?_ ?_ ?_⟩
  ·rintro i σ H' _ ⟨_,sm,_⟩
   exact SqL.of (sm.at hle)
  ·rintro i x' σ H4 hi ⟨⟨o5',o6',o8,o9,rfl⟩,s4,sg,hsg,ok⟩ p H5 s5 n5 e5
   rw [List.getElem?_map] at hi
   obtain ⟨te,hte,rfl⟩:=Option.map_eq_some_iff.mp hi
   obtain ⟨e,he,re⟩:=Paired.get hus hte
   have hil:i<us.length:=(List.getElem?_eq_some_iff.mp hte).1
   have hi600:i<600:=by omega
   refine ⟨p,_,rfl,SqT.of e5,rfl,_,_,rfl,_,_,rfl,rfl,?_⟩
   have re5:Zw H5 te e:=s5.at (s4.at re)
   obtain ⟨gs,hlf,hgs⟩:=hsg.mono s5
   have hgl:gs.length=sg.length:=Paired.length hgs
   have s25:=s4.trans s5
   refine WSs.step (Zx (i:=9) Z8.nd (Zu (Zbg T) hr rfl T.m__law_mixed T.d__law_mixed.F.kp T.d__law_mixed.b .nil Z3 (Zb (pv 1) (Zb (pv 8) Za)))) ⟨_,rfl,_,rfl,c,_,rfl,?_⟩
   generalize Zes c ((i:Nat):Int)=dr
   have skip:∃sg,Zcd H5 lf sg/\Zc4 es (i+1) sg:=⟨sg,⟨gs,hlf,hgs⟩,ok.skip⟩
   refine WSs.last (Ye (PW.pt (Zmm (Zs Zkq (Zl Yo (pv 9) Ze) (Zl Yo (pv 1) Ze) (Z4 _)) (Zh4 (Zs Zfx (Z0 (r:=X0 K) X3 (by rfl) T.n_len PySem.boot_len (Zb (pv 7) Za)) Ze (Z4 _))))) Z2 Zv) ⟨_,rfl,_,_,rfl,rfl,(by show (0:Int)<8;decide),_,rfl,_,_,rfl,rfl,(by show (0:Int)<7;decide),_,_,rfl,rfl,_,rfl,Ym (fun _=>⟨_,rfl,.inl ⟨lf,_,rfl,.inl (SqL.of hlf),_,_,rfl,rfl,_,rfl,Ym (fun hl=>?_) (fun _=>⟨⟨_,_,_,_,rfl⟩,s25,skip⟩)⟩⟩) (fun _=>⟨⟨_,_,_,_,rfl⟩,s25,skip⟩)⟩
   have hl:sg.length<40:=by
    have:=of_decide_eq_true hl
    rw [List.length_map] at this
    omega
   have m0:=Int.emod_nonneg (dr / 8) (show (99:Int)≠0 by decide)
   have m1:=Int.emod_lt_of_pos (dr / 8) (show (0:Int)<99 by decide)
   obtain ⟨n,hn⟩:∃n:Nat,dr / 8%99=(n:Int):=⟨(dr / 8%99).toNat,by omega⟩
   have hn99:n<99:=by omega
   have hfl:=Zq6 n hn99
   refine WSs.step (Zx (i:=5) Z8.nd (Zl Wl Zf (Xx Zbf (by rfl) T.n_str PyProof.Rows.boot_str (Zb (Zl Yo (Zl Yt (pv 9) Ze) Ze) Za)))) ⟨_,rfl,_,_,rfl,rfl,⟨by decide,by decide⟩,_,_,rfl,rfl,(by show (0:Int)<99;decide),(n:Int),?_,Zvo n hn99,.inr (.inl ⟨_,_,rfl,rfl,sz (by show 1+_<=1000;omega),?_⟩)⟩
   ·show [V.int (dr / 8%99)]=[V.int (n:Int)]
    rw [hn]
   have hlen:(("s" :Str)++Str.ofString (toString (n:Int))).length<=3:=by rw [PySem.Str.length_append];show 1+_<=3;omega
   refine WSs.step (Zx (i:=5) Z8.nd (Zl Wl (Zl Wl (pv 5) (Zp (r:=rIx K) Zk (pv 2) (Zl Yt (pv 8) Ze) (fun _ _=>rfl))) (Zp (r:=rIx K) Zk (pv 2) (Zl Yo (pv 8) Ze) (fun _ _=>rfl)))) ⟨_,rfl,_,rfl,_,rfl,_,_,rfl,rfl,⟨by decide,by decide⟩,.inr (.inr ⟨_,_,Zf3.getD (i / 26) 0,rfl,rfl,sz (by rw [Zia];decide),?_,.inr (.inl ⟨_,_,rfl,rfl,sz ?_,_,rfl,_,rfl,_,_,rfl,rfl,(by show (0:Int)<26;decide),.inr (.inr ⟨_,_,Zf3.getD (i%26) 0,rfl,rfl,sz (by rw [Zia];decide),?_,.inr (.inl ⟨_,_,rfl,rfl,sz ?_,?_⟩)⟩)⟩)⟩)⟩
   ·rw [Zmz]
    have:=Zjb (n:=26) (l:=Zf3) (i:=(i:Int) / 26) rfl (by omega) (by omega)
    rw [show ((i:Int) / 26).toNat=i / 26 by omega] at this
    exact this
   ·show _+1<=1000;omega
   ·rw [Zmz]
    have:=Zjb (n:=26) (l:=Zf3) (i:=(i:Int)%26) rfl (by omega) (by omega)
    rw [show ((i:Int)%26).toNat=i%26 by omega] at this
    exact this
   ·rw [PySem.Str.length_append];show _+1+1<=1000;omega
   show WSs _ _ _ [some (.ref pl),some (.int c),some (.str "abcdefghijklmnopqrstuvwxyz"),some (.ref le),o4,some (.str (Zdh n i)),some (.ref te),some (.ref lf),some (.int (i:Nat)),some (.int dr)] H5
   let I7:=fun (σ:St) (H':Hp)=>∃nm,σ=[some (.ref pl),some (.int c),some (.str "abcdefghijklmnopqrstuvwxyz"),some (.ref le),o4,some (.str nm),some (.ref te),some (.ref lf),some (.int (i:Nat)),some (.int dr)]/\Same H5 H'/\(nm=e.1\/∃n,n<99/\nm=Zdh n i)/\nm∉sg.map Prod.fst
   refine WSs.cut I7 ?_ ?_
   ·have keep:∀{H':Hp},Same H5 H'->∃nm,[some (V.ref pl),some (.int c),some (.str "abcdefghijklmnopqrstuvwxyz"),some (.ref le),o4,some (.str (Zdh n i)),some (.ref te),some (.ref lf),some (.int (i:Nat)),some (.int dr)]=[some (.ref pl),some (.int c),some (.str "abcdefghijklmnopqrstuvwxyz"),some (.ref le),o4,some (.str nm),some (.ref te),some (.ref lf),some (.int (i:Nat)),some (.int dr)]/\Same H5 H'/\(nm=e.1\/∃n,n<99/\nm=Zdh n i)/\nm∉sg.map Prod.fst:=fun s6=>⟨_,rfl,s6,.inr ⟨n,hn99,rfl⟩,ok.fresh hi600 hne hn99⟩
    refine WS.of (Ye (PW.pt (Zmm (Zs (r:=Zaz K) (Zba hr) (Zl Yo (Zl Yt (pv 1) Ze) Ze) Ze (Z4 _)) (Zh4 (Zs (r:=Zck K) (Zc3 hr) (Zp (r:=rIx K) Zk (pv 6) Ze (fun _ _=>rfl)) (Xn (N':=["_law_row"]) rfl (Ya.std 1 [] rfl (by trivial) (by trivial) rfl trivial rfl rfl trivial) (Yx (pv 7)) (fun _ _ _ _=>(Zbn (i:=0) (by show (["_law_row"]:List Str).Nodup;decide +kernel))) (fun _ _ _ _=>W0) (fun _ _ _ _=>(Zp (r:=rIx K) Zk (pv 0) Ze (fun _ _=>rfl)))) (by with_unfolding_all rfl))))) Z2 Zv) ⟨_,rfl,_,_,rfl,rfl,⟨by decide,by decide⟩,_,_,rfl,rfl,(by show (0:Int)<3;decide),.inl ⟨rfl,_,rfl,Ym (fun _=>?_) (fun _=>keep (Same.refl _))⟩⟩
    refine ⟨_,rfl,.inr (.inl ⟨te,_,_,.str e.1,rfl,rfl,SqT.of re5,rfl,_,rfl,lf,rfl,⟨_,SqL.of hlf⟩,fun D hD=>?_⟩)⟩
    refine Zpr hlf hgs (by omega) hD (fun H6 s6 e6=>?qq) ?aa ?bb
    case aa=>rfl
    case bb=>rfl
    case qq =>
     refine .inl ⟨D,_,rfl,.inl (SqL.of e6),rfl,Zae _,_,rfl,?_⟩
     rw [if_pos rfl,Zbk]
     refine Ym (fun hc=>?_) (fun _=>keep s6)
     have hc:e.1∉sg.map Prod.fst:=fun z=>by rw [decide_eq_true z] at hc;exact absurd hc (by decide)
     exact WSs.last (Zx (i:=5) Z8.nd (Zp (r:=rIx K) Zk (pv 6) Ze (fun _ _=>rfl))) ⟨_,rfl,.inr (.inl ⟨te,_,_,.str e.1,rfl,rfl,SqT.of (s6.at re5),rfl,e.1,rfl,s6,.inl rfl,hc⟩)⟩
   rintro σ H6 ⟨nm,rfl,s6,hnm,hnew⟩
   refine WSs.last (Wk (Zdq PySem.F.plainAttrs_list PySem.F.slot_list_append PySem.F.type_list_append Xy (pv 7) (Zb (Zg (Zb (pv 5) (Zb (Zp (r:=rIx K) Zk (pv 6) Ze (fun _ _=>rfl)) (Zb (Zp (r:=rIx K) Zk (pv 6) Ze (fun _ _=>rfl)) Za)))) Za))) ⟨_,rfl,.inl ⟨rfl,_,SqL.of (s6.at hlf)⟩,_,rfl,_,rfl,.inr (.inl ⟨te,_,_,.str e.1,rfl,rfl,SqT.of (s6.at re5),rfl,_,rfl,.inr (.inl ⟨te,_,_,.str e.2,rfl,rfl,SqT.of (s6.at re5),rfl,sz (by simp),fun t H7 s7 n7 e7=>⟨lf,_,_,rfl,rfl,s7.at (s6.at hlf),by rw [List.length_map];exact Zy (by omega),⟨_,_,_,_,rfl⟩,fun b o z=>?_,sg++[(nm,e.1,e.2)],⟨gs++[t],?_,?_⟩,ok.add he hnm hnew hl⟩⟩)⟩)⟩
   ·rw [Zj (Zi z n3)];exact s7.at (s6.at (s25.at z))
   ·rw [Zh,List.map_append];rfl
   ·have off:∀{b:Addr} {xs:List V},H7 b=some (.tup xs)->(upd H7 lf (.lst (gs.map V.ref++[V.ref t]))) b=some (.tup xs):=fun {b xs} z=>by
     rw [Zj fun y=>by rw [y,s7.at (s6.at hlf)] at z;cases z];exact z
    exact Paired.append (Paired.mapP hgs fun _ _ r=>off (s7.at (s6.at r))) (.cons (off e7) .nil)
  ·rintro σ H4 ⟨⟨o5',o6',o8,o9,rfl⟩,s4,sg,hsg,ok⟩
   refine WSs.last (Zq (pv 7)) ⟨_,rfl,q lf H4 sg (s2.trans s4) (s2.free n3) hsg ?_⟩
   rw [List.length_map,hul] at ok
   exact ok
theorem Zfp(T:Tx K mg){k:Nat}(h:2<=k:=by decide):Z1 P w K mg base CX0 k T.d__law_signals_by.f T.d__law_signals_by.fd ["_law_parts", "_law_cell"] (Zxp K):=(Zey T).mono h
def Zet(n:Nat):List (Str×Str×Str):=[("go", "g", "a"),("back", "h", "a"),("end",Zay (n-1), "b")]
def Ztw:Sp:=fun vs H Q _=>∃c:Int,vs=[.int c] /\
 ∀(t pl jl sl:Addr) (H':Hp) (n m:Nat),Same H H'->n∈[9,10,11,12,13,14]->1<=m->m<=3->H' t=some (.tup [.ref pl,.ref jl,.ref sl])->Zz H' pl (Zch n)->Yj H' jl (Zrc n)->Zcd H' sl ((Zet n).take m)->H pl=none->H jl=none->H sl=none->Q (.ref t) H'
theorem Zy1:∀k<20,(((k:Nat):Int).natAbs).log2<1920:=by trivial
theorem Zza:∀k<20,(Zej k).length<=2:=by trivial
theorem Zp0{l D:Addr}{xs:List Str}{H1:Hp}{Q:VK}{σ:St}(hl:H1 l=some (.lst (xs.map V.str)))(hn:xs.length<=100)(hD:H1 D=none) (q:∀H',Same H1 H'->Zz H' D (xs.map fun x=>(("plain" :Str),x))->Q (.ref D) H') {fr:St->St} (hfr:fr σ=[none]) {te:TE} (hte:te=Ztg (Zky (tC (.str "plain")) (Zky (Zka 0) Zwr))) :
  Zdx (Itl K l) fr (Zd8 0) Zwi te Q σ H1 D:=by
 refine Xq (xs:=xs.map V.str) (fun i ys H'=>(∃ts:List Addr,ys=ts.map V.ref/\Paired (Zw H') ts ((xs.take i).map fun x=>(("plain" :Str),x)))/\H' D=some (.lst ys)/\Same H1 H') ⟨⟨[],rfl,.nil⟩,Zh,Same.new hD⟩ ?_ ?_ ?_
 ·rintro i ys H' _ ⟨_,_,sm⟩
  exact SqL.of (sm.at hl)
 ·rintro k v ys H' hk ⟨⟨ts,rfl,hts⟩,hD',sm⟩
  rw [List.getElem?_map] at hk
  obtain ⟨y,hy,rfl⟩:=Option.map_eq_some_iff.mp hk
  have hlt:ts.length<=100:=by rw [Paired.length hts,List.length_map,List.length_take];omega
  unfold Zdb
  rw [hfr,hte]
  refine ⟨W2.set rfl,_,rfl,sz (by simp),fun t H2 s2 n2 e2=>⟨s2.at hD',by rw [List.length_map];exact Zy (by omega),⟨ts++[t],by rw [List.map_append];rfl,?_⟩,Zh,fun b o z=>?_⟩⟩
  ·rw [List.take_add_one,hy,List.map_append]
   have off:∀{b:Addr} {zs:List V},H2 b=some (.tup zs)->(upd H2 D (.lst (ts.map V.ref++[V.ref t]))) b=some (.tup zs):=fun {b zs} z=>by
    rw [Zj fun y=>by rw [y,s2.at hD'] at z;cases z];exact z
   exact Paired.append (Paired.mapP hts fun _ _ r=>off (s2.at r)) (.cons (off e2) .nil)
  ·rw [Zj (Zi z hD)];exact s2.at (sm.at z)
 ·rintro ys H6 ⟨⟨ts,rfl,hts⟩,hD6,s6⟩
  rw [List.length_map,List.take_length] at hts
  exact q H6 s6 ⟨ts,hD6,hts⟩
theorem Zum(n:Nat):ixN (n+1) (-1)=some n:=by
 unfold ixN
 rw [if_neg (by decide)]
 simp
 constructor <;>omega
theorem Zfi{α:Type}(xs:List α)(x:α):atI (xs++[x]) (-1)=some x:=by
 unfold atI
 rw [List.length_append,List.length_singleton,Zum]
 simp
theorem Zoi{n:Nat}(h:1<=n):atI (((List.range n).map Zay).map V.str) (-1)=some (.str (Zay (n-1))):=by
 obtain ⟨m,rfl⟩:∃m,n=m+1:=⟨n-1,by omega⟩
 rw [List.range_succ,List.map_append,List.map_append]
 exact Zfi _ _
theorem Zur{n k:Nat}(h:k<n):(((List.range n).map Zay).map V.str)[k]? =some (.str (Zay k)):=by
 rw [List.getElem?_map,List.getElem?_map,List.getElem?_range h]
 rfl
theorem Ybq:("p0" :Str)=Zay 0:=by trivial
theorem Zlw(T:Tx K mg):Z1 P w K mg base CX0 1 T.d__law_long.f T.d__law_long.fd ["_law_cell"] Ztw:=by
 refine T.d__law_long.F.okW Zal fun cdv A outer s H vs Q E hr h=>?_
 ·obtain ⟨c,rfl,q⟩:=h
  have k0:=Int.emod_nonneg c (show (6:Int)≠0 by decide)
  have k1:=Int.emod_lt_of_pos c (show (0:Int)<6 by decide)
  obtain ⟨n,hn⟩:∃n:Nat,9+c%6=(n:Int):=⟨(9+c%6).toNat,by omega⟩
  have hn9:n∈[9,10,11,12,13,14]:=by
   have:n=9\/n=10\/n=11\/n=12\/n=13\/n=14:=by omega
   simpa using this
  have hnb:9<=n/\n<=14:=by omega
  refine WSs.step (Zb3 (i:=2) (N':=["_law_k"]) Zal.nd rfl (Or.inl rfl) rfl (Ya.std 1 [] rfl (by trivial) (by trivial) rfl trivial rfl rfl trivial) (Zeh rfl T.n_range (Zb (Zl Wl Ze (Zl Yo (pv 0) Ze)) Za)) (fun _ _ _ _=>(Zbn (i:=0) (by show (["_law_k"]:List Str).Nodup;decide +kernel))) (fun _ _ _ _=>W0) (fun _ _ _ _=>(Zl Wl Zf (Xx Zbf (by rfl) T.n_str PyProof.Rows.boot_str (Zb (pv 0) Za))))) ⟨_,rfl,_,_,rfl,rfl,(by show (0:Int)<6;decide),.inl ⟨_,_,rfl,rfl,(n:Int),?_,by omega,by omega,fun D hD=>?_⟩⟩
  ·show [V.int (9+c%6)]=[V.int (n:Int)]
   rw [hn]
  refine Zcq (fun i ys H'=>ys=((List.range i).map Zay).map V.str/\H' D=some (.lst ys)/\Same H H') ⟨rfl,Zh,Same.new hD⟩ ?_ ?_
  ·rintro i ys H1 hi ⟨rfl,hD1,s1⟩
   have hi:i<n:=by omega
   unfold Zdb
   refine ⟨W2.set rfl,_,rfl,(i:Int),?_,Zy1 i (by omega),.inr (.inl ⟨_,_,rfl,rfl,sz ?_,hD1,?_,?_,Zh,fun b o z=>?_⟩)⟩
   ·show [V.int (0+(i:Int))]=[V.int (i:Int)]
    rw [Int.zero_add]
   ·have:=Zza i (by omega)
    show 1+(Zej i).length<=1000
    omega
   ·rw [List.length_map,List.length_map,List.length_range];exact Zy (by omega)
   ·rw [List.range_succ,List.map_append,List.map_append];rfl
   ·rw [Zj (Zi z hD)];exact s1.at z
  ·rintro ys H1 ⟨rfl,hD1,s1⟩
   rw [Int.toNat_natCast] at hD1
   have hrl:(((List.range n).map Zay).map V.str).length=n:=by rw [List.length_map,List.length_map,List.length_range]
   refine WSs.step (Zx (i:=3) Zal.nd (Zl Wl (Zl Wl (Zm (Zb (Zg (Zb Zf (Zb Zf Za))) Za)) (Xn (N':=["_law_name"]) rfl (Ya.std 1 [] rfl (by trivial) (by trivial) rfl trivial rfl rfl trivial) (Yx (pv 2)) (fun _ _ _ _=>(Zbn (i:=0) (by show (["_law_name"]:List Str).Nodup;decide +kernel))) (fun _ _ _ _=>W0) (fun _ _ _ _=>(Zg (Zb Zf (Zb (pv 0) Za)))))) (Zm (Zb (Zg (Zb Zf (Zb Zf Za))) Za)))) ⟨sz (by simp),fun t1 H2 s2 n2 e2=>⟨sz (by simp),fun l1 H3 s3 n3 e3=>⟨_,rfl,D,rfl,⟨_,SqL.of (s3.at (s2.at hD1))⟩,fun D2 hD2=>?_⟩⟩⟩
   refine Zp0 (xs:=(List.range n).map Zay) (s3.at (s2.at hD1)) (by rw [List.length_map,List.length_range];omega) hD2 (fun H4 s4 f4=>?qq) ?aa ?bb
   case aa=>rfl
   case bb=>rfl
   case qq =>
   obtain ⟨vs,hv,hvs⟩:=f4
   have hvl:vs.length=n:=by rw [Paired.length hvs,List.length_map,List.length_map,List.length_range]
   refine .inr (.inr ⟨l1,D2,_,_,rfl,rfl,s4.at e3,hv,by rw [List.length_map];exact sz (by simp;omega),fun l2 H5 s5 n5 e5=>⟨sz (by simp),fun t2 H6 s6 n6 e6=>⟨sz (by simp),fun l3 H7 s7 n7 e7=>.inr (.inr ⟨l2,l3,_,_,rfl,rfl,s7.at (s6.at e5),e7,by rw [List.length_append,List.length_map];exact sz (by simp;omega),fun pl H8 s8 n8 e8=>?_⟩)⟩⟩⟩)
   have s48:=s5.trans (s6.trans (s7.trans s8))
   have s28:=s3.trans (s4.trans s48)
   have s18:=s2.trans s28
   have hP:Zz H8 pl (Zch n):=by
    refine ⟨[t1]++vs++[t2],by rw [e8,List.map_append,List.map_append];rfl,?_⟩
    refine Paired.append (Paired.append (.cons (s28.at e2) .nil) (Paired.mapP (by rw [List.map_map] at hvs;exact hvs) fun _ _ r=>s48.at r)) (.cons ((s7.trans s8).at e6) .nil)
   have hpl0:H pl=none:=s1.free (s2.free (s3.free (s4.free (s5.free (s6.free (s7.free n8))))))
   have hD8:=s18.at hD1
   have s08:=s1.trans s18
   clear s2 s3 s4 s5 s6 s7 s8 s48 s28 s18 n2 n3 n5 n6 n7 n8 e2 e3 e5 e6 e7 e8 hv hvs hD2 hD1 s1
   refine WSs.step (Zx (i:=4) Zal.nd (Zm (Zb (Zg (Zb (Zg (Zb Zf (Zb Zf Za))) (Zb (Zg (Zb Zf (Zb Zf Za))) Za))) (Zb (Zg (Zb (Zg (Zb Zf (Zb Zf Za))) (Zb (Zg (Zb (Zp (r:=rIx K) Zk (pv 2) (Zfu Zdm Ze) (fun _ _=>rfl)) (Zb Zf Za))) Za))) Za)))) ⟨sz (by simp),fun a1 H9 s9 n9 e9=>⟨sz (by simp),fun a2 H10 s10 n10 e10=>⟨sz (by simp),fun j1 H11 s11 n11 e11=>⟨sz (by simp),fun b1 H12 s12 n12 e12=>?_⟩⟩⟩⟩
   refine ⟨_,rfl,_,rfl,.inl ⟨D,_,_,.str (Zay (n-1)),rfl,rfl,SqL.of (s12.at (s11.at (s10.at (s9.at hD8)))),Zoi (by omega),sz (by simp),fun b2 H13 s13 n13 e13=>⟨sz (by simp),fun j2 H14 s14 n14 e14=>⟨sz (by simp),fun jl H15 s15 n15 e15=>?_⟩⟩⟩⟩
   have s1415:=s14.trans s15
   have s1215:=s13.trans s1415
   have s1115:=s12.trans s1215
   have s1015:=s11.trans s1115
   have s915:=s10.trans s1015
   have s815:=s9.trans s915
   have hjl8:H8 jl=none:=s9.free (s10.free (s11.free (s12.free (s13.free (s14.free n15)))))
   have hJ:Yj H15 jl (([((("g" :Str),("a" :Str)),(Zay 0,("a" :Str))),((("h" :Str),("a" :Str)),(Zay (n-1),("b" :Str)))]:List (Zc×Zc))++(List.range 0).map fun k=>((Zay k,("b" :Str)),(Zay (k+1),("a" :Str)))):=by
    refine ⟨[j1,j2],e15,.cons ⟨a1,a2,s1115.at e11,s915.at e9,?_⟩ (.cons ⟨b1,b2,s15.at e14,s1215.at e12,s1415.at e13⟩ .nil)⟩
    have:=s1015.at e10
    rw [Ybq] at this
    exact this
   clear s9 s10 s11 s12 s13 s14 s15 s1415 s1215 s1115 s1015 s915 n9 n10 n11 n12 n13 n14 n15 e9 e10 e11 e12 e13 e14 e15
   let I8:=fun (i:Nat) (σ:St) (H':Hp)=>(∃o1,σ=[some (.int c),o1,some (.ref D),some (.ref pl),some (.ref jl),none])/\Same H8 H'/\Yj H' jl (([((("g" :Str),("a" :Str)),(Zay 0,("a" :Str))),((("h" :Str),("a" :Str)),(Zay (n-1),("b" :Str)))]:List (Zc×Zc))++(List.range i).map fun k=>((Zay k,("b" :Str)),(Zay (k+1),("a" :Str))))
   refine WSs.step (Wi PassesOwn.never rfl (Zgj rfl T.n_range (Zb Ze (Zb (Z0 (r:=X0 K) X3 (by rfl) T.n_len PySem.boot_len (Zb (pv 2) Za)) Za))) (Y5 (i:=1) Zal.nd) Z2) ⟨_,rfl,.inl ⟨D,_,rfl,.inl (SqL.of (s815.at hD8)),1,(n:Int),?_,⟨by omega,by omega,by omega,by omega⟩,Zlq (lo:=1) (n:=((n:Int)-1).toNat) I8 ⟨⟨_,rfl⟩,s815,hJ⟩ ?_ ?_⟩⟩
   ·rw [hrl]
   ·rintro i σ H16 hi ⟨⟨o1,rfl⟩,s16,us,hu,hus⟩
    have hi':i+1<n:=by omega
    have hul:us.length=2+i:=by rw [Paired.length hus,List.length_append,List.length_map,List.length_range];rfl
    have hat1:atI (((List.range n).map Zay).map V.str) (1+(i:Int)-1)=some (.str (Zay i)):=by
     rw [show (1:Int)+(i:Int)-1=((i:Nat):Int) by omega]
     exact Zn (Zur (by omega))
    have hat2:atI (((List.range n).map Zay).map V.str) (1+(i:Int))=some (.str (Zay (i+1))):=by
     rw [show (1:Int)+(i:Int)=((i+1:Nat):Int) by omega]
     exact Zn (Zur (by omega))
    refine WSs.last (Wk (Zdq PySem.F.plainAttrs_list PySem.F.slot_list_append PySem.F.type_list_append Xy (pv 4) (Zb (Zg (Zb (Zg (Zb (Zp (r:=rIx K) Zk (pv 2) (Zl Zi6 (pv 1) Ze) (fun _ _=>rfl)) (Zb Zf Za))) (Zb (Zg (Zb (Zp (r:=rIx K) Zk (pv 2) (pv 1) (fun _ _=>rfl)) (Zb Zf Za))) Za))) Za))) ⟨_,rfl,.inl ⟨rfl,_,SqL.of hu⟩,_,rfl,_,rfl,_,_,rfl,rfl,.inl ⟨D,_,_,_,rfl,rfl,SqL.of (s16.at hD8),hat1,sz (by simp),fun a1 H17 s17 n17 e17=>?_⟩⟩
    refine ⟨_,rfl,_,rfl,.inl ⟨D,_,_,_,rfl,rfl,SqL.of (s17.at (s16.at hD8)),hat2,sz (by simp),fun a2 H18 s18 n18 e18=>⟨sz (by simp),fun j H19 s19 n19 e19=>⟨jl,_,_,rfl,rfl,s19.at (s18.at (s17.at hu)),by rw [List.length_map];exact Zy (by omega),⟨_,rfl⟩,fun b o z=>?_,us++[j],?_,?_⟩⟩⟩⟩
    ·rw [Zj (Zi z hjl8)];exact s19.at (s18.at (s17.at (s16.at z)))
    ·rw [Zh,List.map_append];rfl
    ·have off:∀{b:Addr} {xs:List V},H19 b=some (.tup xs)->(upd H19 jl (.lst (us.map V.ref++[V.ref j]))) b=some (.tup xs):=fun {b xs} z=>by
      rw [Zj fun y=>by rw [y,s19.at (s18.at (s17.at hu))] at z;cases z];exact z
     rw [List.range_succ,List.map_append,<-List.append_assoc]
     exact Paired.append (Paired.mapP hus fun _ _ ⟨a,b,r1,r2,r3⟩=>⟨a,b,off (s19.at (s18.at (s17.at r1))),off (s19.at (s18.at (s17.at r2))),off (s19.at (s18.at (s17.at r3)))⟩) (.cons ⟨a1,a2,off e19,off (s19.at (s18.at e17)),off (s19.at e18)⟩ .nil)
   rintro σ H16 ⟨⟨o1,rfl⟩,s16,hJ⟩
   rw [show ((n:Int)-1).toNat=n-1 by omega] at hJ
   refine WSs.step (Zx (i:=5) Zal.nd (Zm (Zb (Zg (Zb Zf (Zb Zf (Zb Zf Za)))) (Zb (Zg (Zb Zf (Zb Zf (Zb Zf Za)))) (Zb (Zg (Zb Zf (Zb (Zp (r:=rIx K) Zk (pv 2) (Zfu Zdm Ze) (fun _ _=>rfl)) (Zb Zf Za)))) Za))))) ⟨sz (by simp),fun t1 H17 s17 n17 e17=>⟨sz (by simp),fun t2 H18 s18 n18 e18=>⟨_,rfl,_,rfl,.inl ⟨D,_,_,.str (Zay (n-1)),rfl,rfl,SqL.of (s18.at (s17.at (s16.at hD8))),Zoi (by omega),sz (by simp),fun t3 H19 s19 n19 e19=>⟨sz (by simp),fun s0 H20 s20 n20 e20=>?_⟩⟩⟩⟩⟩
   have m0:=Int.emod_nonneg (c / 6) (show (3:Int)≠0 by decide)
   have m1:=Int.emod_lt_of_pos (c / 6) (show (0:Int)<3 by decide)
   obtain ⟨m,hm⟩:∃m:Nat,1+c / 6%3=(m:Int):=⟨(1+c / 6%3).toNat,by omega⟩
   refine WSs.last (Zq (Zg (Zb (pv 3) (Zb (pv 4) (Zb (Yr (r:=Zbq K) Zcl (pv 5) Yz (Yy (Zl Wl Ze (Zl Yo (Zl Yt (pv 0) Ze) Ze)))) Za))))) ⟨_,rfl,_,rfl,_,rfl,_,rfl,_,_,rfl,rfl,⟨by decide,by decide⟩,_,_,rfl,rfl,(by show (0:Int)<3;decide),.inl ⟨_,_,rfl,rfl,(m:Int),?_,.inr (.inl ⟨s0,_,rfl,SqL.of e20,fun sl H21 s21 n21 e21=>⟨sz (by simp),fun t H22 s22 n22 e22=>?_⟩⟩)⟩⟩
   ·show V.int (1+c / 6%3)=V.int (m:Int)
    rw [hm]
   have s2022:=s21.trans s22
   have s1622:=s17.trans (s18.trans (s19.trans (s20.trans s2022)))
   have s822:=s16.trans s1622
   refine q t pl jl sl H22 n m (s08.trans s822) hn9 (by omega) (by omega) e22 (hP.mono s822) (hJ.mono s1622) ?_ hpl0 (s08.free hjl8) (s08.free (s16.free (s17.free (s18.free (s19.free (s20.free n21))))))
   rw [Ze2] at e21
   have all:Paired (Zi5 H22) [t1,t2,t3] (Zet n):=.cons ((s18.trans (s19.trans (s20.trans s2022))).at e17) (.cons ((s19.trans (s20.trans s2022)).at e18) (.cons ((s20.trans s2022).at e19) .nil))
   refine ⟨[t1,t2,t3].take m,by rw [s22.at e21,List.map_take];rfl,?_⟩
   have:m=1\/m=2\/m=3:=by omega
   rcases this with rfl|rfl|rfl
   ·cases all with
    | cons r _=>exact .cons r .nil
   ·cases all with
    | cons r1 t=>cases t with
     | cons r2 _=>exact .cons r1 (.cons r2 .nil)
   ·exact all
theorem Zob(T:Tx K mg){k:Nat}(h:1<=k:=by decide):Z1 P w K mg base CX0 k T.d__law_long.f T.d__law_long.fd ["_law_cell"] Ztw:=(Zlw T).mono h
def Zeq(s:Str):Nat:=s.cps.toList.getLastD 0
theorem Zkv{x y:Str}(h:0<y.length):Zeq (x++y)=Zeq y:=by
 unfold Zeq
 rw [PySem.W.KT.app_list]
 have:y.cps.toList≠[]:=fun z=>by
  have:y.cps.toList.length=0:=by rw [z];rfl
  rw [Array.length_toList] at this
  exact absurd h (by show ¬0<y.cps.size;omega)
 obtain ⟨ys,b,e⟩:=List.eq_nil_or_concat y.cps.toList |>.resolve_left this
 rw [e]
 simp
theorem Znk:∀k<100,Zeq (Zej k)<58:=by trivial
theorem Zlg{kd:Str}{c:Int}{k:Nat}(h:k<100):Zeq (Ys kd c k)<58:=by
 have h1:=Znk k h
 have h2:=Zfw k h
 unfold Ys
 split <;>rw [Zkv h2] <;>exact h1
theorem Znc{j:Nat}(h:j<100):Zeq (Zav j)<58:=by
 unfold Zav
 rw [Zkv (Zfw j h)]
 exact Znk j h
theorem Ztz{n k:Nat}:97<=Zeq (Zdh n k):=by
 unfold Zeq
 rw [Zed]
 have:=Zpn (k%26) (by omega)
 simp only [List.getLastD_concat]
 omega
theorem Zrb{n k:Nat}:2<=(Zdh n k).cps.toList.length:=by
 rw [Zed,List.length_append,List.length_append]
 simp
theorem Zv7{s:Str}{n k:Nat} (h:s = "g" \/s = "h" \/Zeq s<58):s≠Zdh n k:=fun z=>by
 rcases h with rfl|rfl|h
 ·have:=@Zrb n k
  rw [<-z] at this
  exact absurd this (by decide)
 ·have:=@Zrb n k
  rw [<-z] at this
  exact absurd this (by decide)
 ·have:=@Ztz n k
  rw [<-z] at this
  omega
theorem Zs2{ps:List Zc}{e:Zc}(h:e∈Wb ps):∃p∈ps,e.1=p.2:=by
 unfold Wb at h
 obtain ⟨p,hp,he⟩:=List.mem_flatMap.mp h
 refine ⟨p,hp,?_⟩
 split at he
 ·obtain ⟨x,_,rfl⟩:=List.mem_map.mp he;rfl
 ·cases he
def nmY(s:Str):Prop:=s = "g" \/s = "h" \/Zmp s 63\/∃j,j<90/\s=Zav j
theorem nmY.sig{s:Str}{n k:Nat}(h:nmY s):s≠Zdh n k:=by
 refine Zv7 ?_
 rcases h with h|h|⟨kd,c,j,_,hj,rfl⟩|⟨j,hj,rfl⟩
 ·exact .inl h
 ·exact .inr (.inl h)
 ·exact .inr (.inr (Zlg (by omega)))
 ·exact .inr (.inr (Znc (by omega)))
def nmK(p:Zc):Prop:=p=((("gate" :Str),("g" :Str)):Zc)\/p=((("gate" :Str),("h" :Str)):Zc)\/Zmp p.2 63\/∃j,j<90/\p.2=Zav j
theorem nmK.nm{p:Zc}(h:nmK p):nmY p.2:=by
 rcases h with rfl|rfl|h|h
 ·exact .inl rfl
 ·exact .inr (.inl rfl)
 ·exact .inr (.inr (.inl h))
 ·exact .inr (.inr (.inr h))
structure Zex(ps:List Zc)(js:List (Zc×Zc))(sg:List (Str×Str×Str)):Prop where
 net:Net ps js []
 len:ps.length<=39
 name:∀p∈ps,nmK p
 sigs:(∃ps',ps'.Perm ps/\Zc4 (Wb ps') (Wb ps').length sg)\/∃n m,n∈[9,10,11,12,13,14]/\ps=Zch n/\sg=(Zet n).take m
theorem Net.perm'{ps ps':List Zc}{js js':List (Zc×Zc)}(h:Net ps js [])(hp:ps'.Perm ps)(hj:js'.Perm js):Net ps' js' []:=by
 obtain ⟨a,b,c,d⟩:=h
 rw [List.append_nil] at a
 refine ⟨?_,(hp.map _).nodup_iff.mpr b,fun j hm=>c j (hj.mem_iff.mp hm),fun p hm=>d p (hp.mem_iff.mp hm)⟩
 rw [List.append_nil]
 exact ((hj.flatMap_right _).trans a).trans (hp.flatMap_right _).symm
theorem Zyc{k:Nat}(h:k<63):Zmp (Zay k) 63:=by
 refine ⟨"plain",0,k,by trivial,h,?_⟩
 unfold Ys Zay
 rw [if_pos (by decide)]
 rw [show (⟨#[("plain" :Str).cps.toList.getD 0 0]⟩:Str) = "p" by trivial]
theorem Zwj{n:Nat}(hn:n<=14):∀p∈Zch n,nmK p:=fun p hp=>by
 unfold Zch at hp
 rcases List.mem_append.mp hp with z|z
 ·rcases List.mem_append.mp z with y|y
  ·rw [List.mem_singleton] at y;rw [y];exact .inl rfl
  ·obtain ⟨k,hk,rfl⟩:=List.mem_map.mp y
   rw [List.mem_range] at hk
   exact .inr (.inr (.inl (Zyc (by omega))))
 ·rw [List.mem_singleton] at z;rw [z];exact .inr (.inl rfl)
theorem Zut{n:Nat}(hn:n<=14):(Zch n).length<=39:=by
 unfold Zch
 rw [List.length_append,List.length_append,List.length_map,List.length_range]
 simp
 omega
theorem Yal{s:Str}{n m:Nat}(h:Zmp s n)(l:n<=m):Zmp s m:=let ⟨kd,c,k,a,b,e⟩:=h;⟨kd,c,k,a,by omega,e⟩
theorem Zz8{s:Str}{n:Nat}(h:nmD s n):Zmp s n:=by
 obtain ⟨kd,hk,c,k,a,e⟩:=h
 refine ⟨kd,c,k,?_,a,e⟩
 have:∀kd∈Wh,96<kd.cps.toList.getD 0 0/\kd.cps.toList.getD 0 0<123:=by trivial
 exact this kd hk
theorem Ztj{α β:Type}{R:α->β->Prop}{l1:List α}{l2:List β}(h:Paired R l1 l2):Paired R l1.reverse l2.reverse:=by
 induction h with
 | nil=>exact .nil
 | cons r _ ih=>rw [List.reverse_cons,List.reverse_cons];exact Paired.append ih (.cons r .nil)
theorem Zgg{α β:Type}{R:α->β->Prop}:∀(n:Nat) {l1:List α} {l2:List β},Paired R l1 l2->Paired R (l1.drop n) (l2.drop n)
 | 0,_,_,h=>h
 | _+1,_,_,.nil=>.nil
 | n+1,_,_,.cons _ t=>Zgg n t
theorem Zdg{α β:Type}{R:α->β->Prop}:∀(n:Nat) {l1:List α} {l2:List β},Paired R l1 l2->Paired R (l1.take n) (l2.take n)
 | 0,_,_,_=>.nil
 | _+1,_,_,.nil=>.nil
 | n+1,_,_,.cons r t=>.cons r (Zdg n t)
def Ztf(K:Frag):Sp:=fun vs H Q _=>∃(cl:Addr) (c:Int) (cs:List Int),vs=[.ref cl,.int c]/\SqL K H cl (cs.map V.int)/\(∀c∈cs,0<=c)/\cs.length<=63 /\
 ∀(t pl jl sl:Addr) (H':Hp) (ps:List Zc) (js:List (Zc×Zc)) (sg:List (Str×Str×Str)),Same H H'->H' t=some (.tup [.ref pl,.ref jl,.ref sl])->Zz H' pl ps->Yj H' jl js->Zcd H' sl sg->Zex ps js sg->Q (.ref t) H'
theorem Zhr(T:Tx K mg):Z1 P w K mg base CX0 4 T.d__law_yard_by.f T.d__law_yard_by.fd ["_law_cells_here", "_law_cell"] (Ztf K):=by
 refine T.d__law_yard_by.F.okW Xe fun cdv A outer s H vs Q E hr h=>?_
 ·obtain ⟨cl,c,cs,rfl,hS,hc0,hcl,q⟩:=h
  let I9:=fun (σ:St) (H':Hp)=>σ=[some (.ref cl),some (.int c),none,none,none,none]/\H'=H
  refine WSs.cut I9 ?_ ?_
  ·refine WS.of (Ye (Zs (r:=Zaz K) (Zba hr) (Zl Yo (pv 1) Ze) Ze (Z4 _)) Z2 Zv) ⟨_,rfl,_,_,rfl,rfl,(by show (0:Int)<12;decide),.inl ⟨rfl,_,rfl,Ym (fun _=>?_) (fun _=>⟨rfl,rfl⟩)⟩⟩
   refine WSs.last (Zq (Zu (Zob T) hr rfl T.m__law_long T.d__law_long.F.kp T.d__law_long.b .nil Z3 (Zb (Zl Yt (pv 1) Ze) Za))) ⟨_,rfl,_,_,rfl,rfl,⟨by decide,by decide⟩,_,rfl,fun t pl jl sl H' n m s1 hn h1 h3 e hP hJ hG _ _ _=>q t pl jl sl H' _ _ _ s1 e hP hJ hG ⟨Zu8 hn,Zut ?_,Zwj ?_,.inr ⟨n,m,hn,rfl,rfl⟩⟩⟩
   ·simp at hn;omega
   ·simp at hn;omega
  rintro σ H' ⟨rfl,hH'⟩
  rw [hH']
  refine WSs.step (Zx (i:=2) Xe.nd (Zu (Zoq T) hr rfl T.m__law_line T.d__law_line.F.kp T.d__law_line.b .nil Z3 (Zb (pv 0) Za))) ⟨_,rfl,cl,cs,rfl,hS,hc0,fun t H1 pl jl ps js s1 e1 hP hJ n1 n2 net len nm=>?_⟩
  let I10:=fun (σ:St) (H':Hp)=>∃t pl jl ps js,σ=[some (.ref cl),some (.int c),some (.ref t),none,none,none]/\Same H H'/\H' t=some (.tup [.ref pl,.ref jl])/\Zz H' pl ps/\Yj H' jl js/\Net ps js []/\ps.length<=39/\∀p∈ps,nmK p
  refine WSs.cut I10 ?_ ?_
  ·refine WS.of (Ye (Zs (r:=Zaz K) (Zba hr) (Zl Yo (pv 1) Ze) Ze (Z4 _)) Z2 Zv) ⟨_,rfl,_,_,rfl,rfl,(by show (0:Int)<3;decide),.inl ⟨rfl,_,rfl,Ym (fun _=>?_) (fun _=>⟨t,pl,jl,ps,js,rfl,s1,e1,hP,hJ,net,by omega,fun p hp=>?_⟩)⟩⟩
   ·refine WSs.last (Zx (i:=2) Xe.nd (Zu (Zm2 T) hr rfl T.m__law_drawn T.d__law_drawn.F.kp T.d__law_drawn.b .nil Z3 (Zb (pv 0) Za))) ⟨_,rfl,cl,cs,rfl,s1.seq hS,hc0,hcl,fun t H2 pl jl ps js _ s2 e2 hP hJ _ _ net len nm=>⟨t,pl,jl,ps,js,rfl,s1.trans s2,e2,hP,hJ,net,len,fun p hp=>?_⟩⟩
    rcases nm p hp with z|z
    ·exact .inr (.inr (.inl (Zz8 z)))
    ·exact .inr (.inr (.inr z))
   ·rcases nm p hp with z|z|z
    ·exact .inl z
    ·exact .inr (.inl z)
    ·exact .inr (.inr (.inl (Yal z (by decide))))
  clear e1 hP hJ n1 n2 net len nm s1
  rintro σ H1 ⟨t,pl,jl,ps,js,rfl,s1,e1,hP,hJ,net,len,nm⟩
  refine WSs.step (Zp7 (pv 2) (Zbt rfl (Z6 (Y5 (i:=3) Xe.nd) (Z6 (Y5 (i:=4) Xe.nd) X2)))) ⟨_,rfl,t,_,rfl,SqT.of e1,rfl,_,_,rfl,_,_,rfl,rfl,?_⟩
  obtain ⟨us,hu,hus⟩:=id hP
  have hul:us.length=ps.length:=Paired.length hus
  obtain ⟨mx,hmx,hm1⟩:∃mx:Int,(if ((us.map V.ref).length:Int) >1 then ((us.map V.ref).length:Int) else 1)=mx/\0<mx:=by
   refine ⟨_,rfl,?_⟩
   split <;>omega
  have a0:=Int.emod_nonneg (c / 3) (show mx≠0 by omega)
  obtain ⟨at',hat⟩:∃k:Nat,c / 3%mx=(k:Int):=⟨(c / 3%mx).toNat,by omega⟩
  refine WSs.step (Zx (i:=5) Xe.nd (Zl Yo (Zl Yt (pv 1) Ze) (Z0 (Zrk rfl) (by rfl) T.n_max PyProof.Rows.boot_max (Zb Ze (Zb (Z0 (r:=X0 K) X3 (by rfl) T.n_len PySem.boot_len (Zb (pv 3) Za)) Za))))) ⟨_,rfl,_,_,rfl,rfl,⟨by decide,by decide⟩,_,rfl,.inl ⟨pl,_,rfl,.inl (SqL.of hu),_,_,rfl,_,_,rfl,rfl,?_,?_⟩⟩
  ·show (0:Int)<(if ((us.map V.ref).length:Int) >1 then ((us.map V.ref).length:Int) else 1)
   rw [hmx];exact hm1
  show WSs _ _ _ [some (.ref cl),some (.int c),some (.ref t),some (.ref pl),some (.ref jl),some (.int (c / 3%(if ((us.map V.ref).length:Int) >1 then ((us.map V.ref).length:Int) else 1)))] H1
  rw [hmx,hat]
  let I11:=fun (σ:St) (H':Hp)=>∃jl' js',σ=[some (.ref cl),some (.int c),some (.ref t),some (.ref pl),some (.ref jl'),some (.int (at':Int))]/\Same H1 H'/\Yj H' jl' js'/\js'.Perm js
  refine WSs.cut I11 ?_ ?_
  ·obtain ⟨ws,hw,hws⟩:=id hJ
   refine WS.of (Ye (Zs (r:=Zaz K) (Zba hr) (Zl Yo (Zl Yt (pv 1) Ze) Ze) Ze (Z4 _)) Z2 Zv) ⟨_,rfl,_,_,rfl,rfl,⟨by decide,by decide⟩,_,_,rfl,rfl,(by show (0:Int)<2;decide),.inl ⟨rfl,_,rfl,Ym (fun _=>?_) (fun _=>⟨jl,js,rfl,Same.refl _,hJ,List.Perm.refl _⟩)⟩⟩
   refine WSs.last (Zx (i:=4) Xe.nd (Zyf (ops:=fun l r=>[l,r]) (pv 4) (Yy (Zfu Zdm Ze)) (fun _ _=>by with_unfolding_all rfl))) ⟨_,rfl,_,rfl,_,rfl,jl,_,rfl,rfl,SqL.of hw,fun jr H2 s2 n2 e2=>⟨jr,js.reverse,rfl,s2,⟨ws.reverse,by rw [e2,List.map_reverse],?_⟩,List.reverse_perm _⟩⟩
   exact Ztj (Paired.mapP hws fun _ _ r=>r.mono s2)
  rintro σ H2 ⟨jl',js',rfl,s2,hJ',hjp⟩
  refine WSs.last (Zq (Zg (Zb (Zl Wl (Yr (r:=Zbq K) Zcl (pv 3) (Yy (pv 5)) Yz) (Yr (r:=Zbq K) Zcl (pv 3) Yz (Yy (pv 5)))) (Zb (pv 4) (Zb (Zu (Zfp T) hr rfl T.m__law_signals_by T.d__law_signals_by.F.kp T.d__law_signals_by.b .nil Z3 (Zb (pv 3) (Zb (Zl Yt (pv 1) Ze) Za))) Za))))) ⟨_,rfl,_,rfl,_,rfl,.inr (.inl ⟨pl,_,rfl,SqL.of (s2.at hu),fun la H3 s3 n3 e3=>⟨_,rfl,_,rfl,_,rfl,.inr (.inl ⟨pl,_,rfl,SqL.of (s3.at (s2.at hu)),fun lb H4 s4 n4 e4=>.inr (.inr ⟨la,lb,_,_,rfl,rfl,s4.at e3,e4,?_,fun lc H5 s5 n5 e5=>?_⟩)⟩)⟩⟩)⟩
  ·rw [Zcv,Ze2,List.length_drop,List.length_take,List.length_map];exact sz (by omega)
  have s25:=s3.trans (s4.trans s5)
  have s15:=s2.trans s25
  refine ⟨_,rfl,_,rfl,_,rfl,_,_,rfl,rfl,⟨by decide,by decide⟩,pl,_,ps,rfl,hP.mono s15,by omega,fun n k e he _ _=>?_,fun sl H6 sg s6 n6 hG ok=>⟨sz (by simp),fun t' H7 s7 n7 e7=>?_⟩⟩
  ·obtain ⟨p,hp,e1⟩:=Zs2 he
   rw [e1]
   exact nmY.sig (nm p hp).nm
  rw [Zcv,Ze2,<-List.map_drop,<-List.map_take,<-List.map_append] at e5
  have s57:=s6.trans s7
  have rot:(ps.drop at'++ps.take at').Perm ps:=by
   have:=List.perm_append_comm (l₁:=ps.drop at') (l₂:=ps.take at')
   rwa [List.take_append_drop] at this
  refine q t' lc jl' sl H7 (ps.drop at'++ps.take at') js' sg (s1.trans (s15.trans s57)) e7 ⟨us.drop at'++us.take at',s57.at e5,?_⟩ (hJ'.mono (s25.trans s57)) (hG.mono s7) ⟨Net.perm' net rot hjp,?_,fun p hp=>nm p (rot.mem_iff.mp hp),.inl ⟨ps,rot.symm,ok⟩⟩
  ·have:=Paired.mapP hus fun _ _ r=>Zw.mono (s15.trans s57) r
   exact Paired.append (Zgg _ this) (Zdg _ this)
  ·rw [rot.length_eq];exact len
theorem Ziw(T:Tx K mg){k:Nat}(h:4<=k:=by decide):Z1 P w K mg base CX0 k T.d__law_yard_by.f T.d__law_yard_by.fd ["_law_cells_here", "_law_cell"] (Ztf K):=(Zhr T).mono h
def Zhj(c:Nat):Bool:=decide (97<=c) && decide (c<=122)
def anC(c:Nat):Bool:=Zhj c || (decide (48<=c) && decide (c<=57))
def Zci(s:Str):Prop:=1<=s.length/\s.length<=6/\Zhj (s.cps.toList.headD 0)=true/\s.cps.toList.all anC=true
theorem Znb:∀k<100,(Zej k).cps.toList.all anC=true:=by trivial
theorem Zmn:∀i<26,Zhj (Zf3.getD i 0)=true:=by decide
theorem Zzj{c:Nat}(h:Zhj c=true):anC c=true:=by unfold anC;rw [h];rfl
theorem Zc6{x y:Str}(hx:x.cps.toList.all anC=true)(hy:y.cps.toList.all anC=true):(x++y).cps.toList.all anC=true:=by
 rw [PySem.W.KT.app_list,List.all_append,hx,hy];rfl
theorem Zca{x y:Str}(h:0<x.length):(x++y).cps.toList.headD 0=x.cps.toList.headD 0:=by
 rw [PySem.W.KT.app_list]
 cases e:x.cps.toList with
 | nil =>
  have:x.cps.size=0:=by rw [<-Array.length_toList,e];rfl
  exact absurd h (by show ¬0<x.cps.size;omega)
 | cons a l=>rfl
theorem Zil{c:Nat}(h:Zhj c=true):(⟨#[c]⟩:Str).cps.toList.all anC=true:=by
 show ([c]:List Nat).all anC=true
 simp [Zzj h]
theorem Zvc{j:Nat}(h:j<100):Zci (Zav j):=by
 have h1:=Zfo j h
 have h2:=Zfw j h
 unfold Zav
 refine ⟨?_,?_,?_,Zc6 (by trivial) (Znb j h)⟩
 ·rw [PySem.Str.length_append];omega
 ·rw [PySem.Str.length_append,show ("e" :Str).length=1 by trivial];omega
 ·rw [Zca (by trivial)];decide +kernel
theorem Zvj{n k:Nat}(hn:n<99)(hk:k<600):Zci (Zdh n k):=by
 have h1:=Zq6 n hn
 have a1:=Zmn (k / 26) (by omega)
 have a2:=Zmn (k%26) (by omega)
 have hs:("s" :Str).length=1:=by trivial
 have h0:0<(("s" :Str)++Str.ofString (toString (n:Int))).length:=by rw [PySem.Str.length_append,hs];omega
 have hf:(Str.ofString (toString (n:Int))).cps.toList.all anC=true:=Znb n (by omega)
 unfold Zdh
 refine ⟨?_,?_,?_,Zc6 (Zc6 (Zc6 (by trivial) hf) (Zil a1)) (Zil a2)⟩
 ·rw [PySem.Str.length_append,PySem.Str.length_append];omega
 ·rw [PySem.Str.length_append,PySem.Str.length_append,PySem.Str.length_append,hs]
  show 1+_+1+1<=6
  omega
 ·rw [Zca (by rw [PySem.Str.length_append];omega),Zca h0,Zca (by rw [hs];decide)];decide +kernel
theorem Yb8:Zci "g" :=⟨by trivial,by trivial,by trivial,by trivial⟩
theorem Ycc:Zci "h" :=⟨by trivial,by trivial,by trivial,by trivial⟩
theorem Zgu{i:Int}(h0:0<=i)(h1:i<26):Zhj (Zdc i)=true:=Zmn i.toNat (by omega)
theorem Zyl:∀m<3,(Zga "0" m).cps.toList.all anC=true:=by trivial
theorem Zr1{kd:Str}{c:Int}{k:Nat}(h0:96<kd.cps.toList.getD 0 0/\kd.cps.toList.getD 0 0<123)(hk:k<100):Zci (Ys kd c k):=by
 have l2:=Zcm (kind:=kd) (c:=c) hk
 refine ⟨by omega,Zsy hk,?_,?_⟩
 ·unfold Ys
  split
  ·rw [Zca (by show 0<1;decide)]
   show Zhj (kd.cps.toList.getD 0 0)=true
   unfold Zhj
   simp only [Bool.and_eq_true,decide_eq_true_eq]
   omega
  ·have a0:=Int.emod_nonneg (c / 3) (show (26:Int)≠0 by decide)
   have a1:=Int.emod_lt_of_pos (c / 3) (show (0:Int)<26 by decide)
   rw [Zca (by rw [PySem.Str.length_append,PySem.Str.length_append];show 0<1+1+_;omega),Zca (by rw [PySem.Str.length_append];show 0<1+1;decide),Zca (by show 0<1;decide)]
   exact Zgu a0 a1
 ·unfold Ys
  split
  ·refine Zc6 (Zil ?_) (Znb k hk)
   unfold Zhj
   simp only [Bool.and_eq_true,decide_eq_true_eq]
   omega
  ·have a0:=Int.emod_nonneg (c / 3) (show (26:Int)≠0 by decide)
   have a1:=Int.emod_lt_of_pos (c / 3) (show (0:Int)<26 by decide)
   have b0:=Int.emod_nonneg (c / 78) (show (26:Int)≠0 by decide)
   have b1:=Int.emod_lt_of_pos (c / 78) (show (0:Int)<26 by decide)
   have c0:=Int.emod_nonneg (c / 2028) (show (3:Int)≠0 by decide)
   have c1:=Int.emod_lt_of_pos (c / 2028) (show (0:Int)<3 by decide)
   exact Zc6 (Zc6 (Zc6 (Zil (Zgu a0 a1)) (Zil (Zgu b0 b1))) (Zyl _ (by omega))) (Znb k hk)
theorem nmY.ok{s:Str}(h:nmY s):Zci s:=by
 rcases h with rfl|rfl|⟨kd,c,j,h0,hj,rfl⟩|⟨j,hj,rfl⟩
 ·exact Yb8
 ·exact Ycc
 ·exact Zr1 h0 (by omega)
 ·exact Zvc (by omega)
theorem Zji{ps:List Zc}{e:Zc}(h:e∈Wb ps):∃p∈ps,e.1=p.2/\p.1∈[("plain" :Str), "gate", "stop"]/\e.2∈Yc p.1:=by
 unfold Wb at h
 obtain ⟨p,hp,he⟩:=List.mem_flatMap.mp h
 by_cases z:p.1∈[("plain" :Str), "gate", "stop"]
 ·rw [if_pos z] at he
  obtain ⟨x,hx,rfl⟩:=List.mem_map.mp he
  exact ⟨p,hp,rfl,z,hx⟩
 ·rw [if_neg z] at he;cases he
theorem Zwm(k:Str):(Yc k).Nodup:=by
 unfold Yc
 split
 ·decide
 ·split
  ·decide
  ·split <;>decide
theorem Zqe:∀{ps:List Zc},(ps.map Prod.snd).Nodup->(Wb ps).Nodup
 | [],_=>List.nodup_nil
 | p ::ps,h=>by
  rw [List.map_cons,List.nodup_cons] at h
  have ih:=Zqe h.2
  show ((if p.1∈[("plain" :Str), "gate", "stop"] then (Yc p.1).map (fun x=>((p.2,x):Zc)) else [])++Wb ps).Nodup
  refine List.nodup_append.mpr ⟨?_,ih,fun a ha b hb e=>?_⟩
  ·split
   ·exact List.Pairwise.map _ (fun a b h z=>h (Prod.mk.inj z).2) (Zwm p.1)
   ·exact List.nodup_nil
  ·subst e
   obtain ⟨p',hp',e1,_⟩:=Zji hb
   split at ha
   ·obtain ⟨x,_,rfl⟩:=List.mem_map.mp ha
    exact h.1 (List.mem_map.mpr ⟨p',hp',e1.symm⟩)
   ·cases ha
structure Zi9(ps:List Zc)(sg:List (Str×Str×Str)):Prop where
 name:∀q∈sg,Zci q.1
 nd:(sg.map Prod.fst).Nodup
 one:(sg.map Prod.snd).Nodup
 at_:∀q∈sg,∃p∈ps,p.2=q.2.1/\p.1∈[("plain" :Str), "gate", "stop"]/\q.2.2∈Yc p.1
 len:sg.length<=40
theorem Zc4.sigs{ps:List Zc}{sg:List (Str×Str×Str)}(h:Zc4 (Wb ps) (Wb ps).length sg)(nd:(ps.map Prod.snd).Nodup)(nm:∀p∈ps,nmY p.2)(hl:ps.length<=45):Zi9 ps sg:=by
 have sub:=h.at_
 rw [List.take_length] at sub
 have hb:=Zfn ps
 have mem:∀q∈sg,((q.2.1,q.2.2):Zc)∈Wb ps:=fun q hq=>sub.subset (List.mem_map.mpr ⟨q,hq,rfl⟩)
 refine ⟨fun q hq=>?_,h.nd,List.Nodup.sublist sub (Zqe nd),fun q hq=>?_,h.len⟩
 ·rcases h.name q hq with z|⟨n,k,a,b,c⟩
  ·obtain ⟨p,hp,e,_⟩:=Zji (mem q hq)
   rw [z,show q.2.1=p.2 from e]
   exact nmY.ok (nm p hp)
  ·rw [c];exact Zvj a (by omega)
 ·obtain ⟨p,hp,e,k,m⟩:=Zji (mem q hq)
  exact ⟨p,hp,e.symm,k,m⟩
theorem Zi9.perm{ps ps':List Zc}{sg:List (Str×Str×Str)}(h:Zi9 ps' sg)(hp:ps'.Perm ps):Zi9 ps sg :=
 ⟨h.name,h.nd,h.one,fun q hq=>let ⟨p,a,b⟩:=h.at_ q hq;⟨p,hp.mem_iff.mp a,b⟩,h.len⟩
theorem Zrj{n:Nat}(m:Nat)(hn:n∈[9,10,11,12,13,14]):Zi9 (Zch n) ((Zet n).take m):=by
 have h1:9<=n/\n<=14:=by simp at hn;omega
 have nd:∀n∈[9,10,11,12,13,14],((Zet n).map Prod.snd).Nodup:=by trivial
 have sub:=List.take_sublist m (Zet n)
 have row:∀q∈Zet n,Zci q.1/\∃p∈Zch n,p.2=q.2.1/\p.1∈[("plain" :Str), "gate", "stop"]/\q.2.2∈Yc p.1:=by
  intro q hq
  unfold Zet at hq
  simp only [List.mem_cons,List.mem_nil_iff,or_false] at hq
  rcases hq with rfl|rfl|rfl
  ·exact ⟨⟨by trivial,by trivial,by trivial,by trivial⟩,("gate", "g"),by unfold Zch;simp,rfl,by decide,by decide⟩
  ·exact ⟨⟨by trivial,by trivial,by trivial,by trivial⟩,("gate", "h"),by unfold Zch;simp,rfl,by decide,by decide⟩
  ·have e1:Zci "end" :=⟨by trivial,by trivial,by trivial,by trivial⟩
   have e2:("plain" :Str)∈[("plain" :Str), "gate", "stop"]:=by decide
   have e3:("b" :Str)∈Yc "plain" :=by decide
   exact ⟨e1,("plain",Zay (n-1)),by unfold Zch;exact List.mem_append_left _ (List.mem_append_right _ (List.mem_map.mpr ⟨n-1,List.mem_range.mpr (by omega),rfl⟩)),rfl,e2,e3⟩
 have nf:((Zet n).map Prod.fst).Nodup:=by
  show ([("go" :Str), "back", "end"]:List Str).Nodup
  decide +kernel
 refine ⟨fun q hq=>(row q (sub.subset hq)).1,List.Nodup.sublist (sub.map _) nf,List.Nodup.sublist (sub.map _) (nd n hn),fun q hq=>(row q (sub.subset hq)).2,?_⟩
 have:=sub.length_le
 exact Nat.le_trans this (by show 3<=40;decide)
theorem Zex.sigsV{ps:List Zc}{js:List (Zc×Zc)}{sg:List (Str×Str×Str)}(h:Zex ps js sg):Zi9 ps sg:=by
 rcases h.sigs with ⟨ps',hp,ok⟩|⟨n,m,hn,rfl,rfl⟩
 ·exact (ok.sigs ((hp.map _).nodup_iff.mpr h.net.nd) (fun p hm=>(h.name p (hp.mem_iff.mp hm)).nm) (by rw [hp.length_eq];have:=h.len;omega)).perm hp
 ·exact Zrj m hn
def Zdk(K:Frag):Sp:=fun vs H Q _=>∃(x C dx:Addr) (nm:Str),vs=[.ref x,.str nm]/\H x=some (.ins C dx [])/\Cls K C/\Wj K C "name" /\Q .non (upd H x (.ins C dx [("name",.str nm)]))
theorem Zgi(T:Tx K mg):Z1 P w K mg base CX0 1 T.d_Part___init__.f T.d_Part___init__.fd ["self", "name"] (Zdk K):=by
 refine T.d_Part___init__.F.okW Zgp fun cdv A outer s H vs Q E hr h=>?_
 ·obtain ⟨x,C,dx,nm,rfl,hx,c,n1,q⟩:=h
  exact WSs.last (Zix (pv 0) (pv 1) rfl) ⟨_,rfl,_,rfl,x,C,dx,[],rfl,hx,c,n1,by simp,q⟩
theorem Xw(T:Tx K mg){k:Nat}(h:1<=k:=by decide):Z1 P w K mg base CX0 k T.d_Part___init__.f T.d_Part___init__.fd ["self", "name"] (Zdk K):=(Zgi T).mono h
def Zdt(H:Hp)(C x:Addr)(nm:Str):Prop:=∃dx,H x=some (.ins C dx [("name",.str nm)])
def mrP(C:Addr):List V->Hp->VK->Prop:=fun vs H Q=>∃nm:Str,vs=[.str nm]/\∀x H',Same H H'->H x=none->Zdt H' C x nm->Q (.ref x) H'
theorem mkP{C:Addr}(c:Cls K C) (n:Wj K C "name"):∀vs H Q,mrP C vs H Q->∀x dx,H x=none->H dx=none->dx≠x->Zdk K (.ref x ::(vs++[])) (upd (upd H dx (.own x)) x (.ins C dx [])) (fun v H2=>v=.non/\Q (.ref x) H2) E0:=by
 rintro vs H Q ⟨nm,rfl,q⟩ x dx h1 h2 ne
 refine ⟨x,C,dx,nm,rfl,Zh,c,n,rfl,q x _ (fun b o e=>?_) h1 ⟨dx,Zh⟩⟩
 rw [Zj (Zi e h1),Zj (Zi e h1),Zj (Zi e h2)]
 exact e
abbrev Zq2(T:Tx K mg):List V->Hp->VK->Prop:=mrP T.CPart
theorem Zwo(T:Tx K mg):∀vs H Q,Zq2 T vs H Q->∀x dx,H x=none->H dx=none->dx≠x->Zdk K (.ref x ::(vs++[])) (upd (upd H dx (.own x)) x (.ins T.CPart dx [])) (fun v H2=>v=.non/\Q (.ref x) H2) E0:=mkP T.clPart T.nPart_name
abbrev Znt(T:Tx K mg):List V->Hp->VK->Prop:=mrP T.CPlain
theorem Zu3(T:Tx K mg):∀vs H Q,Znt T vs H Q->∀x dx,H x=none->H dx=none->dx≠x->Zdk K (.ref x ::(vs++[])) (upd (upd H dx (.own x)) x (.ins T.CPlain dx [])) (fun v H2=>v=.non/\Q (.ref x) H2) E0:=mkP T.clPlain T.nPlain_name
abbrev Zqc(T:Tx K mg):List V->Hp->VK->Prop:=mrP T.CStop
theorem Zwa(T:Tx K mg):∀vs H Q,Zqc T vs H Q->∀x dx,H x=none->H dx=none->dx≠x->Zdk K (.ref x ::(vs++[])) (upd (upd H dx (.own x)) x (.ins T.CStop dx [])) (fun v H2=>v=.non/\Q (.ref x) H2) E0:=mkP T.clStop T.nStop_name
abbrev Zqs(T:Tx K mg):List V->Hp->VK->Prop:=mrP T.CGate
theorem Zw3(T:Tx K mg):∀vs H Q,Zqs T vs H Q->∀x dx,H x=none->H dx=none->dx≠x->Zdk K (.ref x ::(vs++[])) (upd (upd H dx (.own x)) x (.ins T.CGate dx [])) (fun v H2=>v=.non/\Q (.ref x) H2) E0:=mkP T.clGate T.nGate_name
abbrev Zlc(T:Tx K mg):List V->Hp->VK->Prop:=mrP T.CPoints
theorem Zsr(T:Tx K mg):∀vs H Q,Zlc T vs H Q->∀x dx,H x=none->H dx=none->dx≠x->Zdk K (.ref x ::(vs++[])) (upd (upd H dx (.own x)) x (.ins T.CPoints dx [])) (fun v H2=>v=.non/\Q (.ref x) H2) E0:=mkP T.clPoints T.nPoints_name
abbrev Zn8(T:Tx K mg):List V->Hp->VK->Prop:=mrP T.CCross
theorem Zt3(T:Tx K mg):∀vs H Q,Zn8 T vs H Q->∀x dx,H x=none->H dx=none->dx≠x->Zdk K (.ref x ::(vs++[])) (upd (upd H dx (.own x)) x (.ins T.CCross dx [])) (fun v H2=>v=.non/\Q (.ref x) H2) E0:=mkP T.clCross T.nCross_name
def Za9(T:Tx K mg)(k:Str)(C:Addr):Prop:=(k = "points" /\C=T.CPoints)\/(k = "cross" /\C=T.CCross)\/(k = "gate" /\C=T.CGate)\/(k = "stop" /\C=T.CStop)\/(k = "plain" /\(C=T.CPart\/C=T.CPlain))
def Zu1(T:Tx K mg):Sp:=fun vs H Q _=>∃k nm:Str,vs=[.str k,.str nm]/\k∈Wh/\nm.length<=6/\∀(x C:Addr) (H':Hp),Same H H'->H x=none->Za9 T k C->Zdt H' C x nm->Q (.ref x) H'
theorem Zl9(T:Tx K mg):Z1 P w K mg base CX0 3 T.d__law_part.f T.d__law_part.fd ["_law_kind", "_law_name"] (Zu1 T):=by
 refine T.d__law_part.F.okW Zmo fun cdv A outer s H vs Q E hr h=>?_
 ·obtain ⟨k,nm,rfl,hk,hl,q⟩:=h
  let I12:=fun (σ:St) (H':Hp)=>σ=[some (.str k),some (.str nm)]/\H'=H/\k ≠ "points"
  refine WSs.cut I12 ?_ ?_
  ·refine WS.of (Ye (Zs (r:=Zaz K) (Zba hr) (pv 0) Zf (Z4 _)) Z2 Zv) ⟨_,rfl,.inl ⟨rfl,_,rfl,Ym (fun hc=>?_) (fun hc=>⟨rfl,rfl,fun z=>hc (by rw [z];simp)⟩)⟩⟩
   have hc:k = "points" :=V.str.inj (of_decide_eq_true hc)
   exact WSs.last (Zq (Zcx (Zlc T) T.mkPoints (Xw T) hr rfl T.mPoints T.d_Part___init__.b .nil Z3 (Zsr T) (Zb (pv 1) Za))) ⟨_,rfl,nm,rfl,fun x H' s1 n1 o=>q x _ H' s1 n1 (.inl ⟨hc,rfl⟩) o⟩
  rintro σ H1 ⟨rfl,hH1,nk0⟩
  rw [hH1]
  let I13:=fun (σ:St) (H':Hp)=>σ=[some (.str k),some (.str nm)]/\H'=H/\k ≠ "cross"
  refine WSs.cut I13 ?_ ?_
  ·refine WS.of (Ye (Zs (r:=Zaz K) (Zba hr) (pv 0) Zf (Z4 _)) Z2 Zv) ⟨_,rfl,.inl ⟨rfl,_,rfl,Ym (fun hc=>?_) (fun hc=>⟨rfl,rfl,fun z=>hc (by rw [z];simp)⟩)⟩⟩
   have hc:k = "cross" :=V.str.inj (of_decide_eq_true hc)
   exact WSs.last (Zq (Zcx (Zn8 T) T.mkCross (Xw T) hr rfl T.mCross T.d_Part___init__.b .nil Z3 (Zt3 T) (Zb (pv 1) Za))) ⟨_,rfl,nm,rfl,fun x H' s1 n1 o=>q x _ H' s1 n1 (.inr (.inl ⟨hc,rfl⟩)) o⟩
  rintro σ H2 ⟨rfl,hH2,nk1⟩
  rw [hH2]
  let I14:=fun (σ:St) (H':Hp)=>σ=[some (.str k),some (.str nm)]/\H'=H/\k ≠ "gate"
  refine WSs.cut I14 ?_ ?_
  ·refine WS.of (Ye (Zs (r:=Zaz K) (Zba hr) (pv 0) Zf (Z4 _)) Z2 Zv) ⟨_,rfl,.inl ⟨rfl,_,rfl,Ym (fun hc=>?_) (fun hc=>⟨rfl,rfl,fun z=>hc (by rw [z];simp)⟩)⟩⟩
   have hc:k = "gate" :=V.str.inj (of_decide_eq_true hc)
   exact WSs.last (Zq (Zcx (Zqs T) T.mkGate (Xw T) hr rfl T.mGate T.d_Part___init__.b .nil Z3 (Zw3 T) (Zb (pv 1) Za))) ⟨_,rfl,nm,rfl,fun x H' s1 n1 o=>q x _ H' s1 n1 (.inr (.inr (.inl ⟨hc,rfl⟩))) o⟩
  rintro σ H3 ⟨rfl,hH3,nk2⟩
  rw [hH3]
  let I15:=fun (σ:St) (H':Hp)=>σ=[some (.str k),some (.str nm)]/\H'=H/\k ≠ "stop"
  refine WSs.cut I15 ?_ ?_
  ·refine WS.of (Ye (Zs (r:=Zaz K) (Zba hr) (pv 0) Zf (Z4 _)) Z2 Zv) ⟨_,rfl,.inl ⟨rfl,_,rfl,Ym (fun hc=>?_) (fun hc=>⟨rfl,rfl,fun z=>hc (by rw [z];simp)⟩)⟩⟩
   have hc:k = "stop" :=V.str.inj (of_decide_eq_true hc)
   exact WSs.last (Zq (Zcx (Zqc T) T.mkStop (Xw T) hr rfl T.mStop T.d_Part___init__.b .nil Z3 (Zwa T) (Zb (pv 1) Za))) ⟨_,rfl,nm,rfl,fun x H' s1 n1 o=>q x _ H' s1 n1 (.inr (.inr (.inr (.inl ⟨hc,rfl⟩)))) o⟩
  rintro σ H4 ⟨rfl,hH4,nk3⟩
  rw [hH4]
  have hp:k = "plain" :=by
   unfold Wh at hk
   simp only [List.mem_cons,List.mem_nil_iff,or_false] at hk
   rcases hk with z|z|z|z|z
   ·exact z
   ·exact absurd z nk0
   ·exact absurd z nk1
   ·exact absurd z nk2
   ·exact absurd z nk3
  let I16:=fun (σ:St) (H':Hp)=>σ=[some (.str k),some (.str nm)]/\Same H H'
  refine WSs.cut I16 ?_ ?_
  ·refine WS.of (Ye (Zs (r:=Zhg K) (Zim hr) (Yr (r:=Zbq K) Zcl (pv 1) (Yy (Zfu Zdm Ze)) Yz) (Zm (Zb Zf (Zb Zf Za))) (by with_unfolding_all rfl)) Z2 Zv) ⟨_,rfl,_,rfl,_,rfl,.inr (.inr ⟨nm,rfl,sz (by omega),sz (by simp),fun l H5 s5 n5 e5=>.inl ⟨l,_,rfl,.inl (SqL.of e5),rfl,rfl,_,rfl,Ym (fun _=>?_) (fun _=>⟨rfl,s5⟩)⟩⟩)⟩
   exact WSs.last (Zq (Zcx (Zq2 T) T.mkPart (Xw T) hr rfl T.mPart T.d_Part___init__.b .nil Z3 (Zwo T) (Zb (pv 1) Za))) ⟨_,rfl,nm,rfl,fun x H' s1 n1 o=>q x _ H' (s5.trans s1) (s5.free n1) (.inr (.inr (.inr (.inr ⟨hp,.inl rfl⟩)))) o⟩
  rintro σ H5 ⟨rfl,s5⟩
  exact WSs.last (Zq (Zcx (Znt T) T.mkPlain (Xw T) hr rfl T.mPlain T.d_Part___init__.b .nil Z3 (Zu3 T) (Zb (pv 1) Za))) ⟨_,rfl,nm,rfl,fun x H' s1 n1 o=>q x _ H' (s5.trans s1) (s5.free n1) (.inr (.inr (.inr (.inr ⟨hp,.inr rfl⟩)))) o⟩
theorem Zno(T:Tx K mg){k:Nat}(h:3<=k:=by decide):Z1 P w K mg base CX0 k T.d__law_part.f T.d__law_part.fd ["_law_kind", "_law_name"] (Zu1 T):=(Zl9 T).mono h
section
variable {α β κ:Type} [DecidableEq κ] {f:α->κ} {R R':α->β->V->Prop} {kvs:List (κ×V)} {qs:List (α×β)}
def DP(f:α->κ)(R:α->β->V->Prop)(kvs:List (κ×V))(qs:List (α×β)):Prop:=Paired (fun (kv:κ×V) (q:α×β)=>kv.1=f q.1/\R q.1 q.2 kv.2) kvs qs
theorem DP.none(h:DP f R kvs qs)(inj:∀a b,f a=f b->a=b){a:α}(n:a∉qs.map Prod.fst):Y4 kvs (f a)=none:=by
 unfold DP at h
 induction h with
 | nil=>rfl
 | cons r t ih =>
  rw [List.map_cons,List.mem_cons,not_or] at n
  rw [Y9 (fun z=>n.1 (inj _ _ (r.1.symm.trans z)).symm)]
  exact ih n.2
theorem DP.get(h:DP f R kvs qs)(inj:∀a b,f a=f b->a=b)(nd:(qs.map Prod.fst).Nodup){a:α}{b:β}(m:(a,b)∈qs):∃v,Y4 kvs (f a)=some v/\R a b v:=by
 unfold DP at h
 induction h with
 | nil=>cases m
 | @cons kv q _ _ r t ih =>
  rw [List.map_cons,List.nodup_cons] at nd
  rcases List.mem_cons.mp m with z|z
  ·rw [<-z] at r
   exact ⟨_,W5 r.1,r.2⟩
  ·have:a≠q.1:=fun e=>nd.1 (by rw [<-e];exact List.mem_map.mpr ⟨_,z,rfl⟩)
   rw [Y9 (fun e=>this (inj _ _ (r.1.symm.trans e)).symm)]
   exact ih nd.2 z
theorem DP.put(h:DP f R kvs qs){a:α}{b:β}{v:V}(n:Y4 kvs (f a)=Option.none)(r:R a b v):DP f R (Zbb kvs (f a) v) (qs++[(a,b)]):=by
 rw [Zdv v n]
 exact Paired.snoc h ⟨rfl,r⟩
theorem DP.len(h:DP f R kvs qs):kvs.length=qs.length:=Paired.length h
theorem DP.mapR(h:DP f R kvs qs)(m:∀a b v,R a b v->R' a b v):DP f R' kvs qs:=Paired.mapP h fun _ _ z=>⟨z.1,m _ _ _ z.2⟩
end
def Yq(e:Zc):List Key:=[.inr e.1,.inr e.2]
theorem Xg(a b:Zc)(h:Yq a=Yq b):a=b:=by
 obtain ⟨a1,a2⟩:=a
 obtain ⟨b1,b2⟩:=b
 unfold Yq at h
 simp only [List.cons.injEq,Sum.inr.injEq,and_true] at h
 rw [h.1,h.2]
def Yh(s:Str):Key:=.inr s
theorem Zdd(a b:Str)(h:Yh a=Yh b):a=b:=Sum.inr.inj h
def qP(ps:List Zc):List (Str×Str):=ps.map fun p=>(p.2,p.1)
def qA(ps:List Zc):List (Zc×Str):=ps.flatMap fun p=>(Yc p.1).map fun e=>((p.2,e),p.1)
def qJ(js:List (Zc×Zc)):List (Zc×Zc):=js.flatMap fun j=>[(j.1,j.2),(j.2,j.1)]
def qS(sg:List (Str×Str×Str)):List (Str×Zc):=sg.map fun q=>(q.1,(q.2.1,q.2.2))
def qO(sg:List (Str×Str×Str)):List (Zc×Str):=sg.map fun q=>((q.2.1,q.2.2),q.1)
theorem Zlt(ps:List Zc):(qP ps).map Prod.fst=ps.map Prod.snd:=by unfold qP;rw [List.map_map];rfl
theorem Zl3(ps:List Zc):(qA ps).map Prod.fst=Yb ps:=by
 unfold qA Yb
 rw [List.map_flatMap]
 simp only [List.map_map]
 rfl
theorem Zaq(js:List (Zc×Zc)):(qJ js).map Prod.fst=Y0 js:=by
 unfold qJ Y0
 rw [List.map_flatMap]
 rfl
theorem Zuf(sg:List (Str×Str×Str)):(qS sg).map Prod.fst=sg.map Prod.fst:=by unfold qS;rw [List.map_map];rfl
theorem Zgl(sg:List (Str×Str×Str)):(qO sg).map Prod.fst=sg.map Prod.snd:=by unfold qO;rw [List.map_map];rfl
def RP(T:Tx K mg)(H:Hp):Str->Str->V->Prop:=fun nm k v=>∃x C,v=.ref x/\Za9 T k C/\Zdt H C x nm
def RA(T:Tx K mg)(H:Hp):Zc->Str->V->Prop:=fun e k v=>∃x C,v=.ref x/\Za9 T k C/\Zdt H C x e.1
def RJ(H:Hp):Zc->Zc->V->Prop:=fun _ e v=>∃t,v=.ref t/\Zw H t e
def RS(H:Hp):Str->Zc->V->Prop:=fun _ e v=>∃t,v=.ref t/\Zw H t e
def RO:Zc->Str->V->Prop:=fun _ s v=>v=.str s
theorem Zdt.mono{H H':Hp}{C x:Addr}{nm:Str}(e:Same H H')(h:Zdt H C x nm):Zdt H' C x nm:=let ⟨dx,z⟩:=h;⟨dx,e.at z⟩
theorem RP.mono{T:Tx K mg}{H H':Hp}(e:Same H H')(a b:Str)(v:V)(h:RP T H a b v):RP T H' a b v:=let ⟨x,C,h1,h2,h3⟩:=h;⟨x,C,h1,h2,h3.mono e⟩
theorem RJ.mono{H H':Hp}(e:Same H H')(a b:Zc)(v:V)(h:RJ H a b v):RJ H' a b v:=let ⟨t,h1,h2⟩:=h;⟨t,h1,h2.mono e⟩
theorem RS.mono{H H':Hp}(e:Same H H')(a:Str)(b:Zc)(v:V)(h:RS H a b v):RS H' a b v:=let ⟨t,h1,h2⟩:=h;⟨t,h1,h2.mono e⟩
theorem Zhx{H:Hp}{t:Addr}{e:Zc}(h:Zw H t e):H t=some (.tup ((Yq e).map kV)):=h
abbrev Zte:Str := "abcdefghijklmnopqrstuvwxyz"
abbrev Zzo:Str := "0123456789"
theorem Zvn:∀c,c<128->(!(Builtin.Str.occurrences Zte ⟨#[c]⟩ 0 Zte.length 1).isEmpty)=Zhj c:=by trivial
theorem Ya8:∀c,c<128->(!(Builtin.Str.occurrences (Zte++Zzo) ⟨#[c]⟩ 0 (Zte++Zzo).length 1).isEmpty)=anC c:=by trivial
theorem Zsc:Zte.length+Zzo.length<=sizeLine:=by rw [sizeLine_eq];decide +kernel
theorem Zz1{c:Nat}(h:anC c=true):c<128:=by
 unfold anC Zhj at h
 simp at h
 omega
def Zom:Sp:=fun vs H Q _=>∃s:Str,vs=[.str s]/\Zci s/\∀H',Same H H'->Q (.bl true) H'
theorem Zpx(T:Tx K mg):Z1 P w K mg base CX0 1 T.d_is_name.f T.d_is_name.fd ["thing"] Zom:=by
 refine T.d_is_name.F.okW Zpy fun cdv A outer s H vs Q E hr h=>?_
 ·obtain ⟨x,rfl,⟨h1,h6,hd,hall⟩,q⟩:=h
  have hx:x.cps.toList.length=x.length:=Array.length_toList
  have hasc:∀c∈x.cps.toList,c<128:=fun c hc=>Zz1 (List.all_eq_true.mp hall c hc)
  obtain ⟨c,cs,hcs⟩:∃c cs,x.cps.toList=c ::cs:=by
   cases e:x.cps.toList with
   | nil=>rw [e] at hx;exact absurd hx (by show ¬0=x.length;omega)
   | cons c cs=>exact ⟨c,cs,rfl⟩
  rw [hcs] at hd
  have hd:Zhj c=true:=hd
  refine WSs.step (Ye (Zc9 (Wz (Z0 (r:=Zor K) Zbx (by rfl) T.n_isinstance PyProof.Rows.boot_isinstance (Zb (pv 0) (Zb (Zd9 (v:=.ty "str") (by rfl) T.n_str PyProof.Rows.boot_str rfl) Za))))) Z2 Zv) ⟨_,rfl,_,_,true,_,rfl,Zbm.str x,.inl ⟨_,rfl,T.kSS⟩,_,rfl,Ym (fun z=>absurd z (by decide)) (fun _=>?_)⟩
  refine WSs.step (Ye (PW.pt (Zg6 (Zs (r:=Zaz K) (Zba hr) (pv 0) Zf (Z4 _)) (Zd6 (Zs Zkq (Z0 (r:=X0 K) X3 (by rfl) T.n_len PySem.boot_len (Zb (pv 0) Za)) (Zef (by rfl) T.c_LONGEST_NAME) (Z4 _))))) Z2 Zv) ⟨_,rfl,.inl ⟨rfl,_,rfl,Ym (fun z=>?_) (fun _=>⟨_,rfl,.inr (.inl ⟨x,rfl,sz (by omega),_,_,rfl,rfl,_,rfl,Ym (fun z=>?_) (fun _=>?_)⟩)⟩)⟩⟩
  ·have:x=("" :Str):=V.str.inj (of_decide_eq_true z)
   rw [this] at h1
   exact absurd h1 (by decide)
  ·have:(6:Int)<(x.length:Int):=of_decide_eq_true z
   exact absurd this (by omega)
  refine WSs.last (Zq (Zdu (W1 (r:=Zhg K) (Zim hr) (Zp (r:=rIx K) Zk (pv 0) Ze (fun _ _=>rfl)) (Zi1 (by rfl) T.c_LETTERS) (by with_unfolding_all rfl)) (Zfa (Z0 (r:=Ya5 K) (Zr2 rfl) (by rfl) T.n_all PyProof.Rows.boot_all (Zb (Xn (N':=["sign"]) rfl (Ya.std 1 [] rfl (by trivial) (by trivial) rfl trivial rfl rfl trivial) (Zzl (pv 0)) (fun _ _ _ _=>(Zbn (i:=0) (by show (["sign"]:List Str).Nodup;decide +kernel))) (fun _ _ _ _=>W0) (fun _ _ _ _=>(W1 (r:=Zhg K) (Zim hr) (pv 0) (Zl Wl (Zi1 (by rfl) T.c_LETTERS) (Zi1 (by rfl) T.c_FIGURES)) (by with_unfolding_all rfl)))) Za))))) ⟨_,rfl,.inr (.inr ⟨x,0,c,rfl,rfl,sz (by omega),by rw [hcs];exact Zn (j:=0) rfl,.inr (.inr (.inl ⟨_,_,rfl,rfl,_,rfl,?_⟩))⟩)⟩
  rw [Zvn c (hasc c (by rw [hcs];exact List.mem_cons_self)),hd]
  refine Zhv ⟨_,rfl,x,rfl,?_,fun D hD=>?_⟩
  ·rw [Array.all_eq_true']
   exact fun c hc=>decide_eq_true (hasc c (Array.mem_toList_iff.mpr hc))
  refine Zux (fun i ys H'=>ys=(x.cps.toList.take i).map (fun c=>V.bl (anC c))/\H' D=some (.lst ys)/\Same H H') ⟨rfl,Zh,fun b' o e=>by rw [Zj (Zi e hD)];exact e⟩ ?_ ?_
  ·rintro i c' ys H' hi ⟨rfl,hD',sm⟩
   have hi':x.cps.toList[i]? =some c':=by simpa using hi
   have hc':c'<128:=hasc c' (List.mem_of_getElem? hi')
   refine ⟨W2.set rfl,_,rfl,.inr (.inl ⟨_,_,rfl,rfl,Zsc,.inr (.inr (.inl ⟨_,_,rfl,rfl,hD',?_,?_⟩))⟩)⟩
   ·rw [List.length_map,List.length_take,sizeLine_eq];omega
   ·rw [Ya8 c' hc']
    refine ⟨?_,Zh,fun b' o e=>?_⟩
    ·rw [List.take_add_one,hi']
     simp
    ·rw [Zj (Zi e hD)]
     exact sm b' o e
  ·rintro ys H' ⟨rfl,hD',sm⟩
   refine ⟨D,(x.cps.toList.map anC),rfl,?_,?_⟩
   ·have e:(List.map anC x.cps.toList).map V.bl=List.map (fun c=>V.bl (anC c)) (List.take x.cps.size x.cps.toList):=by
     rw [List.map_map,List.take_of_length_le (by simp)]
     rfl
    rw [e]
    exact SqL.of hD'
   ·have e:(List.map anC x.cps.toList).all id=true:=by rw [List.all_map];exact hall
    rw [e]
    exact q H' sm
theorem Zgw(T:Tx K mg){k:Nat}(h:1<=k:=by decide):Z1 P w K mg base CX0 k T.d_is_name.f T.d_is_name.fd ["thing"] Zom:=(Zpx T).mono h
def Zt1:Sp:=fun vs H Q _=>∃(s:Str) (d:Addr) (kvs:List (Key×V)),vs=[.str s,.ref d]/\Zci s/\H d=some (.dK kvs)/\Y4 kvs (Yh s)=none/\∀H',Same H H'->Q .non H'
theorem Zjr(T:Tx K mg):Z1 P w K mg base CX0 2 T.d_refuse_name.f T.d_refuse_name.fd ["name", "known"] Zt1:=by
 refine T.d_refuse_name.F.okW Zja fun cdv A outer s H vs Q E hr h=>?_
 ·obtain ⟨x,d,kvs,rfl,hn,hd,hv,q⟩:=h
  refine WSs.step (Ye (Zc9 (Wz (Zu (Zgw T) hr rfl T.m_is_name T.d_is_name.F.kp T.d_is_name.b .nil Z3 (Zb (pv 0) Za)))) Z2 Zv) ⟨_,rfl,x,rfl,hn,fun H1 s1=>⟨_,rfl,Ym (fun z=>absurd z (by decide)) (fun _=>?_)⟩⟩
  refine WSs.last (Ye (Zs (r:=Zhg K) (Zim hr) (pv 0) (pv 1) (by with_unfolding_all rfl)) Z2 Zv) ⟨_,rfl,_,rfl,.inr (.inl ⟨d,_,rfl,Zar.k (k:=Yh x) (s1.at hd),_,rfl,Ym (fun z=>?_) (fun _=>q H1 s1)⟩)⟩
  rw [hv] at z
  exact absurd z (by decide)
theorem Zeu(T:Tx K mg){k:Nat}(h:2<=k:=by decide):Z1 P w K mg base CX0 k T.d_refuse_name.f T.d_refuse_name.fd ["name", "known"] Zt1:=(Zjr T).mono h
def Zcr(k:Str):List Str:=if k = "points" then ["left", "right"] else [""]
def Zmj(k lie:Str):List (Str×Str):=if k = "points" then [("stem",lie)] else if k = "cross" then [("a", "b"),("c", "d")] else if k = "plain" then [("a", "b")] else [("", "a")]
def Zpu(k:Str):Bool:=decide (k∈[("plain" :Str), "gate", "stop"])
def Zsz(e:Str):List (Str×Str)->Str
 | [] => ""
 | (one,two) ::r=>if e=one then two else if e=two then one else Zsz e r
def Xp(k e lie:Str):Str:=if lie∈Zcr k then Zsz e (Zmj k lie) else ""
def Zxb(H:Hp)(p:Addr)(l:List (Str×Str)):Prop:=∃as:List Addr,H p=some (.lst (as.map V.ref))/\Paired (fun a (q:Str×Str)=>H a=some (.tup [.str q.1,.str q.2])) as l
def spL(xs:List V):Sp:=fun vs H Q _=>∃v,vs=[v]/\∀p H',Same H H'->H p=none->H' p=some (.lst xs)->Q (.ref p) H'
def spP(f:Str->List (Str×Str)):Sp:=fun vs H Q _=>∃v lie,vs=[v,.str lie]/\∀p H',Same H H'->Zxb H' p (f lie)->Q (.ref p) H'
def spB(b:Bool):Sp:=fun vs H Q _=>∃v,vs=[v]/\Q (.bl b) H
theorem Zfe(T:Tx K mg):Z1 P w K mg base CX0 1 T.d_Part_ends.f T.d_Part_ends.fd ["self"] (spL ((["a", "b"]:List Str).map V.str)):=by
 refine T.d_Part_ends.F.okW Zms fun cdv A outer s H vs Q E hr h=>?_
 ·obtain ⟨v,rfl,k⟩:=h
  exact WSs.last (Zq (Zm (Zb Zf (Zb Zf Za)))) ⟨sz (by simp),k⟩
theorem Zbh(T:Tx K mg):Z1 P w K mg base CX0 1 T.d_Part_lies.f T.d_Part_lies.fd ["self"] (spL (([""]:List Str).map V.str)):=by
 refine T.d_Part_lies.F.okW Zmq fun cdv A outer s H vs Q E hr h=>?_
 ·obtain ⟨v,rfl,k⟩:=h
  exact WSs.last (Zq (Zm (Zb Zf Za))) ⟨sz (by simp),k⟩
theorem Zev(T:Tx K mg):Z1 P w K mg base CX0 1 T.d_Part_pairs.f T.d_Part_pairs.fd ["self", "lie"] (spP fun lie=>[("a", "b")]):=by
 refine T.d_Part_pairs.F.okW Zkj fun cdv A outer s H vs Q E hr h=>?_
 ·obtain ⟨v,lie,rfl,k⟩:=h
  exact WSs.last (Zq (Zm (Zb (Zg (Zb Zf (Zb Zf Za))) Za))) ⟨sz (by simp),fun p1 H1 s1 n1 e1=>⟨sz (by simp),fun p2 H2 s2 n2 e2=>k p2 H2 (s1.trans s2) ⟨[p1],e2,.cons (s2.at e1) .nil⟩⟩⟩
theorem Zb4(T:Tx K mg):Z1 P w K mg base CX0 1 T.d_Part_bears.f T.d_Part_bears.fd ["self"] (spB true):=by
 refine T.d_Part_bears.F.okW Zj4 fun cdv A outer s H vs Q E hr h=>?_
 ·obtain ⟨v,rfl,k⟩:=h
  exact WSs.last (Zq Zcw) k
theorem Zf7(T:Tx K mg):Z1 P w K mg base CX0 1 T.d_Stop_ends.f T.d_Stop_ends.fd ["self"] (spL ((["a"]:List Str).map V.str)):=by
 refine T.d_Stop_ends.F.okW Zl4 fun cdv A outer s H vs Q E hr h=>?_
 ·obtain ⟨v,rfl,k⟩:=h
  exact WSs.last (Zq (Zm (Zb Zf Za))) ⟨sz (by simp),k⟩
theorem Zep(T:Tx K mg):Z1 P w K mg base CX0 1 T.d_Stop_pairs.f T.d_Stop_pairs.fd ["self", "lie"] (spP fun lie=>[("", "a")]):=by
 refine T.d_Stop_pairs.F.okW Zj2 fun cdv A outer s H vs Q E hr h=>?_
 ·obtain ⟨v,lie,rfl,k⟩:=h
  exact WSs.last (Zq (Zm (Zb (Zg (Zb Zf (Zb Zf Za))) Za))) ⟨sz (by simp),fun p1 H1 s1 n1 e1=>⟨sz (by simp),fun p2 H2 s2 n2 e2=>k p2 H2 (s1.trans s2) ⟨[p1],e2,.cons (s2.at e1) .nil⟩⟩⟩
theorem Zjh(T:Tx K mg):Z1 P w K mg base CX0 1 T.d_Points_ends.f T.d_Points_ends.fd ["self"] (spL ((["stem", "left", "right"]:List Str).map V.str)):=by
 refine T.d_Points_ends.F.okW Zjj fun cdv A outer s H vs Q E hr h=>?_
 ·obtain ⟨v,rfl,k⟩:=h
  exact WSs.last (Zq (Zm (Zb Zf (Zb Zf (Zb Zf Za))))) ⟨sz (by simp),k⟩
theorem Zip(T:Tx K mg):Z1 P w K mg base CX0 1 T.d_Points_lies.f T.d_Points_lies.fd ["self"] (spL ((["left", "right"]:List Str).map V.str)):=by
 refine T.d_Points_lies.F.okW Zjt fun cdv A outer s H vs Q E hr h=>?_
 ·obtain ⟨v,rfl,k⟩:=h
  exact WSs.last (Zq (Zm (Zb Zf (Zb Zf Za)))) ⟨sz (by simp),k⟩
theorem Zhn(T:Tx K mg):Z1 P w K mg base CX0 1 T.d_Points_pairs.f T.d_Points_pairs.fd ["self", "lie"] (spP fun lie=>[("stem",lie)]):=by
 refine T.d_Points_pairs.F.okW Zhp fun cdv A outer s H vs Q E hr h=>?_
 ·obtain ⟨v,lie,rfl,k⟩:=h
  exact WSs.last (Zq (Zm (Zb (Zg (Zb Zf (Zb (pv 1) Za))) Za))) ⟨_,rfl,sz (by simp),fun p1 H1 s1 n1 e1=>⟨sz (by simp),fun p2 H2 s2 n2 e2=>k p2 H2 (s1.trans s2) ⟨[p1],e2,.cons (s2.at e1) .nil⟩⟩⟩
theorem Zhe(T:Tx K mg):Z1 P w K mg base CX0 1 T.d_Points_bears.f T.d_Points_bears.fd ["self"] (spB false):=by
 refine T.d_Points_bears.F.okW Zhc fun cdv A outer s H vs Q E hr h=>?_
 ·obtain ⟨v,rfl,k⟩:=h
  exact WSs.last (Zq Zcw) k
theorem Zkm(T:Tx K mg):Z1 P w K mg base CX0 1 T.d_Cross_ends.f T.d_Cross_ends.fd ["self"] (spL ((["a", "b", "c", "d"]:List Str).map V.str)):=by
 refine T.d_Cross_ends.F.okW Zkg fun cdv A outer s H vs Q E hr h=>?_
 ·obtain ⟨v,rfl,k⟩:=h
  exact WSs.last (Zq (Zm (Zb Zf (Zb Zf (Zb Zf (Zb Zf Za)))))) ⟨sz (by simp),k⟩
theorem Zic(T:Tx K mg):Z1 P w K mg base CX0 1 T.d_Cross_pairs.f T.d_Cross_pairs.fd ["self", "lie"] (spP fun lie=>[("a", "b"),("c", "d")]):=by
 refine T.d_Cross_pairs.F.okW Ziq fun cdv A outer s H vs Q E hr h=>?_
 ·obtain ⟨v,lie,rfl,k⟩:=h
  exact WSs.last (Zq (Zm (Zb (Zg (Zb Zf (Zb Zf Za))) (Zb (Zg (Zb Zf (Zb Zf Za))) Za)))) ⟨sz (by simp),fun p1 H1 s1 n1 e1=>⟨sz (by simp),fun p2 H2 s2 n2 e2=>⟨sz (by simp),fun p3 H3 s3 n3 e3=>k p3 H3 (s1.trans (s2.trans s3)) ⟨[p1,p2],e3,.cons (s3.at (s2.at e1)) (.cons (s3.at e2) .nil)⟩⟩⟩⟩
theorem Zir(T:Tx K mg):Z1 P w K mg base CX0 1 T.d_Cross_bears.f T.d_Cross_bears.fd ["self"] (spB false):=by
 refine T.d_Cross_bears.F.okW Ziy fun cdv A outer s H vs Q E hr h=>?_
 ·obtain ⟨v,rfl,k⟩:=h
  exact WSs.last (Zq Zcw) k
theorem Za9.ends{T:Tx K mg}{k:Str}{C:Addr}(h:Za9 T k C):∃f fd,X1 K C "ends" f/\Zcf K fd ["self"] []/\∀(P:Program) (w:World) (base:Heap) (j:Nat),1<=j->Z1 P w K mg base CX0 j f fd ["self"] (spL ((Yc k).map V.str)):=by
 rcases h with ⟨rfl,rfl⟩|⟨rfl,rfl⟩|⟨rfl,rfl⟩|⟨rfl,rfl⟩|⟨rfl,rfl|rfl⟩
 ·exact ⟨_,_,T.mtPoints_ends,T.d_Points_ends.b,fun P w base j hj=>(Zjh T).mono hj⟩
 ·exact ⟨_,_,T.mtCross_ends,T.d_Cross_ends.b,fun P w base j hj=>(Zkm T).mono hj⟩
 ·exact ⟨_,_,T.mtGate_ends,T.d_Stop_ends.b,fun P w base j hj=>(Zf7 T).mono hj⟩
 ·exact ⟨_,_,T.mtStop_ends,T.d_Stop_ends.b,fun P w base j hj=>(Zf7 T).mono hj⟩
 ·exact ⟨_,_,T.mtPart_ends,T.d_Part_ends.b,fun P w base j hj=>(Zfe T).mono hj⟩
 ·exact ⟨_,_,T.mtPlain_ends,T.d_Part_ends.b,fun P w base j hj=>(Zfe T).mono hj⟩
theorem Za9.lies{T:Tx K mg}{k:Str}{C:Addr}(h:Za9 T k C):∃f fd,X1 K C "lies" f/\Zcf K fd ["self"] []/\∀(P:Program) (w:World) (base:Heap) (j:Nat),1<=j->Z1 P w K mg base CX0 j f fd ["self"] (spL ((Zcr k).map V.str)):=by
 rcases h with ⟨rfl,rfl⟩|⟨rfl,rfl⟩|⟨rfl,rfl⟩|⟨rfl,rfl⟩|⟨rfl,rfl|rfl⟩
 ·exact ⟨_,_,T.mtPoints_lies,T.d_Points_lies.b,fun P w base j hj=>(Zip T).mono hj⟩
 ·exact ⟨_,_,T.mtCross_lies,T.d_Part_lies.b,fun P w base j hj=>(Zbh T).mono hj⟩
 ·exact ⟨_,_,T.mtGate_lies,T.d_Part_lies.b,fun P w base j hj=>(Zbh T).mono hj⟩
 ·exact ⟨_,_,T.mtStop_lies,T.d_Part_lies.b,fun P w base j hj=>(Zbh T).mono hj⟩
 ·exact ⟨_,_,T.mtPart_lies,T.d_Part_lies.b,fun P w base j hj=>(Zbh T).mono hj⟩
 ·exact ⟨_,_,T.mtPlain_lies,T.d_Part_lies.b,fun P w base j hj=>(Zbh T).mono hj⟩
theorem Za9.pairs{T:Tx K mg}{k:Str}{C:Addr}(h:Za9 T k C):∃f fd,X1 K C "pairs" f/\Zcf K fd ["self", "lie"] []/\∀(P:Program) (w:World) (base:Heap) (j:Nat),1<=j->Z1 P w K mg base CX0 j f fd ["self", "lie"] (spP (Zmj k)):=by
 rcases h with ⟨rfl,rfl⟩|⟨rfl,rfl⟩|⟨rfl,rfl⟩|⟨rfl,rfl⟩|⟨rfl,rfl|rfl⟩
 ·exact ⟨_,_,T.mtPoints_pairs,T.d_Points_pairs.b,fun P w base j hj=>(Zhn T).mono hj⟩
 ·exact ⟨_,_,T.mtCross_pairs,T.d_Cross_pairs.b,fun P w base j hj=>(Zic T).mono hj⟩
 ·exact ⟨_,_,T.mtGate_pairs,T.d_Stop_pairs.b,fun P w base j hj=>(Zep T).mono hj⟩
 ·exact ⟨_,_,T.mtStop_pairs,T.d_Stop_pairs.b,fun P w base j hj=>(Zep T).mono hj⟩
 ·exact ⟨_,_,T.mtPart_pairs,T.d_Part_pairs.b,fun P w base j hj=>(Zev T).mono hj⟩
 ·exact ⟨_,_,T.mtPlain_pairs,T.d_Part_pairs.b,fun P w base j hj=>(Zev T).mono hj⟩
theorem Za9.bears{T:Tx K mg}{k:Str}{C:Addr}(h:Za9 T k C):∃f fd,X1 K C "bears" f/\Zcf K fd ["self"] []/\∀(P:Program) (w:World) (base:Heap) (j:Nat),1<=j->Z1 P w K mg base CX0 j f fd ["self"] (spB (Zpu k)):=by
 rcases h with ⟨rfl,rfl⟩|⟨rfl,rfl⟩|⟨rfl,rfl⟩|⟨rfl,rfl⟩|⟨rfl,rfl|rfl⟩
 ·exact ⟨_,_,T.mtPoints_bears,T.d_Points_bears.b,fun P w base j hj=>(Zhe T).mono hj⟩
 ·exact ⟨_,_,T.mtCross_bears,T.d_Cross_bears.b,fun P w base j hj=>(Zir T).mono hj⟩
 ·exact ⟨_,_,T.mtGate_bears,T.d_Part_bears.b,fun P w base j hj=>(Zb4 T).mono hj⟩
 ·exact ⟨_,_,T.mtStop_bears,T.d_Part_bears.b,fun P w base j hj=>(Zb4 T).mono hj⟩
 ·exact ⟨_,_,T.mtPart_bears,T.d_Part_bears.b,fun P w base j hj=>(Zb4 T).mono hj⟩
 ·exact ⟨_,_,T.mtPlain_bears,T.d_Part_bears.b,fun P w base j hj=>(Zb4 T).mono hj⟩
theorem Za9.cls{T:Tx K mg}{k:Str}{C:Addr}(h:Za9 T k C):Cls K C/\Wj K C "name" /\X1 K C "leads" T.d_Part_leads.f:=by
 rcases h with ⟨rfl,rfl⟩|⟨rfl,rfl⟩|⟨rfl,rfl⟩|⟨rfl,rfl⟩|⟨rfl,rfl|rfl⟩
 ·exact ⟨T.clPoints,T.nPoints_name,T.mtPoints_leads⟩
 ·exact ⟨T.clCross,T.nCross_name,T.mtCross_leads⟩
 ·exact ⟨T.clGate,T.nGate_name,T.mtGate_leads⟩
 ·exact ⟨T.clStop,T.nStop_name,T.mtStop_leads⟩
 ·exact ⟨T.clPart,T.nPart_name,T.mtPart_leads⟩
 ·exact ⟨T.clPlain,T.nPlain_name,T.mtPlain_leads⟩
theorem Za9.stop{T:Tx K mg}{k:Str}{C x:Addr}{nm:Str}{H:Hp}(h:Za9 T k C)(o:Zdt H C x nm):∃t,Zbm K H (.ref x) t/\kitOne K t (.ref T.CStop)=some (decide (k = "gate" \/k = "stop")):=by
 obtain ⟨dx,o⟩:=o
 rcases h with ⟨rfl,rfl⟩|⟨rfl,rfl⟩|⟨rfl,rfl⟩|⟨rfl,rfl⟩|⟨rfl,rfl|rfl⟩
 ·exact ⟨_,Zbm.ins o T.clPoints T.tcPoints T.tG T.tK T.tmPoints,T.iPoints⟩
 ·exact ⟨_,Zbm.ins o T.clCross T.tcCross T.tG T.tK T.tmCross,T.iCross⟩
 ·exact ⟨_,Zbm.ins o T.clGate T.tcGate T.tG T.tK T.tmGate,T.iGate⟩
 ·exact ⟨_,Zbm.ins o T.clStop T.tcStop T.tG T.tK T.tmStop,T.iStop⟩
 ·exact ⟨_,Zbm.ins o T.clPart T.tcPart T.tG T.tK T.tmPart,T.iPart⟩
 ·exact ⟨_,Zbm.ins o T.clPlain T.tcPlain T.tG T.tK T.tmPlain,T.iPlain⟩
def Zre(T:Tx K mg):Sp:=fun vs H Q _=>∃(k:Str) (a C:Addr) (nm e l:Str),vs=[.ref a,.str e,.str l]/\Za9 T k C/\Zdt H C a nm/\∀H',Same H H'->Q (.str (Xp k e l)) H'
theorem Zkl(T:Tx K mg):Z1 P w K mg base CX0 2 T.d_Part_leads.f T.d_Part_leads.fd ["self", "end", "lie"] (Zre T):=by
 refine T.d_Part_leads.F.okW Zda fun cdv A outer s H vs Q E hr h=>?_
 ·obtain ⟨k,a,C,nm,e,l,rfl,hC,⟨dx,ha⟩,q⟩:=h
  obtain ⟨f1,d1,m1,b1,g1⟩:=hC.lies
  obtain ⟨f2,d2,m2,b2,g2⟩:=hC.pairs
  have cC:=hC.cls.1
  refine WSs.step (Ye (Zs (r:=Zck K) (Zc3 hr) (pv 2) Zuh (by with_unfolding_all rfl)) Z2 Zv) ⟨_,rfl,WE.of (Zd1 (pv 0) cC m1 (g1 _ _ _ 1 (by decide)) hr b1 .nil Z3) ⟨_,rfl,a,dx,_,rfl,ha,rfl,_,rfl,fun p H1 s1 n1 e1=>.inl ⟨p,_,rfl,.inl (SqL.of e1),rfl,Zae _,_,rfl,?_⟩⟩⟩
  rw [if_pos rfl,Zbk]
  refine Ym (fun hc=>?_) (fun hc=>?_)
  ·have hc:¬l∈Zcr k:=by simpa using hc
   refine WSs.last (Zq Zf) ?_
   have:Xp k e l = "" :=by unfold Xp;rw [if_neg hc]
   rw [this] at q
   exact q H1 s1
  ·have hc:l∈Zcr k:=by simpa using hc
   refine WSs.step (Wi PassesOwn.never rfl (Yx Zuh) (Zbt rfl (Z6 (Y5 (i:=3) Zda.nd) (Z6 (Y5 (i:=4) Zda.nd) X2))) Z2) (WE.of (Zc7 (pv 0) cC m2 (g2 _ _ _ 1 (by decide)) hr b2 .nil Z3 (Zb (pv 2) Za)) ⟨_,rfl,a,dx,_,rfl,s1.at ha,rfl,_,rfl,_,l,rfl,fun p2 H2 s2 e2=>?_⟩)
   obtain ⟨as,h1,h2⟩:=e2
   let I17:=fun (i:Nat) (σ:St) (H':Hp)=>(∃o3 o4,σ=[some (.ref a),some (.str e),some (.str l),o3,o4])/\Same H2 H'/\Zsz e ((Zmj k l).drop i)=Xp k e l
   refine ⟨p2,rfl,⟨_,SqL.of h1⟩,W6 (xs:=as.map V.ref) I17 ?_ ?_ ?_ ?_⟩
   ·refine ⟨⟨none,none,rfl⟩,Same.refl _,?_⟩
    unfold Xp
    rw [if_pos hc]
    rfl
   ·rintro i σ H' _ ⟨_,s3,_⟩
    exact SqL.of (s3.at h1)
   ·rintro i x σ H' hx ⟨⟨o3,o4,rfl⟩,s3,hs⟩
    rw [List.getElem?_map] at hx
    obtain ⟨ai,hai,rfl⟩:=Option.map_eq_some_iff.mp hx
    obtain ⟨⟨one,two⟩,hq,ht⟩:=Paired.get h2 hai
    rw [Zit hq] at hs
    refine ⟨ai,_,rfl,SqT.of (s3.at ht),rfl,_,_,rfl,_,_,rfl,rfl,?_⟩
    refine WSs.step (Ye (Zs (r:=Zaz K) (Zba hr) (pv 1) (pv 3) (Z4 _)) Z2 Zv) ⟨_,rfl,_,rfl,.inl ⟨rfl,_,rfl,Ym (fun hc=>?_) (fun hc=>?_)⟩⟩
    ·have hc:e=one:=V.str.inj (of_decide_eq_true hc)
     refine WSs.last (Zq (pv 4)) ⟨_,rfl,?_⟩
     unfold Zsz at hs
     rw [if_pos hc] at hs
     rw [<-hs] at q
     exact q _ (s1.trans (s2.trans s3))
    ·have hc:¬e=one:=fun z=>hc (decide_eq_true (by rw [z]))
     refine WSs.last (Ye (Zs (r:=Zaz K) (Zba hr) (pv 1) (pv 4) (Z4 _)) Z2 Zv) ⟨_,rfl,_,rfl,.inl ⟨rfl,_,rfl,Ym (fun hc2=>?_) (fun hc2=>?_)⟩⟩
     ·have hc2:e=two:=V.str.inj (of_decide_eq_true hc2)
      refine WSs.last (Zq (pv 3)) ⟨_,rfl,?_⟩
      unfold Zsz at hs
      rw [if_neg hc,if_pos hc2] at hs
      rw [<-hs] at q
      exact q _ (s1.trans (s2.trans s3))
     ·have hc2:¬e=two:=fun z=>hc2 (decide_eq_true (by rw [z]))
      unfold Zsz at hs
      rw [if_neg hc,if_neg hc2] at hs
      exact ⟨⟨_,_,rfl⟩,s3,hs⟩
   ·rintro σ H' ⟨_,s3,hs⟩
    refine WSs.last (Zq Zf) ?_
    have e0:(Zmj k l).drop (as.map V.ref).length=[]:=by rw [List.length_map,Paired.length h2,List.drop_length]
    rw [e0] at hs
    rw [<-hs] at q
    exact q _ (s1.trans (s2.trans s3))
theorem Zma(T:Tx K mg){k:Nat}(h:2<=k:=by decide):Z1 P w K mg base CX0 k T.d_Part_leads.f T.d_Part_leads.fd ["self", "end", "lie"] (Zre T):=(Zkl T).mono h
theorem _root_.L2.Same.upd0{H H':Hp}{d:Addr}{o:HO}(s:Same H H')(n:H d=none):Same H (upd H' d o):=fun b u e=>by rw [Zj (Zi e n)];exact s.at e
def PO(T:Tx K mg)(H:Hp)(x:Addr)(p:Zc):Prop:=∃C,Za9 T p.1 C/\Zdt H C x p.2
theorem PO.mono{T:Tx K mg}{H H':Hp}{x:Addr}{p:Zc}(e:Same H H')(h:PO T H x p):PO T H' x p:=let ⟨C,h1,h2⟩:=h;⟨C,h1,h2.mono e⟩
def Zxd(T:Tx K mg):Sp:=fun vs H Q _=>∃(l:Addr) (xs:List Addr) (ps:List Zc),vs=[.ref l]/\H l=some (.lst (xs.map V.ref))/\Paired (PO T H) xs ps/\(ps.map Prod.snd).Nodup/\(∀p∈ps,Zci p.2)/\ps.length<=100 /\
 ∀(d:Addr) (kvs:List (Key×V)) (H':Hp),Same H H'->H d=none->H' d=some (.dK kvs)->DP Yh (RP T H) kvs (qP ps)->Q (.ref d) H'
theorem Zf9(T:Tx K mg):Z1 P w K mg base CX0 3 T.d_parts_by_name.f T.d_parts_by_name.fd ["parts"] (Zxd T):=by
 refine T.d_parts_by_name.F.okW Zbu fun cdv A outer s H vs Q E hr h=>?_
 ·obtain ⟨l,xs,ps,rfl,hl,hx,nd,nm,len,q⟩:=h
  have hxl:=Paired.length hx
  refine WSs.step (Zx (i:=1) Zbu.nd Zgh) fun d H1 s1 n1 e1=>?_
  let I18:=fun (i:Nat) (σ:St) (H':Hp)=>(∃o,σ=[some (.ref l),some (.ref d),o])/\Same H H'/\∃kvs,H' d=some (.dK kvs)/\DP Yh (RP T H) kvs (qP (ps.take i))
  refine WSs.step (Wi PassesOwn.never rfl (Yx (pv 0)) (Y5 (i:=2) Zbu.nd) Z2) ⟨_,rfl,l,rfl,⟨_,SqL.of (s1.at hl)⟩,W6 (K:=K) (xs:=xs.map V.ref) I18 ⟨⟨none,rfl⟩,s1,[],e1,.nil⟩ ?_ ?_ ?_⟩
  ·rintro i σ H' _ ⟨_,s2,_⟩
   exact SqL.of (s2.at hl)
  ·rintro i v σ H2 hi ⟨⟨o,rfl⟩,s2,kvs,hd,hD⟩
   rw [List.getElem?_map] at hi
   obtain ⟨x,hxi,rfl⟩:=Option.map_eq_some_iff.mp hi
   obtain ⟨p,hp,C,hC,dx,hO⟩:=Paired.get hx hxi
   have hm:p∈ps:=List.mem_of_getElem? hp
   have hil:=(List.getElem?_eq_some_iff.mp hp).1
   have hn:Y4 kvs (Yh p.2)=none:=hD.none Zdd (by
    rw [Zlt,List.map_take]
    exact Zea nd (by rw [List.getElem?_map,hp];rfl))
   have hkl:kvs.length<=100:=by
    have:=hD.len
    unfold qP at this
    rw [List.length_map,List.length_take] at this
    omega
   refine WSs.step (Wk (Zu (Zeu T) hr rfl T.m_refuse_name T.d_refuse_name.F.kp T.d_refuse_name.b .nil Z3 (Zb (W3 (pv 2) rfl) (Zb (pv 1) Za)))) ⟨_,rfl,x,C,dx,_,_,rfl,s2.at hO,hC.cls.1,hC.cls.2.1,rfl,_,rfl,p.2,d,kvs,rfl,nm p hm,hd,hn,fun H3 s3=>?_⟩
   have s13:=s2.trans s3
   refine WSs.last (Zcj (Wc hr) (pv 1) (W3 (pv 2) rfl) (pv 2) rfl) ⟨_,rfl,_,rfl,_,rfl,x,C,dx,_,_,rfl,s13.at hO,hC.cls.1,hC.cls.2.1,rfl,d,_,rfl,Ze4.k (k:=Yh p.2) (s3.at hd) (Zy (by omega)),⟨_,rfl⟩,s13.upd0 n1,_,Zh,?_⟩
   have:qP (ps.take (i+1))=qP (ps.take i)++[(p.2,p.1)]:=by
    unfold qP
    rw [List.take_add_one,hp,List.map_append]
    rfl
   rw [this]
   exact hD.put hn ⟨x,C,rfl,hC,dx,hO⟩
  ·rintro σ H2 ⟨⟨o,rfl⟩,s2,kvs,hd,hD⟩
   rw [List.length_map,hxl,List.take_length] at hD
   exact WSs.last (Zq (pv 1)) ⟨_,rfl,q d kvs H2 s2 n1 hd hD⟩
theorem Zhq(T:Tx K mg){k:Nat}(h:3<=k:=by decide):Z1 P w K mg base CX0 k T.d_parts_by_name.f T.d_parts_by_name.fd ["parts"] (Zxd T):=(Zf9 T).mono h
theorem _root_.L2.Same.frz{H H1:Hp}{d:Addr}{u:HO}(s:Same H H1):Same (upd H d u) (upd H1 d u):=fun b o e=>by
 by_cases z:b=d
 ·rw [z,Zh] at e ⊢;exact e
 ·rw [Zj z] at e ⊢;exact s.at e
def Zxw(T:Tx K mg):Sp:=fun vs H Q _=>∃(d:Addr) (kvs:List (Key×V)) (ps:List Zc),vs=[.ref d]/\H d=some (.dK kvs)/\DP Yh (RP T H) kvs (qP ps)/\(ps.map Prod.snd).Nodup/\ps.length<=100 /\
 ∀(a:Addr) (ka:List (List Key×V)) (H':Hp),Same H H'->H a=none->H' a=some (.dT ka)->DP Yq (RA T H) ka (qA ps)->Q (.ref a) H'
theorem Zt9(ps:List Zc):(qA ps).length<=4 * ps.length:=by
 induction ps with
 | nil=>decide
 | cons p ps ih =>
  have:=Zh2 p.1
  have e:qA (p ::ps)=(Yc p.1).map (fun e=>((p.2,e),p.1))++qA ps:=rfl
  rw [e,List.length_append,List.length_map,List.length_cons]
  omega
theorem Zqx{ps:List Zc}{i:Nat}{p:Zc}(h:ps[i]? =some p):qA (ps.take (i+1))=qA (ps.take i)++(Yc p.1).map fun e=>((p.2,e),p.1):=by
 unfold qA
 rw [List.take_add_one,h,List.flatMap_append]
 simp
theorem Zge(T:Tx K mg):Z1 P w K mg base CX0 2 T.d_ends_to_parts.f T.d_ends_to_parts.fd ["part_of"] (Zxw T):=by
 refine T.d_ends_to_parts.F.okW Wf fun cdv A outer s H vs Q E hr h=>?_
 ·obtain ⟨d,kvs,ps,rfl,hd,hD,nd,len,q⟩:=h
  have hkl:kvs.length=ps.length:=by have:=hD.len;unfold qP at this;rw [List.length_map] at this;exact this
  refine WSs.step (Zx (i:=1) Wf.nd Zee) fun a H1 s1 n1 e1=>?_
  have had:a≠d:=fun z=>by rw [z,hd] at n1;cases n1
  refine WSs.step (Zvi (Wi PassesOwn.never rfl (Zjq (pv 0)) (Zbt rfl (Z6 (Y5 (i:=2) Wf.nd) (Z6 (Y5 (i:=3) Wf.nd) X2))) Z2)) ⟨_,rfl,d,_,rfl,s1.at hd,fun o nf=>Zrq (fun i σ H'=>(∃o2 o3 o4,σ=[some (.ref d),some (.ref a),o2,o3,o4])/\Same (upd H d (.frz o (.dK kvs))) H'/\∃ka,H' a=some (.dT ka)/\DP Yq (RA T H) ka (qA (ps.take i))) ⟨⟨none,none,none,rfl⟩,s1.frz,[],by rw [Zj had];exact e1,.nil⟩ ?_ ?_ ?_⟩
  ·rintro i σ H' _ ⟨_,s2,_⟩
   exact s2.at Zh
  ·rintro i kv σ H2 hi ⟨⟨o2,o3,o4,rfl⟩,s2,ka,ha,hA⟩ tp H3 s3 n3 e3
   obtain ⟨⟨nm,kd⟩,hq,hk,x,C,hv,hC,dx,hO⟩:=Paired.get hD hi
   have hp:ps[i]? =some (kd,nm):=by
    unfold qP at hq
    rw [List.getElem?_map] at hq
    obtain ⟨⟨p1,p2⟩,hp,e⟩:=Option.map_eq_some_iff.mp hq
    rw [hp]
    simp only [Prod.mk.injEq] at e
    rw [e.1,e.2]
   have hil:=(List.getElem?_eq_some_iff.mp hp).1
   have hxd:x≠d:=fun z=>by rw [z,hd] at hO;cases hO
   have hOF:upd H d (.frz o (.dK kvs)) x=some (.ins C dx [("name",.str nm)]):=by rw [Zj hxd];exact hO
   obtain ⟨f1,d1,m1,b1,g1⟩:=hC.ends
   have hk:kv.1=Sum.inr nm:=hk
   rw [hk,hv] at e3
   have hFa:upd H d (.frz o (.dK kvs)) a=none:=by rw [Zj had];exact n1
   refine ⟨tp,_,rfl,SqT.of e3,rfl,_,_,rfl,_,_,rfl,rfl,?_⟩
   have s23:=s2.trans s3
   refine WSs.last (Wi PassesOwn.never rfl (Yx Zuh) (Y5 (i:=4) Wf.nd) Z2) (WE.of (Zd1 (pv 3) hC.cls.1 m1 (g1 _ _ _ 1 (by decide)) hr b1 .nil Z3) ⟨_,rfl,x,dx,_,rfl,s23.at hOF,rfl,_,rfl,fun p H4 s4 n4 e4=>⟨p,rfl,⟨_,SqL.of e4⟩,W6 (K:=K) (xs:=(Yc kd).map V.str) (fun j σ H'=>(∃o4,σ=[some (.ref d),some (.ref a),some (.str nm),some (.ref x),o4])/\Same (upd H d (.frz o (.dK kvs))) H'/\H' p=some (.lst ((Yc kd).map V.str))/\∃ka,H' a=some (.dT ka)/\DP Yq (RA T H) ka (qA (ps.take i)++((Yc kd).take j).map fun e=>((nm,e),kd))) ⟨⟨_,rfl⟩,s23.trans s4,e4,ka,s4.at (s3.at ha),by rw [List.take_zero,List.map_nil,List.append_nil];exact hA⟩ ?_ ?_ ?_⟩⟩)
   ·rintro j σ H' _ ⟨_,_,z,_⟩
    exact SqL.of z
   ·rintro j v σ H5 hj ⟨⟨o4,rfl⟩,s5,hp5,ka5,ha5,hA5⟩
    rw [List.getElem?_map] at hj
    obtain ⟨e,he,rfl⟩:=Option.map_eq_some_iff.mp hj
    have hlen5:ka5.length<=500:=by
     have h1:=hA5.len
     have h2:=Zt9 (ps.take i)
     have h3:=Zh2 kd
     rw [List.length_append,List.length_map,List.length_take] at h1
     rw [List.length_take] at h2
     omega
    have hnew:Y4 ka5 (Yq (nm,e))=none:=hA5.none Xg (by
     have h1:(Yb (ps.take (i+1))).Nodup:=Za3 (by rw [List.map_take];exact nd.sublist (List.take_sublist _ _))
     rw [<-Zl3,Zqx hp,List.map_append] at h1
     rw [List.map_append]
     have ed:Yc kd=(Yc kd).take j++(e ::(Yc kd).drop (j+1)):=by rw [<-Zit he,List.take_append_drop]
     rw [show ((kd,nm):Zc).1=kd from rfl,ed,List.map_append,List.map_append,List.map_cons,List.map_cons,<-List.append_assoc,List.nodup_append] at h1
     intro m
     exact h1.2.2 _ m _ List.mem_cons_self rfl)
    refine WSs.last (Zcj (Wc hr) (pv 1) (Zg (Zb (pv 2) (Zb (pv 4) Za))) (pv 3) rfl) ⟨_,rfl,_,rfl,_,rfl,_,rfl,sz (by simp),fun t H6 s6 n6 e6=>⟨a,_,rfl,Ze4.t (k:=Yq (nm,e)) (s6.at ha5) e6 (Zy (by omega)),⟨_,rfl⟩,(s5.trans s6).upd0 hFa,?_,_,Zh,?_⟩⟩
    ·rw [Zj (Zxm hp5 ha5 (fun z=>nomatch z))]
     exact s6.at hp5
    ·have:((Yc kd).take (j+1)).map (fun e=>((nm,e),kd))=((Yc kd).take j).map (fun e=>((nm,e),kd))++[((nm,e),kd)]:=by
      rw [List.take_add_one,he,List.map_append]
      rfl
     rw [this,<-List.append_assoc]
     exact hA5.put hnew ⟨x,C,rfl,hC,dx,hO⟩
   ·rintro σ H5 ⟨⟨o4,rfl⟩,s5,hp5,ka5,ha5,hA5⟩
    rw [List.length_map,List.take_length] at hA5
    refine ⟨⟨_,_,_,rfl⟩,s5,ka5,ha5,?_⟩
    rw [Zqx hp]
    exact hA5
  ·rintro σ H2 ⟨⟨o2,o3,o4,rfl⟩,s2,ka,ha,hA⟩
   rw [hkl,List.take_length] at hA
   refine ⟨d,o,_,s2.at Zh,nf,WSs.last (Zq (pv 1)) ⟨_,rfl,q a ka _ (s2.thaw hd) n1 ?_ hA⟩⟩
   rw [Zj had]
   exact ha
theorem Zhd(T:Tx K mg){k:Nat}(h:2<=k:=by decide):Z1 P w K mg base CX0 k T.d_ends_to_parts.f T.d_ends_to_parts.fd ["part_of"] (Zxw T):=(Zge T).mono h
def Zue:Sp:=fun vs H Q _=>∃(t:Addr) (u v:V),vs=[.ref t]/\H t=some (.tup [u,v])/\Q (.bl true) H
theorem Zpj(T:Tx K mg):Z1 P w K mg base CX0 1 T.d_is_pair.f T.d_is_pair.fd ["thing"] Zue:=by
 refine T.d_is_pair.F.okW Zo0 fun cdv A outer s H vs Q E hr h=>?_
 ·obtain ⟨t,u,v,rfl,ht,q⟩:=h
  exact WSs.last (Zq (Zdu (Z0 (r:=Zor K) Zbx (by rfl) T.n_isinstance PyProof.Rows.boot_isinstance (Zb (pv 0) (Zb (Zd9 (v:=.ty "tuple") (by rfl) T.n_tuple PyProof.Rows.boot_tuple rfl) Za))) (Zfa (W1 (r:=Zaz K) (Zba hr) (Z0 (r:=X0 K) X3 (by rfl) T.n_len PySem.boot_len (Zb (pv 0) Za)) Ze (Z4 _))))) ⟨_,rfl,_,_,true,_,rfl,Zbm.tup ht,.inl ⟨_,rfl,T.kTT⟩,_,rfl,Zhv ⟨_,rfl,.inl ⟨t,_,rfl,.inr (SqT.of ht),.inl ⟨rfl,q⟩⟩⟩⟩
theorem Zln(T:Tx K mg){k:Nat}(h:1<=k:=by decide):Z1 P w K mg base CX0 k T.d_is_pair.f T.d_is_pair.fd ["thing"] Zue:=(Zpj T).mono h
def Ybe:Sp:=fun vs H Q _=>∃(t d:Addr) (e:Zc) (kvs:List (List Key×V)),vs=[.ref t,.ref d]/\Zw H t e/\H d=some (.dT kvs)/\Q (.bl (Y4 kvs (Yq e)).isSome) H
theorem Zoj(T:Tx K mg):Z1 P w K mg base CX0 2 T.d_is_known.f T.d_is_known.fd ["end", "ends"] Ybe:=by
 refine T.d_is_known.F.okW Zod fun cdv A outer s H vs Q E hr h=>?_
 ·obtain ⟨t,d,e,kvs,rfl,ht,hd,q⟩:=h
  exact WSs.last (Zq (Zdu (Zu (Zln T) hr rfl T.m_is_pair T.d_is_pair.F.kp T.d_is_pair.b .nil Z3 (Zb (pv 0) Za)) (Zdu (Z0 (r:=Zor K) Zbx (by rfl) T.n_isinstance PyProof.Rows.boot_isinstance (Zb (Zp (r:=rIx K) Zk (pv 0) Ze (fun _ _=>rfl)) (Zb (Zd9 (v:=.ty "str") (by rfl) T.n_str PyProof.Rows.boot_str rfl) Za))) (Zdu (Z0 (r:=Zor K) Zbx (by rfl) T.n_isinstance PyProof.Rows.boot_isinstance (Zb (Zp (r:=rIx K) Zk (pv 0) Ze (fun _ _=>rfl)) (Zb (Zd9 (v:=.ty "str") (by rfl) T.n_str PyProof.Rows.boot_str rfl) Za))) (Zfa (W1 (r:=Zhg K) (Zim hr) (pv 0) (pv 1) (by with_unfolding_all rfl))))))) ⟨_,rfl,t,_,_,rfl,ht,_,rfl,Zhv ⟨_,rfl,.inr (.inl ⟨t,_,0,_,rfl,rfl,SqT.of ht,Zn (j:=0) rfl,_,_,true,_,rfl,Zbm.str _,.inl ⟨_,rfl,T.kSS⟩,_,rfl,Zhv ⟨_,rfl,.inr (.inl ⟨t,_,1,_,rfl,rfl,SqT.of ht,Zn (j:=1) rfl,_,_,true,_,rfl,Zbm.str _,.inl ⟨_,rfl,T.kSS⟩,_,rfl,Zhv ⟨_,rfl,_,rfl,.inr (.inl ⟨d,_,rfl,Zar.t (k:=Yq e) hd ht,q⟩)⟩⟩)⟩⟩)⟩⟩
theorem Zbz(T:Tx K mg){k:Nat}(h:2<=k:=by decide):Z1 P w K mg base CX0 k T.d_is_known.f T.d_is_known.fd ["end", "ends"] Ybe:=(Zoj T).mono h
def Yae:Sp:=fun vs H Q _=>∃(t pa d a b:Addr) (e1 e2:Zc) (ka kd:List (List Key×V)),vs=[.ref t,.ref pa,.ref d]/\H t=some (.tup [.ref a,.ref b])/\Zw H a e1/\Zw H b e2/\H pa=some (.dT ka)/\H d=some (.dT kd) /\
 (Y4 ka (Yq e1)).isSome=true/\(Y4 ka (Yq e2)).isSome=true/\Y4 kd (Yq e1)=none/\Y4 kd (Yq e2)=none/\e1.1≠e2.1/\Q .non H
theorem Zis(T:Tx K mg):Z1 P w K mg base CX0 3 T.d_refuse_join.f T.d_refuse_join.fd ["join", "part_at", "joined"] Yae:=by
 refine T.d_refuse_join.F.okW Zd5 fun cdv A outer s H vs Q E hr h=>?_
 ·obtain ⟨t,pa,d,a,b,e1,e2,ka,kd,rfl,ht,ha,hb,hpa,hd,k1,k2,n1,n2,ne,q⟩:=h
  refine WSs.step (Ye (Zc9 (Wz (Zu (Zln T) hr rfl T.m_is_pair T.d_is_pair.F.kp T.d_is_pair.b .nil Z3 (Zb (pv 0) Za)))) Z2 Zv) ⟨_,rfl,t,_,_,rfl,ht,_,rfl,Ym (fun z=>absurd z (by decide)) (fun _=>?_)⟩
  let I19:=fun (i:Nat) (σ:St) (H':Hp)=>(∃o,σ=[some (.ref t),some (.ref pa),some (.ref d),o])/\H'=H
  refine WSs.step (Wi PassesOwn.never rfl (Zp6 (pv 0)) (Y5 (i:=3) Zd5.nd) Z2) ⟨_,rfl,t,rfl,⟨_,SqT.of ht⟩,Zvy (K:=K) (xs:=[.ref a,.ref b]) I19 ⟨⟨none,rfl⟩,rfl⟩ ?_ ?_ ?_⟩
  ·rintro i σ H' _ ⟨_,rfl⟩
   exact SqT.of ht
  ·rintro i v σ H' hi ⟨⟨o,rfl⟩,hH⟩
   rw [hH]
   obtain ⟨x,e,rfl,hx,h1,h2⟩:∃x e,v=V.ref x/\Zw H x e/\(Y4 ka (Yq e)).isSome=true/\Y4 kd (Yq e)=none:=by
    match i,hi with
    | 0,hi=>cases hi;exact ⟨a,e1,rfl,ha,k1,n1⟩
    | 1,hi=>cases hi;exact ⟨b,e2,rfl,hb,k2,n2⟩
   refine WSs.step (Ye (Zc9 (Wz (Zu (Zbz T) hr rfl T.m_is_known T.d_is_known.F.kp T.d_is_known.b .nil Z3 (Zb (pv 3) (Zb (pv 1) Za))))) Z2 Zv) ⟨_,rfl,_,rfl,x,pa,e,ka,rfl,hx,hpa,_,rfl,Ym (fun z=>?_) (fun _=>?_)⟩
   ·rw [h1] at z
    exact absurd z (by decide)
   refine WSs.last (Ye (Zs (r:=Zhg K) (Zim hr) (pv 3) (pv 2) (by with_unfolding_all rfl)) Z2 Zv) ⟨_,rfl,_,rfl,.inr (.inl ⟨d,_,rfl,Zar.t (k:=Yq e) hd hx,_,rfl,Ym (fun z=>?_) (fun _=>⟨⟨_,rfl⟩,rfl⟩)⟩)⟩
   rw [h2] at z
   exact absurd z (by decide)
  ·rintro σ H' ⟨⟨o,rfl⟩,hH⟩
   rw [hH]
   refine WSs.last (Ye (Zs (r:=Zaz K) (Zba hr) (Zp (r:=rIx K) Zk (Zp (r:=rIx K) Zk (pv 0) Ze (fun _ _=>rfl)) Ze (fun _ _=>rfl)) (Zp (r:=rIx K) Zk (Zp (r:=rIx K) Zk (pv 0) Ze (fun _ _=>rfl)) Ze (fun _ _=>rfl)) (Z4 _)) Z2 Zv) ⟨_,rfl,.inr (.inl ⟨t,_,0,_,rfl,rfl,SqT.of ht,Zn (j:=0) rfl,.inr (.inl ⟨a,_,0,_,rfl,rfl,SqT.of ha,Zn (j:=0) rfl,_,rfl,.inr (.inl ⟨t,_,1,_,rfl,rfl,SqT.of ht,Zn (j:=1) rfl,.inr (.inl ⟨b,_,0,_,rfl,rfl,SqT.of hb,Zn (j:=0) rfl,.inl ⟨rfl,_,rfl,Ym (fun z=>?_) (fun _=>q)⟩⟩)⟩)⟩)⟩)⟩
   exact absurd (V.str.inj (of_decide_eq_true z)) ne
theorem Zke(T:Tx K mg){k:Nat}(h:3<=k:=by decide):Z1 P w K mg base CX0 k T.d_refuse_join.f T.d_refuse_join.fd ["join", "part_at", "joined"] Yae:=(Zis T).mono h
def Zz2:Sp:=fun vs H Q _=>∃(jl pa:Addr) (js:List (Zc×Zc)) (ka:List (List Key×V)),vs=[.ref jl,.ref pa]/\Yj H jl js/\H pa=some (.dT ka)/\(∀e∈Y0 js,(Y4 ka (Yq e)).isSome=true)/\ka.length=(Y0 js).length/\(Y0 js).Nodup/\(∀j∈js,j.1.1≠j.2.1)/\js.length<=300 /\
 ∀(d:Addr) (kj:List (List Key×V)) (H':Hp),Same H H'->H d=none->H' d=some (.dT kj)->DP Yq (RJ H) kj (qJ js)->Q (.ref d) H'
theorem Zh7{js:List (Zc×Zc)}{i:Nat}{j:Zc×Zc}(h:js[i]? =some j):qJ (js.take (i+1))=qJ (js.take i)++[(j.1,j.2)]++[(j.2,j.1)]:=by
 unfold qJ
 rw [List.take_add_one,h,List.flatMap_append]
 simp
theorem Zo9(js:List (Zc×Zc)):(qJ js).length=2 * js.length:=by
 induction js with
 | nil=>rfl
 | cons j js ih =>
  have e:qJ (j ::js)=[(j.1,j.2),(j.2,j.1)]++qJ js:=rfl
  rw [e,List.length_append,ih]
  simp only [List.length_cons,List.length_nil]
  omega
theorem Zi0(T:Tx K mg):Z1 P w K mg base CX0 4 T.d_joined_ends.f T.d_joined_ends.fd ["joins", "part_at"] Zz2:=by
 refine T.d_joined_ends.F.okW Zcu fun cdv A outer s H vs Q E hr h=>?_
 ·obtain ⟨jl,pa,js,ka,rfl,hJ,hpa,hk,hkl,nd,apart,len,q⟩:=h
  obtain ⟨ts,hl,hts⟩:=hJ
  have htl:=Paired.length hts
  refine WSs.step (Zx (i:=2) Zcu.nd Zee) fun d H1 s1 n1 e1=>?_
  let I20:=fun (i:Nat) (σ:St) (H':Hp)=>(∃o,σ=[some (.ref jl),some (.ref pa),some (.ref d),o])/\Same H H'/\∃kj,H' d=some (.dT kj)/\DP Yq (RJ H) kj (qJ (js.take i))
  refine WSs.step (Wi PassesOwn.never rfl (Yx (pv 0)) (Y5 (i:=3) Zcu.nd) Z2) ⟨_,rfl,jl,rfl,⟨_,SqL.of (s1.at hl)⟩,W6 (K:=K) (xs:=ts.map V.ref) I20 ⟨⟨none,rfl⟩,s1,[],e1,.nil⟩ ?_ ?_ ?_⟩
  ·rintro i σ H' _ ⟨_,s2,_⟩
   exact SqL.of (s2.at hl)
  ·rintro i v σ H2 hi ⟨⟨o,rfl⟩,s2,kj,hd,hD⟩
   rw [List.getElem?_map] at hi
   obtain ⟨t,hti,rfl⟩:=Option.map_eq_some_iff.mp hi
   obtain ⟨j,hj,a,b,ht,ha,hb⟩:=Paired.get hts hti
   have hm:j∈js:=List.mem_of_getElem? hj
   have hil:=(List.getElem?_eq_some_iff.mp hj).1
   have m1:j.1∈Y0 js:=List.mem_flatMap.mpr ⟨j,hm,by simp⟩
   have m2:j.2∈Y0 js:=List.mem_flatMap.mpr ⟨j,hm,by simp⟩
   have hlen:kj.length<=600:=by
    have h1:=hD.len
    rw [Zo9,List.length_take] at h1
    omega
   have hnd:(Y0 (js.take i)++[j.1]++[j.2]).Nodup:=by
    have h1:(Y0 (js.take (i+1))).Nodup:=nd.sublist (by
     have:Y0 js=Y0 (js.take (i+1))++Y0 (js.drop (i+1)):=by rw [<-Zco,List.take_append_drop]
     rw [this]
     exact List.sublist_append_left _ _)
    rw [<-Zaq,Zh7 hj,List.map_append,List.map_append,Zaq] at h1
    exact h1
   have nd1:j.1∉Y0 (js.take i):=fun z=>(List.nodup_append.mp (List.nodup_append.mp hnd).1).2.2 _ z _ List.mem_cons_self rfl
   have nd2:j.2∉Y0 (js.take i)++[j.1]:=fun z=>(List.nodup_append.mp hnd).2.2 _ z _ List.mem_cons_self rfl
   have v1:Y4 kj (Yq j.1)=none:=hD.none Xg (by rw [Zaq];exact nd1)
   have v2:Y4 kj (Yq j.2)=none:=hD.none Xg (by rw [Zaq];exact fun z=>nd2 (List.mem_append_left _ z))
   refine WSs.step (Wk (Zu (Zke T) hr rfl T.m_refuse_join T.d_refuse_join.F.kp T.d_refuse_join.b .nil Z3 (Zb (pv 3) (Zb (pv 1) (Zb (pv 2) Za))))) ⟨_,rfl,_,rfl,_,rfl,t,pa,d,a,b,j.1,j.2,ka,kj,rfl,s2.at ht,ha.mono s2,hb.mono s2,s2.at hpa,hd,hk _ m1,hk _ m2,v1,v2,apart j hm,?_⟩
   have hD1:DP Yq (RJ H) (Zbb kj (Yq j.1) (.ref b)) (qJ (js.take i)++[(j.1,j.2)]):=hD.put v1 ⟨b,rfl,hb⟩
   have hl1:=Zb9 kj (Yq j.1) (.ref b)
   have v3:Y4 (Zbb kj (Yq j.1) (.ref b)) (Yq j.2)=none:=hD1.none Xg (by rw [List.map_append,Zaq];exact nd2)
   refine WSs.step (Zcj (Wc hr) (pv 2) (Zp (r:=rIx K) Zk (pv 3) Ze (fun _ _=>rfl)) (Zp (r:=rIx K) Zk (pv 3) Ze (fun _ _=>rfl)) rfl) ⟨_,rfl,.inr (.inl ⟨t,_,1,_,rfl,rfl,SqT.of (s2.at ht),Zn (j:=1) rfl,_,rfl,_,rfl,.inr (.inl ⟨t,_,0,_,rfl,rfl,SqT.of (s2.at ht),Zn (j:=0) rfl,d,_,rfl,Ze4.t (k:=Yq j.1) hd (Zhx (ha.mono s2)) (Zy (by omega)),?_⟩)⟩)⟩
   have s3:Same H (upd H2 d (.dT (Zbb kj (Yq j.1) (.ref b)))):=s2.upd0 n1
   refine WSs.last (Zcj (Wc hr) (pv 2) (Zp (r:=rIx K) Zk (pv 3) Ze (fun _ _=>rfl)) (Zp (r:=rIx K) Zk (pv 3) Ze (fun _ _=>rfl)) rfl) ⟨_,rfl,.inr (.inl ⟨t,_,0,_,rfl,rfl,SqT.of (s3.at ht),Zn (j:=0) rfl,_,rfl,_,rfl,.inr (.inl ⟨t,_,1,_,rfl,rfl,SqT.of (s3.at ht),Zn (j:=1) rfl,d,_,rfl,Ze4.t (k:=Yq j.2) Zh (Zhx (hb.mono s3)) (Zy (by omega)),⟨_,rfl⟩,s3.upd0 n1,_,Zh,?_⟩)⟩)⟩
   rw [Zh7 hj]
   exact hD1.put v3 ⟨a,rfl,ha⟩
  ·rintro σ H2 ⟨⟨o,rfl⟩,s2,kj,hd,hD⟩
   rw [List.length_map,htl,List.take_length] at hD
   have hlj:kj.length=ka.length:=by
    have h1:=hD.len
    rw [hkl,h1,<-Zaq,List.length_map]
   refine WSs.step (Ye (Zs Zfx (Z0 (r:=Zuw) Zlo (by rfl) T.n_len PySem.boot_len (Zb (pv 2) Za)) (Z0 (r:=Zuw) Zlo (by rfl) T.n_len PySem.boot_len (Zb (pv 1) Za)) (Z4 _)) Z2 Zv) ⟨_,rfl,d,kj,rfl,hd,_,rfl,pa,ka,rfl,s2.at hpa,_,_,rfl,rfl,_,rfl,Ym (fun z=>?_) (fun _=>?_)⟩
   ·have:(kj.length:Int)<(ka.length:Int):=of_decide_eq_true z
    exact absurd this (by omega)
   exact WSs.last (Zq (pv 2)) ⟨_,rfl,q d kj H2 s2 n1 hd hD⟩
theorem Zjw(T:Tx K mg){k:Nat}(h:4<=k:=by decide):Z1 P w K mg base CX0 k T.d_joined_ends.f T.d_joined_ends.fd ["joins", "part_at"] Zz2:=(Zi0 T).mono h
def Yba(T:Tx K mg):Sp:=fun vs H Q _=>∃(t pa l x C:Addr) (e:Zc) (k nm:Str) (ka:List (List Key×V)) (us:List Addr) (es:List Zc),vs=[.ref t,.ref pa,.ref l]/\Zw H t e/\H pa=some (.dT ka)/\Y4 ka (Yq e)=some (.ref x)/\Za9 T k C/\Zdt H C x nm/\Zpu k=true /\
 H l=some (.lst (us.map V.ref))/\Paired (Zw H) us es/\e∉es/\Q .non H
theorem Zp9{a b:Zc}(h:trP a=trP b):a=b:=by
 obtain ⟨a1,a2⟩:=a
 obtain ⟨b1,b2⟩:=b
 unfold trP at h
 simp only [Tr.tup.injEq,List.cons.injEq,Tr.str.injEq,and_true] at h
 rw [h.1,h.2]
theorem Zjf(T:Tx K mg):Z1 P w K mg base CX0 3 T.d_refuse_post.f T.d_refuse_post.fd ["end", "part_at", "ends_with_signals"] (Yba T):=by
 refine T.d_refuse_post.F.okW Zjm fun cdv A outer s H vs Q E hr h=>?_
 ·obtain ⟨t,pa,l,x,C,e,k,nm,ka,us,es,rfl,ht,hpa,hv,hC,⟨dx,hO⟩,hb,hl,hu,hne,q⟩:=h
  obtain ⟨f1,d1,m1,b1,g1⟩:=hC.bears
  refine WSs.step (Ye (Zc9 (Wz (Zu (Zbz T) hr rfl T.m_is_known T.d_is_known.F.kp T.d_is_known.b .nil Z3 (Zb (pv 0) (Zb (pv 1) Za))))) Z2 Zv) ⟨_,rfl,_,rfl,t,pa,e,ka,rfl,ht,hpa,_,rfl,Ym (fun z=>?_) (fun _=>?_)⟩
  ·rw [hv] at z
   exact absurd z (by simp)
  refine WSs.step (Ye (Zc9 (Wz Zuh)) Z2 Zv) (WE.of (Zd1 (X6 (Wc hr) (pv 1) (pv 0) (fun _ _=>rfl)) hC.cls.1 m1 (g1 _ _ _ 2 (by decide)) hr b1 .nil Z3) ⟨_,rfl,_,rfl,pa,_,rfl,by rw [<-hv];exact Zar.t (k:=Yq e) hpa ht,x,dx,_,rfl,hO,rfl,_,rfl,_,rfl,Ym (fun z=>?_) (fun _=>?_)⟩)
  ·rw [hb] at z
   exact absurd z (by decide)
  refine WSs.last (Ye (Zs (r:=Zhg K) (Zim hr) (pv 0) (pv 2) (by with_unfolding_all rfl)) Z2 Zv) ⟨_,rfl,_,rfl,.inr (.inr (.inr ⟨l,1,trP e,es.map trP,us,rfl,SqL.of hl,by decide,Im.tup (n:=0) (SqT.of ht) (.cons (.str _) (.cons (.str _) .nil)),Znm hu,_,rfl,Ym (fun z=>?_) (fun _=>q)⟩))⟩
  have z:trP e∈es.map trP:=of_decide_eq_true z
  obtain ⟨e',he',h'⟩:=List.mem_map.mp z
  rw [Zp9 h'] at he'
  exact absurd he' hne
theorem Zjz(T:Tx K mg){k:Nat}(h:3<=k:=by decide):Z1 P w K mg base CX0 k T.d_refuse_post.f T.d_refuse_post.fd ["end", "part_at", "ends_with_signals"] (Yba T):=(Zjf T).mono h
theorem Zw.offD{H:Hp}{c t:Addr}{o:HO}{xs:List (Key×V)}{q:Zc}(h:Zw H t q)(hc:H c=some (.dK xs)):Zw (upd H c o) t q:=by
 unfold Zw at h ⊢
 exact (Zj fun z=>by rw [z,hc] at h;cases h).trans h
def Yaa(T:Tx K mg):Sp:=fun vs H Q _=>∃(sl pa:Addr) (ts:List Addr) (sg:List (Str×Str×Str)) (ka:List (List Key×V)),vs=[.ref sl,.ref pa]/\H sl=some (.lst (ts.map V.ref))/\Paired (Zi5 H) ts sg/\H pa=some (.dT ka)/\(∀q∈sg,Zci q.1)/\(sg.map Prod.fst).Nodup/\(sg.map Prod.snd).Nodup/\sg.length<=100 /\
 (∀q∈sg,∃x C k,Y4 ka (Yq (q.2.1,q.2.2))=some (.ref x)/\Za9 T k C/\Zdt H C x q.2.1/\Zpu k=true) /\
 ∀(d:Addr) (ks:List (Key×V)) (H':Hp),Same H H'->H d=none->H' d=some (.dK ks)->DP Yh (RS H') ks (qS sg)->Q (.ref d) H'
theorem Zvm{H:Hp}{ks:List (Key×V)}{qs:List (Str×Zc)}(h:DP Yh (RS H) ks qs):∃us:List Addr,ks.map (fun kv=>kv.2)=us.map V.ref/\Paired (Zw H) us (qs.map Prod.snd):=by
 unfold DP at h
 induction h with
 | nil=>exact ⟨[],rfl,.nil⟩
 | cons r _ ih =>
  obtain ⟨us,h1,h2⟩:=ih
  obtain ⟨_,t,hv,ht⟩:=r
  exact ⟨t ::us,by rw [List.map_cons,List.map_cons,h1,hv],.cons ht h2⟩
theorem Zos(T:Tx K mg):Z1 P w K mg base CX0 4 T.d_posts_of.f T.d_posts_of.fd ["signals", "part_at"] (Yaa T):=by
 refine T.d_posts_of.F.okW Zb8 fun cdv A outer s H vs Q E hr h=>?_
 ·obtain ⟨sl,pa,ts,sg,ka,rfl,hl,hts,hpa,hnm,nd,one,len,hk,q⟩:=h
  have htl:=Paired.length hts
  refine WSs.step (Zx (i:=2) Zb8.nd Zgh) fun d H1 s1 n1 e1=>?_
  let I21:=fun (i:Nat) (σ:St) (H':Hp)=>(∃o3 o4 o5,σ=[some (.ref sl),some (.ref pa),some (.ref d),o3,o4,o5])/\Same H H'/\∃ks,H' d=some (.dK ks)/\DP Yh (RS H') ks (qS (sg.take i))
  refine WSs.step (Wi PassesOwn.never rfl (Yx (pv 0)) (Y5 (i:=3) Zb8.nd) Z2) ⟨_,rfl,sl,rfl,⟨_,SqL.of (s1.at hl)⟩,W6 (K:=K) (xs:=ts.map V.ref) I21 ⟨⟨none,none,none,rfl⟩,s1,[],e1,.nil⟩ ?_ ?_ ?_⟩
  ·rintro i σ H' _ ⟨_,s2,_⟩
   exact SqL.of (s2.at hl)
  ·rintro i v σ H2 hi ⟨⟨o3,o4,o5,rfl⟩,s2,ks,hd,hD⟩
   rw [List.getElem?_map] at hi
   obtain ⟨t,hti,rfl⟩:=Option.map_eq_some_iff.mp hi
   obtain ⟨⟨nm,pn,en⟩,hg,ht⟩:=Paired.get hts hti
   have ht:H t=some (.tup [.str nm,.str pn,.str en]):=ht
   have hm:((nm,pn,en):Str×Str×Str)∈sg:=List.mem_of_getElem? hg
   have hil:=(List.getElem?_eq_some_iff.mp hg).1
   obtain ⟨x,C,k,hv,hC,hO,hb⟩:=hk _ hm
   have hlen:ks.length<=100:=by
    have h1:=hD.len
    unfold qS at h1
    rw [List.length_map,List.length_take] at h1
    omega
   have hn:Y4 ks (Yh nm)=none:=hD.none Zdd (by
    rw [Zuf,List.map_take]
    exact Zea nd (by rw [List.getElem?_map,hg];rfl))
   have he:((pn,en):Zc)∉(qS (sg.take i)).map Prod.snd:=by
    have:(qS (sg.take i)).map Prod.snd=(sg.map Prod.snd).take i:=by
     unfold qS
     rw [List.map_map,List.map_take]
     rfl
    rw [this]
    exact Zea one (by rw [List.getElem?_map,hg];rfl)
   refine WSs.step (Zx (i:=4) Zb8.nd (Zp (r:=rIx K) Zk (pv 3) Ze (fun _ _=>rfl))) ⟨_,rfl,.inr (.inl ⟨t,_,0,_,rfl,rfl,SqT.of (s2.at ht),Zn (j:=0) rfl,?_⟩)⟩
   refine WSs.step (Zx (i:=5) Zb8.nd (Yr (r:=Zbq K) Zcl (pv 3) (Yy Ze) Yz)) ⟨_,rfl,_,rfl,.inl ⟨t,_,rfl,SqT.of (s2.at ht),(show ¬(HT.sIx 3 0 (some 1)=0/\HT.sIx 3 3 none=3) by decide),fun te H3 s3 n3 e3=>?_⟩⟩
   have s13:=s2.trans s3
   have hte:Zw H3 te (pn,en):=e3
   refine WSs.step (Wk (Zu (Zeu T) hr rfl T.m_refuse_name T.d_refuse_name.F.kp T.d_refuse_name.b .nil Z3 (Zb (pv 4) (Zb (pv 2) Za)))) ⟨_,rfl,_,rfl,nm,d,ks,rfl,hnm _ hm,s3.at hd,hn,fun H4 s4=>?_⟩
   have s14:=s13.trans s4
   have hD4:DP Yh (RS H4) ks (qS (sg.take i)):=hD.mapR fun _ _ _ z=>RS.mono (s3.trans s4) _ _ _ z
   obtain ⟨us,hus,hup⟩:=Zvm hD4
   refine WSs.step (Wk (Zu (Zjz T) hr rfl T.m_refuse_post T.d_refuse_post.F.kp T.d_refuse_post.b .nil Z3 (Zb (pv 5) (Zb (pv 1) (Zb (Zn2 rfl (by rfl) T.n_list (pv 2)) Za))))) ⟨_,rfl,_,rfl,_,rfl,d,ks,rfl,.inl (s4.at (s3.at hd)),fun l H5 s5 n5 e5=>⟨te,pa,l,x,C,(pn,en),k,pn,ka,us,_,rfl,(hte.mono s4).mono s5,(s14.trans s5).at hpa,hv,hC,hO.mono (s14.trans s5),hb,by rw [<-hus];exact e5,Paired.mapP hup fun _ _ r=>r.mono s5,he,?_⟩⟩
   have s15:=s14.trans s5
   have hd5:H5 d=some (.dK ks):=s5.at (s4.at (s3.at hd))
   refine WSs.last (Zcj (Wc hr) (pv 2) (pv 4) (pv 5) rfl) ⟨_,rfl,_,rfl,_,rfl,d,_,rfl,Ze4.k (k:=Yh nm) hd5 (Zy (by omega)),⟨_,_,_,rfl⟩,s15.upd0 n1,_,Zh,?_⟩
   have:qS (sg.take (i+1))=qS (sg.take i)++[(nm,(pn,en))]:=by
    unfold qS
    rw [List.take_add_one,hg,List.map_append]
    rfl
   rw [this]
   have hD6:DP Yh (RS (upd H5 d (.dK (Zbb ks (Yh nm) (.ref te))))) ks (qS (sg.take i)):=hD4.mapR fun _ _ _ ⟨u,z1,z2⟩=>⟨u,z1,(z2.mono s5).offD hd5⟩
   exact hD6.put hn ⟨te,rfl,((hte.mono s4).mono s5).offD hd5⟩
  ·rintro σ H2 ⟨⟨o3,o4,o5,rfl⟩,s2,ks,hd,hD⟩
   rw [List.length_map,htl,List.take_length] at hD
   exact WSs.last (Zq (pv 2)) ⟨_,rfl,q d ks H2 s2 n1 hd hD⟩
theorem Zpl(T:Tx K mg){k:Nat}(h:4<=k:=by decide):Z1 P w K mg base CX0 k T.d_posts_of.f T.d_posts_of.fd ["signals", "part_at"] (Yaa T):=(Zos T).mono h
structure Xf(T:Tx K mg)(H:Hp)(x:Addr)(ps:List Zc)(js:List (Zc×Zc))(sg:List (Str×Str×Str)):Prop where
 ex:∃(dx po jo so si:Addr) (kp ks:List (Key×V)) (kj ko:List (List Key×V)),H x=some (.ins T.CTracks dx [("part_of",.ref po),("joined",.ref jo),("post_of",.ref so),("signal_on",.ref si)]) /\
  H po=some (.dK kp)/\DP Yh (RP T H) kp (qP ps)/\H jo=some (.dT kj)/\DP Yq (RJ H) kj (qJ js)/\H so=some (.dK ks)/\DP Yh (RS H) ks (qS sg)/\H si=some (.dT ko)/\DP Yq RO ko (qO sg)
theorem Xf.mono{T:Tx K mg}{H H':Hp}{x:Addr}{ps:List Zc}{js:List (Zc×Zc)}{sg:List (Str×Str×Str)}(e:Same H H')(h:Xf T H x ps js sg):Xf T H' x ps js sg:=by
 obtain ⟨dx,po,jo,so,si,kp,ks,kj,ko,h1,h2,h3,h4,h5,h6,h7,h8,h9⟩:=h.ex
 exact ⟨dx,po,jo,so,si,kp,ks,kj,ko,e.at h1,e.at h2,h3.mapR (RP.mono e),e.at h4,h5.mapR (RJ.mono e),e.at h6,h7.mapR (RS.mono e),e.at h8,h9⟩
def del(H:Hp)(x:Addr):Hp:=fun b=>if b=x then none else H b
theorem Zii{H:Hp}{x:Addr}:del H x x=none:=if_pos rfl
theorem Zdi{H:Hp}{x b:Addr}{o:HO}(h:H b=some o)(n:b≠x):del H x b=some o:=(if_neg n).trans h
theorem Zbj{H:Hp}{x:Addr}{o:HO}:Same (del H x) (upd H x o):=fun b u e=>by
 unfold del at e
 by_cases z:b=x
 ·rw [if_pos z] at e;cases e
 ·rw [if_neg z] at e;rw [Zj z];exact e
theorem Zff{G H:Hp}{x:Addr}(s:Same G H)(n:G x=none):Same G (del H x):=fun b u e=>Zdi (s.at e) (Zi e n)
structure Y1(ps:List Zc)(js:List (Zc×Zc))(sg:List (Str×Str×Str)):Prop where
 net:Net ps js []
 len:ps.length<=40
 name:∀p∈ps,Zci p.2
 sigs:Zi9 ps sg
theorem Zex.v{ps:List Zc}{js:List (Zc×Zc)}{sg:List (Str×Str×Str)}(h:Zex ps js sg):Y1 ps js sg:=⟨h.net,by have:=h.len;omega,fun p hp=>(h.name p hp).nm.ok,h.sigsV⟩
theorem Zo5(ps:List Zc):(Yb ps).length<=4 * ps.length:=by rw [<-Zl3,List.length_map];exact Zt9 ps
theorem _root_.YM.Net.flat{ps:List Zc}{js:List (Zc×Zc)}(h:Net ps js []):(Y0 js).Perm (Yb ps):=by
 have:=h.perm
 rw [List.append_nil] at this
 exact this
theorem _root_.YM.Net.jlen{ps:List Zc}{js:List (Zc×Zc)}(h:Net ps js [])(l:ps.length<=40):js.length<=300:=by
 have h1:=h.flat.length_eq
 have h2:=Zo5 ps
 rw [<-Zaq,List.length_map,Zo9] at h1
 omega
theorem Zzg{ps:List Zc}{p:Zc}{e:Str}(hp:p∈ps)(he:e∈Yc p.1):((p.2,e),p.1)∈qA ps:=List.mem_flatMap.mpr ⟨p,hp,List.mem_map.mpr ⟨e,he,rfl⟩⟩
def Zy5(T:Tx K mg):Sp:=fun vs H Q _=>∃(G:Hp) (x dx pl jl sl:Addr) (xs:List Addr) (ps:List Zc) (js:List (Zc×Zc)) (sg:List (Str×Str×Str)),vs=[.ref x,.ref pl,.ref jl,.ref sl]/\G x=none/\Same G H/\H x=some (.ins T.CTracks dx []) /\
 G pl=some (.lst (xs.map V.ref))/\Paired (PO T G) xs ps/\Yj G jl js/\Zcd G sl sg/\Y1 ps js sg/\∀H',Same G H'->Xf T H' x ps js sg->Q .non H'
theorem Ze5(T:Tx K mg):Z1 P w K mg base CX0 5 T.d_Tracks___init__.f T.d_Tracks___init__.fd ["self", "parts", "joins", "signals"] (Zy5 T):=by
 refine T.d_Tracks___init__.F.okW Zaw fun cdv A outer s H vs Q E hr h=>?_
 ·obtain ⟨G,x,dx,pl,jl,sl,xs,ps,js,sg,rfl,hGx,s0,hx,hpl,hxs,hjl,⟨ts,hsl,hts⟩,yv,q⟩:=h
  have hxl:=Paired.length hxs
  have htl:=Paired.length hts
  have ylen:=yv.len
  have slen:=yv.sigs.len
  refine WSs.step (Zx (i:=4) Zaw.nd (Zde (Zs Zyx (pv 3) Zp2 (Z4 _)) (Zm Za) (pv 3))) ⟨_,rfl,rfl,_,rfl,Zrh ⟨_,rfl,?_⟩⟩
  refine WSs.step (Ye (PW.pt (Zg6 (Zs Zkq (Z0 (r:=X0 K) X3 (by rfl) T.n_len PySem.boot_len (Zb (pv 1) Za)) (Zef (by rfl) T.c_MOST_PARTS) (Z4 _)) (Zd6 (Zs Zkq (Z0 (r:=X0 K) X3 (by rfl) T.n_len PySem.boot_len (Zb (pv 4) Za)) (Zef (by rfl) T.c_MOST_SIGNALS) (Z4 _))))) Z2 Zv) ⟨_,rfl,.inl ⟨pl,_,rfl,.inl (SqL.of (s0.at hpl)),_,_,rfl,rfl,_,rfl,Ym (fun z=>?_) (fun _=>⟨_,rfl,.inl ⟨sl,_,rfl,.inl (SqL.of (s0.at hsl)),_,_,rfl,rfl,_,rfl,Ym (fun z=>?_) (fun _=>?_)⟩⟩)⟩⟩
  ·have z:=of_decide_eq_true z
   rw [List.length_map] at z
   exact absurd z (by omega)
  ·have z:=of_decide_eq_true z
   rw [List.length_map] at z
   exact absurd z (by omega)
  refine WSs.step (Zix (pv 0) (Zu (Zhq T) hr rfl T.m_parts_by_name T.d_parts_by_name.F.kp T.d_parts_by_name.b .nil Z3 (Zb (pv 1) Za)) rfl) ⟨_,rfl,pl,xs,ps,rfl,s0.at hpl,Paired.mapP hxs fun _ _ r=>r.mono s0,yv.net.nd,yv.name,by omega,fun po kp H1 s1 m1 e1 dp=>⟨_,rfl,x,_,dx,_,rfl,s1.at hx,T.clTracks,T.nTracks_part_of,by simp,?_⟩⟩
  have hpx:po≠x:=fun z=>by rw [z,hx] at m1;cases m1
  have g1:Same G (del H1 x):=Zff (s0.trans s1) hGx
  have dp1:DP Yh (RP T (del H1 x)) kp (qP ps):=dp.mapR fun a b v ⟨y,C,z1,z2,dy,z3⟩=>⟨y,C,z1,z2,dy,Zdi (s1.at z3) fun z=>by rw [z,hx] at z3;cases z3⟩
  have ep1:del H1 x po=some (.dK kp):=Zdi e1 hpx
  refine WSs.step (Zx (i:=5) Zaw.nd (Zu (Zhd T) hr rfl T.m_ends_to_parts T.d_ends_to_parts.F.kp T.d_ends_to_parts.b .nil Z3 (Zb (W3 (pv 0) rfl) Za))) ⟨_,rfl,x,_,dx,_,_,rfl,Zh,T.clTracks,T.nTracks_part_of,rfl,po,kp,ps,rfl,Zbj.at ep1,dp1.mapR (RP.mono Zbj),yv.net.nd,by omega,fun pa ka H2 s2 m2 e2 da=>?_⟩
  have hx2:=s2.at Zh
  have ep2:Same G H2:=(g1.trans Zbj).trans s2
  have kaq:∀p∈ps,∀e∈Yc p.1,∃v,Y4 ka (Yq (p.2,e))=some v/\RA T _ (p.2,e) p.1 v:=fun p hp e he=>da.get Xg (by rw [Zl3];exact Za3 yv.net.nd) (Zzg hp he)
  refine WSs.step (Zix (pv 0) (Zu (Zjw T) hr rfl T.m_joined_ends T.d_joined_ends.F.kp T.d_joined_ends.b .nil Z3 (Zb (pv 2) (Zb (pv 5) Za))) rfl) ⟨_,rfl,_,rfl,jl,pa,js,ka,rfl,hjl.mono ep2,e2,fun e he=>?_,?_,?_,yv.net.apart,yv.net.jlen ylen,fun jo kj H3 s3 m3 e3 dj=>⟨_,rfl,x,_,dx,_,rfl,s3.at hx2,T.clTracks,T.nTracks_joined,(by show 1<1000;decide),?_⟩⟩
  ·have:=yv.net.flat.mem_iff.mp he
   obtain ⟨p,hp,hm⟩:=List.mem_flatMap.mp this
   obtain ⟨e',he',rfl⟩:=List.mem_map.mp hm
   obtain ⟨v,hv,_⟩:=kaq p hp e' he'
   rw [hv];rfl
  ·rw [yv.net.flat.length_eq,<-Zl3,List.length_map];exact da.len
  ·exact yv.net.flat.nodup_iff.mpr (Za3 yv.net.nd)
  have hjx:jo≠x:=fun z=>by rw [z,hx2] at m3;cases m3
  have s13:Same (del H1 x) (del H3 x):=Zff ((Zbj.trans s2).trans s3) Zii
  have ej3:del H3 x jo=some (.dT kj):=Zdi e3 hjx
  have hpax:pa≠x:=fun z=>by rw [z,hx2] at e2;cases e2
  have epa:del H3 x pa=some (.dT ka):=Zdi (s3.at e2) hpax
  have dj3:DP Yq (RJ (del H3 x)) kj (qJ js):=dj.mapR fun a b v ⟨u,z1,z2⟩=>⟨u,z1,Zdi (s3.at z2) fun z=>by rw [z] at z2;exact nomatch hx2.symm.trans z2⟩
  have g3:Same G (del H3 x):=g1.trans s13
  refine WSs.step (Zix (pv 0) (Zu (Zpl T) hr rfl T.m_posts_of T.d_posts_of.F.kp T.d_posts_of.b .nil Z3 (Zb (pv 4) (Zb (pv 5) Za))) rfl) ⟨_,rfl,_,rfl,sl,pa,ts,sg,ka,rfl,Zbj.at (g3.at hsl),Paired.mapP hts fun _ _ r=>(g3.trans Zbj).at r,Zbj.at epa,yv.sigs.name,yv.sigs.nd,yv.sigs.one,by omega,fun g hg=>?_,fun so ks H4 s4 m4 e4 ds=>⟨_,rfl,x,_,dx,_,rfl,s4.at Zh,T.clTracks,T.nTracks_post_of,(by show 2<1000;decide),?_⟩⟩
  ·obtain ⟨p,hp,h1,h2,h3⟩:=yv.sigs.at_ g hg
   obtain ⟨v,hv,y,C,rfl,hC,dy,hO⟩:=kaq p hp g.2.2 h3
   refine ⟨y,C,p.1,by rw [<-h1];exact hv,hC,⟨dy,?_⟩,decide_eq_true h2⟩
   have hyx:y≠x:=fun z=>by rw [z,Zh] at hO;cases hO
   rw [Zj hyx,<-h1]
   exact s3.at (s2.at hO)
  have hsx:so≠x:=fun z=>by rw [z,Zh] at m4;cases m4
  have hx4:=s4.at (Zh (H:=H3) (a:=x))
  have s34:Same (del H3 x) (del H4 x):=Zff (Zbj.trans s4) Zii
  have es4:del H4 x so=some (.dK ks):=Zdi e4 hsx
  have ds4:DP Yh (RS (del H4 x)) ks (qS sg):=ds.mapR fun a b v ⟨u,z1,z2⟩=>⟨u,z1,Zdi z2 fun z=>by rw [z] at z2;exact nomatch hx4.symm.trans z2⟩
  refine WSs.last (Zix (pv 0) (Xx (r:=Zta) (Zph rfl hr.units) (by rfl) T.n_dict PyProof.Rows.boot_dict (Zb (Zp8 (Xn (N':=["name", "end"]) rfl (Ya.std 2 [] rfl (by trivial) (by trivial) rfl trivial rfl rfl trivial) (Zjq (W3 (pv 0) rfl)) (fun _ _ _ _=>(Zh0 (K:=K) (n:=2) rfl rfl (Z6 (Zbn (i:=0) (by show (["name", "end"]:List Str).Nodup;decide +kernel)) (Z6 (Zbn (i:=1) (by show (["name", "end"]:List Str).Nodup;decide +kernel)) X2)))) (fun _ _ _ _=>W0) (fun _ _ _ _=>(Zg (Zb (pv 1) (Zb (pv 0) Za)))))) Za)) rfl) ⟨_,rfl,x,_,dx,_,_,rfl,Zh,T.clTracks,T.nTracks_post_of,rfl,so,ks,rfl,Zbj.at es4,fun o nf D hD=>Zi7 (fun i ys H'=>Same (upd (upd H4 x (.ins T.CTracks dx [("part_of",.ref po),("joined",.ref jo),("post_of",.ref so)])) so (.frz o (.dK ks))) H'/\H' D=some (.lst ys)/\∃tps:List Addr,ys=tps.map V.ref/\Paired (fun t (q:List Key×V)=>∃a,H' t=some (.tup [.ref a,q.2])/\H' a=some (.tup (q.1.map kV))) tps ((qO (sg.take i)).map fun q=>(Yq q.1,V.str q.2))) ⟨Same.new hD,Zh,[],rfl,.nil⟩ ?_ ?_ ?_⟩
  ·rintro i ys H' _ ⟨z,_⟩
   exact z.at Zh
  ·rintro i kv ys H5 hi ⟨s5,hD5,tps,rfl,htp⟩ tp H6 s6 n6 e6
   obtain ⟨⟨nm,e⟩,hq,hk,t,hv,ht⟩:=Paired.get ds4 hi
   have hk:kv.1=Sum.inr nm:=hk
   rw [hk,hv] at e6
   have hg:sg[i]? =some (nm,e.1,e.2):=by
    unfold qS at hq
    rw [List.getElem?_map] at hq
    obtain ⟨⟨g1,g2,g3⟩,hg,e'⟩:=Option.map_eq_some_iff.mp hq
    rw [hg]
    simp only [Prod.mk.injEq] at e'
    rw [<-e'.1,<-e'.2]
   have hil:=(List.getElem?_eq_some_iff.mp hg).1
   have hto:t≠so:=fun z=>by rw [z] at ht;exact nomatch es4.symm.trans ht
   have htF:upd (upd H4 x (.ins T.CTracks dx [("part_of",.ref po),("joined",.ref jo),("post_of",.ref so)])) so (.frz o (.dK ks)) t=some (.tup ((Yq e).map kV)):=by
    rw [Zj hto]
    exact Zbj.at ht
   have htl':tps.length<=100:=by
    have:=Paired.length htp
    unfold qO at this
    rw [List.length_map,List.length_map,List.length_take] at this
    omega
   refine ⟨tp,_,rfl,SqT.of e6,rfl,_,_,rfl,_,_,rfl,rfl,(W2.set rfl).trans (W2.set rfl),_,rfl,_,rfl,sz (by simp),fun t' H7 s7 n7 e7=>⟨s7.at (s6.at hD5),by rw [List.length_map];exact Zy (by omega),?_,Zh,tps++[t'],by rw [List.map_append];rfl,?_⟩⟩
   ·intro c u z
    rw [Zj (Zi z hD)]
    exact s7.at (s6.at (s5.at z))
   ·have hD7:=s7.at (s6.at hD5)
    have off:∀{c:Addr} {xs:List V} {u:HO},H7 c=some (.tup xs)->upd H7 D u c=some (.tup xs):=fun {c xs u} z=>(Zj fun y=>by rw [y,hD7] at z;cases z).trans z
    have:(qO (sg.take (i+1))).map (fun q=>(Yq q.1,V.str q.2))=(qO (sg.take i)).map (fun q=>(Yq q.1,V.str q.2))++[(Yq e,V.str nm)]:=by
     unfold qO
     rw [List.take_add_one,hg,List.map_append,List.map_append]
     rfl
    rw [this]
    exact Paired.snoc (Paired.mapP htp fun _ _ ⟨a,z1,z2⟩=>⟨a,off (s7.at (s6.at z1)),off (s7.at (s6.at z2))⟩) ⟨t,off e7,off (s7.at (s6.at (s5.at htF)))⟩
  ·rintro ys H5 ⟨s5,hD5,tps,rfl,htp⟩
   have hks:ks.length=sg.length:=by
    have:=ds4.len
    unfold qS at this
    rw [List.length_map] at this
    exact this
   rw [hks,List.take_length] at htp
   have hso5:=s5.at Zh
   have off:∀{c:Addr} {xs:List V} {u:HO},H5 c=some (.tup xs)->upd H5 so u c=some (.tup xs):=fun {c xs u} z=>(Zj fun y=>by rw [y,hso5] at z;cases z).trans z
   have sT:Same (upd H4 x (.ins T.CTracks dx [("part_of",.ref po),("joined",.ref jo),("post_of",.ref so)])) (upd H5 so (.dK ks)):=s5.thaw (Zbj.at es4)
   refine ⟨so,o,_,hso5,nf,D,tps,_,rfl,?_,Paired.mapP htp fun _ _ ⟨a,z1,z2⟩=>⟨a,off z1,off z2⟩,?_,fun si H8 s8 n8 e8=>⟨_,rfl,x,_,dx,_,rfl,s8.at (sT.at Zh),T.clTracks,T.nTracks_signal_on,(by show 3<1000;decide),?_⟩⟩
   ·rw [Zj fun y=>by rw [y,hso5] at hD5;cases hD5]
    exact hD5
   ·rw [List.map_map]
    have e1:(qO sg).map (Prod.fst ∘ fun q=>(Yq q.1,V.str q.2))=((qO sg).map Prod.fst).map Yq:=by rw [List.map_map];rfl
    rw [e1,Zgl]
    exact yv.sigs.one.map Yq fun a b ne z=>ne (Xg a b z)
   have hix:si≠x:=fun z=>by rw [z,sT.at Zh] at n8;cases n8
   have s48:Same (del H4 x) (del H8 x):=Zff ((Zbj.trans sT).trans s8) Zii
   have ei8:del H8 x si=some (.dT ((qO sg).map fun q=>(Yq q.1,V.str q.2))):=Zdi e8 hix
   have f4:Same (del H4 x) (upd H8 x (.ins T.CTracks dx [("part_of",.ref po),("joined",.ref jo),("post_of",.ref so),("signal_on",.ref si)])):=s48.trans Zbj
   have f3:=s34.trans f4
   have f1:=s13.trans f3
   refine q _ (g1.trans f1) ⟨dx,po,jo,so,si,kp,ks,kj,_,Zh,f1.at ep1,dp1.mapR (RP.mono f1),f3.at ej3,dj3.mapR (RJ.mono f3),f4.at es4,ds4.mapR (RS.mono f4),Zbj.at ei8,?_⟩
   have all:∀l:List (Zc×Str),DP Yq RO (l.map fun q=>(Yq q.1,V.str q.2)) l:=fun l=>by
    induction l with
    | nil=>exact .nil
    | cons p l ih=>exact .cons ⟨rfl,rfl⟩ ih
   exact all _
theorem Zfg(T:Tx K mg){k:Nat}(h:5<=k:=by decide):Z1 P w K mg base CX0 k T.d_Tracks___init__.f T.d_Tracks___init__.fd ["self", "parts", "joins", "signals"] (Zy5 T):=(Ze5 T).mono h
def Zlj(T:Tx K mg):List V->Hp->VK->Prop:=fun vs H Q=>∃(pl jl sl:Addr) (xs:List Addr) (ps:List Zc) (js:List (Zc×Zc)) (sg:List (Str×Str×Str)),vs=[.ref pl,.ref jl,.ref sl]/\H pl=some (.lst (xs.map V.ref))/\Paired (PO T H) xs ps/\Yj H jl js/\Zcd H sl sg/\Y1 ps js sg/\∀x H',Same H H'->H x=none->Xf T H' x ps js sg->Q (.ref x) H'
theorem Zru(T:Tx K mg):∀vs H Q,Zlj T vs H Q ->
  ∀x dx,H x=none->H dx=none->dx≠x->Zy5 T (.ref x ::(vs++[])) (upd (upd H dx (.own x)) x (.ins T.CTracks dx [])) (fun v H2=>v=.non/\Q (.ref x) H2) E0:=by
 rintro vs H Q ⟨pl,jl,sl,xs,ps,js,sg,rfl,h1,h2,h3,h4,h5,q⟩ x dx hx hdx ne
 refine ⟨H,x,dx,pl,jl,sl,xs,ps,js,sg,rfl,hx,fun b o e=>?_,Zh,h1,h2,h3,h4,h5,fun H' s t=>⟨rfl,q x H' s hx t⟩⟩
 rw [Zj (Zi e hx),Zj (Zi e hdx)]
 exact e
def Zqm(T:Tx K mg):Sp:=fun vs H Q _=>∃(x:Addr) (nm k:Str) (ps:List Zc) (js:List (Zc×Zc)) (sg:List (Str×Str×Str)),vs=[.ref x,.str nm]/\Xf T H x ps js sg/\Y1 ps js sg/\((k,nm):Zc)∈ps/\∀(y C:Addr) (H':Hp),Same H H'->Za9 T k C->Zdt H' C y nm->Q (.ref y) H'
theorem Zhw(T:Tx K mg):Z1 P w K mg base CX0 2 T.d_Tracks_named.f T.d_Tracks_named.fd ["self", "name"] (Zqm T):=by
 refine T.d_Tracks_named.F.okW Zhh fun cdv A outer s H vs Q E hr h=>?_
 ·obtain ⟨x,nm,k,ps,js,sg,rfl,tr,yv,hm,q⟩:=h
  obtain ⟨dx,po,jo,so,si,kp,ks,kj,ko,h1,h2,h3,_⟩:=tr.ex
  have hq:((nm,k):Str×Str)∈qP ps:=List.mem_map.mpr ⟨(k,nm),hm,rfl⟩
  obtain ⟨v,hv,y,C,rfl,hC,hO⟩:=h3.get Zdd (by rw [Zlt];exact yv.net.nd) hq
  refine WSs.step (Ye (PW.pt (Zg6 (Zc9 (Wz (Zu (Zgw T) hr rfl T.m_is_name T.d_is_name.F.kp T.d_is_name.b .nil Z3 (Zb (pv 1) Za)))) (Zd6 (Zs (r:=Zck K) (Zc3 hr) (pv 1) (W3 (pv 0) rfl) (by with_unfolding_all rfl))))) Z2 Zv) ⟨_,rfl,nm,rfl,yv.name _ hm,fun H1 s1=>⟨_,rfl,Ym (fun z=>absurd z (by decide)) (fun _=>⟨_,rfl,_,rfl,x,_,dx,_,_,rfl,s1.at h1,T.clTracks,T.nTracks_part_of,rfl,.inr (.inl ⟨po,_,rfl,Zar.k (k:=Yh nm) (s1.at h2),_,rfl,Ym (fun z=>?_) (fun _=>?_)⟩)⟩)⟩⟩
  ·rw [hv] at z
   exact absurd z (by simp)
  exact WSs.last (Zq (X6 (Wc hr) (W3 (pv 0) rfl) (pv 1) (fun _ _=>rfl))) ⟨_,rfl,x,_,dx,_,_,rfl,s1.at h1,T.clTracks,T.nTracks_part_of,rfl,_,rfl,po,_,rfl,by rw [<-hv];exact Zar.k (k:=Yh nm) (s1.at h2),q y C H1 s1 hC (hO.mono s1)⟩
theorem Zid(T:Tx K mg){k:Nat}(h:2<=k:=by decide):Z1 P w K mg base CX0 k T.d_Tracks_named.f T.d_Tracks_named.fd ["self", "name"] (Zqm T):=(Zhw T).mono h
def Zoh(T:Tx K mg):Sp:=fun vs H Q _=>∃(x t:Addr) (e:Zc) (ps:List Zc) (js:List (Zc×Zc)) (sg:List (Str×Str×Str)),vs=[.ref x,.ref t]/\Xf T H x ps js sg/\Y1 ps js sg/\Zw H t e /\
 ((e∈Yb ps/\∀t' e',((e,e'):Zc×Zc)∈qJ js->Zw H t' e'->Q (.ref t') H)\/(e∉Yb ps/\∀t' H',Same H H'->H t'=none->Zw H' t' ("", "")->Q (.ref t') H'))
theorem Zgs(T:Tx K mg):Z1 P w K mg base CX0 3 T.d_Tracks_beyond.f T.d_Tracks_beyond.fd ["self", "end"] (Zoh T):=by
 refine T.d_Tracks_beyond.F.okW Zgx fun cdv A outer s H vs Q E hr h=>?_
 ·obtain ⟨x,t,e,ps,js,sg,rfl,tr,yv,ht,q⟩:=h
  obtain ⟨dx,po,jo,so,si,kp,ks,kj,ko,h1,h2,h3,h4,h5,_⟩:=tr.ex
  have nd:((qJ js).map Prod.fst).Nodup:=by rw [Zaq];exact yv.net.flat.nodup_iff.mpr (Za3 yv.net.nd)
  rcases q with ⟨hm,q⟩|⟨hm,q⟩
  ·have:e∈(qJ js).map Prod.fst:=by rw [Zaq];exact yv.net.flat.mem_iff.mpr hm
   obtain ⟨⟨e0,e'⟩,hq,rfl⟩:=List.mem_map.mp this
   obtain ⟨v,hv,t',rfl,ht'⟩:=h5.get Xg nd hq
   refine WSs.last (Zq (Zde (Wz (Zu (Zbz T) hr rfl T.m_is_known T.d_is_known.F.kp T.d_is_known.b .nil Z3 (Zb (pv 1) (Zb (W3 (pv 0) rfl) Za)))) (X6 (Wc hr) (W3 (pv 0) rfl) (pv 1) (fun _ _=>rfl)) (Zg (Zb Zf (Zb Zf Za))))) ⟨_,rfl,_,rfl,x,_,dx,_,_,rfl,h1,T.clTracks,T.nTracks_joined,rfl,t,jo,_,kj,rfl,ht,h4,_,rfl,?_⟩
   rw [hv]
   exact Zhv ⟨_,rfl,x,_,dx,_,_,rfl,h1,T.clTracks,T.nTracks_joined,rfl,_,rfl,jo,_,rfl,by rw [<-hv];exact Zar.t (k:=Yq e0) h4 ht,q t' e' hq ht'⟩
  ·have hv:Y4 kj (Yq e)=none:=h5.none Xg (by rw [Zaq];exact fun z=>hm (yv.net.flat.mem_iff.mp z))
   refine WSs.last (Zq (Zde (Wz (Zu (Zbz T) hr rfl T.m_is_known T.d_is_known.F.kp T.d_is_known.b .nil Z3 (Zb (pv 1) (Zb (W3 (pv 0) rfl) Za)))) (X6 (Wc hr) (W3 (pv 0) rfl) (pv 1) (fun _ _=>rfl)) (Zg (Zb Zf (Zb Zf Za))))) ⟨_,rfl,_,rfl,x,_,dx,_,_,rfl,h1,T.clTracks,T.nTracks_joined,rfl,t,jo,_,kj,rfl,ht,h4,_,rfl,?_⟩
   rw [hv]
   exact Zrh ⟨sz (by simp),fun t' H' s' n' e'=>q t' H' s' n' e'⟩
theorem Zcb(T:Tx K mg){k:Nat}(h:3<=k:=by decide):Z1 P w K mg base CX0 k T.d_Tracks_beyond.f T.d_Tracks_beyond.fd ["self", "end"] (Zoh T):=(Zgs T).mono h
def Ycg(sg:List (Str×Str×Str))(e:Zc):Bool:=decide (e∈sg.map Prod.snd)
def Zq9(T:Tx K mg):Sp:=fun vs H Q _=>∃(x t:Addr) (e:Zc) (ps:List Zc) (js:List (Zc×Zc)) (sg:List (Str×Str×Str)),vs=[.ref x,.ref t]/\Xf T H x ps js sg/\Y1 ps js sg/\Zw H t e /\
 ∀nm:Str,((nm,e)∈qS sg/\Zci nm/\e∈sg.map Prod.snd)\/(nm = "" /\e∉sg.map Prod.snd)->Q (.str nm) H
theorem Zei(T:Tx K mg):Z1 P w K mg base CX0 3 T.d_Tracks_signal_at.f T.d_Tracks_signal_at.fd ["self", "end"] (Zq9 T):=by
 refine T.d_Tracks_signal_at.F.okW Zel fun cdv A outer s H vs Q E hr h=>?_
 ·obtain ⟨x,t,e,ps,js,sg,rfl,tr,yv,ht,q⟩:=h
  obtain ⟨dx,po,jo,so,si,kp,ks,kj,ko,h1,_,_,_,_,_,_,h8,h9⟩:=tr.ex
  have nd:((qO sg).map Prod.fst).Nodup:=by rw [Zgl];exact yv.sigs.one
  by_cases hm:e∈sg.map Prod.snd
  ·obtain ⟨⟨nm,e1,e2⟩,hg,rfl⟩:=List.mem_map.mp hm
   obtain ⟨v,hv,rfl⟩:=h9.get Xg nd (a:=(e1,e2)) (b:=nm) (List.mem_map.mpr ⟨_,hg,rfl⟩)
   refine WSs.last (Zq (Zde (Wz (Zu (Zbz T) hr rfl T.m_is_known T.d_is_known.F.kp T.d_is_known.b .nil Z3 (Zb (pv 1) (Zb (W3 (pv 0) rfl) Za)))) (X6 (Wc hr) (W3 (pv 0) rfl) (pv 1) (fun _ _=>rfl)) Zf)) ⟨_,rfl,_,rfl,x,_,dx,_,_,rfl,h1,T.clTracks,T.nTracks_signal_on,rfl,t,si,_,ko,rfl,ht,h8,_,rfl,?_⟩
   have hv':Y4 ko (Yq (e1,e2))=some (.str nm):=hv
   rw [show ((nm,e1,e2):Str×Str×Str).snd=(e1,e2) from rfl,hv']
   exact Zhv ⟨_,rfl,x,_,dx,_,_,rfl,h1,T.clTracks,T.nTracks_signal_on,rfl,_,rfl,si,_,rfl,by rw [<-hv'];exact Zar.t (k:=Yq (e1,e2)) h8 ht,q nm (.inl ⟨List.mem_map.mpr ⟨_,hg,rfl⟩,yv.sigs.name _ hg,hm⟩)⟩
  ·have hv:Y4 ko (Yq e)=none:=h9.none Xg (by rw [Zgl];exact hm)
   refine WSs.last (Zq (Zde (Wz (Zu (Zbz T) hr rfl T.m_is_known T.d_is_known.F.kp T.d_is_known.b .nil Z3 (Zb (pv 1) (Zb (W3 (pv 0) rfl) Za)))) (X6 (Wc hr) (W3 (pv 0) rfl) (pv 1) (fun _ _=>rfl)) Zf)) ⟨_,rfl,_,rfl,x,_,dx,_,_,rfl,h1,T.clTracks,T.nTracks_signal_on,rfl,t,si,_,ko,rfl,ht,h8,_,rfl,?_⟩
   rw [hv]
   exact Zrh (q _ (.inr ⟨rfl,hm⟩))
theorem Zfb(T:Tx K mg){k:Nat}(h:3<=k:=by decide):Z1 P w K mg base CX0 k T.d_Tracks_signal_at.f T.d_Tracks_signal_at.fd ["self", "end"] (Zq9 T):=(Zei T).mono h
abbrev S4:=Str×Str×Str×Str
def Y7(H:Hp)(t:Addr)(q:S4):Prop:=H t=some (.tup [.str q.1,.str q.2.1,.str q.2.2.1,.str q.2.2.2])
theorem Y7.mono{H H':Hp}{t:Addr}{q:S4}(e:Same H H')(h:Y7 H t q):Y7 H' t q:=e.at h
def Zf6(H:Hp)(l:Addr)(ss:List S4):Prop:=∃ts:List Addr,H l=some (.lst (ts.map V.ref))/\Paired (Y7 H) ts ss
def Zd3(k en:Str):List (Str×Str):=((Zcr k).map fun lie=>(Xp k en lie,lie)).filter fun o=>decide (o.1 ≠ "") || decide (k = "gate" \/k = "stop")
def Zbe(k nm en:Str):List S4:=(Zd3 k en).map fun o=>(nm,en,o.1,o.2)
def Yad:Sp:=fun vs H Q _=>∃(t:Addr) (q:S4),vs=[.ref t]/\Y7 H t q/\∀t' H',Same H H'->H t'=none->Zw H' t' (q.1,q.2.2.1)->Q (.ref t') H'
theorem Zj3(T:Tx K mg):Z1 P w K mg base CX0 1 T.d_end_behind.f T.d_end_behind.fd ["step"] Yad:=by
 refine T.d_end_behind.F.okW Zkb fun cdv A outer s H vs Q E hr h=>?_
 ·obtain ⟨t,q4,rfl,ht,q⟩:=h
  exact WSs.last (Zq (Zg (Zb (Zp (r:=rIx K) Zk (pv 0) Ze (fun _ _=>rfl)) (Zb (Zp (r:=rIx K) Zk (pv 0) Ze (fun _ _=>rfl)) Za)))) ⟨_,rfl,.inr (.inl ⟨t,_,0,_,rfl,rfl,SqT.of ht,Zn (j:=0) rfl,_,rfl,.inr (.inl ⟨t,_,2,_,rfl,rfl,SqT.of ht,Zn (j:=2) rfl,sz (by simp),q⟩)⟩)⟩
theorem Zf4(T:Tx K mg){k:Nat}(h:1<=k:=by decide):Z1 P w K mg base CX0 k T.d_end_behind.f T.d_end_behind.fd ["step"] Yad:=(Zj3 T).mono h
def Wm(sg:List (Str×Str×Str))(q:S4):Bool:=decide (q.2.2.1 = "") || decide (((q.1,q.2.2.1):Zc)∈sg.map Prod.snd)
def Yas(T:Tx K mg):Sp:=fun vs H Q _=>∃(x t:Addr) (q:S4) (ps:List Zc) (js:List (Zc×Zc)) (sg:List (Str×Str×Str)),vs=[.ref x,.ref t]/\Xf T H x ps js sg/\Y1 ps js sg/\Y7 H t q/\∀H',Same H H'->Q (.bl (Wm sg q)) H'
theorem Zq7{s:Str}(h:Zci s):s ≠ "" :=fun z=>by
 have:=h.1
 rw [z] at this
 exact absurd this (by decide)
theorem Zjv(T:Tx K mg):Z1 P w K mg base CX0 4 T.d_ends_there.f T.d_ends_there.fd ["tracks", "step"] (Yas T):=by
 refine T.d_ends_there.F.okW Zj8 fun cdv A outer s H vs Q E hr h=>?_
 ·obtain ⟨x,t,q4,ps,js,sg,rfl,tr,yv,ht,q⟩:=h
  obtain ⟨dx,_,_,_,_,_,_,_,_,h1,_⟩:=tr.ex
  refine WSs.last (Zq (Zxh (W1 (r:=Zaz K) (Zba hr) (Zp (r:=rIx K) Zk (pv 1) Ze (fun _ _=>rfl)) Zf (Z4 _)) (Zfa (W1 (r:=Zj7 K) (Znp hr) (Zc7 (pv 0) T.clTracks T.mtTracks_signal_at (Zfb T) hr T.d_Tracks_signal_at.b .nil Z3 (Zb (Zu (Zf4 T) hr rfl T.m_end_behind T.d_end_behind.F.kp T.d_end_behind.b .nil Z3 (Zb (pv 1) Za)) Za)) Zf (Z4 _))))) ⟨_,rfl,.inr (.inl ⟨t,_,2,_,rfl,rfl,SqT.of ht,Zn (j:=2) rfl,.inl ⟨rfl,_,rfl,Ym (fun z=>?_) (fun z=>?_)⟩⟩)⟩
  ·have z:q4.2.2.1 = "" :=V.str.inj (of_decide_eq_true z)
   have e:Wm sg q4=true:=by unfold Wm;rw [decide_eq_true z];rfl
   rw [e] at q
   exact q H (Same.refl _)
  ·have z:¬q4.2.2.1 = "" :=fun y=>z (decide_eq_true (by rw [y]))
   refine ⟨_,rfl,x,dx,_,rfl,h1,rfl,_,rfl,t,q4,rfl,ht,fun t' H1 s1 n1 e1=>⟨x,t',_,ps,js,sg,rfl,tr.mono s1,yv,e1,fun nm hn=>.inl ⟨rfl,?_⟩⟩⟩
   have e:Wm sg q4=!decide (V.str nm=V.str ""):=by
    unfold Wm
    rw [decide_eq_false z]
    rcases hn with ⟨_,hn,hm⟩|⟨hn,hm⟩
    ·rw [decide_eq_true hm,decide_eq_false fun y=>Zq7 hn (V.str.inj y)];rfl
    ·rw [decide_eq_false hm,hn];rfl
   rw [<-e]
   exact q H1 s1
theorem Zfj(T:Tx K mg){k:Nat}(h:4<=k:=by decide):Z1 P w K mg base CX0 k T.d_ends_there.f T.d_ends_there.fd ["tracks", "step"] (Yas T):=(Zjv T).mono h
theorem Zva:∀k∈Wh,∀en∈Yc k,(Zd3 k en).length<2\/Zd3 k en=[(("left" :Str),("left" :Str)),(("right" :Str),("right" :Str))]:=by trivial
theorem Ziu:("right" :Str) ≠ "left" /\¬("right" :Str).cps.toList<("left" :Str).cps.toList:=by trivial
theorem Zm7(k:Str):(Zcr k).length<=2:=by unfold Zcr;split <;>decide
theorem Y7.off{H:Hp}{c t:Addr}{o:HO}{xs:List V}{q:S4}(h:Y7 H t q)(hc:H c=some (.lst xs)):Y7 (upd H c o) t q:=by
 unfold Y7 at h ⊢
 exact (Zj fun z=>by rw [z,hc] at h;cases h).trans h
def Zxf(T:Tx K mg):Sp:=fun vs H Q _=>∃(x t:Addr) (nm en:Str) (ps:List Zc) (js:List (Zc×Zc)) (sg:List (Str×Str×Str)),vs=[.ref x,.ref t]/\Xf T H x ps js sg/\Y1 ps js sg/\Zw H t (nm,en) /\
 ((∃k,((k,nm):Zc)∈ps/\en∈Yc k/\∀l H',Same H H'->H l=none->Zf6 H' l (Zbe k nm en)->Q (.ref l) H')\/(((nm,en):Zc)∉Yb ps/\∀l H',Same H H'->H l=none->H' l=some (.lst [])->Q (.ref l) H'))
theorem Zou{ps:List Zc}{k nm en:Str}(h:((k,nm):Zc)∈ps)(he:en∈Yc k):((nm,en):Zc)∈Yb ps:=List.mem_flatMap.mpr ⟨(k,nm),h,List.mem_map.mpr ⟨en,he,rfl⟩⟩
theorem Zr8{ps:List Zc}{js:List (Zc×Zc)}{sg:List (Str×Str×Str)}(yv:Y1 ps js sg){e:Zc}(h:e∈Yb ps):e.1 ≠ "" :=by
 obtain ⟨p,hp,hm⟩:=List.mem_flatMap.mp h
 obtain ⟨x,_,rfl⟩:=List.mem_map.mp hm
 exact Zq7 (yv.name p hp)
theorem Zj5(T:Tx K mg):Z1 P w K mg base CX0 4 T.d_steps_into.f T.d_steps_into.fd ["tracks", "end"] (Zxf T):=by
 refine T.d_steps_into.F.okW Zat fun cdv A outer s H vs Q E hr h=>?_
 ·obtain ⟨x,t,nm,en,ps,js,sg,rfl,tr,yv,ht,q⟩:=h
  obtain ⟨dx,_,_,_,_,_,_,_,_,h1,_⟩:=tr.ex
  have imP:∀{H':Hp} {u:Addr} {e:Zc},Zw H' u e->Im K H' 1 (trP e) (.ref u):=fun {H' u e} h=>Im.tup (n:=0) (SqT.of h) (.cons (.str _) (.cons (.str _) .nil))
  have imN:∀H':Hp,Im K H' 1 (trP ("", "")) (.ref T.a_NO_END):=fun H'=>Im.tup (n:=0) (T.t_NO_END H') (.cons (.str _) (.cons (.str _) .nil))
  rcases q with ⟨k,hm,hen,q⟩|⟨hm,q⟩
  ·have hkd:=yv.net.kind _ hm
   refine WSs.step (Ye (Zs (r:=Zaz K) (Zba hr) (Zc7 (pv 0) T.clTracks T.mtTracks_beyond (Zcb T) hr T.d_Tracks_beyond.b .nil Z3 (Zb (pv 1) Za)) (Zf0 (v:=.ref T.a_NO_END) (by rfl) T.c_NO_END rfl) (Z4 _)) Z2 Zv) ⟨_,rfl,x,dx,_,rfl,h1,rfl,_,rfl,x,t,(nm,en),ps,js,sg,rfl,tr,yv,ht,.inl ⟨Zou hm hen,fun t' e' he' ht'=>.inr (.inl ⟨1,trP e',trP ("", ""),by decide,.inl ⟨_,_,rfl,rfl⟩,imP ht',imN _,_,rfl,Ym (fun z=>?_) (fun _=>?_)⟩)⟩⟩
   ·have z:trP e'=trP ("", ""):=of_decide_eq_true z
    have e1:e'∈Yb ps:=yv.net.flat.mem_iff.mp (by
     obtain ⟨j,hj,hx⟩:=List.mem_flatMap.mp he'
     refine List.mem_flatMap.mpr ⟨j,hj,?_⟩
     simp only [List.mem_cons,Prod.mk.injEq,List.mem_nil_iff,or_false] at hx ⊢
     rcases hx with ⟨_,y⟩|⟨_,y⟩
     ·exact .inr y
     ·exact .inl y)
    exact absurd (by rw [Zp9 z]) (Zr8 yv e1)
   refine WSs.step (Zx (i:=2) Zat.nd (Zp (r:=rIx K) Zk (pv 1) Ze (fun _ _=>rfl))) ⟨_,rfl,.inr (.inl ⟨t,_,0,_,rfl,rfl,SqT.of ht,Zn (j:=0) rfl,?_⟩)⟩
   refine WSs.step (Zx (i:=3) Zat.nd (Zp (r:=rIx K) Zk (pv 1) Ze (fun _ _=>rfl))) ⟨_,rfl,.inr (.inl ⟨t,_,1,_,rfl,rfl,SqT.of ht,Zn (j:=1) rfl,?_⟩)⟩
   refine WSs.step (Zx (i:=4) Zat.nd (Zc7 (pv 0) T.clTracks T.mtTracks_named (Zid T) hr T.d_Tracks_named.b .nil Z3 (Zb (pv 2) Za))) ⟨_,rfl,x,dx,_,rfl,h1,rfl,_,rfl,x,nm,k,ps,js,sg,rfl,tr,yv,hm,fun y C H1 s1 hC hO=>?_⟩
   obtain ⟨dy,hy⟩:=id hO
   obtain ⟨f1,d1,m1,b1,g1⟩:=hC.lies
   refine WSs.step (Zb3 (i:=5) (N':=["lie", "name", "entry", "part"]) Zat.nd rfl (Or.inl rfl) rfl (Ya.std 1 [2,3,4] rfl (by trivial) (by trivial) rfl ⟨rfl,rfl,rfl,trivial⟩ rfl rfl ⟨⟨_,rfl,rfl,rfl⟩,⟨_,rfl,rfl,rfl⟩,⟨_,rfl,rfl,rfl⟩,trivial⟩) (Yx Zuh) (fun _ _ _ _=>(Zbn (i:=0) (by show (["lie", "name", "entry", "part"]:List Str).Nodup;decide +kernel))) (fun _ _ _ _=>W0) (fun _ _ _ _=>(Zg (Zb (pv 1) (Zb (pv 2) (Zb (Zc7 (pv 3) hC.cls.1 hC.cls.2.2 (Zma T) hr T.d_Part_leads.b .nil Z3 (Zb (pv 2) (Zb (pv 0) Za))) (Zb (pv 0) Za))))))) (WE.of (Zd1 (pv 4) hC.cls.1 m1 (g1 _ _ _ 3 (by decide)) hr b1 .nil Z3) ⟨_,rfl,y,dy,_,rfl,hy,rfl,_,rfl,fun p H2 s2 n2 e2=>⟨p,rfl,⟨_,SqL.of e2⟩,fun D hD=>Xq (K:=K) (xs:=(Zcr k).map V.str) (fun i ys H'=>(∃ts:List Addr,ys=ts.map V.ref/\Paired (Y7 H') ts (((Zcr k).take i).map fun lie=>(nm,en,Xp k en lie,lie)))/\H' D=some (.lst ys)/\Same H2 H') ⟨⟨[],rfl,.nil⟩,Zh,Same.new hD⟩ ?_ ?_ ?_⟩⟩)
   ·rintro i ys H' _ ⟨_,_,sm⟩
    exact SqL.of (sm.at e2)
   ·rintro i v ys H' hi ⟨⟨ts,rfl,hts⟩,hD',sm⟩
    rw [List.getElem?_map] at hi
    obtain ⟨lie,hl,rfl⟩:=Option.map_eq_some_iff.mp hi
    have hlen:ts.length<=2:=by
     have h1:=Paired.length hts
     have h2:=Zm7 k
     rw [List.length_map,List.length_take] at h1
     omega
    have hy':=sm.at (s2.at hy)
    refine ⟨W2.set rfl,_,rfl,_,rfl,_,rfl,y,dy,_,rfl,hy',rfl,_,rfl,_,rfl,k,y,C,nm,en,lie,rfl,hC,⟨dy,hy'⟩,fun H3 s3=>⟨_,rfl,sz (by simp),fun t3 H4 s4 n4 e4=>⟨s4.at (s3.at hD'),by rw [List.length_map];exact Zy (by omega),⟨ts++[t3],by rw [List.map_append];rfl,?_⟩,Zh,?_⟩⟩⟩
    ·rw [List.take_add_one,hl,List.map_append]
     refine Paired.append (Paired.mapP hts fun _ _ r=>Y7.off ((r.mono s3).mono s4) (s4.at (s3.at hD'))) (.cons (Y7.off e4 (s4.at (s3.at hD'))) .nil)
    ·intro b o z
     rw [Zj (Zi z hD)]
     exact s4.at (s3.at (sm.at z))
   ·rintro ys H3 ⟨⟨ts,rfl,hts⟩,hD3,s3⟩
    rw [List.length_map,List.take_length] at hts
    have hO3:Zdt H3 C y nm:=(hO.mono s2).mono s3
    have hlts:=Paired.length hts
    have hl2:=Zm7 k
    rw [List.length_map] at hlts
    refine WSs.last (Zq (Z0 (r:=Zq1 K) Znv (by rfl) T.n_sorted PyProof.Rows.boot_sorted (Zb (Xn (N':=["step", "part"]) rfl (Ya.std 1 [4] rfl (by trivial) (by trivial) rfl ⟨rfl,trivial⟩ rfl rfl ⟨⟨_,rfl,rfl,rfl⟩,trivial⟩) (Yx (pv 5)) (fun _ _ _ _=>(Zbn (i:=0) (by show (["step", "part"]:List Str).Nodup;decide +kernel))) (fun _ _ _ _=>(Zgf (PW.pt (Zg6 (Zs (r:=Zj7 K) (Znp hr) (Zp (r:=rIx K) Zk (pv 0) Ze (fun _ _=>rfl)) Zf (Z4 _)) (Zd6 (Wz (Z0 (r:=Zor K) Zbx (by rfl) T.n_isinstance PyProof.Rows.boot_isinstance (Zb (pv 1) (Zb (Zf0 (v:=.ref T.CStop) (by rfl) T.mStop rfl) Za))))))))) (fun _ _ _ _=>(pv 0))) Za))) ⟨_,rfl,D,rfl,⟨_,SqL.of hD3⟩,fun D2 hD2=>Xq (K:=K) (xs:=ts.map V.ref) (fun i ys H'=>(∃us:List Addr,ys=us.map V.ref/\Paired (Y7 H3) us ((((Zcr k).take i).map fun lie=>(nm,en,Xp k en lie,lie)).filter fun s=>decide (s.2.2.1 ≠ "") || decide (k = "gate" \/k = "stop")))/\H' D2=some (.lst ys)/\Same H3 H') ⟨⟨[],rfl,.nil⟩,Zh,Same.new hD2⟩ ?_ ?_ ?_⟩
    ·rintro i ys H' _ ⟨_,_,sm⟩
     exact SqL.of (sm.at hD3)
    ·rintro i v ys H4 hi ⟨⟨us,rfl,hus⟩,hD4,s4⟩
     rw [List.getElem?_map] at hi
     obtain ⟨t4,hti,rfl⟩:=Option.map_eq_some_iff.mp hi
     obtain ⟨q4,hq4,ht4⟩:=Paired.get hts hti
     rw [List.getElem?_map] at hq4
     obtain ⟨lie,hl,rfl⟩:=Option.map_eq_some_iff.mp hq4
     obtain ⟨ty,hty,hkit⟩:=hC.stop (hO3.mono s4)
     have hlen:us.length<=2:=by
      have h1:=Paired.length hus
      have h2:=List.length_filter_le (fun s:S4=>decide (s.2.2.1 ≠ "") || decide (k = "gate" \/k = "stop")) (((Zcr k).take i).map fun lie=>(nm,en,Xp k en lie,lie))
      rw [List.length_map,List.length_take] at h2
      omega
     have keep:∀b:Bool,(decide (Xp k en lie ≠ "") || decide (k = "gate" \/k = "stop"))=b->(if b=true then H4 D2=some (.lst (us.map V.ref))/\(us.map V.ref).length<sizeLine/\(∃us':List Addr,us.map V.ref++[.ref t4]=us'.map V.ref/\Paired (Y7 H3) us' ((((Zcr k).take (i+1)).map fun lie=>(nm,en,Xp k en lie,lie)).filter fun s=>decide (s.2.2.1 ≠ "") || decide (k = "gate" \/k = "stop")))/\upd H4 D2 (.lst (us.map V.ref++[.ref t4])) D2=some (.lst (us.map V.ref++[.ref t4]))/\Same H3 (upd H4 D2 (.lst (us.map V.ref++[.ref t4]))) else (∃us':List Addr,us.map V.ref=us'.map V.ref/\Paired (Y7 H3) us' ((((Zcr k).take (i+1)).map fun lie=>(nm,en,Xp k en lie,lie)).filter fun s=>decide (s.2.2.1 ≠ "") || decide (k = "gate" \/k = "stop")))/\H4 D2=some (.lst (us.map V.ref))/\Same H3 H4):=by
      intro b hb
      rw [List.take_add_one,hl,List.map_append,List.filter_append]
      cases b with
      | true =>
       refine Zhv ⟨hD4,by rw [List.length_map];exact Zy (by omega),⟨us++[t4],by rw [List.map_append];rfl,Paired.append hus ?_⟩,Zh,fun b o z=>?_⟩
       ·have:List.filter (fun s:S4=>decide (s.2.2.1 ≠ "") || decide (k = "gate" \/k = "stop")) ((some lie).toList.map fun lie=>(nm,en,Xp k en lie,lie))=[(nm,en,Xp k en lie,lie)]:=List.filter_cons_of_pos (by show (decide (Xp k en lie ≠ "") || decide (k = "gate" \/k = "stop"))=true;exact hb)
        rw [this]
        exact .cons ht4 .nil
       ·rw [Zj (Zi z hD2)];exact s4.at z
      | false =>
       refine Zrh ⟨⟨us,rfl,?_⟩,hD4,s4⟩
       have:List.filter (fun s:S4=>decide (s.2.2.1 ≠ "") || decide (k = "gate" \/k = "stop")) ((some lie).toList.map fun lie=>(nm,en,Xp k en lie,lie))=[]:=List.filter_cons_of_neg (by show ¬(decide (Xp k en lie ≠ "") || decide (k = "gate" \/k = "stop"))=true;rw [hb];decide)
       rw [this,List.append_nil]
       exact hus
     refine ⟨W2.set rfl,_,rfl,.inr (.inl ⟨t4,_,2,_,rfl,rfl,SqT.of (s4.at ht4),Zn (j:=2) rfl,.inl ⟨rfl,_,rfl,Ym (fun z=>?_) (fun z=>⟨_,rfl,_,_,_,ty,rfl,hty,.inr ⟨_,rfl,hkit⟩,_,rfl,?_⟩)⟩⟩)⟩
     ·have kt:=keep true (by
       have:Xp k en lie ≠ "" :=fun y=>by
        have y:V.str (Xp k en lie)=V.str "" :=by rw [y]
        rw [decide_eq_true y] at z
        exact absurd z (by decide)
       rw [decide_eq_true this];rfl)
      rw [if_pos rfl] at kt
      exact Zhv ⟨_,rfl,kt⟩
     ·have y:Xp k en lie = "" :=by
       by_cases y:Xp k en lie = ""
       ·exact y
       ·rw [decide_eq_false fun w=>y (V.str.inj w)] at z
        exact absurd rfl z
      by_cases g:k = "gate" \/k = "stop"
      ·have kt:=keep true (by rw [decide_eq_true g,Bool.or_true])
       rw [if_pos rfl] at kt
       rw [decide_eq_true g] at kt ⊢
       exact Zhv ⟨_,rfl,kt⟩
      ·have kt:=keep false (by rw [decide_eq_false g,decide_eq_false fun w=>w y];rfl)
       rw [if_neg (by decide)] at kt
       rw [decide_eq_false g] at kt ⊢
       exact Zrh kt
    ·rintro ys H4 ⟨⟨us,rfl,hus⟩,hD4,s4⟩
     rw [List.length_map,hlts,List.take_length] at hus
     have es:((Zcr k).map fun lie=>((nm,en,Xp k en lie,lie):S4)).filter (fun s:S4=>decide (s.2.2.1≠("" :Str)) || decide (k = "gate" \/k = "stop"))=Zbe k nm en:=by
      unfold Zbe Zd3
      rw [List.filter_map,List.filter_map,List.map_map]
      rfl
     rw [es] at hus
     have hul:=Paired.length hus
     refine ⟨D2,us,rfl,hD4,?_,fun l H5 s5 n5 e5=>q l H5 (s1.trans (s2.trans (s3.trans (s4.trans s5)))) (s1.free (s2.free (s3.free (s4.free n5)))) ⟨us,e5,Paired.mapP hus fun _ _ r=>(r.mono s4).mono s5⟩⟩
     rcases Zva k hkd en hen with hf|hf
     ·unfold Zbe at hul
      rw [List.length_map] at hul
      exact .inl (by omega)
     ·unfold Zbe at hus
      rw [hf] at hus
      match us,hus with
      | [a,b],.cons ha (.cons hb .nil)=>exact .inr ⟨a,b,nm,en, "left", "left", "right", "right",rfl,s4.at ha,s4.at hb,Ziu.1,Ziu.2⟩
  ·refine WSs.step (Ye (Zs (r:=Zaz K) (Zba hr) (Zc7 (pv 0) T.clTracks T.mtTracks_beyond (Zcb T) hr T.d_Tracks_beyond.b .nil Z3 (Zb (pv 1) Za)) (Zf0 (v:=.ref T.a_NO_END) (by rfl) T.c_NO_END rfl) (Z4 _)) Z2 Zv) ⟨_,rfl,x,dx,_,rfl,h1,rfl,_,rfl,x,t,(nm,en),ps,js,sg,rfl,tr,yv,ht,.inr ⟨hm,fun t' H1 s1 n1 e1=>.inr (.inl ⟨1,trP ("", ""),trP ("", ""),by decide,.inl ⟨_,_,rfl,rfl⟩,imP e1,imN _,_,rfl,Ym (fun _=>?_) (fun z=>absurd (decide_eq_true rfl) z)⟩)⟩⟩
   exact WSs.last (Zq (Zm Za)) ⟨sz (by simp),fun l H2 s2 n2 e2=>q l H2 (s1.trans s2) (s1.free n2) e2⟩
theorem Zl5(T:Tx K mg){k:Nat}(h:4<=k:=by decide):Z1 P w K mg base CX0 k T.d_steps_into.f T.d_steps_into.fd ["tracks", "end"] (Zxf T):=(Zj5 T).mono h
theorem Zdt.offL{H:Hp}{c x C:Addr}{o:HO}{xs:List V}{nm:Str}(h:Zdt H C x nm)(hc:H c=some (.lst xs)):Zdt (upd H c o) C x nm:=by
 obtain ⟨dx,h⟩:=h
 exact ⟨dx,(Zj fun z=>by rw [z,hc] at h;cases h).trans h⟩
def Zg0(H:Hp)(t:Addr)(ps:List Zc)(js:List (Zc×Zc))(sg:List (Str×Str×Str)):Prop:=∃pl jl sl,H t=some (.tup [.ref pl,.ref jl,.ref sl])/\Zz H pl ps/\Yj H jl js/\Zcd H sl sg
theorem Zg0.mono{H H':Hp}{t:Addr}{ps:List Zc}{js:List (Zc×Zc)}{sg:List (Str×Str×Str)}(e:Same H H')(h:Zg0 H t ps js sg):Zg0 H' t ps js sg:=let ⟨pl,jl,sl,h1,h2,h3,h4⟩:=h;⟨pl,jl,sl,e.at h1,h2.mono e,h3.mono e,h4.mono e⟩
def Zxy(T:Tx K mg):Sp:=fun vs H Q _=>∃(t:Addr) (ps:List Zc) (js:List (Zc×Zc)) (sg:List (Str×Str×Str)),vs=[.ref t]/\Zg0 H t ps js sg/\Y1 ps js sg/\∀x H',Same H H'->H x=none->Xf T H' x ps js sg->Q (.ref x) H'
theorem Zjd(T:Tx K mg):Z1 P w K mg base CX0 7 T.d__law_tracks.f T.d__law_tracks.fd ["_law_yard"] (Zxy T):=by
 refine T.d__law_tracks.F.okW Zjl fun cdv A outer s H vs Q E hr h=>?_
 ·obtain ⟨t,ps,js,sg,rfl,⟨pl,jl,sl,ht,⟨ts,hpl,hts⟩,hjl,hsl⟩,yv,q⟩:=h
  have htl:=Paired.length hts
  have ylen:=yv.len
  refine WSs.last (Zq (Zcx (Zlj T) T.mkTracks (Zfg T) hr rfl T.mTracks T.d_Tracks___init__.b .nil Z3 (Zru T) (Zb (Xn (N':=["_law_kind", "_law_name"]) rfl (Ya.std 2 [] rfl (by trivial) (by trivial) rfl trivial rfl rfl trivial) (Yx (Zp (r:=rIx K) Zk (pv 0) Ze (fun _ _=>rfl))) (fun _ _ _ _=>(Zh0 (K:=K) (n:=2) rfl rfl (Z6 (Zbn (i:=0) (by show (["_law_kind", "_law_name"]:List Str).Nodup;decide +kernel)) (Z6 (Zbn (i:=1) (by show (["_law_kind", "_law_name"]:List Str).Nodup;decide +kernel)) X2)))) (fun _ _ _ _=>W0) (fun _ _ _ _=>(Zu (Zno T) hr rfl T.m__law_part T.d__law_part.F.kp T.d__law_part.b .nil Z3 (Zb (pv 0) (Zb (pv 1) Za))))) (Zb (Zp (r:=rIx K) Zk (pv 0) Ze (fun _ _=>rfl)) (Zb (Zp (r:=rIx K) Zk (pv 0) Ze (fun _ _=>rfl)) Za))))) ⟨_,rfl,.inr (.inl ⟨t,_,0,_,rfl,rfl,SqT.of ht,Zn (j:=0) rfl,pl,rfl,⟨_,SqL.of hpl⟩,fun D hD=>Xq (K:=K) (xs:=ts.map V.ref) (fun i ys H'=>(∃xs:List Addr,ys=xs.map V.ref/\Paired (PO T H') xs (ps.take i))/\H' D=some (.lst ys)/\Same H H') ⟨⟨[],rfl,.nil⟩,Zh,Same.new hD⟩ ?_ ?_ ?_⟩)⟩
  ·rintro i ys H' _ ⟨_,_,sm⟩
   exact SqL.of (sm.at hpl)
  ·rintro i v ys H1 hi ⟨⟨xs,rfl,hxs⟩,hD1,s1⟩
   rw [List.getElem?_map] at hi
   obtain ⟨u,hu,rfl⟩:=Option.map_eq_some_iff.mp hi
   obtain ⟨p,hp,hpu⟩:=Paired.get hts hu
   have hpu:H u=some (.tup [.str p.1,.str p.2]):=hpu
   have hm:p∈ps:=List.mem_of_getElem? hp
   have hxl:xs.length<=100:=by
    have:=Paired.length hxs
    rw [List.length_take] at this
    omega
   refine ⟨u,_,rfl,SqT.of (s1.at hpu),rfl,_,_,rfl,_,_,rfl,rfl,(W2.set rfl).trans (W2.set rfl),_,rfl,_,rfl,p.1,p.2,rfl,yv.net.kind p hm,(yv.name p hm).2.1,fun x C H2 s2 n2 hC hO=>⟨s2.at hD1,by rw [List.length_map];exact Zy (by omega),⟨xs++[x],by rw [List.map_append];rfl,?_⟩,Zh,fun b o z=>?_⟩⟩
   ·rw [List.take_add_one,hp]
    exact Paired.append (Paired.mapP hxs fun _ _ ⟨C,z1,z2⟩=>⟨C,z1,(z2.mono s2).offL (s2.at hD1)⟩) (.cons ⟨C,hC,hO.offL (s2.at hD1)⟩ .nil)
   ·rw [Zj (Zi z hD)];exact s2.at (s1.at z)
  ·rintro ys H1 ⟨⟨xs,rfl,hxs⟩,hD1,s1⟩
   rw [List.length_map,htl,List.take_length] at hxs
   exact ⟨_,rfl,.inr (.inl ⟨t,_,1,_,rfl,rfl,SqT.of (s1.at ht),Zn (j:=1) rfl,_,rfl,.inr (.inl ⟨t,_,2,_,rfl,rfl,SqT.of (s1.at ht),Zn (j:=2) rfl,D,jl,sl,xs,ps,js,sg,rfl,hD1,hxs,hjl.mono s1,hsl.mono s1,yv,fun x H2 s2 n2 tr=>q x H2 (s1.trans s2) (s1.free n2) tr⟩)⟩)⟩
theorem Zki(T:Tx K mg){k:Nat}(h:7<=k:=by decide):Z1 P w K mg base CX0 k T.d__law_tracks.f T.d__law_tracks.fd ["_law_yard"] (Zxy T):=(Zjd T).mono h
def RK:Str->Str->V->Prop:=fun _ k v=>v=.str k
def Zfm(a b c:Addr):List (Key×V):=[(Yh "kinds",.ref a),(Yh "joined",.ref b),(Yh "stands",.ref c)]
structure Zdy(H:Hp)(d:Addr)(ps:List Zc)(js:List (Zc×Zc))(sg:List (Str×Str×Str)):Prop where
 ex:∃(a b c:Addr) (kk:List (Key×V)) (kj kst:List (List Key×V)),H d=some (.dK (Zfm a b c))/\H a=some (.dK kk)/\DP Yh RK kk (qP ps)/\H b=some (.dT kj)/\DP Yq (RJ H) kj (qJ js)/\H c=some (.dT kst)/\DP Yq RO kst (qO sg)
theorem Zdy.mono{H H':Hp}{d:Addr}{ps:List Zc}{js:List (Zc×Zc)}{sg:List (Str×Str×Str)}(e:Same H H')(h:Zdy H d ps js sg):Zdy H' d ps js sg:=by
 obtain ⟨a,b,c,kk,kj,kst,h1,h2,h3,h4,h5,h6,h7⟩:=h.ex
 exact ⟨a,b,c,kk,kj,kst,e.at h1,e.at h2,h3,e.at h4,h5.mapR (RJ.mono e),e.at h6,h7⟩
def Zxo:Sp:=fun vs H Q _=>∃(t:Addr) (ps:List Zc) (js:List (Zc×Zc)) (sg:List (Str×Str×Str)),vs=[.ref t]/\Zg0 H t ps js sg/\Y1 ps js sg/\∀d H',Same H H'->H d=none->Zdy H' d ps js sg->Q (.ref d) H'
theorem Znu(T:Tx K mg):Z1 P w K mg base CX0 1 T.d__law_map.f T.d__law_map.fd ["_law_yard"] Zxo:=by
 refine T.d__law_map.F.okW Xa fun cdv A outer s H vs Q E hr h=>?_
 ·obtain ⟨t,ps,js,sg,rfl,⟨pl,jl,sl,ht,⟨ts,hpl,hts⟩,⟨us,hjl,hus⟩,⟨gs,hsl,hgs⟩⟩,yv,q⟩:=h
  have htl:=Paired.length hts
  have hul:=Paired.length hus
  have hgl:=Paired.length hgs
  have ylen:=yv.len
  have jlen:=yv.net.jlen ylen
  have slen:=yv.sigs.len
  have fnd:(Y0 js).Nodup:=yv.net.flat.nodup_iff.mpr (Za3 yv.net.nd)
  refine WSs.step (Zx (i:=1) Xa.nd Zee) fun b H1 s1 n1 e1=>?_
  let I22:=fun (i:Nat) (σ:St) (H':Hp)=>(∃o2 o3,σ=[some (.ref t),some (.ref b),o2,o3,none,none,none,none,none,none])/\Same H H'/\∃kj,H' b=some (.dT kj)/\DP Yq (RJ H) kj (qJ (js.take i))
  refine WSs.step (Wi PassesOwn.never rfl (Yx (Zp (r:=rIx K) Zk (pv 0) Ze (fun _ _=>rfl))) (Zbt rfl (Z6 (Y5 (i:=2) Xa.nd) (Z6 (Y5 (i:=3) Xa.nd) X2))) Z2) ⟨_,rfl,.inr (.inl ⟨t,_,1,_,rfl,rfl,SqT.of (s1.at ht),Zn (j:=1) rfl,jl,rfl,⟨_,SqL.of (s1.at hjl)⟩,W6 (K:=K) (xs:=us.map V.ref) I22 ⟨⟨none,none,rfl⟩,s1,[],e1,.nil⟩ ?_ ?_ ?_⟩)⟩
  ·rintro i σ H' _ ⟨_,s2,_⟩
   exact SqL.of (s2.at hjl)
  ·rintro i v σ H2 hi ⟨⟨o2,o3,rfl⟩,s2,kj,hb,hD⟩
   rw [List.getElem?_map] at hi
   obtain ⟨u,hui,rfl⟩:=Option.map_eq_some_iff.mp hi
   obtain ⟨j,hj,a1,a2,hu,ha1,ha2⟩:=Paired.get hus hui
   have hil:=(List.getElem?_eq_some_iff.mp hj).1
   have hlen:kj.length<=600:=by
    have h1:=hD.len
    rw [Zo9,List.length_take] at h1
    omega
   have hnd:(Y0 (js.take i)++[j.1]++[j.2]).Nodup:=by
    have h1:(Y0 (js.take (i+1))).Nodup:=fnd.sublist (by
     have:Y0 js=Y0 (js.take (i+1))++Y0 (js.drop (i+1)):=by rw [<-Zco,List.take_append_drop]
     rw [this]
     exact List.sublist_append_left _ _)
    rw [<-Zaq,Zh7 hj,List.map_append,List.map_append,Zaq] at h1
    exact h1
   have nd1:j.1∉Y0 (js.take i):=fun z=>(List.nodup_append.mp (List.nodup_append.mp hnd).1).2.2 _ z _ List.mem_cons_self rfl
   have nd2:j.2∉Y0 (js.take i)++[j.1]:=fun z=>(List.nodup_append.mp hnd).2.2 _ z _ List.mem_cons_self rfl
   have v1:Y4 kj (Yq j.1)=none:=hD.none Xg (by rw [Zaq];exact nd1)
   have hD1:DP Yq (RJ H) (Zbb kj (Yq j.1) (.ref a2)) (qJ (js.take i)++[(j.1,j.2)]):=hD.put v1 ⟨a2,rfl,ha2⟩
   have hl1:=Zb9 kj (Yq j.1) (.ref a2)
   have v3:Y4 (Zbb kj (Yq j.1) (.ref a2)) (Yq j.2)=none:=hD1.none Xg (by rw [List.map_append,Zaq];exact nd2)
   refine ⟨u,_,rfl,SqT.of (s2.at hu),rfl,_,_,rfl,_,_,rfl,rfl,?_⟩
   refine WSs.step (Zcj (Wc hr) (pv 1) (pv 2) (pv 3) rfl) ⟨_,rfl,_,rfl,_,rfl,b,_,rfl,Ze4.t (k:=Yq j.1) hb (Zhx (ha1.mono s2)) (Zy (by omega)),?_⟩
   have s3:Same H (upd H2 b (.dT (Zbb kj (Yq j.1) (.ref a2)))):=s2.upd0 n1
   refine WSs.last (Zcj (Wc hr) (pv 1) (pv 3) (pv 2) rfl) ⟨_,rfl,_,rfl,_,rfl,b,_,rfl,Ze4.t (k:=Yq j.2) Zh (Zhx (ha2.mono s3)) (Zy (by omega)),⟨_,_,rfl⟩,s3.upd0 n1,_,Zh,?_⟩
   rw [Zh7 hj]
   exact hD1.put v3 ⟨a1,rfl,ha1⟩
  rintro σ H2 ⟨⟨o2,o3,rfl⟩,s2,kj,hb,hD⟩
  rw [List.length_map,hul,List.take_length] at hD
  refine WSs.step (Zx (i:=4) Xa.nd Zgh) fun a H3 s3 n3 e3=>?_
  have n3':=s2.free n3
  have s03:=s2.trans s3
  let I23:=fun (i:Nat) (σ:St) (H':Hp)=>(∃o5 o6,σ=[some (.ref t),some (.ref b),o2,o3,some (.ref a),o5,o6,none,none,none])/\Same H2 H'/\∃kk,H' a=some (.dK kk)/\DP Yh RK kk (qP (ps.take i))
  refine WSs.step (Wi PassesOwn.never rfl (Yx (Zp (r:=rIx K) Zk (pv 0) Ze (fun _ _=>rfl))) (Zbt rfl (Z6 (Y5 (i:=5) Xa.nd) (Z6 (Y5 (i:=6) Xa.nd) X2))) Z2) ⟨_,rfl,.inr (.inl ⟨t,_,0,_,rfl,rfl,SqT.of (s03.at ht),Zn (j:=0) rfl,pl,rfl,⟨_,SqL.of (s03.at hpl)⟩,W6 (K:=K) (xs:=ts.map V.ref) I23 ⟨⟨none,none,rfl⟩,s3,[],e3,.nil⟩ ?_ ?_ ?_⟩)⟩
  ·rintro i σ H' _ ⟨_,s4,_⟩
   exact SqL.of ((s2.trans s4).at hpl)
  ·rintro i v σ H4 hi ⟨⟨o5,o6,rfl⟩,s4,kk,ha,hK⟩
   rw [List.getElem?_map] at hi
   obtain ⟨u,hui,rfl⟩:=Option.map_eq_some_iff.mp hi
   obtain ⟨p,hp,hu⟩:=Paired.get hts hui
   have hu:H u=some (.tup [.str p.1,.str p.2]):=hu
   have hn:Y4 kk (Yh p.2)=none:=hK.none Zdd (by
    rw [Zlt,List.map_take]
    exact Zea yv.net.nd (by rw [List.getElem?_map,hp];rfl))
   have hkl:kk.length<=100:=by
    have:=hK.len
    unfold qP at this
    rw [List.length_map,List.length_take] at this
    omega
   refine ⟨u,_,rfl,SqT.of ((s2.trans s4).at hu),rfl,_,_,rfl,_,_,rfl,rfl,?_⟩
   refine WSs.last (Zcj (Wc hr) (pv 4) (pv 6) (pv 5) rfl) ⟨_,rfl,_,rfl,_,rfl,a,_,rfl,Ze4.k (k:=Yh p.2) ha (Zy (by omega)),⟨_,_,rfl⟩,s4.upd0 n3,_,Zh,?_⟩
   have:qP (ps.take (i+1))=qP (ps.take i)++[(p.2,p.1)]:=by
    unfold qP
    rw [List.take_add_one,hp,List.map_append]
    rfl
   rw [this]
   exact hK.put hn rfl
  rintro σ H4 ⟨⟨o5,o6,rfl⟩,s4,kk,ha,hK⟩
  rw [List.length_map,htl,List.take_length] at hK
  refine WSs.step (Zx (i:=7) Xa.nd Zee) fun c H5 s5 n5 e5=>?_
  have s04:=s2.trans s4
  have s05:=s04.trans s5
  let I24:=fun (i:Nat) (σ:St) (H':Hp)=>(∃o6 o8 o9,σ=[some (.ref t),some (.ref b),o2,o3,some (.ref a),o5,o6,some (.ref c),o8,o9])/\Same H4 H'/\∃kst,H' c=some (.dT kst)/\DP Yq RO kst (qO (sg.take i))
  refine WSs.step (Wi PassesOwn.never rfl (Yx (Zp (r:=rIx K) Zk (pv 0) Ze (fun _ _=>rfl))) (Zbt rfl (Z6 (Y5 (i:=6) Xa.nd) (Z6 (Y5 (i:=8) Xa.nd) (Z6 (Y5 (i:=9) Xa.nd) X2)))) Z2) ⟨_,rfl,.inr (.inl ⟨t,_,2,_,rfl,rfl,SqT.of (s05.at ht),Zn (j:=2) rfl,sl,rfl,⟨_,SqL.of (s05.at hsl)⟩,W6 (K:=K) (xs:=gs.map V.ref) I24 ⟨⟨_,_,_,rfl⟩,s5,[],e5,.nil⟩ ?_ ?_ ?_⟩)⟩
  ·rintro i σ H' _ ⟨_,s6,_⟩
   exact SqL.of ((s04.trans s6).at hsl)
  ·rintro i v σ H6 hi ⟨⟨o6',o8,o9,rfl⟩,s6,kst,hc,hS⟩
   rw [List.getElem?_map] at hi
   obtain ⟨u,hui,rfl⟩:=Option.map_eq_some_iff.mp hi
   obtain ⟨⟨g1,g2,g3⟩,hg,hu⟩:=Paired.get hgs hui
   have hu:H u=some (.tup [.str g1,.str g2,.str g3]):=hu
   have hn:Y4 kst (Yq (g2,g3))=none:=hS.none Xg (by
    rw [Zgl,List.map_take]
    exact Zea yv.sigs.one (by rw [List.getElem?_map,hg];rfl))
   have hkl:kst.length<=100:=by
    have:=hS.len
    unfold qO at this
    rw [List.length_map,List.length_take] at this
    omega
   refine ⟨u,_,rfl,SqT.of ((s04.trans s6).at hu),rfl,_,_,rfl,_,_,rfl,_,_,rfl,rfl,?_⟩
   refine WSs.last (Zcj (Wc hr) (pv 7) (Zg (Zb (pv 8) (Zb (pv 9) Za))) (pv 6) rfl) ⟨_,rfl,_,rfl,_,rfl,_,rfl,sz (by simp),fun te H7 s7 n7 e7=>⟨c,_,rfl,Ze4.t (k:=Yq (g2,g3)) (s7.at hc) e7 (Zy (by omega)),⟨_,_,_,rfl⟩,(s6.trans s7).upd0 n5,_,Zh,?_⟩⟩
   have:qO (sg.take (i+1))=qO (sg.take i)++[((g2,g3),g1)]:=by
    unfold qO
    rw [List.take_add_one,hg,List.map_append]
    rfl
   rw [this]
   exact hS.put hn rfl
  rintro σ H6 ⟨⟨o6',o8,o9,rfl⟩,s6,kst,hc,hS⟩
  rw [List.length_map,hgl,List.take_length] at hS
  refine WSs.last (Zq (Zl7 (Zau Zf (pv 4) (Zau Zf (pv 1) (Zau Zf (pv 7) Zm1))) rfl rfl (by simp) (by show 3<=15;decide))) fun d hd=>?_
  refine ⟨_,rfl,_,rfl,_,rfl,Zh,(Zfm a b c),rfl,(by show 3<=15;decide),?_⟩
  have ne:Yh "joined" ≠ Yh "kinds" /\Yh "stands" ≠ Yh "kinds" /\Yh "stands" ≠ Yh "joined" :=by trivial
  have em:Zdn [] (Zfm a b c)=(Zfm a b c):=by
   show Zbb (Zbb (Zbb [] (Yh "kinds") _) (Yh "joined") _) (Yh "stands") _=_
   rw [Zdv _ rfl,Zdv _ (Y9 (fun z=>ne.1 z.symm)),Zdv _ (by
    show Y4 [(Yh "kinds",V.ref a),(Yh "joined",V.ref b)] (Yh "stands")=none
    rw [Y9 (fun z=>ne.2.1 z.symm),Y9 (fun z=>ne.2.2 z.symm)]
    rfl)]
   rfl
  rw [em,Zh5]
  have s46:=s6
  have sE:Same H6 (upd H6 d (.dK (Zfm a b c))):=Same.new hd
  exact q d _ ((s04.trans s6).trans sE) ((s04.trans s6).free hd) ⟨a,b,c,kk,kj,kst,Zh,sE.at (s6.at ha),hK,sE.at (s6.at (s4.at hb)),hD.mapR (RJ.mono ((s04.trans s6).trans sE)),sE.at hc,hS⟩
theorem Zoz(T:Tx K mg){k:Nat}(h:1<=k:=by decide):Z1 P w K mg base CX0 k T.d__law_map.f T.d__law_map.fd ["_law_yard"] Zxo:=(Znu T).mono h
theorem Zvd{κ:Type}[DecidableEq κ]{l:List (κ×V)}{k:κ}(h:k∉l.map (·.1)):Y4 l k=none:=by
 cases e:Y4 l k with
 | none=>rfl
 | some v=>exact absurd (Zwz e) h
theorem Zgk:∀(l acc:List (Key×V)),((acc++l).map (·.1)).Nodup->Zdn acc l=acc++l
 | [],acc,_=>by rw [List.append_nil];rfl
 | p ::l,acc,h=>by
  have hn:Y4 acc p.1=none:=Zvd fun m=>by
   rw [List.map_append,List.nodup_append] at h
   exact h.2.2 _ m _ List.mem_cons_self rfl
  show Zdn (Zbb acc p.1 p.2) l=_
  rw [Zdv _ hn,Zgk l _ (by rw [List.append_assoc];exact h),List.append_assoc]
  rfl
def swK:List (Key×V):=[(Yh "a",.str "b"),(Yh "b",.str "a"),(Yh "c",.str "d"),(Yh "d",.str "c")]
def sw(en:Str):Str:=if en = "a" then "b" else if en = "b" then "a" else if en = "c" then "d" else "c"
theorem Zzd:(swK.map (·.1)).Nodup:=by
 show ([Yh "a",Yh "b",Yh "c",Yh "d"]:List Key).Nodup
 decide +kernel
theorem Zzk:∀en∈[("a" :Str), "b", "c", "d"],Y4 swK (Yh en)=some (.str (sw en)):=by
 intro en h
 have ne:Yh "a" ≠ Yh "b" /\Yh "a" ≠ Yh "c" /\Yh "a" ≠ Yh "d" /\Yh "b" ≠ Yh "c" /\Yh "b" ≠ Yh "d" /\Yh "c" ≠ Yh "d" :=by trivial
 have sws:sw "a" = "b" /\sw "b" = "a" /\sw "c" = "d" /\sw "d" = "c" :=by trivial
 simp only [List.mem_cons,List.mem_nil_iff,or_false] at h
 unfold swK
 rcases h with rfl|rfl|rfl|rfl
 ·rw [W5 rfl,sws.1]
 ·rw [Y9 ne.1,W5 rfl,sws.2.1]
 ·rw [Y9 ne.2.1,Y9 ne.2.2.2.1,W5 rfl,sws.2.2.1]
 ·rw [Y9 ne.2.2.1,Y9 ne.2.2.2.2.1,Y9 ne.2.2.2.2.2,W5 rfl,sws.2.2.2]
theorem Zs0:Zd3 "points" "stem" =[(("left" :Str),("left" :Str)),(("right" :Str),("right" :Str))]:=by trivial
theorem Zrp:∀en∈Yc "points",en ≠ "stem" ->Zd3 "points" en=[(("stem" :Str),en)]:=by trivial
theorem Zrl:∀k∈[("stop" :Str), "gate"],∀en∈Yc k,Zd3 k en=[(("" :Str),("" :Str))]:=by trivial
theorem Zws:∀k∈Wh,k ≠ "points" ->k∉[("stop" :Str), "gate"]->∀en∈Yc k,Zd3 k en=[(sw en,("" :Str))]/\en∈[("a" :Str), "b", "c", "d"]:=by trivial
def Zxc:Sp:=fun vs H Q _=>∃k en:Str,vs=[.str k,.str en]/\k∈Wh/\en∈Yc k/\∀p H',Same H H'->H p=none->Zxb H' p (Zd3 k en)->Q (.ref p) H'
theorem Zkf(T:Tx K mg):Z1 P w K mg base CX0 1 T.d__law_leads.f T.d__law_leads.fd ["_law_kind", "_law_end"] Zxc:=by
 refine T.d__law_leads.F.okW Zjy fun cdv A outer s H vs Q E hr h=>?_
 ·obtain ⟨k,en,rfl,hk,hen,q⟩:=h
  have se:∀{a b:Str},decide (V.str a=V.str b)=true->a=b:=fun z=>V.str.inj (of_decide_eq_true z)
  have sn:∀{a b:Str},¬decide (V.str a=V.str b)=true->a≠b:=fun z y=>z (decide_eq_true (by rw [y]))
  let I25:=fun (σ:St) (H':Hp)=>σ=[some (.str k),some (.str en)]/\H'=H/\¬(k = "points" /\en = "stem")
  refine WSs.cut I25 ?_ ?_
  ·refine WS.of (Ye (PW.pt (Zmm (Zs (r:=Zaz K) (Zba hr) (pv 0) Zf (Z4 _)) (Zh4 (Zs (r:=Zaz K) (Zba hr) (pv 1) Zf (Z4 _))))) Z2 Zv) ⟨_,rfl,.inl ⟨rfl,_,rfl,Ym (fun z=>⟨_,rfl,.inl ⟨rfl,_,rfl,Ym (fun z2=>?_) (fun z2=>⟨rfl,rfl,fun y=>sn z2 y.2⟩)⟩⟩) (fun z=>⟨rfl,rfl,fun y=>sn z y.1⟩)⟩⟩
   refine WSs.last (Zq (Zm (Zb (Zg (Zb Zf (Zb Zf Za))) (Zb (Zg (Zb Zf (Zb Zf Za))) Za)))) ⟨sz (by simp),fun p1 H1 s1 n1 e1=>⟨sz (by simp),fun p2 H2 s2 n2 e2=>⟨sz (by simp),fun p3 H3 s3 n3 e3=>q p3 H3 (s1.trans (s2.trans s3)) (s1.free (s2.free n3)) ?_⟩⟩⟩
   rw [se z,se z2,Zs0]
   exact ⟨[p1,p2],e3,.cons (s3.at (s2.at e1)) (.cons (s3.at e2) .nil)⟩
  rintro σ H1 ⟨rfl,hH,hps⟩
  rw [hH]
  refine WSs.step (Ye (Zs (r:=Zaz K) (Zba hr) (pv 0) Zf (Z4 _)) Z2 Zv) ⟨_,rfl,.inl ⟨rfl,_,rfl,Ym (fun z=>?_) (fun z=>?_)⟩⟩
  ·refine WSs.last (Zq (Zm (Zb (Zg (Zb Zf (Zb (pv 1) Za))) Za))) ⟨_,rfl,sz (by simp),fun p1 H1 s1 n1 e1=>⟨sz (by simp),fun p2 H2 s2 n2 e2=>q p2 H2 (s1.trans s2) (s1.free n2) ?_⟩⟩
   have hkp:=se z
   rw [hkp] at hen ⊢
   rw [Zrp en hen fun y=>hps ⟨hkp,y⟩]
   exact ⟨[p1],e2,.cons (s2.at e1) .nil⟩
  have hkp:=sn z
  refine WSs.step (Ye (Zs (r:=Zhg K) (Zim hr) (pv 0) (Zm (Zb Zf (Zb Zf Za))) (by with_unfolding_all rfl)) Z2 Zv) ⟨_,rfl,sz (by simp),fun l H2 s2 n2 e2=>.inl ⟨l,_,rfl,.inl (SqL.of e2),rfl,rfl,_,rfl,?_⟩⟩
  have ein:inV (.str k) [.str "stop",.str "gate"]=decide (k∈[("stop" :Str), "gate"]):=Zbk k ["stop", "gate"]
  rw [if_neg (by decide),ein]
  refine Ym (fun z=>?_) (fun z=>?_)
  ·have z:=of_decide_eq_true z
   refine WSs.last (Zq (Zm (Zb (Zg (Zb Zf (Zb Zf Za))) Za))) ⟨sz (by simp),fun p1 H3 s3 n3 e3=>⟨sz (by simp),fun p2 H4 s4 n4 e4=>q p2 H4 (s2.trans (s3.trans s4)) (s2.free (s3.free n4)) ?_⟩⟩
   rw [Zrl k z en hen]
   exact ⟨[p1],e4,.cons (s4.at e3) .nil⟩
  ·have z:k∉[("stop" :Str), "gate"]:=fun y=>z (decide_eq_true y)
   obtain ⟨ho,he4⟩:=Zws k hk hkp z en hen
   refine WSs.last (Zq (Zm (Zb (Zg (Zb (X6 (Wc hr) (Zl7 (Zau Zf Zf (Zau Zf Zf (Zau Zf Zf (Zau Zf Zf Zm1)))) rfl rfl (by simp) (by show 4<=15;decide)) (pv 1) (fun _ _=>rfl)) (Zb Zf Za))) Za))) fun d hd=>⟨Zh,swK,rfl,(by show 4<=15;decide),_,rfl,d,_,rfl,by rw [Zgk swK [] Zzd,Zh5,<-Zzk en he4];exact Zar.k (k:=Yh en) Zh,sz (by simp),fun p1 H3 s3 n3 e3=>⟨sz (by simp),fun p2 H4 s4 n4 e4=>?_⟩⟩
   rw [Zh5] at s3
   have sd:Same H2 (upd H2 d (.dK (Zdn [] swK))):=Same.new hd
   refine q p2 H4 (s2.trans (sd.trans (s3.trans s4))) (s2.free (sd.free (s3.free n4))) ?_
   rw [ho]
   exact ⟨[p1],e4,.cons (s4.at e3) .nil⟩
theorem Zlu(T:Tx K mg){k:Nat}(h:1<=k:=by decide):Z1 P w K mg base CX0 k T.d__law_leads.f T.d__law_leads.fd ["_law_kind", "_law_end"] Zxc:=(Zkf T).mono h
theorem Zm3(a b c:Addr):Y4 (Zfm a b c) (Yh "kinds")=some (.ref a)/\Y4 (Zfm a b c) (Yh "joined")=some (.ref b)/\Y4 (Zfm a b c) (Yh "stands")=some (.ref c):=by
 have ne:Yh "kinds" ≠ Yh "joined" /\Yh "kinds" ≠ Yh "stands" /\Yh "joined" ≠ Yh "stands" :=by trivial
 unfold Zfm
 exact ⟨W5 rfl,by rw [Y9 ne.1,W5 rfl],by rw [Y9 ne.2.1,Y9 ne.2.2,W5 rfl]⟩
def Zs6:Sp:=fun vs H Q _=>∃(d t:Addr) (k nm en:Str) (ps:List Zc) (js:List (Zc×Zc)) (sg:List (Str×Str×Str)),vs=[.ref d,.ref t]/\Zdy H d ps js sg/\Y1 ps js sg/\Zw H t (nm,en)/\((k,nm):Zc)∈ps/\en∈Yc k/\∀l H',Same H H'->H l=none->Zf6 H' l (Zbe k nm en)->Q (.ref l) H'
theorem Zm5(T:Tx K mg):Z1 P w K mg base CX0 2 T.d__law_into.f T.d__law_into.fd ["_law_plan", "_law_end"] Zs6:=by
 refine T.d__law_into.F.okW Zl1 fun cdv A outer s H vs Q E hr h=>?_
 ·obtain ⟨d,t,k,nm,en,ps,js,sg,rfl,pn,yv,ht,hm,hen,q⟩:=h
  obtain ⟨a,b,c,kk,kj,kst,h1,h2,h3,_⟩:=pn.ex
  have ht:H t=some (.tup [.str nm,.str en]):=ht
  obtain ⟨v,hv,rfl⟩:=h3.get Zdd (by rw [Zlt];exact yv.net.nd) (a:=nm) (b:=k) (List.mem_map.mpr ⟨(k,nm),hm,rfl⟩)
  have hkd:=yv.net.kind _ hm
  refine WSs.last (Zq (Xn (N':=["_law_out", "_law_lie", "_law_end"]) rfl (Ya.std 2 [1] rfl (by trivial) (by trivial) rfl ⟨rfl,trivial⟩ rfl rfl ⟨⟨_,rfl,rfl,rfl⟩,trivial⟩) (Yx (Zu (Zlu T) hr rfl T.m__law_leads T.d__law_leads.F.kp T.d__law_leads.b .nil Z3 (Zb (X6 (Wc hr) (X6 (Wc hr) (pv 0) Zf (fun _ _=>rfl)) (Zp (r:=rIx K) Zk (pv 1) Ze (fun _ _=>rfl)) (fun _ _=>rfl)) (Zb (Zp (r:=rIx K) Zk (pv 1) Ze (fun _ _=>rfl)) Za)))) (fun _ _ _ _=>(Zh0 (K:=K) (n:=2) rfl rfl (Z6 (Zbn (i:=0) (by show (["_law_out", "_law_lie", "_law_end"]:List Str).Nodup;decide +kernel)) (Z6 (Zbn (i:=1) (by show (["_law_out", "_law_lie", "_law_end"]:List Str).Nodup;decide +kernel)) X2)))) (fun _ _ _ _=>W0) (fun _ _ _ _=>(Zg (Zb (Zp (r:=rIx K) Zk (pv 2) Ze (fun _ _=>rfl)) (Zb (Zp (r:=rIx K) Zk (pv 2) Ze (fun _ _=>rfl)) (Zb (pv 0) (Zb (pv 1) Za)))))))) ⟨_,rfl,d,_,rfl,by rw [<-(Zm3 a b c).1];exact Zar.k (k:=Yh "kinds") h1,_,rfl,.inr (.inl ⟨t,_,0,_,rfl,rfl,SqT.of ht,Zn (j:=0) rfl,a,_,rfl,by rw [<-hv];exact Zar.k (k:=Yh nm) h2,_,rfl,.inr (.inl ⟨t,_,1,_,rfl,rfl,SqT.of ht,Zn (j:=1) rfl,k,en,rfl,hkd,hen,fun p H1 s1 n1 ⟨as,hp,has⟩=>⟨p,rfl,⟨_,SqL.of hp⟩,fun D hD=>Xq (K:=K) (xs:=as.map V.ref) (fun i ys H'=>(∃ts:List Addr,ys=ts.map V.ref/\Paired (Y7 H') ts (((Zd3 k en).take i).map fun o=>(nm,en,o.1,o.2)))/\H' D=some (.lst ys)/\Same H1 H') ⟨⟨[],rfl,.nil⟩,Zh,Same.new hD⟩ ?_ ?_ ?_⟩⟩)⟩)⟩
  ·rintro i ys H' _ ⟨_,_,sm⟩
   exact SqL.of (sm.at hp)
  ·rintro i v ys H2 hi ⟨⟨ts,rfl,hts⟩,hD2,s2⟩
   rw [List.getElem?_map] at hi
   obtain ⟨u,hu,rfl⟩:=Option.map_eq_some_iff.mp hi
   obtain ⟨o,ho,hou⟩:=Paired.get has hu
   have hlen:ts.length<=2:=by
    have h1:=Paired.length hts
    have h2:=Zm7 k
    have h3:(Zd3 k en).length<=(Zcr k).length:=by
     unfold Zd3
     exact Nat.le_trans (List.length_filter_le _ _) (by rw [List.length_map];exact Nat.le_refl _)
    rw [List.length_map,List.length_take] at h1
    omega
   have ht2:=s2.at (s1.at ht)
   refine ⟨u,_,rfl,SqT.of (s2.at hou),rfl,_,_,rfl,_,_,rfl,rfl,(W2.set rfl).trans (W2.set rfl),_,rfl,.inr (.inl ⟨t,_,0,_,rfl,rfl,SqT.of ht2,Zn (j:=0) rfl,_,rfl,.inr (.inl ⟨t,_,1,_,rfl,rfl,SqT.of ht2,Zn (j:=1) rfl,_,rfl,_,rfl,sz (by simp),fun t3 H3 s3 n3 e3=>⟨s3.at hD2,by rw [List.length_map];exact Zy (by omega),⟨ts++[t3],by rw [List.map_append];rfl,?_⟩,Zh,fun b o z=>?_⟩⟩)⟩)⟩
   ·rw [List.take_add_one,ho,List.map_append]
    exact Paired.append (Paired.mapP hts fun _ _ r=>Y7.off (r.mono s3) (s3.at hD2)) (.cons (Y7.off e3 (s3.at hD2)) .nil)
   ·rw [Zj (Zi z hD)]
    exact s3.at (s2.at z)
  ·rintro ys H2 ⟨⟨ts,rfl,hts⟩,hD2,s2⟩
   rw [List.length_map,Paired.length has,List.take_length] at hts
   exact q D H2 (s1.trans s2) (s1.free hD) ⟨ts,hD2,hts⟩
theorem Zn6(T:Tx K mg){k:Nat}(h:2<=k:=by decide):Z1 P w K mg base CX0 k T.d__law_into.f T.d__law_into.fd ["_law_plan", "_law_end"] Zs6:=(Zm5 T).mono h
def Zx1:Sp:=fun vs H Q _=>∃(d t:Addr) (q:S4) (ps:List Zc) (js:List (Zc×Zc)) (sg:List (Str×Str×Str)),vs=[.ref d,.ref t]/\Zdy H d ps js sg/\Y1 ps js sg/\Y7 H t q/\∀H',Same H H'->Q (.bl (Wm sg q)) H'
theorem Zhm(T:Tx K mg):Z1 P w K mg base CX0 1 T.d__law_ends_so.f T.d__law_ends_so.fd ["_law_plan", "_law_step"] Zx1:=by
 refine T.d__law_ends_so.F.okW Zhi fun cdv A outer s H vs Q E hr h=>?_
 ·obtain ⟨d,t,q4,ps,js,sg,rfl,pn,yv,ht,q⟩:=h
  obtain ⟨a,b,c,kk,kj,kst,h1,_,_,_,_,h6,h7⟩:=pn.ex
  refine WSs.last (Zq (Zxh (W1 (r:=Zaz K) (Zba hr) (Zp (r:=rIx K) Zk (pv 1) Ze (fun _ _=>rfl)) Zf (Z4 _)) (Zfa (W1 (r:=Zhg K) (Zim hr) (Zg (Zb (Zp (r:=rIx K) Zk (pv 1) Ze (fun _ _=>rfl)) (Zb (Zp (r:=rIx K) Zk (pv 1) Ze (fun _ _=>rfl)) Za))) (X6 (Wc hr) (pv 0) Zf (fun _ _=>rfl)) (by with_unfolding_all rfl))))) ⟨_,rfl,.inr (.inl ⟨t,_,2,_,rfl,rfl,SqT.of ht,Zn (j:=2) rfl,.inl ⟨rfl,_,rfl,Ym (fun z=>?_) (fun z=>?_)⟩⟩)⟩
  ·have z:q4.2.2.1 = "" :=V.str.inj (of_decide_eq_true z)
   have e:Wm sg q4=true:=by unfold Wm;rw [decide_eq_true z];rfl
   rw [e] at q
   exact q H (Same.refl _)
  ·have z:¬q4.2.2.1 = "" :=fun y=>z (decide_eq_true (by rw [y]))
   refine ⟨_,rfl,.inr (.inl ⟨t,_,0,_,rfl,rfl,SqT.of ht,Zn (j:=0) rfl,_,rfl,.inr (.inl ⟨t,_,2,_,rfl,rfl,SqT.of ht,Zn (j:=2) rfl,sz (by simp),fun u H1 s1 n1 e1=>⟨_,rfl,d,_,rfl,by rw [<-(Zm3 a b c).2.2];exact Zar.k (k:=Yh "stands") (s1.at h1),.inr (.inl ⟨c,_,rfl,Zar.t (k:=Yq (q4.1,q4.2.2.1)) (s1.at h6) e1,?_⟩)⟩⟩)⟩)⟩
   have e:(Y4 kst (Yq (q4.1,q4.2.2.1))).isSome=Wm sg q4:=by
    unfold Wm
    rw [decide_eq_false z]
    by_cases hm:((q4.1,q4.2.2.1):Zc)∈sg.map Prod.snd
    ·obtain ⟨⟨nm,e⟩,hg,he⟩:=List.mem_map.mp hm
     have he:e=(q4.1,q4.2.2.1):=he
     obtain ⟨v,hv,_⟩:=h7.get Xg (by rw [Zgl];exact yv.sigs.one) (a:=(q4.1,q4.2.2.1)) (b:=nm) (List.mem_map.mpr ⟨_,hg,by rw [<-he]⟩)
     rw [hv,decide_eq_true hm];rfl
    ·rw [h7.none Xg (by rw [Zgl];exact hm),decide_eq_false hm];rfl
   rw [e]
   exact q H1 s1
theorem Zdw(T:Tx K mg){k:Nat}(h:1<=k:=by decide):Z1 P w K mg base CX0 k T.d__law_ends_so.f T.d__law_ends_so.fd ["_law_plan", "_law_step"] Zx1:=(Zhm T).mono h
def Zqg(T:Tx K mg):Sp:=fun vs H Q _=>∃(x:Addr) (g:Str×Str×Str) (ps:List Zc) (js:List (Zc×Zc)) (sg:List (Str×Str×Str)),vs=[.ref x,.str g.1]/\Xf T H x ps js sg/\Y1 ps js sg/\g∈sg/\∀(t:Addr) (H':Hp),Same H H'->Zw H' t g.2->Q (.ref t) H'
theorem Zgd(T:Tx K mg):Z1 P w K mg base CX0 2 T.d_Tracks_end_of.f T.d_Tracks_end_of.fd ["self", "signal"] (Zqg T):=by
 refine T.d_Tracks_end_of.F.okW Zgq fun cdv A outer s H vs Q E hr h=>?_
 ·obtain ⟨x,⟨nm,e⟩,ps,js,sg,rfl,tr,yv,hm,q⟩:=h
  obtain ⟨dx,po,jo,so,si,kp,ks,kj,ko,h1,_,_,_,_,h2,h3,_⟩:=tr.ex
  have hq:((nm,e):Str×Zc)∈qS sg:=List.mem_map.mpr ⟨(nm,e),hm,rfl⟩
  obtain ⟨v,hv,t,rfl,hO⟩:=h3.get Zdd (by rw [Zuf];exact yv.sigs.nd) hq
  refine WSs.step (Ye (PW.pt (Zg6 (Zc9 (Wz (Zu (Zgw T) hr rfl T.m_is_name T.d_is_name.F.kp T.d_is_name.b .nil Z3 (Zb (pv 1) Za)))) (Zd6 (Zs (r:=Zck K) (Zc3 hr) (pv 1) (W3 (pv 0) rfl) (by with_unfolding_all rfl))))) Z2 Zv) ⟨_,rfl,nm,rfl,yv.sigs.name _ hm,fun H1 s1=>⟨_,rfl,Ym (fun z=>absurd z (by decide)) (fun _=>⟨_,rfl,_,rfl,x,_,dx,_,_,rfl,s1.at h1,T.clTracks,T.nTracks_post_of,rfl,.inr (.inl ⟨so,_,rfl,Zar.k (k:=Yh nm) (s1.at h2),_,rfl,Ym (fun z=>?_) (fun _=>?_)⟩)⟩)⟩⟩
  ·rw [hv] at z
   exact absurd z (by simp)
  exact WSs.last (Zq (X6 (Wc hr) (W3 (pv 0) rfl) (pv 1) (fun _ _=>rfl))) ⟨_,rfl,x,_,dx,_,_,rfl,s1.at h1,T.clTracks,T.nTracks_post_of,rfl,_,rfl,so,_,rfl,by rw [<-hv];exact Zar.k (k:=Yh nm) (s1.at h2),q t H1 s1 (hO.mono s1)⟩
theorem Zhu(T:Tx K mg){k:Nat}(h:2<=k:=by decide):Z1 P w K mg base CX0 k T.d_Tracks_end_of.f T.d_Tracks_end_of.fd ["self", "signal"] (Zqg T):=(Zgd T).mono h
abbrev G3:=Str×Str×Str
def Zk3(T:Tx K mg):Sp:=fun vs H Q _=>∃(x:Addr) (ps:List Zc) (js:List (Zc×Zc)) (sg:List G3),vs=[.ref x]/\Xf T H x ps js sg/\Y1 ps js sg/\∀(sg':List G3) (l:Addr) (H':Hp),sg'.Perm sg->Same H H'->H l=none->Zcd H' l sg'->Q (.ref l) H'
theorem Zfk(T:Tx K mg):Z1 P w K mg base CX0 1 T.d_Tracks_signals.f T.d_Tracks_signals.fd ["self"] (Zk3 T):=by
 refine T.d_Tracks_signals.F.okW Zfq fun cdv A outer s H vs Q E hr h=>?_
 ·obtain ⟨x,ps,js,sg,rfl,tr,yv,q⟩:=h
  obtain ⟨dx,po,jo,so,si,kp,ks,kj,ko,h1,_,_,_,_,h6,h7,_⟩:=tr.ex
  have hks:ks.length=sg.length:=by
   have:=h7.len
   unfold qS at this
   rw [List.length_map] at this
   exact this
  have slen:=yv.sigs.len
  refine WSs.last (Zq (Z0 (r:=Ztu K) (Zo6 hr.units) (by rfl) T.n_sorted PyProof.Rows.boot_sorted (Zb (Zp8 (Xn (N':=["name", "end"]) rfl (Ya.std 2 [] rfl (by trivial) (by trivial) rfl trivial rfl rfl trivial) (Zjq (W3 (pv 0) rfl)) (fun _ _ _ _=>(Zh0 (K:=K) (n:=2) rfl rfl (Z6 (Zbn (i:=0) (by show (["name", "end"]:List Str).Nodup;decide +kernel)) (Z6 (Zbn (i:=1) (by show (["name", "end"]:List Str).Nodup;decide +kernel)) X2)))) (fun _ _ _ _=>W0) (fun _ _ _ _=>(Zg (Zb (pv 0) (Zb (Zp (r:=rIx K) Zk (pv 1) Ze (fun _ _=>rfl)) (Zb (Zp (r:=rIx K) Zk (pv 1) Ze (fun _ _=>rfl)) Za))))))) Za))) ⟨_,rfl,x,_,dx,_,_,rfl,h1,T.clTracks,T.nTracks_post_of,rfl,so,ks,rfl,h6,fun o nf D hD=>Zi7 (fun i ys H'=>Same (upd H so (.frz o (.dK ks))) H'/\H' D=some (.lst ys)/\∃ts:List Addr,ys=ts.map V.ref/\Paired (Zi5 H') ts (sg.take i)) ⟨Same.new hD,Zh,[],rfl,.nil⟩ ?_ ?_ ?_⟩
  ·rintro i ys H' _ ⟨z,_⟩
   exact z.at Zh
  ·rintro i kv ys H2 hi ⟨s2,hD2,ts,rfl,hts⟩ tp H3 s3 n3 e3
   obtain ⟨⟨nm,e⟩,hq,hk,t,hv,ht⟩:=Paired.get h7 hi
   have hk:kv.1=Sum.inr nm:=hk
   rw [hk,hv] at e3
   have hg:sg[i]? =some (nm,e.1,e.2):=by
    unfold qS at hq
    rw [List.getElem?_map] at hq
    obtain ⟨⟨g1,g2,g3⟩,hg,e'⟩:=Option.map_eq_some_iff.mp hq
    rw [hg]
    simp only [Prod.mk.injEq] at e'
    rw [<-e'.1,<-e'.2]
   have hil:=(List.getElem?_eq_some_iff.mp hg).1
   have hto:t≠so:=fun z=>by rw [z] at ht;exact nomatch h6.symm.trans ht
   have htF:upd H so (.frz o (.dK ks)) t=some (.tup [.str e.1,.str e.2]):=by
    rw [Zj hto]
    exact ht
   have htl:ts.length<=100:=by
    have:=Paired.length hts
    rw [List.length_take] at this
    omega
   have ht3:=SqT.of (K:=K) (s3.at (s2.at htF))
   refine ⟨tp,_,rfl,SqT.of e3,rfl,_,_,rfl,_,_,rfl,rfl,(W2.set rfl).trans (W2.set rfl),_,rfl,_,rfl,.inr (.inl ⟨t,_,0,_,rfl,rfl,ht3,Zn (j:=0) rfl,_,rfl,.inr (.inl ⟨t,_,1,_,rfl,rfl,ht3,Zn (j:=1) rfl,sz (by simp),fun t' H4 s4 n4 e4=>⟨s4.at (s3.at hD2),by rw [List.length_map];exact Zy (by omega),?_,Zh,ts++[t'],by rw [List.map_append];rfl,?_⟩⟩)⟩)⟩
   ·intro c u z
    rw [Zj (Zi z hD)]
    exact s4.at (s3.at (s2.at z))
   ·have hD4:=s4.at (s3.at hD2)
    have off:∀{c:Addr} {xs:List V} {u:HO},H4 c=some (.tup xs)->upd H4 D u c=some (.tup xs):=fun {c xs u} z=>(Zj fun y=>by rw [y,hD4] at z;cases z).trans z
    rw [List.take_add_one,hg]
    exact Paired.snoc (Paired.mapP hts fun _ _ z=>off (s4.at (s3.at z))) (off e4)
  ·rintro ys H2 ⟨s2,hD2,ts,rfl,hts⟩
   rw [hks,List.take_length] at hts
   have hso2:=s2.at Zh
   have off:∀{c:Addr} {xs:List V} {u:HO},H2 c=some (.tup xs)->upd H2 so u c=some (.tup xs):=fun {c xs u} z=>(Zj fun y=>by rw [y,hso2] at z;cases z).trans z
   have sT:Same H (upd H2 so (.dK ks)):=s2.thaw h6
   have hDn:H D=none:=by
    by_cases z:D=so
    ·rw [z,Zh] at hD;cases hD
    ·rw [Zj z] at hD;exact hD
   refine ⟨so,o,_,hso2,nf,?_⟩
   refine ⟨D,ts,rfl,SqL.of ((Zj fun y=>by rw [y,hso2] at hD2;cases hD2).trans hD2),fun t ht=>?_,fun ts' hp l H3 s3 n3 e3=>?_⟩
   ·obtain ⟨i,hi⟩:=List.getElem?_of_mem ht
    obtain ⟨g,_,hg⟩:=Paired.get hts hi
    exact ⟨g.1,[g.2.1,g.2.2],off hg⟩
   ·obtain ⟨sg',p1,p2⟩:=Zk2 hp hts
    exact q sg' l H3 p1 (sT.trans s3) (sT.free n3) ⟨ts',e3,Paired.mapP p2 fun _ _ z=>s3.at (off z)⟩
theorem Zgo(T:Tx K mg){k:Nat}(h:1<=k:=by decide):Z1 P w K mg base CX0 k T.d_Tracks_signals.f T.d_Tracks_signals.fd ["self"] (Zk3 T):=(Zfk T).mono h
def kindOf(ps:List Zc)(nm:Str):Option Str:=(ps.find? fun p=>decide (p.2=nm)).map Prod.fst
theorem Zmf{k nm:Str}:∀{ps:List Zc},(ps.map Prod.snd).Nodup->((k,nm):Zc)∈ps->kindOf ps nm=some k
 | p ::ps,nd,h=>by
  rw [List.map_cons,List.nodup_cons] at nd
  unfold kindOf
  rw [List.find?_cons]
  rcases List.mem_cons.mp h with z|z
  ·rw [<-z,decide_eq_true rfl];rfl
  ·rw [decide_eq_false fun e=>nd.1 (by rw [e];exact List.mem_map.mpr ⟨_,z,rfl⟩)]
   exact Zmf nd.2 z
theorem Zfr{k nm:Str}{ps:List Zc}(h:kindOf ps nm=some k):((k,nm):Zc)∈ps:=by
 obtain ⟨p,hp,rfl⟩:=Option.map_eq_some_iff.mp h
 have e:p.2=nm:=by simpa using List.find?_some hp
 rw [<-e]
 exact List.mem_of_find?_eq_some hp
def Xl(ps:List Zc)(nm en:Str):List S4:=match kindOf ps nm with
 | some k=>if en∈Yc k then Zbe k nm en else []
 | none=>[]
def bey(js:List (Zc×Zc))(e:Zc):Zc:=(((qJ js).find? fun q=>decide (q.1=e)).map Prod.snd).getD (("" :Str),("" :Str))
theorem Zhy{α β:Type}[DecidableEq α]{a:α}{b:β}:∀{l:List (α×β)},(l.map Prod.fst).Nodup->(a,b)∈l->l.find? (fun q=>decide (q.1=a))=some (a,b)
 | x ::l,nd,h=>by
  rw [List.map_cons,List.nodup_cons] at nd
  rw [List.find?_cons]
  rcases List.mem_cons.mp h with z|z
  ·rw [<-z,decide_eq_true rfl]
  ·rw [decide_eq_false fun e=>nd.1 (by rw [e];exact List.mem_map.mpr ⟨_,z,rfl⟩)]
   exact Zhy nd.2 z
theorem Zro{α β:Type}[DecidableEq α]{a:α}{l:List (α×β)}(h:a∉l.map Prod.fst):l.find? (fun q=>decide (q.1=a))=none :=
 List.find?_eq_none.mpr fun q hq z=>h (List.mem_map.mpr ⟨q,hq,of_decide_eq_true z⟩)
section
variable {ps:List Zc} {js:List (Zc×Zc)} {sg:List (Str×Str×Str)} {H:Hp} {Q:Addr->Hp->Prop}
theorem Zxt(yv:Y1 ps js sg):((qJ js).map Prod.fst).Nodup:=by rw [Zaq];exact yv.net.flat.nodup_iff.mpr (Za3 yv.net.nd)
theorem Zox(yv:Y1 ps js sg){e:Zc}:e∈(qJ js).map Prod.fst↔e∈Yb ps:=by rw [Zaq];exact yv.net.flat.mem_iff
theorem Zu0(yv:Y1 ps js sg){e e':Zc}(h:(e,e')∈qJ js):bey js e=e':=by unfold bey;rw [Zhy (Zxt yv) h];rfl
theorem Zx4(yv:Y1 ps js sg){e:Zc}(h:e∉Yb ps):bey js e=((("" :Str),("" :Str)):Zc):=by unfold bey;rw [Zro fun z=>h ((Zox yv).mp z)];rfl
theorem Zyo(yv:Y1 ps js sg){e:Zc}{Q1:Addr->Prop}(hQ:∀t',Q t' H->Q1 t')(h:∀t' H',Same H H'->Zw H' t' (bey js e)->Q t' H') :
  (e∈Yb ps/\∀t' e',((e,e'):Zc×Zc)∈qJ js->Zw H t' e'->Q1 t')\/(e∉Yb ps/\∀t' H',Same H H'->H t'=none->Zw H' t' ("", "")->Q t' H'):=by
 by_cases z:e∈Yb ps
 ·exact .inl ⟨z,fun t' e' he ht=>hQ t' (h t' H (Same.refl _) (by rw [Zu0 yv he];exact ht))⟩
 ·exact .inr ⟨z,fun t' H' s _ ht=>h t' H' s (by rw [Zx4 yv z];exact ht)⟩
theorem Zk8{nm en:Str}(h:((nm,en):Zc)∈Yb ps):∃k,((k,nm):Zc)∈ps/\en∈Yc k:=by
 obtain ⟨p,hp,hm⟩:=List.mem_flatMap.mp h
 obtain ⟨x,hx,e⟩:=List.mem_map.mp hm
 cases e
 exact ⟨p.1,hp,hx⟩
theorem Zx7(yv:Y1 ps js sg){nm en:Str}(h:∀l H',Same H H'->Zf6 H' l (Xl ps nm en)->Q l H') :
  (∃k,((k,nm):Zc)∈ps/\en∈Yc k/\∀l H',Same H H'->H l=none->Zf6 H' l (Zbe k nm en)->Q l H')\/(((nm,en):Zc)∉Yb ps/\∀l H',Same H H'->H l=none->H' l=some (.lst [])->Q l H'):=by
 by_cases z:((nm,en):Zc)∈Yb ps
 ·obtain ⟨k,hk,he⟩:=Zk8 z
  refine .inl ⟨k,hk,he,fun l H' s _ hl=>h l H' s ?_⟩
  unfold Xl
  rw [Zmf yv.net.nd hk]
  dsimp only
  rw [if_pos he]
  exact hl
 ·refine .inr ⟨z,fun l H' s _ hl=>h l H' s ?_⟩
  have e:Xl ps nm en=[]:=by
   unfold Xl
   cases hk:kindOf ps nm with
   | none=>rfl
   | some k=>exact if_neg fun he=>z (Zou (Zfr hk) he)
  rw [e]
  exact ⟨[],hl,.nil⟩
end
def Yi(q:S4):Tr:=.tup [.str q.1,.str q.2.1,.str q.2.2.1,.str q.2.2.2]
theorem Zqp{a b:S4}(h:Yi a=Yi b):a=b:=by
 obtain ⟨a1,a2,a3,a4⟩:=a
 obtain ⟨b1,b2,b3,b4⟩:=b
 unfold Yi at h
 simp only [Tr.tup.injEq,List.cons.injEq,Tr.str.injEq,and_true] at h
 obtain ⟨h1,h2,h3,h4⟩:=h
 rw [h1,h2,h3,h4]
theorem Zwe{q:S4}{l:List S4}:decide (Yi q∈l.map Yi)=decide (q∈l):=by
 by_cases z:q∈l
 ·rw [decide_eq_true z,decide_eq_true (List.mem_map.mpr ⟨q,z,rfl⟩)]
 ·rw [decide_eq_false z,decide_eq_false fun y=>z (by obtain ⟨a,ha,e⟩:=List.mem_map.mp y;rw [<-Zqp e];exact ha)]
theorem Zwn{H:Hp}{ts:List Addr}{ss:List S4}(h:Paired (Y7 H) ts ss){j:Nat}(hj:j<ss.length):∃t q,ts[j]? =some t/\ss[j]? =some q/\Y7 H t q:=by
 have hl:=Paired.length h
 obtain ⟨q,hq,r⟩:=Paired.get h (List.getElem?_eq_getElem (show j<ts.length by omega))
 exact ⟨_,q,List.getElem?_eq_getElem _,hq,r⟩
theorem Ztm:∀k∈Wh,∀en∈Yc k,(Zd3 k en).length<=2:=by trivial
theorem Zk7{ps:List Zc}{js:List (Zc×Zc)}{sg:List (Str×Str×Str)}(yv:Y1 ps js sg){nm en:Str}:(Xl ps nm en).length<=2:=by
 unfold Xl
 cases hk:kindOf ps nm with
 | none=>exact Nat.zero_le _
 | some k =>
  dsimp only
  split
  ·unfold Zbe
   rw [List.length_map]
   exact Ztm k (yv.net.kind _ (Zfr hk)) en (by assumption)
  ·exact Nat.zero_le _
def Zc8(H:Hp)(t:Addr)(sig:Str)(ss:List S4):Prop:=∃ts:List Addr,H t=some (.tup (.str sig ::ts.map V.ref))/\Paired (Y7 H) ts ss
theorem Zc8.mono{H H':Hp}{t:Addr}{sig:Str}{ss:List S4}(e:Same H H')(h:Zc8 H t sig ss):Zc8 H' t sig ss:=let ⟨ts,h1,h2⟩:=h;⟨ts,e.at h1,Paired.mapP h2 fun _ _ r=>r.mono e⟩
def Y2(e:Zc)(ss:List S4):Zc:=match ss.getLast? with
 | none=>e
 | some q=>(q.1,q.2.2.1)
def onL(ps:List Zc)(js:List (Zc×Zc))(e:Zc)(ss:List S4):List S4:=if 12<ss.length+1 then [] else (Xl ps (bey js (Y2 e ss)).1 (bey js (Y2 e ss)).2).filter fun q=>decide (q.1∉e.1 ::ss.map Prod.fst)
def Yax(T:Tx K mg):Sp:=fun vs H Q _=>∃(x t:Addr) (g:Str×Zc) (ss:List S4) (ps:List Zc) (js:List (Zc×Zc)) (sg:List (Str×Str×Str)),vs=[.ref x,.ref t]/\Xf T H x ps js sg/\Y1 ps js sg/\(g:Str×Str×Str)∈sg/\Zc8 H t g.1 ss/\ss.length<=100/\∀l H',Same H H'->H l=none->Zf6 H' l (onL ps js g.2 ss)->Q (.ref l) H'
theorem Zon(T:Tx K mg):Z1 P w K mg base CX0 5 T.d_steps_on.f T.d_steps_on.fd ["tracks", "begun"] (Yax T):=by
 refine T.d_steps_on.F.okW Zc2 fun cdv A outer s H vs Q E hr h=>?_
 ·obtain ⟨x,t,⟨sig,e⟩,ss,ps,js,sg,rfl,tr,yv,hg,⟨ts,ht,hts⟩,hz,q⟩:=h
  have htl:=Paired.length hts
  obtain ⟨dx,_,_,_,_,_,_,_,_,h1,_⟩:=tr.ex
  have lt1:((V.str sig ::ts.map V.ref).length:Int)=((ss.length+1:Nat):Int):=by rw [List.length_cons,List.length_map,htl]
  refine WSs.step (Ye (Zs Zkq (Z0 (r:=X0 K) X3 (by rfl) T.n_len PySem.boot_len (Zb (pv 1) Za)) (Zef (by rfl) T.c_MOST_STEPS) (Z4 _)) Z2 Zv) ⟨_,rfl,.inl ⟨t,_,rfl,.inr (SqT.of ht),_,_,rfl,rfl,_,rfl,Ym (fun z=>?_) (fun z=>?_)⟩⟩
  ·have z:12<ss.length+1:=by
    have:=of_decide_eq_true z
    rw [lt1] at this
    omega
   refine WSs.last (Zq (Zm Za)) ⟨sz (by simp),fun l H1 s1 n1 e1=>q l H1 s1 n1 ?_⟩
   unfold onL
   rw [if_pos z]
   exact ⟨[],e1,.nil⟩
  have z:¬12<ss.length+1:=fun y=>z (decide_eq_true (by rw [lt1];omega))
  refine WSs.step (Zx (i:=2) Zc2.nd (Zc7 (pv 0) T.clTracks T.mtTracks_end_of (Zhu T) hr T.d_Tracks_end_of.b .nil Z3 (Zb (Zp (r:=rIx K) Zk (pv 1) Ze (fun _ _=>rfl)) Za))) ⟨_,rfl,x,dx,_,rfl,h1,rfl,_,rfl,.inr (.inl ⟨t,_,0,_,rfl,rfl,SqT.of ht,Zn (j:=0) rfl,x,(sig,e),ps,js,sg,rfl,tr,yv,hg,fun tp H1 s1 hp=>?_⟩)⟩
  have ht1:=s1.at ht
  let I26:=fun (σ:St) (H':Hp)=>∃tl,σ=[some (.ref x),some (.ref t),some (.ref tp),some (.ref tl),none]/\Same H1 H'/\Zw H' tl (Y2 e ss)
  refine WSs.cut I26 ?_ ?_
  ·refine WS.of (Zx (i:=3) Zc2.nd (Zde (Zs (r:=Zaz K) (Zba hr) (Z0 (r:=X0 K) X3 (by rfl) T.n_len PySem.boot_len (Zb (pv 1) Za)) Ze (Z4 _)) (pv 2) (Zu (Zf4 T) hr rfl T.m_end_behind T.d_end_behind.F.kp T.d_end_behind.b .nil Z3 (Zb (Zp (r:=rIx K) Zk (pv 1) (Zfu Zdm Ze) (fun _ _=>rfl)) Za)))) ⟨_,rfl,.inl ⟨t,_,rfl,.inr (SqT.of ht1),.inl ⟨rfl,_,rfl,Ym (fun y=>?_) (fun y=>?_)⟩⟩⟩
   ·have y:ss.length=0:=by
     have y:=V.int.inj (of_decide_eq_true y)
     rw [lt1] at y
     omega
    refine ⟨_,rfl,tp,rfl,Same.refl _,?_⟩
    rw [List.length_eq_zero_iff.mp y]
    exact hp
   ·have y:0<ss.length:=by
     rcases Nat.eq_zero_or_pos ss.length with v|v
     ·exact absurd (decide_eq_true (by rw [lt1,v];rfl)) y
     ·exact v
    obtain ⟨tq,qq,htq,hqq,rq⟩:=Zwn (Paired.mapP hts fun _ _ r=>Y7.mono s1 r) (show ss.length-1<ss.length by omega)
    have hl:ss.getLast? =some qq:=by rw [List.getLast?_eq_getElem?];exact hqq
    have la:atI (V.str sig ::ts.map V.ref) (-1)=some (.ref tq):=by
     obtain ⟨us,rfl⟩:∃us,ts=us++[tq]:=by
      refine ⟨ts.dropLast,?_⟩
      have:ts.getLast? =some tq:=by rw [List.getLast?_eq_getElem?,htl];exact htq
      obtain ⟨us,rfl⟩:=List.getLast?_eq_some_iff.mp this
      rw [List.dropLast_concat]
     rw [List.map_append,<-List.cons_append]
     exact Zfi _ _
    refine ⟨_,rfl,_,rfl,.inr (.inl ⟨t,_,_,.ref tq,rfl,rfl,SqT.of ht1,la,tq,qq,rfl,rq,fun t3 H3 s3 n3 e3=>⟨t3,rfl,s3,?_⟩⟩)⟩
    unfold Y2
    rw [hl]
    exact e3
  rintro σ H2 ⟨tl,rfl,s2,hl⟩
  have ht2:=s2.at ht1
  have hts2:=Paired.mapP hts fun _ _ r=>Y7.mono (s1.trans s2) r
  refine WSs.step (Zx (i:=4) Zc2.nd (Zl Wl (Zm (Zb (Zp (r:=rIx K) Zk (pv 2) Ze (fun _ _=>rfl)) Za)) (Xn (N':=["step"]) rfl (Ya.std 1 [] rfl (by trivial) (by trivial) rfl trivial rfl rfl trivial) (Zp6 (Yr (r:=Zbq K) Zcl (pv 1) (Yy Ze) Yz)) (fun _ _ _ _=>(Zbn (i:=0) (by show (["step"]:List Str).Nodup;decide +kernel))) (fun _ _ _ _=>W0) (fun _ _ _ _=>(Zp (r:=rIx K) Zk (pv 0) Ze (fun _ _=>rfl)))))) ⟨_,rfl,.inr (.inl ⟨tp,_,0,_,rfl,rfl,SqT.of (s2.at hp),Zn (j:=0) rfl,sz (by simp),fun la H3 s3 n3 e3=>⟨_,rfl,_,rfl,.inl ⟨t,_,rfl,SqT.of (s3.at ht2),?_,fun t4 H4 s4 n4 e4=>⟨t4,rfl,⟨_,SqT.of e4⟩,fun D hD=>?_⟩⟩⟩⟩)⟩
  ·rintro ⟨y,_⟩
   have:HT.sIx (V.str sig ::ts.map V.ref).length 0 (some 1)=1:=by
    unfold HT.sIx
    simp
   rw [this] at y
   cases y
  have e4:H4 t4=some (.tup (ts.map V.ref)):=by
   have e4:H4 t4=some (.tup (Zfd (V.str sig ::ts.map V.ref) (some ((1:Nat):Int)) none)):=e4
   rw [Zcv] at e4
   exact e4
  refine Zof (K:=K) (xs:=ts.map V.ref) (fun i ys H'=>ys=((ss.take i).map Prod.fst).map V.str/\H' D=some (.lst ys)/\Same H4 H') ⟨rfl,Zh,Same.new hD⟩ ?_ ?_ ?_
  ·rintro i ys H' _ ⟨_,_,sm⟩
   exact SqT.of (sm.at e4)
  ·rintro i v ys H5 hi ⟨rfl,hD5,s5⟩
   rw [List.getElem?_map] at hi
   obtain ⟨tq,htq,rfl⟩:=Option.map_eq_some_iff.mp hi
   obtain ⟨qq,hqq,rq⟩:=Paired.get hts2 htq
   have r5:=rq.mono (s3.trans (s4.trans s5))
   refine ⟨W2.set rfl,_,rfl,.inr (.inl ⟨tq,_,0,_,rfl,rfl,SqT.of r5,Zn (j:=0) rfl,hD5,by rw [List.length_map,List.length_map,List.length_take];exact Zy (by omega),?_,Zh,fun b o y=>?_⟩)⟩
   ·rw [List.take_add_one,hqq,List.map_append,List.map_append];rfl
   ·rw [Zj (Zi y hD)];exact s5.at y
  rintro ys H5 ⟨rfl,hD5,s5⟩
  rw [List.length_map,htl,List.take_length] at hD5
  refine .inr (.inr ⟨la,D,_,_,rfl,rfl,(s4.trans s5).at e3,hD5,by rw [List.length_map,List.length_map];exact sz (by show 1+_<=_;omega),fun lp H6 s6 n6 e6=>?_⟩)
  have e6:H6 lp=some (.lst ((e.1 ::ss.map Prod.fst).map V.str)):=e6
  have s26:=s3.trans (s4.trans (s5.trans s6))
  have s16:=s2.trans s26
  have s06:=s1.trans s16
  refine WSs.last (Zq (Xn (N':=["step", "passed"]) rfl (Ya.std 1 [4] rfl (by trivial) (by trivial) rfl ⟨rfl,trivial⟩ rfl rfl ⟨⟨_,rfl,rfl,rfl⟩,trivial⟩) (Yx (Zu (Zl5 T) hr rfl T.m_steps_into T.d_steps_into.F.kp T.d_steps_into.b .nil Z3 (Zb (pv 0) (Zb (Zc7 (pv 0) T.clTracks T.mtTracks_beyond (Zcb T) hr T.d_Tracks_beyond.b .nil Z3 (Zb (pv 3) Za)) Za)))) (fun _ _ _ _=>(Zbn (i:=0) (by show (["step", "passed"]:List Str).Nodup;decide +kernel))) (fun _ _ _ _=>(Zgf (Zs (r:=Zck K) (Zc3 hr) (Zp (r:=rIx K) Zk (pv 0) Ze (fun _ _=>rfl)) (pv 1) (by with_unfolding_all rfl)))) (fun _ _ _ _=>(pv 0)))) ⟨_,rfl,_,rfl,x,dx,_,rfl,s06.at h1,rfl,_,rfl,x,tl,Y2 e ss,ps,js,sg,rfl,tr.mono s06,yv,hl.mono s26,Zyo yv (fun _ z=>z) fun t7 H7 s7 e7=>⟨x,t7,_,_,ps,js,sg,rfl,tr.mono (s06.trans s7),yv,e7,Zx7 yv fun l8 H8 s8 ⟨us,h8,(hus:Paired (Y7 H8) us (Xl ps (bey js (Y2 e ss)).1 (bey js (Y2 e ss)).2))⟩=>⟨l8,rfl,⟨_,SqL.of h8⟩,fun D2 hD2=>Xq (K:=K) (xs:=us.map V.ref) (fun i ys H'=>(∃ws:List Addr,ys=ws.map V.ref/\Paired (Y7 H8) ws (((Xl ps (bey js (Y2 e ss)).1 (bey js (Y2 e ss)).2).take i).filter fun q=>decide (q.1∉e.1 ::ss.map Prod.fst)))/\H' D2=some (.lst ys)/\Same H8 H') ⟨⟨[],rfl,.nil⟩,Zh,Same.new hD2⟩ ?_ ?_ ?_⟩⟩⟩
  ·rintro i ys H' _ ⟨_,_,sm⟩
   exact SqL.of (sm.at h8)
  ·rintro i v ys H9 hi ⟨⟨ws,rfl,hws⟩,hD9,s9⟩
   rw [List.getElem?_map] at hi
   obtain ⟨tq,htq,rfl⟩:=Option.map_eq_some_iff.mp hi
   obtain ⟨qq,hqq,rq⟩:=Paired.get hus htq
   have hul:=Paired.length hus
   have htqi:=(List.getElem?_eq_some_iff.mp htq).1
   have few:(Xl ps (bey js (Y2 e ss)).1 (bey js (Y2 e ss)).2).length<=2:=Zk7 yv
   have hwl:=Paired.length hws
   have hfl:=List.length_filter_le (fun q:S4=>decide (q.1∉e.1 ::ss.map Prod.fst)) ((Xl ps (bey js (Y2 e ss)).1 (bey js (Y2 e ss)).2).take i)
   rw [List.length_take] at hfl
   refine ⟨W2.set rfl,_,rfl,.inr (.inl ⟨tq,_,0,_,rfl,rfl,SqT.of (rq.mono s9),Zn (j:=0) rfl,_,rfl,.inl ⟨lp,_,rfl,.inl (SqL.of ((s7.trans (s8.trans s9)).at e6)),rfl,Zae _,_,rfl,?_⟩⟩)⟩
   rw [if_pos rfl,Zbk,List.take_add_one,hqq,List.filter_append]
   refine Ym (fun y=>?_) (fun y=>?_)
   ·have y:qq.1∉e.1 ::ss.map Prod.fst:=fun v=>by rw [decide_eq_true v] at y;exact absurd y (by decide)
    refine ⟨_,rfl,hD9,by rw [List.length_map];exact Zy (by omega),⟨ws++[tq],by rw [List.map_append];rfl,Paired.append hws ?_⟩,Zh,fun b o v=>?_⟩
    ·have:List.filter (fun q:S4=>decide (q.1∉e.1 ::ss.map Prod.fst)) (some qq).toList=[qq]:=List.filter_cons_of_pos (decide_eq_true y)
     rw [this]
     exact .cons rq .nil
    ·rw [Zj (Zi v hD2)];exact s9.at v
   ·have y:¬qq.1∉e.1 ::ss.map Prod.fst:=fun v=>y (by rw [decide_eq_false v];rfl)
    refine ⟨⟨ws,rfl,?_⟩,hD9,s9⟩
    have:List.filter (fun q:S4=>decide (q.1∉e.1 ::ss.map Prod.fst)) (some qq).toList=[]:=List.filter_cons_of_neg (by rw [decide_eq_false y];decide)
    rw [this,List.append_nil]
    exact hws
  ·rintro ys H9 ⟨⟨ws,rfl,hws⟩,hD9,s9⟩
   rw [List.length_map,Paired.length hus,List.take_length] at hws
   refine q D2 H9 (s06.trans (s7.trans (s8.trans s9))) (s06.free (s7.free (s8.free hD2))) ⟨ws,hD9,?_⟩
   unfold onL
   rw [if_neg z]
   exact Paired.mapP hws fun _ _ r=>r.mono s9
theorem Zje(T:Tx K mg){k:Nat}(h:5<=k:=by decide):Z1 P w K mg base CX0 k T.d_steps_on.f T.d_steps_on.fd ["tracks", "begun"] (Yax T):=(Zon T).mono h
section
variable (ps:List Zc) (js:List (Zc×Zc)) (sg:List (Str×Str×Str)) (e:Zc)
def goL:Nat->List S4->List (List S4)
 | 0,_=>[]
 | n+1,ss=>(onL ps js e ss).flatMap fun q=>if Wm sg q=true then [ss++[q]] else goL n (ss++[q])
def Zow(ss:List S4)(q:S4):List (List S4):=if Wm sg q=true then [ss++[q]] else goL ps js sg e (13-(ss++[q]).length) (ss++[q])
def Zjn(ss:List S4):List (List S4):=goL ps js sg e (13-ss.length) ss
end
def wt(ss:List S4):Nat:=3 ^ (14-ss.length)
section
variable {ps:List Zc} {js:List (Zc×Zc)} {sg:List (Str×Str×Str)} {e:Zc}
theorem Zqt{ss:List S4}(h:12<=ss.length):onL ps js e ss=[]:=by unfold onL;rw [if_pos (by omega)]
theorem Zwy(ss:List S4):Zjn ps js sg e ss=(onL ps js e ss).flatMap (Zow ps js sg e ss):=by
 unfold Zjn
 rcases Nat.lt_or_ge ss.length 13 with z|z
 ·rw [show 13-ss.length=(12-ss.length)+1 by omega]
  show (onL ps js e ss).flatMap _=_
  refine congrArg (fun f=>List.flatMap f (onL ps js e ss)) (funext fun q=>?_)
  unfold Zow
  rw [List.length_append]
  show _=if Wm sg q=true then [ss++[q]] else goL ps js sg e (13-(ss.length+1)) (ss++[q])
  rw [show 13-(ss.length+1)=12-ss.length by omega]
 ·rw [Zqt (by omega),show 13-ss.length=0 by omega]
  rfl
theorem Zqh:∀bs:List (List S4),bs.length<=(bs.map wt).sum
 | []=>Nat.le_refl _
 | b ::bs=>by
  have:=Zqh bs
  have:1<=wt b:=Nat.one_le_pow _ _ (by decide)
  show bs.length+1<=wt b+(bs.map wt).sum
  omega
theorem Zqk(yv:Y1 ps js sg){ss:List S4}:(onL ps js e ss).length<=2:=by
 unfold onL
 split
 ·exact Nat.zero_le _
 ·exact Nat.le_trans (List.length_filter_le _ _) (Zk7 yv)
end
def Zbl(H:Hp)(l:Addr)(sig:Str)(rs:List (List S4)):Prop:=∃ts:List Addr,H l=some (.lst (ts.map V.ref))/\Paired (fun t ss=>Zc8 H t sig ss) ts rs
theorem Zbl.mono{H H':Hp}{l:Addr}{sig:Str}{rs:List (List S4)}(e:Same H H')(h:Zbl H l sig rs):Zbl H' l sig rs:=let ⟨ts,h1,h2⟩:=h;⟨ts,e.at h1,Paired.mapP h2 fun _ _ r=>r.mono e⟩
theorem Zc8.off{H:Hp}{c t:Addr}{o:HO}{xs:List V}{sig:Str}{ss:List S4}(h:Zc8 H t sig ss)(hc:H c=some (.lst xs)):Zc8 (upd H c o) t sig ss:=by
 obtain ⟨ts,h1,h2⟩:=h
 exact ⟨ts,(Zj fun z=>by rw [z,hc] at h1;cases h1).trans h1,Paired.mapP h2 fun _ _ r=>r.off hc⟩
theorem Zbl.off{H:Hp}{c l:Addr}{o:HO}{xs:List V}{sig:Str}{rs:List (List S4)}(h:Zbl H l sig rs)(hc:H c=some (.lst xs))(n:l≠c):Zbl (upd H c o) l sig rs:=let ⟨ts,h1,h2⟩:=h;⟨ts,(Zj n).trans h1,Paired.mapP h2 fun _ _ r=>r.off hc⟩
theorem Zbl.add{H:Hp}{l t:Addr}{sig:Str}{ts:List Addr}{rs:List (List S4)}{ss:List S4}(hl:H l=some (.lst (ts.map V.ref)))(h:Paired (fun t ss=>Zc8 H t sig ss) ts rs)(r:Zc8 H t sig ss):Zbl (upd H l (.lst (ts.map V.ref++[.ref t]))) l sig (rs++[ss]) :=
 ⟨ts++[t],by rw [Zh,List.map_append];rfl,Paired.append (Paired.mapP h fun _ _ r=>r.off hl) (.cons (r.off hl) .nil)⟩
def Yav(T:Tx K mg):Sp:=fun vs H Q _=>∃(x:Addr) (g:Str×Zc) (ps:List Zc) (js:List (Zc×Zc)) (sg:List (Str×Str×Str)),vs=[.ref x,.str g.1]/\Xf T H x ps js sg/\Y1 ps js sg/\(g:Str×Str×Str)∈sg /\
 ∀l rs H',Same H H'->H l=none->Zbl H' l g.1 rs->rs.Perm (Zjn ps js sg g.2 [])->Q (.ref l) H'
theorem Zih(T:Tx K mg):Z1 P w K mg base CX0 6 T.d_routes_from.f T.d_routes_from.fd ["tracks", "signal"] (Yav T):=by
 refine T.d_routes_from.F.okW W4 fun cdv A outer s H vs Q E hr h=>?_
 ·obtain ⟨x,⟨sig,e⟩,ps,js,sg,rfl,tr,yv,hg,q⟩:=h
  refine WSs.step (Zx (i:=2) W4.nd (Zm Za)) ⟨sz (by simp),fun lf H1 s1 n1 e1=>?_⟩
  refine WSs.step (Zx (i:=3) W4.nd (Zm (Zb (Zg (Zb (pv 1) Za)) Za))) ⟨_,rfl,sz (by simp),fun t2 H2 s2 n2 e2=>⟨sz (by simp),fun lb H3 s3 n3 e3=>?_⟩⟩
  have nfb:lf≠lb:=fun z=>by rw [z] at e1;rw [s2.at e1] at n3;cases n3
  have nlb:H lb=none:=s1.free (s2.free n3)
  have s03:=s1.trans (s2.trans s3)
  let I27:=fun (σ:St) (H':Hp)=>(∃o3 o4 o5,σ=[some (.ref x),some (.str sig),some (.ref lf),o3,o4,o5])/\Same H H'/\∃rs,Zbl H' lf sig rs/\rs.Perm (Zjn ps js sg e [])
  refine WSs.cut I27 ?_ ?_
  ·refine WS.of (Zs8 PassesOwn.never (Zuo (pv 3) (fun _=>rfl)) Z2) ⟨fun n σ H'=>∃rs bs o4 o5,n=(bs.map wt).sum/\σ=[some (.ref x),some (.str sig),some (.ref lf),some (.ref lb),o4,o5]/\Same H H'/\Zbl H' lf sig rs/\Zbl H' lb sig bs/\rs.length+(bs.map wt).sum<=4782969/\(∀b∈bs,b.length<=12)/\(rs++bs.flatMap (Zjn ps js sg e)).Perm (Zjn ps js sg e []),⟨_,[],[[]],none,none,rfl,rfl,s03,⟨[],s3.at (s2.at e1),.nil⟩,⟨[t2],e3,.cons ⟨[],s3.at e2,.nil⟩ .nil⟩,by trivial,fun b hb=>by rw [List.mem_singleton.mp hb];exact Nat.zero_le _,by simp⟩,?_⟩
   rintro n σ H4 ⟨rs,bs,o4,o5,rfl,rfl,s4,hrs,⟨ts,hlb,hts⟩,hsum,hlen,hperm⟩
   have htl:=Paired.length hts
   refine ⟨_,rfl,!(ts.map V.ref).isEmpty,.inl ⟨_,SqL.of hlb,rfl⟩,?_⟩
   refine Ym (fun z=>?_) (fun z=>⟨⟨_,_,_,rfl⟩,s4,rs,hrs,?_⟩)
   rotate_left
   ·have z:ts.length=0:=by
     cases ts with
     | nil=>rfl
     | cons a as=>exact absurd rfl z
    have:bs=[]:=List.length_eq_zero_iff.mp (by omega)
    rw [this] at hperm
    simpa using hperm
   have z:0<ts.length:=by
    cases ts with
    | nil=>exact absurd z (by decide)
    | cons a as=>exact Nat.succ_pos _
   obtain ⟨ta,hta⟩:∃ta,ts[ts.length-1]? =some ta:=⟨_,List.getElem?_eq_getElem (by omega)⟩
   obtain ⟨ah,hah,ra⟩:=Paired.get hts hta
   obtain ⟨us,rfl⟩:=List.getLast?_eq_some_iff.mp (show ts.getLast? =some ta by rw [List.getLast?_eq_getElem?];exact hta)
   obtain ⟨b1,rfl⟩:=List.getLast?_eq_some_iff.mp (show bs.getLast? =some ah by rw [List.getLast?_eq_getElem?,<-htl];exact hah)
   rw [List.map_append,List.sum_append] at hsum
   have hal:ah.length<=12:=hlen ah (List.mem_append_right _ List.mem_cons_self)
   obtain ⟨B,hB⟩:∃B,B=3 ^ (13-ah.length):=⟨_,rfl⟩
   have hB1:1<=B:=by rw [hB];exact Nat.one_le_pow _ _ (by decide)
   have hwt:(List.map wt [ah]).sum=3 * B:=by
    show wt ah+0=_
    unfold wt
    rw [hB,Nat.add_zero,show 14-ah.length=(13-ah.length)+1 by omega,Nat.pow_succ,Nat.mul_comm]
   rw [hwt] at hsum
   refine ⟨fun σ' H'=>∃rs' bs' o4 o5,(bs'.map wt).sum<=(b1.map wt).sum+2 * B/\σ'=[some (.ref x),some (.str sig),some (.ref lf),some (.ref lb),o4,o5]/\Same H H'/\Zbl H' lf sig rs'/\Zbl H' lb sig bs'/\rs'.length+(bs'.map wt).sum<=4782969/\(∀b∈bs',b.length<=12)/\(rs'++bs'.flatMap (Zjn ps js sg e)).Perm (Zjn ps js sg e []),fun σ' H' ⟨rs',bs',p4,p5,h1,h2,h3⟩=>⟨_,?_,rs',bs',p4,p5,rfl,h2,h3⟩,?_⟩
   ·rw [List.map_append,List.sum_append,hwt];omega
   have hlu:H4 lb=some (.lst ((us++[ta]).map V.ref)):=hlb
   refine WSs.step (Zx (i:=4) W4.nd (Zx5 PySem.F.plainAttrs_list PySem.F.slot_list_pop PySem.F.type_list_pop Zyu (pv 3))) ⟨_,rfl,.inl ⟨rfl,_,SqL.of hlb⟩,lb,_,.ref ta,rfl,rfl,hlb,?_,?_⟩
   ·rw [List.map_append,List.length_append,List.length_map]
    show (us.map V.ref++[V.ref ta])[us.length+1-1]? =_
    rw [Nat.add_sub_cancel,List.getElem?_append_right (by rw [List.length_map];exact Nat.le_refl _),List.length_map,Nat.sub_self]
    rfl
   have el:upd H4 lb (.lst ((us++[ta]).map V.ref).dropLast) lb=some (.lst (us.map V.ref)):=by rw [Zh,List.map_append];exact congrArg (fun l=>some (HO.lst l)) (List.dropLast_concat)
   have hts':Paired (fun t ss=>Zc8 H4 t sig ss) us b1:=by
    have:=Zdg us.length hts
    rwa [List.take_left,show us.length=b1.length by have:=htl;rw [List.length_append,List.length_append] at this;simpa using this,List.take_left] at this
   have hrs5:=hrs.off (o:=.lst ((us++[ta]).map V.ref).dropLast) hlb nfb
   have ra5:=ra.off (o:=.lst ((us++[ta]).map V.ref).dropLast) hlb
   have hbs5:Zbl (upd H4 lb (.lst ((us++[ta]).map V.ref).dropLast)) lb sig b1:=⟨us,el,Paired.mapP hts' fun _ _ r=>r.off hlb⟩
   have s5:Same H (upd H4 lb (.lst ((us++[ta]).map V.ref).dropLast)):=s4.upd0 nlb
   generalize upd H4 lb (.lst ((us++[ta]).map V.ref).dropLast)=H5 at hrs5 ra5 hbs5 s5
   refine WSs.last (Wi PassesOwn.never rfl (Yx (Zu (Zje T) hr rfl T.m_steps_on T.d_steps_on.F.kp T.d_steps_on.b .nil Z3 (Zb (pv 0) (Zb (pv 4) Za)))) (Y5 (i:=5) W4.nd) Z2) ⟨_,rfl,_,rfl,x,ta,(sig,e),ah,ps,js,sg,rfl,tr.mono s5,yv,hg,ra5,by omega,fun l6 H6 s6 n6 ⟨vs,h6,hvs⟩=>⟨l6,rfl,⟨_,SqL.of h6⟩,W6 (K:=K) (xs:=vs.map V.ref) (fun i σ H'=>∃rs' bs' o5,(bs'.map wt).sum<=(b1.map wt).sum+i * B/\rs'.length+(bs'.map wt).sum<=rs.length+(b1.map wt).sum+i * B/\σ=[some (.ref x),some (.str sig),some (.ref lf),some (.ref lb),some (.ref ta),o5]/\Same H H'/\H' l6=some (.lst (vs.map V.ref))/\Paired (Y7 H') vs (onL ps js e ah)/\Zc8 H' ta sig ah/\Zbl H' lf sig rs'/\Zbl H' lb sig bs'/\(∀b∈bs',b.length<=12)/\(rs'++bs'.flatMap (Zjn ps js sg e)++((onL ps js e ah).drop i).flatMap (Zow ps js sg e ah)).Perm (Zjn ps js sg e [])) ⟨rs,b1,o5,by omega,by omega,rfl,s5.trans s6,h6,hvs,ra5.mono s6,hrs5.mono s6,hbs5.mono s6,fun b hb=>hlen b (List.mem_append_left _ hb),?_⟩ ?_ ?_ ?_⟩⟩
   ·rw [List.drop_zero,<-Zwy]
    rw [List.flatMap_append,<-List.append_assoc] at hperm
    simpa using hperm
   ·rintro i σ H' _ ⟨_,_,_,_,_,_,_,h,_⟩
    exact SqL.of h
   ·rintro i v σ H7 hi ⟨rs',bs',o5',w1,w2,rfl,s7,h7,hv7,ra7,hr7,hb7,hl7,hp7⟩
    rw [List.getElem?_map] at hi
    obtain ⟨tq,htq,rfl⟩:=Option.map_eq_some_iff.mp hi
    obtain ⟨qq,hqq,rq⟩:=Paired.get hv7 htq
    have few:=Zqk (e:=e) (ss:=ah) yv
    have hil:=(List.getElem?_eq_some_iff.mp hqq).1
    have hah12:ah.length<12:=by
     rcases Nat.lt_or_ge ah.length 12 with y|y
     ·exact y
     ·rw [Zqt y] at hil;exact absurd hil (Nat.not_lt_zero _)
    have hdrop:(onL ps js e ah).drop i=qq ::(onL ps js e ah).drop (i+1):=by
     rw [List.drop_eq_getElem_cons hil]
     rw [List.getElem?_eq_getElem hil] at hqq
     rw [Option.some.inj hqq]
    rw [hdrop,List.flatMap_cons] at hp7
    have hwn:wt (ah++[qq])=B:=by
     unfold wt
     rw [hB,List.length_append]
     show 3 ^ (14-(ah.length+1))=_
     rw [show 14-(ah.length+1)=13-ah.length by omega]
    have nl6:l6≠lf/\l6≠lb:=⟨fun v=>(let ⟨_,k,_⟩:=hrs5;nomatch (v ▸ n6).symm.trans k),fun v=>(let ⟨_,k,_⟩:=hbs5;nomatch (v ▸ n6).symm.trans k)⟩
    have iB:(i+1) * B=i * B+B:=by rw [Nat.add_mul,Nat.one_mul]
    have sB:i * B<=1 * B:=Nat.mul_le_mul_right _ (by omega)
    have tup:∀{H8:Hp},Same H7 H8->∀{t8:Addr},H8 t8=some (.tup [.ref tq])->∀{Q':VK},(∀t9 H9,Same H8 H9->Zc8 H9 t9 sig (ah++[qq])->Q' (.ref t9) H9)->Zui K (.ref ta) (.ref t8) H8 Q':=fun {H8} s8 {t8} e8 {Q'} k=>by
     obtain ⟨ws,g1,g2⟩:=ra7.mono s8
     have hwl:=Paired.length g2
     refine ⟨ta,t8,_,_,rfl,rfl,SqT.of g1,SqT.of e8,by simp,by simp,by rw [List.length_cons,List.length_map,hwl];exact sz (by show _+1+1<=_;omega),fun t9 H9 s9 n9 e9=>k t9 H9 s9 ⟨ws++[tq],?_,?_⟩⟩
     ·rw [e9,List.map_append];rfl
     ·exact Paired.append (Paired.mapP g2 fun _ _ r=>r.mono s9) (.cons ((rq.mono s8).mono s9) .nil)
    refine WSs.last (Ye (Wz (Zu (Zfj T) hr rfl T.m_ends_there T.d_ends_there.F.kp T.d_ends_there.b .nil Z3 (Zb (pv 0) (Zb (pv 5) Za)))) Z2 Z2) ⟨_,rfl,_,rfl,x,tq,qq,ps,js,sg,rfl,tr.mono s7,yv,rq,fun H8 s8=>⟨_,rfl,Ym (fun y=>?_) (fun y=>?_)⟩⟩
    ·obtain ⟨fs,f1,f2⟩:=hr7.mono s8
     refine WSs.last (Wk (Zdq PySem.F.plainAttrs_list PySem.F.slot_list_append PySem.F.type_list_append Xy (pv 2) (Zb (Zl Zni (pv 4) (Zg (Zb (pv 5) Za))) Za))) ⟨_,rfl,.inl ⟨rfl,_,SqL.of f1⟩,_,rfl,_,rfl,sz (by simp),fun t8 H9 s9 n9 e9=>tup (s8.trans s9) e9 fun t9 H10 s10 r10=>⟨lf,_,_,rfl,rfl,(s9.trans s10).at f1,?_,?_⟩⟩
     ·have hfl:=Paired.length f2
      rw [List.length_map,sizeLine_eq,hfl];omega
     have s710:=s8.trans (s9.trans s10)
     have fe:=(s9.trans s10).at f1
     have hone:Zow ps js sg e ah qq=[ah++[qq]]:=by unfold Zow;rw [if_pos y]
     rw [hone] at hp7
     refine ⟨rs'++[ah++[qq]],bs',some (.ref tq),by omega,by rw [List.length_append];show _+1+_<=_;omega,rfl,(s7.trans s710).upd0 n1,(Zj nl6.1).trans (s710.at h7),Paired.mapP hv7 fun _ _ r=>(r.mono s710).off fe,(ra7.mono s710).off fe,Zbl.add fe (Paired.mapP f2 fun _ _ r=>r.mono (s9.trans s10)) r10,(hb7.mono s710).off fe nfb.symm,hl7,List.Perm.trans ?_ hp7⟩
     rw [List.append_assoc,List.append_assoc,List.append_assoc]
     refine List.Perm.append_left rs' ?_
     rw [<-List.append_assoc,<-List.append_assoc]
     exact List.Perm.append_right _ List.perm_append_comm
    ·obtain ⟨fs,f1,f2⟩:=hb7.mono s8
     refine WSs.last (Wk (Zdq PySem.F.plainAttrs_list PySem.F.slot_list_append PySem.F.type_list_append Xy (pv 3) (Zb (Zl Zni (pv 4) (Zg (Zb (pv 5) Za))) Za))) ⟨_,rfl,.inl ⟨rfl,_,SqL.of f1⟩,_,rfl,_,rfl,sz (by simp),fun t8 H9 s9 n9 e9=>tup (s8.trans s9) e9 fun t9 H10 s10 r10=>⟨lb,_,_,rfl,rfl,(s9.trans s10).at f1,?_,?_⟩⟩
     ·have hfl:=Paired.length f2
      have:=Zqh bs'
      rw [List.length_map,sizeLine_eq,hfl];omega
     have s710:=s8.trans (s9.trans s10)
     have fe:=(s9.trans s10).at f1
     have hone:Zow ps js sg e ah qq=Zjn ps js sg e (ah++[qq]):=by unfold Zow;rw [if_neg y];rfl
     rw [hone] at hp7
     have hsm:((bs'++[ah++[qq]]).map wt).sum=(bs'.map wt).sum+B:=by rw [List.map_append,List.sum_append];show _+(wt (ah++[qq])+0)=_;rw [hwn,Nat.add_zero]
     refine ⟨rs',bs'++[ah++[qq]],some (.ref tq),by omega,by omega,rfl,(s7.trans s710).upd0 nlb,(Zj nl6.2).trans (s710.at h7),Paired.mapP hv7 fun _ _ r=>(r.mono s710).off fe,(ra7.mono s710).off fe,(hr7.mono s710).off fe nfb,Zbl.add fe (Paired.mapP f2 fun _ _ r=>r.mono (s9.trans s10)) r10,fun b hb=>?_,?_⟩
     ·rcases List.mem_append.mp hb with v|v
      ·exact hl7 b v
      ·rw [List.mem_singleton.mp v,List.length_append];show _+1<=_;omega
     ·rw [List.flatMap_append,List.flatMap_singleton,<-List.append_assoc,List.append_assoc]
      exact hp7
   ·rintro σ H7 ⟨rs',bs',o5',w1,w2,rfl,s7,h7,hv7,ra7,hr7,hb7,hl7,hp7⟩
    have few:=Zqk (e:=e) (ss:=ah) yv
    have hvl:=Paired.length hv7
    rw [List.length_map,hvl] at w1 w2 hp7
    rw [List.drop_length] at hp7
    have sB:(onL ps js e ah).length * B<=2 * B:=Nat.mul_le_mul_right _ few
    exact ⟨rs',bs',_,_,by omega,rfl,s7,hr7,hb7,by omega,hl7,by simpa using hp7⟩
  rintro σ H4 ⟨⟨o3,o4,o5,rfl⟩,s4,rs,⟨ts,h1,h2⟩,hp⟩
  refine WSs.last (Zq (Z0 (r:=Zuj K) (Zpe hr.units) (by rfl) T.n_sorted PyProof.Rows.boot_sorted (Zb (pv 2) Za))) ⟨_,rfl,lf,ts,rfl,SqL.of h1,fun t ht=>?_,fun ts' hp' l5 H5 s5 n5 e5=>?_⟩
  ·obtain ⟨i,hi,rfl⟩:=List.getElem_of_mem ht
   obtain ⟨ss,_,us,r1,r2⟩:=Paired.get h2 (List.getElem?_eq_getElem hi)
   refine ⟨sig,us,r1,fun u hu=>?_⟩
   obtain ⟨j,hj,rfl⟩:=List.getElem_of_mem hu
   obtain ⟨q4,_,r4⟩:=Paired.get r2 (List.getElem?_eq_getElem hj)
   exact ⟨[q4.1,q4.2.1,q4.2.2.1,q4.2.2.2],r4⟩
  ·obtain ⟨rs',p1,p2⟩:=Zk2 hp' h2
   exact q l5 rs' H5 (s4.trans s5) (s4.free n5) ⟨ts',e5,Paired.mapP p2 fun _ _ r=>r.mono s5⟩ (p1.trans hp)
theorem Zkp(T:Tx K mg){k:Nat}(h:6<=k:=by decide):Z1 P w K mg base CX0 k T.d_routes_from.f T.d_routes_from.fd ["tracks", "signal"] (Yav T):=(Zih T).mono h
def asQ:Tr->Option S4
 | .tup [.str a,.str b,.str c,.str d]=>some (a,b,c,d)
 | _=>none
theorem Zys{t:Tr}{q:S4}(h:asQ t=some q):t=Yi q:=by
 unfold asQ at h
 split at h
 ·cases h;rfl
 ·cases h
section
variable (ps:List Zc) (js:List (Zc×Zc)) (sg:List (Str×Str×Str)) (e:Zc)
def Yv:List S4->List Tr->Bool
 | _,[]=>false
 | ss,t ::r=>match asQ t with
  | none=>false
  | some q=>decide (q∈onL ps js e ss) && (if Wm sg q=true then r.isEmpty else Yv (ss++[q]) r)
def Zcy:List Tr->Bool
 | .str s ::t ::r=>match sg.find? (fun g=>decide (g.1=s)) with
  | none=>false
  | some g=>Yv ps js sg g.2 [] (t ::r)
 | _=>false
end
def Zds(K:Frag)(H:Hp)(t:Tr)(v:V):Prop:=Im K H 3 t v/\∀q,t=Yi q->∃a,v=.ref a/\Y7 H a q
def Zsu(K:Frag)(H:Hp)(v:V):Option (List Tr)->Prop
 | none=>∃t,Zbm K H v t/\kitOne K t (.type "tuple")=some false
 | some ts=>∃a xs,v=.ref a/\H a=some (.tup xs)/\Paired (Zds K H) ts xs/\ts.length<=40
def Zwb(ps:List Zc)(js:List (Zc×Zc))(sg:List (Str×Str×Str)):Option (List Tr)->Bool
 | none=>false
 | some ts=>Zcy ps js sg ts
theorem Y7.im3{H:Hp}{u:Addr}{q:S4}(h:Y7 H u q):Im K H 3 (Yi q) (.ref u):=Im.tup (n:=2) (SqT.of h) (.cons (.str _) (.cons (.str _) (.cons (.str _) (.cons (.str _) .nil))))
theorem Zds.mono{H H':Hp}{t:Tr}{v:V}(e:Same H H')(h:Zds K H t v):Zds K H' t v:=⟨h.1.mono e,fun q z=>let ⟨a,h1,h2⟩:=h.2 q z;⟨a,h1,h2.mono e⟩⟩
def Zzw(ss:List Str):Tr->Bool
 | .str s=>decide (s∈ss)
 | _=>false
theorem Zpb{v:V}(h:∀s,eqV (.str s) v=false):∀l:List Str,inV v (l.map V.str)=false
 | []=>rfl
 | s ::l=>by
  show (eqV (.str s) v || inV v (l.map V.str))=false
  rw [h,Zpb h l]
  rfl
theorem Zn4{H:Hp}{n:Nat}{t:Tr}{v:V}{D:Addr}{ss:List Str}{Q:VK}(h:Im K H n t v)(hD:H D=some (.lst (ss.map V.str)))(q:Q (.bl (!Zzw ss t)) H):Zmg K v (.ref D) H Q:=by
 cases h with
 | non=>exact .inl (.inl (.inl ⟨D,_,rfl,.inl (SqL.of hD),rfl,Zae _,by rw [if_pos rfl,Zpb fun _=>rfl];exact q⟩))
 | int i=>exact .inl (.inl (.inl ⟨D,_,rfl,.inl (SqL.of hD),rfl,Zae _,by rw [if_pos rfl,Zpb fun _=>rfl];exact q⟩))
 | str x=>exact .inl (.inl (.inl ⟨D,_,rfl,.inl (SqL.of hD),rfl,Zae _,by rw [if_pos rfl,Zbk];exact q⟩))
 | tupI h1 _=>exact .inr ⟨D,_,_,ss,rfl,rfl,SqL.of hD,h1,q⟩
 | lstI h1 _=>exact .inl (.inr ⟨D,_,_,ss,rfl,rfl,SqL.of hD,h1,q⟩)
theorem Zv4{H:Hp}{ts:List Addr}{ss:List S4}(h:Paired (Y7 H) ts ss):Paired (Im K H 3) (ss.map Yi) (ts.map V.ref):=by
 induction h with
 | nil=>exact .nil
 | cons r _ ih=>exact .cons r.im3 ih
theorem Zp3{H:Hp}:∀{ss:List S4} {vs:List V},Paired (Zds K H) (ss.map Yi) vs->∃as:List Addr,vs=as.map V.ref/\Paired (Y7 H) as ss
 | [],_,.nil=>⟨[],rfl,.nil⟩
 | q ::ss,_,.cons r t=>by
  obtain ⟨as,rfl,h⟩:=Zp3 t
  obtain ⟨a,rfl,h'⟩:=r.2 q rfl
  exact ⟨a ::as,rfl,.cons h' h⟩
def Zxr(T:Tx K mg):Sp:=fun vs H Q _=>∃(x:Addr) (v:V) (o:Option (List Tr)) (ps:List Zc) (js:List (Zc×Zc)) (sg:List (Str×Str×Str)),vs=[.ref x,v]/\Xf T H x ps js sg/\Y1 ps js sg/\Zsu K H v o/\∀H',Same H H'->Q (.bl (Zwb ps js sg o)) H'
theorem Zn5(T:Tx K mg):Z1 P w K mg base CX0 6 T.d_is_route.f T.d_is_route.fd ["tracks", "thing"] (Zxr T):=by
 refine T.d_is_route.F.okW Zg1 fun cdv A outer s H vs Q E hr h=>?_
 ·obtain ⟨x,v,o,ps,js,sg,rfl,tr,yv,ho,q⟩:=h
  cases o with
  | none =>
   obtain ⟨t,h1,h2⟩:=ho
   refine WSs.step (Ye (PW.pt (Zg6 (Zc9 (Wz (Z0 (r:=Zor K) Zbx (by rfl) T.n_isinstance PyProof.Rows.boot_isinstance (Zb (pv 1) (Zb (Zd9 (v:=.ty "tuple") (by rfl) T.n_tuple PyProof.Rows.boot_tuple rfl) Za))))) (Zd6 (Zs Zfx (Z0 (r:=X0 K) X3 (by rfl) T.n_len PySem.boot_len (Zb (pv 1) Za)) Ze (Z4 _))))) Z2 Zv) ⟨_,rfl,_,_,false,t,rfl,h1,.inl ⟨_,rfl,h2⟩,_,rfl,Zhv (Zhv ?_)⟩
   exact WSs.last (Zq Zcw) (q H (Same.refl _))
  | some ts =>
  obtain ⟨a,xs,rfl,ha,hts,h40⟩:=ho
  have hl:=Paired.length hts
  have q:∀H',Same H H'->Q (.bl (Zcy ps js sg ts)) H':=q
  refine WSs.step (Ye (PW.pt (Zg6 (Zc9 (Wz (Z0 (r:=Zor K) Zbx (by rfl) T.n_isinstance PyProof.Rows.boot_isinstance (Zb (pv 1) (Zb (Zd9 (v:=.ty "tuple") (by rfl) T.n_tuple PyProof.Rows.boot_tuple rfl) Za))))) (Zd6 (Zs Zfx (Z0 (r:=X0 K) X3 (by rfl) T.n_len PySem.boot_len (Zb (pv 1) Za)) Ze (Z4 _))))) Z2 Zv) ⟨_,rfl,_,_,true,_,rfl,Zbm.tup ha,.inl ⟨_,rfl,T.kTT⟩,_,rfl,Zrh ⟨_,rfl,.inl ⟨a,_,rfl,.inr (SqT.of ha),_,_,rfl,rfl,_,rfl,Ym (fun z=>?_) (fun z=>?_)⟩⟩⟩
  ·have z:ts.length<2:=by
    have:=of_decide_eq_true z
    omega
   refine WSs.last (Zq Zcw) ?_
   have:Zcy ps js sg ts=false:=by
    rcases ts with _|⟨t,_|⟨t',r⟩⟩
    ·rfl
    ·cases t <;>rfl
    ·exact absurd z (by show ¬r.length+1+1<2;omega)
   rw [this] at q
   exact q H (Same.refl _)
  have z:¬xs.length<2:=fun y=>z (decide_eq_true (by omega))
  obtain ⟨dx,_,_,_,_,_,_,_,_,h1,_⟩:=tr.ex
  obtain ⟨t0,t1,r,rfl⟩:∃t0 t1 r,ts=t0 ::t1 ::r:=by
   rcases ts with _|⟨t,_|⟨t',r⟩⟩
   ·exact absurd (by rw [<-hl];show 0<2;omega) z
   ·exact absurd (by rw [<-hl];show 1<2;omega) z
   ·exact ⟨_,_,_,rfl⟩
  obtain ⟨v0,hv0,i0⟩:=Paired.get hts (i:=0) rfl
  refine WSs.step (Ye (Zs (r:=Zmg K) (Zvp hr) (Zp (r:=rIx K) Zk (pv 1) Ze (fun _ _=>rfl)) (Xn (N':=["signal"]) rfl (Ya.std 1 [] rfl (by trivial) (by trivial) rfl trivial rfl rfl trivial) (Yx (Zd1 (pv 0) T.clTracks T.mtTracks_signals (Zgo T) hr T.d_Tracks_signals.b .nil Z3)) (fun _ _ _ _=>(Zbn (i:=0) (by show (["signal"]:List Str).Nodup;decide +kernel))) (fun _ _ _ _=>W0) (fun _ _ _ _=>(Zp (r:=rIx K) Zk (pv 0) Ze (fun _ _=>rfl)))) (by with_unfolding_all rfl)) Z2 Zv) ⟨_,rfl,.inr (.inl ⟨a,_,0,v0,rfl,rfl,SqT.of ha,Zn (j:=0) hv0,_,rfl,x,dx,_,rfl,h1,rfl,x,ps,js,sg,rfl,tr,yv,fun sg' l1 H1 hp s1 n1 ⟨gs,e1,hgs⟩=>⟨l1,rfl,⟨_,SqL.of e1⟩,fun D hD=>Xq (K:=K) (xs:=gs.map V.ref) (fun i ys H'=>ys=((sg'.take i).map Prod.fst).map V.str/\H' D=some (.lst ys)/\Same H1 H') ⟨rfl,Zh,Same.new hD⟩ ?_ ?_ ?_⟩⟩)⟩
  ·rintro i ys H' _ ⟨_,_,sm⟩
   exact SqL.of (sm.at e1)
  ·rintro i v ys H2 hi ⟨rfl,hD2,s2⟩
   rw [List.getElem?_map] at hi
   obtain ⟨tg,htg,rfl⟩:=Option.map_eq_some_iff.mp hi
   obtain ⟨g,hg,rg⟩:=Paired.get hgs htg
   refine ⟨W2.set rfl,_,rfl,.inr (.inl ⟨tg,_,0,_,rfl,rfl,SqT.of (s2.at rg),Zn (j:=0) rfl,hD2,?_,?_,Zh,fun b o y=>?_⟩)⟩
   ·have:=(List.getElem?_eq_some_iff.mp hg).1
    have:=hp.length_eq
    have:=yv.sigs.len
    rw [List.length_map,List.length_map,List.length_take];exact Zy (by omega)
   ·rw [List.take_add_one,hg,List.map_append,List.map_append];rfl
   ·rw [Zj (Zi y hD)];exact s2.at y
  rintro ys H2 ⟨rfl,hD2,s2⟩
  rw [List.length_map,Paired.length hgs,List.take_length] at hD2
  have s02:=s1.trans s2
  refine Zn4 (i0.mono s02).1 hD2 ⟨_,rfl,Ym (fun y=>?_) (fun y=>?_)⟩
  ·refine WSs.last (Zq Zcw) ?_
   have:Zcy ps js sg (t0 ::t1 ::r)=false:=by
    cases t0 with
    | str nm =>
     show (match sg.find? (fun g=>decide (g.1=nm)) with
      | none=>false
      | some g=>Yv ps js sg g.2 [] (t1 ::r))=false
     rw [List.find?_eq_none.mpr fun g hg e=>?_]
     have y:decide (nm∈sg'.map Prod.fst)=false:=(Bool.not_eq_true' _).mp y
     exact absurd ((hp.map _).mem_iff.mpr (List.mem_map.mpr ⟨g,hg,of_decide_eq_true e⟩)) (of_decide_eq_false y)
    | non=>rfl
    | int _=>rfl
    | tup _=>rfl
    | lst _=>rfl
   rw [this] at q
   exact q H2 s02
  obtain ⟨nm,rfl,hnm⟩:∃nm,t0=.str nm/\nm∈sg'.map Prod.fst:=by
   cases t0 with
   | str nm=>exact ⟨nm,rfl,by simpa [Zzw] using y⟩
   | non=>exact absurd rfl y
   | int _=>exact absurd rfl y
   | tup _=>exact absurd rfl y
   | lst _=>exact absurd rfl y
  obtain rfl:v0=.str nm:=by cases i0.1;rfl
  obtain ⟨⟨nm',e⟩,hg,rfl⟩:=List.mem_map.mp ((hp.map _).mem_iff.mp hnm)
  have hrt:Zcy ps js sg (.str nm' ::t1 ::r)=Yv ps js sg e [] (t1 ::r):=by
   show (match sg.find? (fun g=>decide (g.1=nm')) with
    | none=>false
    | some g=>Yv ps js sg g.2 [] (t1 ::r))=_
   rw [Zhy yv.sigs.nd hg]
  rw [hrt] at q
  have hxs:xs.length=r.length+2:=hl.symm
  have h40:r.length+2<=40:=h40
  obtain ⟨vs,rfl⟩:∃vs,xs=.str nm' ::vs:=by
   cases xs with
   | nil=>cases hv0
   | cons v vs=>exact ⟨vs,by rw [Option.some.inj hv0]⟩
  have hvs:Paired (Zds K H) (t1 ::r) vs:=by cases hts;assumption
  have hvl:=Paired.length hvs
  let I28:=fun (σ:St) (H':Hp)=>Same H H'/\Yv ps js sg e [] (t1 ::r)=false
  refine WSs.cut I28 ?_ ?_
  ·refine WS.of (Wi PassesOwn.never rfl (Zgj rfl T.n_range (Zb Ze (Zb (Z0 (r:=X0 K) X3 (by rfl) T.n_len PySem.boot_len (Zb (pv 1) Za)) Za))) (Y5 (i:=2) Zg1.nd) Z2) ⟨_,rfl,.inl ⟨a,_,rfl,.inr (SqT.of (s02.at ha)),1,_,rfl,⟨by decide,by decide,by omega,by omega⟩,?_⟩⟩
   rw [show ((((V.str nm' ::vs).length:Nat):Int)-1).toNat=(t1 ::r).length by rw [List.length_cons,hvl];omega]
   let I29:=fun (i:Nat) (σ:St) (H':Hp)=>∃ss o,σ=[some (.ref x),some (.ref a),o]/\Same H H'/\(t1 ::r).take i=ss.map Yi/\ss.length=i/\Yv ps js sg e [] (t1 ::r)=Yv ps js sg e ss ((t1 ::r).drop i)
   refine Zlq I29 ⟨[],none,rfl,s02,rfl,rfl,rfl⟩ ?_ ?_
   ·rintro i σ H3 hi ⟨ss,o,rfl,s3,htk,hsl,hwk⟩
    obtain ⟨t,r',hdr⟩:∃t r',(t1 ::r).drop i=t ::r':=by
     rw [List.drop_eq_getElem_cons hi]
     exact ⟨_,_,rfl⟩
    have hti:(t1 ::r)[i]? =some t:=by
     have:=congrArg (fun l=>l[0]?) hdr
     simpa using this
    have hr'l:(t1 ::r).length=i+1+r'.length:=by
     have:=congrArg List.length hdr
     rw [List.length_drop,List.length_cons (as:=r')] at this
     omega
    have hdr1:(t1 ::r).drop (i+1)=r':=by
     rw [<-List.drop_drop,hdr]
     rfl
    obtain ⟨v,hv,iv⟩:=Paired.get hvs hti
    have av:atI (V.str nm' ::vs) (1+(i:Nat):Int)=some v:=by
     rw [show (1+(i:Nat):Int)=((i+1:Nat):Int) by omega]
     exact Zn hv
    obtain ⟨as,has,hS⟩:=Zp3 (H:=H) (ss:=ss) (vs:=vs.take i) (by rw [<-htk];exact Zdg i hvs)
    rw [hdr] at hwk
    have e1i:(1+(i:Nat):Int)=((i+1:Nat):Int):=by omega
    refine WSs.step (Ye (Zs (r:=Zck K) (Zc3 hr) (Zp (r:=rIx K) Zk (pv 1) (pv 2) (fun _ _=>rfl)) (Zu (Zje T) hr rfl T.m_steps_on T.d_steps_on.F.kp T.d_steps_on.b .nil Z3 (Zb (pv 0) (Zb (Yr (r:=Zbq K) Zcl (pv 1) Yz (Yy (pv 2))) Za))) (by with_unfolding_all rfl)) Z2 Zv) ⟨_,rfl,_,rfl,.inr (.inl ⟨a,_,_,v,rfl,rfl,SqT.of (s3.at ha),av,_,rfl,_,rfl,_,rfl,_,rfl,.inl ⟨a,_,rfl,SqT.of (s3.at ha),?_,fun t4 H4 s4 n4 e4=>⟨x,t4,(nm',e),ss,ps,js,sg,rfl,tr.mono (s3.trans s4),yv,hg,⟨as,?_,Paired.mapP hS fun _ _ r=>Y7.mono (s3.trans s4) r⟩,?_,fun l5 H5 s5 n5 ⟨us,h5,hus⟩=>.inr (.inr ⟨l5,3,t,(onL ps js e ss).map Yi,us,rfl,SqL.of h5,by decide,(iv.mono (s3.trans (s4.trans s5))).1,Zv4 hus,⟨_,rfl,?_⟩⟩)⟩⟩⟩)⟩
    ·rintro ⟨_,y⟩
     rw [e1i,HT.sIx_nat,List.length_cons,<-hvl] at y
     omega
    ·rw [e1i,Ze2] at e4
     rw [e4,<-has]
     rfl
    ·have:i<r.length+1:=hi
     omega
    have s5':=s3.trans (s4.trans s5)
    rw [if_pos rfl]
    refine Ym (fun y=>?_) (fun y=>?_)
    ·refine WSs.last (Zq Zcw) ?_
     have y:decide (t∈(onL ps js e ss).map Yi)=false:=(Bool.not_eq_true' _).mp y
     have:Yv ps js sg e ss (t ::r')=false:=by
      rw [Yv]
      cases hq:asQ t with
      | none=>rfl
      | some qq =>
       rw [Zys hq,Zwe] at y
       show (decide (qq∈onL ps js e ss) && _)=false
       rw [y]
       rfl
     rw [hwk,this] at q
     exact q H5 s5'
    have y:t∈(onL ps js e ss).map Yi:=by
     have:decide (t∈(onL ps js e ss).map Yi)=true:=by
      cases d:decide (t∈(onL ps js e ss).map Yi) with
      | true=>rfl
      | false=>rw [d] at y;exact absurd rfl y
     exact of_decide_eq_true this
    obtain ⟨qq,hqq,rfl⟩:=List.mem_map.mp y
    obtain ⟨tq,rfl,rq⟩:=iv.2 qq rfl
    have hstep:Yv ps js sg e ss (Yi qq ::r')=if Wm sg qq=true then r'.isEmpty else Yv ps js sg e (ss++[qq]) r':=by
     show (decide (qq∈onL ps js e ss) && _)=_
     rw [decide_eq_true hqq]
     rfl
    refine WSs.last (Ye (Wz (Zu (Zfj T) hr rfl T.m_ends_there T.d_ends_there.F.kp T.d_ends_there.b .nil Z3 (Zb (pv 0) (Zb (Zp (r:=rIx K) Zk (pv 1) (pv 2) (fun _ _=>rfl)) Za)))) Z2 Zv) ⟨_,rfl,_,rfl,_,rfl,.inr (.inl ⟨a,_,_,_,rfl,rfl,SqT.of (s5'.at ha),av,x,tq,qq,ps,js,sg,rfl,tr.mono s5',yv,rq.mono s5',fun H6 s6=>⟨_,rfl,Ym (fun y=>?_) (fun y=>?_)⟩⟩)⟩
    ·refine WSs.last (Zq (W1 (r:=Zaz K) (Zba hr) (pv 2) (Zl Zi6 (Z0 (r:=X0 K) X3 (by rfl) T.n_len PySem.boot_len (Zb (pv 1) Za)) Ze) (Z4 _))) ⟨_,rfl,_,rfl,.inl ⟨a,_,rfl,.inr (SqT.of (s5'.trans s6 |>.at ha)),_,_,rfl,rfl,.inl ⟨rfl,?_⟩⟩⟩
     have:decide (V.int (1+(i:Nat))=V.int (((V.str nm' ::vs).length:Nat)-1))=r'.isEmpty:=by
      rw [List.length_cons,<-hvl,hr'l]
      cases r' with
      | nil=>exact decide_eq_true (by congr 1;show _=((i+1+0+1:Nat):Int)-1;omega)
      | cons b bs=>exact decide_eq_false fun z=>by have z:=V.int.inj z;rw [List.length_cons] at z;omega
     rw [this]
     rw [hwk,hstep,if_pos y] at q
     exact q H6 (s5'.trans s6)
    ·refine ⟨ss++[qq],_,rfl,s5'.trans s6,?_,?_,?_⟩
     ·rw [List.take_add_one,hti,htk,List.map_append];rfl
     ·rw [List.length_append,hsl];rfl
     ·rw [hwk,hstep,if_neg y,hdr1]
   ·rintro σ H3 ⟨ss,o,rfl,s3,htk,hsl,hwk⟩
    refine ⟨s3,hwk.trans ?_⟩
    rw [List.drop_length]
    rfl
  rintro σ H3 ⟨s3,h3⟩
  rw [h3] at q
  exact WSs.last (Zq Zcw) (q H3 s3)
theorem Zbw(T:Tx K mg){k:Nat}(h:6<=k:=by decide):Z1 P w K mg base CX0 k T.d_is_route.f T.d_is_route.fd ["tracks", "thing"] (Zxr T):=(Zn5 T).mono h
section
variable {ps:List Zc} {js:List (Zc×Zc)} {sg:List (Str×Str×Str)} {e:Zc}
inductive Pre(ps:List Zc)(js:List (Zc×Zc))(sg:List (Str×Str×Str))(e:Zc):List S4->Prop where
 | nil:Pre ps js sg e []
 | snoc {ss:List S4} {q:S4}:Pre ps js sg e ss->q∈onL ps js e ss->Wm sg q=false->Pre ps js sg e (ss++[q])
theorem Zbp{ss:List S4}{q:S4}{r:List Tr}:Yv ps js sg e ss (Yi q ::r)=(decide (q∈onL ps js e ss) && (if Wm sg q=true then r.isEmpty else Yv ps js sg e (ss++[q]) r)):=rfl
theorem Zlk{ss:List S4}{t:Tr}{r:List Tr}(h:asQ t=none):Yv ps js sg e ss (t ::r)=false:=by
 rw [Yv,h]
theorem Zot{ss:List S4}{q:S4}{r:List Tr}(h:q∉onL ps js e ss):Yv ps js sg e ss (Yi q ::r)=false:=by
 rw [Zbp,decide_eq_false h]
 rfl
theorem Zc0{ss:List S4}(h:Pre ps js sg e ss):∀r,Yv ps js sg e [] (ss.map Yi++r)=Yv ps js sg e ss r:=by
 induction h with
 | nil=>intro r;rfl
 | @snoc ss q _ hq he ih =>
  intro r
  rw [List.map_append,List.append_assoc,ih]
  show Yv ps js sg e ss (Yi q ::r)=_
  rw [Zbp,decide_eq_true hq,he]
  rfl
def Zf8(ps:List Zc)(js:List (Zc×Zc))(sg:List (Str×Str×Str))(e:Zc)(r:List S4):Prop:=∃ss q,r=ss++[q]/\Pre ps js sg e ss/\q∈onL ps js e ss/\Wm sg q=true
theorem Ztp:∀(n:Nat) {ss:List S4},Pre ps js sg e ss->∀r∈goL ps js sg e n ss,Zf8 ps js sg e r
 | 0,_,_,_,h=>nomatch h
 | n+1,ss,p,r,h=>by
  obtain ⟨q,hq,h⟩:=List.mem_flatMap.mp h
  split at h
  ·rename_i z
   rw [List.mem_singleton.mp h]
   exact ⟨ss,q,rfl,p,hq,z⟩
  ·rename_i z
   exact Ztp n (p.snoc hq (by simpa using z)) r h
theorem Zy9{ss:List S4}(h:Pre ps js sg e ss):∀{j:Nat} {q:S4},ss[j]? =some q->Pre ps js sg e (ss.take j)/\q∈onL ps js e (ss.take j)/\Wm sg q=false:=by
 induction h with
 | nil=>intro j q h;cases h
 | @snoc ss q' p hq he ih =>
  intro j q hj
  rcases Nat.lt_or_ge j ss.length with z|z
  ·rw [List.getElem?_append_left z] at hj
   rw [List.take_append_of_le_length (by omega)]
   exact ih hj
  ·have hj':=(List.getElem?_eq_some_iff.mp hj).1
   rw [List.length_append,List.length_singleton] at hj'
   obtain rfl:j=ss.length:=by omega
   rw [List.getElem?_concat_length] at hj
   cases hj
   rw [List.take_left]
   exact ⟨p,hq,he⟩
theorem Zf8.at{r:List S4}(h:Zf8 ps js sg e r){j:Nat}{q:S4}(hj:r[j]? =some q):Pre ps js sg e (r.take j)/\q∈onL ps js e (r.take j):=by
 obtain ⟨ss,q',rfl,p,hq,he⟩:=h
 rcases Nat.lt_or_ge j ss.length with z|z
 ·rw [List.getElem?_append_left z] at hj
  rw [List.take_append_of_le_length (by omega)]
  have:=Zy9 p hj
  exact ⟨this.1,this.2.1⟩
 ·have hj':=(List.getElem?_eq_some_iff.mp hj).1
  rw [List.length_append,List.length_singleton] at hj'
  obtain rfl:j=ss.length:=by omega
  rw [List.getElem?_concat_length] at hj
  cases hj
  rw [List.take_left]
  exact ⟨p,hq⟩
theorem Zf8.yes{r:List S4}(h:Zf8 ps js sg e r):Yv ps js sg e [] (r.map Yi)=true:=by
 obtain ⟨ss,q',rfl,p,hq,he⟩:=h
 rw [List.map_append,Zc0 p]
 show Yv ps js sg e ss (Yi q' ::[])=true
 rw [Zbp,decide_eq_true hq,he]
 rfl
theorem Zf8.longer{r:List S4}(h:Zf8 ps js sg e r){t:Tr}{ts:List Tr}:Yv ps js sg e [] (r.map Yi++t ::ts)=false:=by
 obtain ⟨ss,q',rfl,p,hq,he⟩:=h
 rw [List.map_append,List.append_assoc,Zc0 p]
 show Yv ps js sg e ss (Yi q' ::t ::ts)=false
 rw [Zbp,decide_eq_true hq,he]
 rfl
theorem Zby{ss:List S4}{q:S4}(h:q∈onL ps js e ss):q∈Xl ps (bey js (Y2 e ss)).1 (bey js (Y2 e ss)).2/\q.1∉e.1 ::ss.map Prod.fst/\ss.length<12:=by
 unfold onL at h
 split at h
 ·cases h
 ·rename_i z
  have:=List.mem_filter.mp h
  exact ⟨this.1,of_decide_eq_true this.2,by omega⟩
theorem Zxk{ss:List S4}{q:S4}(h:q∈Xl ps (bey js (Y2 e ss)).1 (bey js (Y2 e ss)).2)(n:q.1∉e.1 ::ss.map Prod.fst)(l:ss.length<12):q∈onL ps js e ss:=by
 unfold onL
 rw [if_neg (by omega)]
 exact List.mem_filter.mpr ⟨h,decide_eq_true n⟩
theorem Zus:∀k∈Wh,∀en∈Yc k,∀o∈Zd3 k en,o.1≠en/\o.1 ≠ "e" /\(o.2 = "left" \/o.2 = "right" \/o.2 = "")/\∀o'∈Zd3 k en,o'.1=o.1->o'.2=o.2:=by trivial
structure Zy8(nm en:Str)(q:S4):Prop where
 pt:q.1=nm
 ent:q.2.1=en
 out:q.2.2.1≠en
 noe:q.2.2.1 ≠ "e"
 lie:q.2.2.2 = "left" \/q.2.2.2 = "right" \/q.2.2.2 = ""
theorem Zdj(yv:Y1 ps js sg){nm en:Str}{q:S4}(h:q∈Xl ps nm en):Zy8 nm en q/\∀q'∈Xl ps nm en,q'.2.2.1=q.2.2.1->q'=q:=by
 unfold Xl at h ⊢
 cases hk:kindOf ps nm with
 | none=>rw [hk] at h;cases h
 | some k =>
  rw [hk] at h
  dsimp only at h ⊢
  split at h
  ·rename_i z
   rw [if_pos z]
   obtain ⟨o,ho,rfl⟩:=List.mem_map.mp h
   obtain ⟨h1,h2,h3,h4⟩:=Zus k (yv.net.kind _ (Zfr hk)) en z o ho
   refine ⟨⟨rfl,rfl,h1,h2,h3⟩,fun q' hq' e=>?_⟩
   obtain ⟨o',ho',rfl⟩:=List.mem_map.mp hq'
   have e:o'.1=o.1:=e
   have:=h4 o' ho' e
   rw [e,this]
  ·cases h
end
section
variable {ps:List Zc} {js:List (Zc×Zc)} {sg:List (Str×Str×Str)} {e:Zc}
theorem Zax(yv:Y1 ps js sg){sig:Str}(h:((sig,e):Str×Zc)∈sg):∀l,Zcy ps js sg (.str sig ::l)=Yv ps js sg e [] l
 | []=>rfl
 | t ::r=>by
  show (match sg.find? (fun g=>decide (g.1=sig)) with
   | none=>false
   | some g=>Yv ps js sg g.2 [] (t ::r))=_
  rw [Zhy yv.sigs.nd h]
theorem Zoe{ss:List S4}(h:Zf8 ps js sg e ss){j:Nat}{qq:S4}(hj:ss[j]? =some qq){t:Tr}{r:List Tr}(ht:asQ t=none):Yv ps js sg e [] ((ss.take j).map Yi++t ::r)=false:=by
 rw [Zc0 (h.at hj).1,Zlk ht]
theorem Zhz{ss:List S4}(h:Zf8 ps js sg e ss){j:Nat}{qq:S4}(hj:ss[j]? =some qq){q:S4}{r:List Tr}(hq:q∉onL ps js e (ss.take j)):Yv ps js sg e [] ((ss.take j).map Yi++Yi q ::r)=false:=by
 rw [Zc0 (h.at hj).1,Zot hq]
theorem Yb6(yv:Y1 ps js sg){ss:List S4}(h:Zf8 ps js sg e ss){j:Nat}{qq:S4}(hj:ss[j]? =some qq):Yv ps js sg e [] ((ss.take j).map Yi++(ss.drop (j+1)).map Yi)=false:=by
 cases hd:ss.drop (j+1) with
 | nil =>
  rw [Zc0 (h.at hj).1]
  rfl
 | cons q' r =>
  refine Zhz h hj fun hm=>?_
  have hj':ss[j+1]? =some q':=by
   have:=congrArg (fun l=>l[0]?) hd
   simpa using this
  have hjl:=(List.getElem?_eq_some_iff.mp hj').1
  have a:=Zby (h.at hj).2
  have b:=Zby (h.at hj').2
  have c:=Zby hm
  have e1:=(Zdj yv a.1).1.pt
  have e2:=(Zdj yv c.1).1.pt
  refine b.2.1 (List.mem_cons_of_mem _ (List.mem_map.mpr ⟨qq,?_,by rw [e1,e2]⟩))
  rw [List.take_add_one,hj]
  exact List.mem_append_right _ List.mem_cons_self
theorem Yb4{ss:List S4}(h:Zf8 ps js sg e ss){j:Nat}{qq:S4}(hj:ss[j]? =some qq):Yv ps js sg e [] ((ss.take j).map Yi++Yi qq ::(ss.drop j).map Yi)=false:=by
 have hjl:=(List.getElem?_eq_some_iff.mp hj).1
 have hd:ss.drop j=qq ::ss.drop (j+1):=by
  rw [List.drop_eq_getElem_cons hjl]
  rw [List.getElem?_eq_getElem hjl] at hj
  rw [Option.some.inj hj]
 rw [Zc0 (h.at hj).1,hd,Zbp]
 split
 ·exact Bool.and_false _
 ·rw [List.map_cons,Zot,Bool.and_false]
  intro hm
  refine (Zby hm).2.1 (List.mem_cons_of_mem _ ?_)
  rw [List.map_append]
  exact List.mem_append_right _ List.mem_cons_self
theorem Zud(yv:Y1 ps js sg){ss:List S4}{q:S4}(h:q∈onL ps js e ss):(q.1,q.2.2.1,q.2.1,q.2.2.2)∉onL ps js e ss:=fun hm =>
 have a:=(Zdj yv (Zby h).1).1
 have b:=(Zdj yv (Zby hm).1).1
 a.out b.ent
theorem Zvx(yv:Y1 ps js sg){ss:List S4}{q:S4}{o:Str}(h:q∈onL ps js e ss)(n:o≠q.2.2.2):(q.1,q.2.1,q.2.2.1,o)∉onL ps js e ss:=fun hm=>by
 have:=(Zdj yv (Zby h).1).2 _ (Zby hm).1 rfl
 exact n (congrArg (fun q:S4=>q.2.2.2) this)
theorem Zz0(yv:Y1 ps js sg){ss:List S4}{a b c:Str}:(a,b,("e" :Str),c)∉onL ps js e ss:=fun hm=>(Zdj yv (Zby hm).1).1.noe rfl
theorem Zli(yv:Y1 ps js sg){sig:Str}(h:((sig,e):Str×Zc)∈sg){A B:List Tr}{t:Tr}(hf:Yv ps js sg e [] (A++t ::B)=false):Zcy ps js sg (((.str sig ::A)++[t])++B)=false:=by
 rw [List.cons_append,List.cons_append,Zax yv h,List.append_assoc]
 exact hf
theorem Zsh:∀ss:List S4,Zcy ps js sg (ss.map Yi)=false
 | []=>rfl
 | [_]=>rfl
 | _ ::_ ::_=>rfl
theorem Zsa{nm:Str}(h:∀g∈sg,g.1≠nm):∀l,Zcy ps js sg (.str nm ::l)=false
 | []=>rfl
 | t ::r=>by
  show (match sg.find? (fun g=>decide (g.1=nm)) with
   | none=>false
   | some g=>Yv ps js sg g.2 [] (t ::r))=_
  rw [List.find?_eq_none.mpr fun g hg z=>h g hg (of_decide_eq_true z)]
theorem Zij{t:Tr}(h:∀x,t ≠ .str x)(l:List Tr):Zcy ps js sg (t ::l)=false:=by
 cases t with
 | str x=>exact absurd rfl (h x)
 | _=>cases l <;>rfl
theorem nmK.far{p:Zc}{s:Str}(h:nmK p)(hs:58<=Zeq s) (hg:s ≠ "g") (hh:s ≠ "h"):p.2≠s:=fun z=>by
 rcases h with rfl|rfl|⟨kd,c,j,_,hj,e⟩|⟨j,hj,e⟩
 ·exact hg z.symm
 ·exact hh z.symm
 ·have:=Zlg (kd:=kd) (c:=c) (show j<100 by omega)
  rw [<-e,z] at this
  omega
 ·have:=Znc (show j<100 by omega)
  rw [<-e,z] at this
  omega
theorem Zu9:∀n∈[9,10,11,12,13,14],∀g∈Zet n,g.1 ≠ "none" :=by trivial
theorem Zu4(n k:Nat):Zdh n k ≠ "none" :=fun z=>by
 have:=congrArg (fun s:Str=>s.cps.toList[0]?) z
 simp only [Zed] at this
 rw [List.append_assoc,PySem.W.KT.app_list,List.append_assoc] at this
 exact absurd this (by rw [show (("s" :Str).cps.toList)=[115] from by trivial];simp;decide +kernel)
theorem Zvs(yo:Zex ps js sg):∀g∈sg,g.1 ≠ "none" :=fun g hg z=>by
 rcases yo.sigs with ⟨ps',_,so⟩|⟨n,m,hn,_,rfl⟩
 ·rcases so.name g hg with y|⟨n,k,_,_,y⟩
  ·obtain ⟨p,hp,e,_⟩:=yo.v.sigs.at_ g hg
   exact (yo.name p hp).far (s := "none") (by trivial) (by trivial) (by trivial) (by rw [e,<-y,z])
  ·exact Zu4 n k (by rw [<-y,z])
 ·exact Zu9 n hn g (List.mem_of_mem_take hg) z
end
def X5(K:Frag)(H:Hp)(v:V)(ts:List Tr):Prop:=∃a xs,v=.ref a/\H a=some (.tup xs)/\Paired (Zds K H) ts xs
section
variable {H:Hp} {v:V} {ts:List Tr} {Q:VK}
theorem X5.mono{H':Hp}(s:Same H H')(h:X5 K H v ts):X5 K H' v ts:=let ⟨a,xs,h1,h2,h3⟩:=h;⟨a,xs,h1,s.at h2,Paired.mapP h3 fun _ _ r=>r.mono s⟩
theorem Zew(x:Str):Zds K H (.str x) (.str x):=⟨.str _,fun q z=>by unfold Yi at z;cases z⟩
theorem Zx9:Zds K H .non .non:=⟨.non,fun q z=>by unfold Yi at z;cases z⟩
theorem Zg7{a:Addr}{q:S4}(h:Y7 H a q):Zds K H (Yi q) (.ref a):=⟨h.im3,fun q' z=>⟨a,rfl,Zqp z ▸ h⟩⟩
theorem Zif{n:Nat}:∀xs:List Str,Ims K H n (xs.map .str) (xs.map V.str)
 | []=>.nil
 | x ::xs=>.cons (.str x) (Zif xs)
theorem Zzm{a:Addr}{xs:List Str}(h:H a=some (.tup (xs.map V.str)))(n:xs.length≠4):Zds K H (.tup (xs.map .str)) (.ref a) :=
 ⟨Im.tupI (n:=2) (SqT.of h) (Zif xs),fun q z=>by
  have:=congrArg List.length (Tr.tup.inj z)
  rw [List.length_map] at this
  exact absurd this n⟩
theorem Ztv{a:Addr}{xs:List Str}(h:H a=some (.lst (xs.map V.str))):Zds K H (.lst (xs.map .str)) (.ref a) :=
 ⟨Im.lstI (n:=2) (SqL.of h) (Zif xs),fun q z=>by unfold Yi at z;cases z⟩
theorem Zye{as:List Addr}{ss:List S4}(h:Paired (Y7 H) as ss):Paired (Zds K H) (ss.map Yi) (as.map V.ref):=by
 induction h with
 | nil=>exact .nil
 | cons r _ ih=>exact .cons (Zg7 r) ih
theorem Zc8.t{t:Addr}{sig:Str}{ss:List S4}(h:Zc8 H t sig ss):X5 K H (.ref t) (.str sig ::ss.map Yi):=let ⟨ts,h1,h2⟩:=h;⟨t,_,rfl,h1,.cons (Zew _) (Zye h2)⟩
theorem Zvb{v:V}{q:S4}{ss:List S4}(h:X5 K H v ((q ::ss).map Yi)):Zds K H (.tup ((q ::ss).map Yi)) v:=by
 obtain ⟨a,xs,rfl,h1,h2⟩:=h
 obtain ⟨as,rfl,h3⟩:=Zp3 h2
 exact ⟨Im.tupI (n:=2) (SqT.of h1) (Ims.ofP (by
  clear h1 h2
  generalize q ::ss=l at h3
  induction h3 with
  | nil=>exact .nil
  | cons r _ ih=>exact .cons (Im.tupI (n:=1) (SqT.of r) (.cons (.str _) (.cons (.str _) (.cons (.str _) (.cons (.str _) .nil))))) ih)),fun q' z=>by unfold Yi at z;cases z⟩
theorem X5.cat{v2:V}{ts2:List Tr}(h1:X5 K H v ts)(h2:X5 K H v2 ts2)(n:ts≠[])(l:ts.length+ts2.length<=100)(q:∀v' H',Same H H'->X5 K H' v' (ts++ts2)->Q v' H'):Zmc K v v2 H Q:=by
 obtain ⟨a,xs,rfl,ha,hx⟩:=h1
 obtain ⟨b,ys,rfl,hb,hy⟩:=h2
 have l1:=Paired.length hx
 have l2:=Paired.length hy
 refine ⟨a,b,xs,ys,rfl,rfl,ha,hb,fun z=>n (List.length_eq_zero_iff.mp (by rw [l1,z];rfl)),by rw [sizeLine_eq];omega,fun c H' s e=>q _ H' s ⟨c,_,rfl,e,Paired.append (Paired.mapP hx fun _ _ r=>r.mono s) (Paired.mapP hy fun _ _ r=>r.mono s)⟩⟩
theorem X5.fro(h:X5 K H v ts){i:Int}(k:Nat)(hi:i=(k:Nat))(h1:1<=k)(hk:0<ts.length)(q:∀v' H',Same H H'->X5 K H' v' (ts.drop k)->Q v' H'):Zbq K v (some i) none H Q:=by
 subst hi
 obtain ⟨a,xs,rfl,ha,hx⟩:=h
 have l1:=Paired.length hx
 refine .inl ⟨a,xs,rfl,SqT.of ha,fun z=>?_,fun c H' s n e=>q _ H' s ⟨c,_,rfl,e,?_⟩⟩
 ·have z:=z.1
  rw [HT.sIx_nat] at z
  omega
 ·rw [Zcv]
  exact Zgg k (Paired.mapP hx fun _ _ r=>r.mono s)
theorem X5.til(h:X5 K H v ts){i:Int}(k:Nat)(hi:i=(k:Nat))(hk:k<ts.length)(q:∀v' H',Same H H'->X5 K H' v' (ts.take k)->Q v' H'):Zbq K v none (some i) H Q:=by
 subst hi
 obtain ⟨a,xs,rfl,ha,hx⟩:=h
 have l1:=Paired.length hx
 refine .inl ⟨a,xs,rfl,SqT.of ha,fun z=>?_,fun c H' s n e=>q _ H' s ⟨c,_,rfl,e,?_⟩⟩
 ·have z:=z.2
  rw [HT.sIx_nat] at z
  omega
 ·rw [Ze2]
  exact Zdg k (Paired.mapP hx fun _ _ r=>r.mono s)
theorem X5.mk{a:Addr}{xs:List V}(e:H a=some (.tup xs))(h:Paired (Zds K H) ts xs):X5 K H (.ref a) ts:=⟨a,xs,rfl,e,h⟩
theorem X5.mk1{a:Addr}{x:V}{t:Tr}(e:H a=some (.tup [x]))(h:Zds K H t x):X5 K H (.ref a) [t]:=.mk e (.cons h .nil)
def Zcg(K:Frag)(H:Hp)(ps:List Zc)(js:List (Zc×Zc))(sg:List (Str×Str×Str))(v:V):Prop:=∃o,Zsu K H v o/\Zwb ps js sg o=false
theorem Zsu.mono{H':Hp}{o:Option (List Tr)}(s:Same H H')(h:Zsu K H v o):Zsu K H' v o:=by
 cases o with
 | some ts=>exact let ⟨a,xs,h1,h2,h3,h4⟩:=h;⟨a,xs,h1,s.at h2,Paired.mapP h3 fun _ _ r=>r.mono s,h4⟩
 | none =>
  obtain ⟨t,h1,h2⟩:=h
  refine ⟨t,?_,h2⟩
  cases h1 with
  | non=>exact .non
  | bl=>exact .bl _
  | int=>exact .int _
  | str=>exact .str _
  | flt=>exact .flt _
  | lst e=>exact .lst (s.at e)
  | frz e=>exact .frz (s.at e)
  | tup e=>exact .tup (s.at e)
  | dK e=>exact .dK (s.at e)
  | dT e=>exact .dT (s.at e)
  | ins e a b c d f=>exact .ins (s.at e) a b c d f
theorem X5.th(h:X5 K H v ts)(l:ts.length<=40):Zsu K H v (some ts):=let ⟨a,xs,h1,h2,h3⟩:=h;⟨a,xs,h1,h2,h3,l⟩
section
variable {ps:List Zc} {js:List (Zc×Zc)} {sg:List (Str×Str×Str)}
theorem Zcg.mono{H':Hp}(s:Same H H')(h:Zcg K H ps js sg v):Zcg K H' ps js sg v:=let ⟨o,h1,h2⟩:=h;⟨o,h1.mono s,h2⟩
theorem X5.odd(h:X5 K H v ts)(l:ts.length<=40)(hf:Zcy ps js sg ts=false):Zcg K H ps js sg v:=⟨some ts,h.th l,hf⟩
end
end
structure SpB(K:Frag)(H:Hp)(ps:List Zc)(js:List (Zc×Zc))(sg:List (Str×Str×Str))(sig:Str)(ss:List S4)(j:Nat)(qq:S4)(t tq:Addr)(as:List Addr)(vA vB:V)(vs:List V):Prop where
 hA:X5 K H vA (.str sig ::(ss.take j).map Yi)
 hB:X5 K H vB ((ss.drop (j+1)).map Yi)
 hR:X5 K H (.ref t) (.str sig ::ss.map Yi)
 hS:Y7 H tq qq
 ht:H t=some (.tup (.str sig ::as.map V.ref))
 has:Paired (Y7 H) as ss
 od:∀v∈vs,Zcg K H ps js sg v
section
variable {H:Hp} {ps:List Zc} {js:List (Zc×Zc)} {sg:List (Str×Str×Str)} {sig:Str} {ss:List S4} {j:Nat} {qq:S4} {t tq:Addr} {as:List Addr} {vA vB:V} {vs:List V}
theorem SpB.mono{H':Hp}(s:Same H H')(b:SpB K H ps js sg sig ss j qq t tq as vA vB vs):SpB K H' ps js sg sig ss j qq t tq as vA vB vs:=⟨b.hA.mono s,b.hB.mono s,b.hR.mono s,b.hS.mono s,s.at b.ht,Paired.mapP b.has fun _ _ r=>r.mono s,fun v hv=>(b.od v hv).mono s⟩
theorem SpB.add{v:V}(b:SpB K H ps js sg sig ss j qq t tq as vA vB vs)(o:Zcg K H ps js sg v):SpB K H ps js sg sig ss j qq t tq as vA vB (vs++[v]):=⟨b.hA,b.hB,b.hR,b.hS,b.ht,b.has,fun v' hv=>by
 rcases List.mem_append.mp hv with z|z
 ·exact b.od v' z
 ·rw [List.mem_singleton.mp z];exact o⟩
end
def Zoy:List (Key×V):=[(Yh "left",V.str "right"),(Yh "right",V.str "left"),(Yh "",V.str "left")]
def Zxi(T:Tx K mg):Sp:=fun vs H Q _=>∃(t:Addr) (c:Int) (g:Str×Zc) (ss:List S4) (ps:List Zc) (js:List (Zc×Zc)) (sg:List (Str×Str×Str)),vs=[.ref t,.int c]/\Zex ps js sg/\(g:Str×Str×Str)∈sg/\Zc8 H t g.1 ss/\Zf8 ps js sg g.2 ss/\∀v H',Same H H'->Zcg K H' ps js sg v->Q v H'
theorem Zi2(T:Tx K mg):Z1 P w K mg base CX0 1 T.d__law_spoilt.f T.d__law_spoilt.fd ["_law_route", "_law_cell"] (Zxi T):=by
 refine T.d__law_spoilt.F.okW Yp fun cdv A outer s H vs Q E hr h=>?_
 ·obtain ⟨t,c,⟨sig,e⟩,ss,ps,js,sg,rfl,yo,hg,hR,rt,q⟩:=h
  have yv:=yo.v
  have hl:1<=ss.length/\ss.length<=12:=by
   obtain ⟨ss',q',rfl,_,hq,_⟩:=rt
   have:=(Zby hq).2.2
   rw [List.length_append]
   show 1<=_+1/\_+1<=12
   omega
  obtain ⟨as,ht,has⟩:=hR
  have hal:=Paired.length has
  have hRT:X5 K H (.ref t) (.str sig ::ss.map Yi):=Zc8.t ⟨as,ht,has⟩
  obtain ⟨j,hj,hjl⟩:=Zb5 (a:=c / 16) (n:=ss.length) (by omega)
  have hlen:(((V.str sig ::as.map V.ref).length:Nat):Int)-1=(ss.length:Nat):=by rw [List.length_cons,List.length_map,hal];omega
  refine WSs.step (Zx (i:=2) Yp.nd (Zl Wl Ze (Zl Yo (Zl Yt (pv 1) Ze) (Zl Zi6 (Z0 (r:=X0 K) X3 (by rfl) T.n_len PySem.boot_len (Zb (pv 0) Za)) Ze)))) ⟨_,rfl,_,_,rfl,rfl,⟨by decide,by decide⟩,_,rfl,.inl ⟨t,_,rfl,.inr (SqT.of ht),_,_,rfl,rfl,_,_,rfl,rfl,?_,.inl ⟨_,_,rfl,rfl,?_⟩⟩⟩
  ·show (0:Int)<_
   rw [hlen];omega
  dsimp only
  rw [hlen,hj,show (1:Int)+(j:Nat)=((j+1:Nat):Int) by omega]
  obtain ⟨qq,hqq⟩:∃qq,ss[j]? =some qq:=⟨_,List.getElem?_eq_getElem hjl⟩
  obtain ⟨tq,htq,hq'⟩:=Paired.get' has hqq
  have hS:Y7 H tq qq:=hq'
  have atq:atI (V.str sig ::as.map V.ref) ((j+1:Nat):Int)=some (.ref tq):=Zn (by show (as.map V.ref)[j]? =_;rw [List.getElem?_map,htq];rfl)
  refine WSs.step (Zx (i:=3) Yp.nd (Zp (r:=rIx K) Zk (pv 0) (pv 2) (fun _ _=>rfl))) ⟨_,rfl,_,rfl,.inr (.inl ⟨t,_,_,_,rfl,rfl,SqT.of ht,atq,?_⟩)⟩
  obtain ⟨ot,hot,hno⟩:∃ot,Y4 Zoy (Yh qq.2.2.2)=some (.str ot)/\ot≠qq.2.2.2:=by
   rcases (Zdj yv (Zby (rt.at hqq).2).1).1.lie with z|z|z <;>rw [z]
   ·exact ⟨"right",by trivial,by trivial⟩
   ·exact ⟨"left",by trivial,by trivial⟩
   ·exact ⟨"left",by trivial,by trivial⟩
  refine WSs.step (Zx (i:=4) Yp.nd (X6 (Wc hr) (Zl7 (Zau Zf Zf (Zau Zf Zf (Zau Zf Zf Zm1))) rfl rfl (by simp) (by show 3<=15;decide)) (Zp (r:=rIx K) Zk (pv 3) Ze (fun _ _=>rfl)) (fun _ _=>rfl))) fun d hd=>⟨Zh,Zoy,rfl,(by show 3<=15;decide),?_⟩
  rw [Zgk Zoy [] (by trivial),Zh5]
  have s1:Same H (upd H d (.dK ([]++Zoy))):=Same.new hd
  have e1:upd H d (.dK ([]++Zoy)) d=some (.dK Zoy):=Zh
  generalize upd H d (.dK ([]++Zoy))=H1 at s1 e1
  refine ⟨_,rfl,.inr (.inl ⟨tq,_,3,_,rfl,rfl,SqT.of (s1.at hS),Zn (j:=3) rfl,d,_,rfl,by rw [<-hot];exact Zar.k (k:=Yh qq.2.2.2) e1,?_⟩)⟩
  have hRT1:=hRT.mono s1
  have tl:(Tr.str sig ::ss.map Yi).length=ss.length+1:=by rw [List.length_cons,List.length_map]
  refine WSs.step (Zx (i:=5) Yp.nd (Yr (r:=Zbq K) Zcl (pv 0) Yz (Yy (pv 2)))) ⟨_,rfl,_,rfl,_,rfl,hRT1.til (j+1) rfl (by rw [tl];omega) fun vA H2 s2 hA=>?_⟩
  have hRT2:=hRT1.mono s2
  have hA:X5 K H2 vA (.str sig ::(ss.take j).map Yi):=by rw [List.take_succ_cons,<-List.map_take] at hA;exact hA
  refine WSs.step (Zx (i:=6) Yp.nd (Yr (r:=Zbq K) Zcl (pv 0) (Yy (Zl Wl (pv 2) Ze)) Yz)) ⟨_,rfl,_,rfl,.inl ⟨_,_,rfl,rfl,_,rfl,hRT2.fro (j+2) (by omega) (by omega) (by rw [tl];omega) fun vB H3 s3 hB=>?_⟩⟩
  have hB:X5 K H3 vB ((ss.drop (j+1)).map Yi):=by rw [List.drop_succ_cons,<-List.map_drop] at hB;exact hB
  have s03:=s1.trans (s2.trans s3)
  have b3:SpB K H3 ps js sg sig ss j qq t tq as vA vB []:=⟨hA.mono s3,hB,hRT2.mono s3,Y7.mono s03 hS,s03.at ht,Paired.mapP has fun _ _ r=>Y7.mono s03 r,fun v hv=>nomatch hv⟩
  have q:∀v H',Same H3 H'->Zcg K H' ps js sg v->Q v H':=fun v H' s=>q v H' (s03.trans s)
  have tn:∀{l:List Tr},Tr.str sig ::l≠[]:=fun {l}=>List.cons_ne_nil _ _
  have lA:(Tr.str sig ::(ss.take j).map Yi).length=j+1:=by rw [List.length_cons,List.length_map,List.length_take];omega
  have lB:((ss.drop (j+1)).map Yi).length<=11:=by rw [List.length_map,List.length_drop];omega
  have lAt:∀{t:Tr},((Tr.str sig ::(ss.take j).map Yi)++[t]).length=j+2:=fun {t}=>by rw [List.length_append,lA];rfl
  have l1:((Tr.str sig ::ss.map Yi).drop 1).length=ss.length:=by rw [List.length_drop,tl];omega
  have lj:((Tr.str sig ::ss.map Yi).drop (j+1)).length<=12:=by rw [List.length_drop,tl];omega
  have tz:0<(Tr.str sig ::ss.map Yi).length:=by rw [tl];omega
  have dj:(Tr.str sig ::ss.map Yi).drop (j+1)=(ss.drop j).map Yi:=by rw [List.drop_succ_cons,List.map_drop]
  have mid:∀{H':Hp} {v:V} {t':Tr},X5 K H' v (((Tr.str sig ::(ss.take j).map Yi)++[t'])++(ss.drop (j+1)).map Yi)->Yv ps js sg e [] ((ss.take j).map Yi++t' ::(ss.drop (j+1)).map Yi)=false->Zcg K H' ps js sg v:=fun {H' v t'} h hf=>h.odd (by rw [List.length_append,lAt];omega) (Zli yv hg hf)
  have cAt:∀{H':Hp} {vs:List V} {t':Tr} {x:V} {a':Addr} {Q':VK},SpB K H' ps js sg sig ss j qq t tq as vA vB vs->H' a'=some (.tup [x])->Zds K H' t' x->(∀v' H'',Same H' H''->X5 K H'' v' ((Tr.str sig ::(ss.take j).map Yi)++[t'])->Q' v' H'')->Zmc K vA (.ref a') H' Q':=fun {H' vs t' x a' Q'} b e' h k=>b.hA.cat (.mk1 e' h) tn (by rw [lA];show _+1<=_;omega) k
  have cBt:∀{H':Hp} {vs:List V} {t':Tr} {v:V} {Q':VK},SpB K H' ps js sg sig ss j qq t tq as vA vB vs->X5 K H' v ((Tr.str sig ::(ss.take j).map Yi)++[t'])->Yv ps js sg e [] ((ss.take j).map Yi++t' ::(ss.drop (j+1)).map Yi)=false->(∀v' H'',Same H' H''->SpB K H'' ps js sg sig ss j qq t tq as vA vB (vs++[v'])->Q' v' H'')->Zmc K v vB H' Q':=fun {H' vs t' v Q'} b h hf k=>h.cat b.hB (by simp) (by rw [lAt];omega) fun v' H'' s h'=>k v' H'' s ((b.mono s).add (mid h' hf))
  refine WSs.step (Zx (i:=7) Yp.nd (Zm (Zb (Zl Yu (pv 5) (pv 6)) (Zb (Zl Yu (Zl Yu (pv 5) (Zg (Zb (pv 3) Za))) (Yr (r:=Zbq K) Zcl (pv 0) (Yy (pv 2)) Yz)) (Zb (Xx (r:=Zqn K) Ze9 (by rfl) T.n_list PyProof.Rows.boot_list (Zb (pv 0) Za)) (Zb (Yr (r:=Zbq K) Zcl (pv 0) (Yy Ze) Yz) (Zb (Zl Yu (Zg (Zb Zf Za)) (Yr (r:=Zbq K) Zcl (pv 0) (Yy Ze) Yz)) Za))))))) ⟨_,rfl,_,rfl,b3.hA.cat b3.hB tn (by omega) fun v1 H4 s4 h1=>have b4:=(b3.mono s4).add (h1.odd (by rw [List.length_append,lA];omega) (by rw [List.cons_append,Zax yv hg];exact Yb6 yv rt hqq));⟨_,rfl,_,rfl,sz (by simp),fun w2 H5 s5 n5 e5=>have b5:=b4.mono s5;cAt b5 e5 (Zg7 b5.hS) fun w3 H6 s6 g3=>have b6:=b5.mono s6;⟨_,rfl,_,rfl,_,rfl,b6.hR.fro (j+1) rfl (by omega) tz fun w4 H7 s7 g4=>(g3.mono s7).cat g4 (by simp) (by rw [lAt];omega) fun v2 H8 s8 h2=>have b8:=((b6.mono s7).mono s8).add (h2.odd (by rw [List.length_append,lAt];omega) (Zli yv hg (by rw [dj];exact Yb4 rt hqq)));⟨_,rfl,t,_,rfl,.inr (SqT.of b8.ht),fun l3 H9 s9 n9 e9=>have b9:=(b8.mono s9).add ⟨none,⟨_,Zbm.lst e9,T.kLT⟩,rfl⟩;⟨_,rfl,_,rfl,b9.hR.fro 1 rfl (by omega) tz fun v4 H10 s10 h4=>have b10:=(b9.mono s10).add (h4.odd (by omega) (Zsh ss));⟨sz (by simp),fun w5 H11 s11 n11 e11=>have b11:=b10.mono s11;⟨_,rfl,_,rfl,b11.hR.fro 1 rfl (by omega) tz fun w6 H12 s12 g6=>(X5.mk1 (s12.at e11) (Zew "none")).cat g6 (by simp) (by rw [l1];show 1+_<=_;omega) fun v5 H13 s13 h5=>have b13:=((b11.mono s12).mono s13).add (h5.odd (by rw [List.length_append,l1];show 1+_<=_;omega) (Zsa (Zvs yo) _));⟨sz (by simp),fun l5 H14 s14 n14 e14=>?_⟩⟩⟩⟩⟩⟩⟩⟩
  have b14:SpB K H14 ps js sg sig ss j qq t tq as vA vB [v1,v2,.ref l3,v4,v5]:=b13.mono s14
  have lvs14:[v1,v2,.ref l3,v4,v5].length=5:=rfl
  generalize [v1,v2,.ref l3,v4,v5]=vs14 at b14 e14 lvs14
  have q:∀v H',Same H14 H'->Zcg K H' ps js sg v->Q v H':=fun v H' s=>q v H' (s4.trans (s5.trans (s6.trans (s7.trans (s8.trans (s9.trans (s10.trans (s11.trans (s12.trans (s13.trans (s14.trans s)))))))))))
  have nw3:∀{a b c d:V},¬(HT.sIx [a,b,c,d].length 0 none=0/\HT.sIx [a,b,c,d].length [a,b,c,d].length (some 3)=[a,b,c,d].length):=fun y=>absurd y.2 (by show ¬HT.sIx 4 4 (some 3)=4;decide)
  have nw2:∀{a b c d:V},¬(HT.sIx [a,b,c,d].length 0 none=0/\HT.sIx [a,b,c,d].length [a,b,c,d].length (some 2)=[a,b,c,d].length):=fun y=>absurd y.2 (by show ¬HT.sIx 4 4 (some 2)=4;decide)
  obtain ⟨t0,at0'⟩:∃t0,as[0]? =some t0:=⟨_,List.getElem?_eq_getElem (by omega)⟩
  have at0:atI (V.str sig ::as.map V.ref) 1=some (.ref t0):=Zn (j:=1) (by show (as.map V.ref)[0]? =_;rw [List.getElem?_map,at0'];rfl)
  obtain ⟨q0,hq0⟩:∃q0,ss[0]? =some q0:=⟨_,List.getElem?_eq_getElem (by omega)⟩
  have h0:∀{H':Hp},Paired (Y7 H') as ss->Y7 H' t0 q0:=fun {H'} h=>by
   obtain ⟨q1,k1,k2⟩:=Paired.get h at0'
   rw [hq0] at k1
   cases k1
   exact k2
  have dp:∀{H':Hp} {v:V},X5 K H' v ((Tr.str sig ::ss.map Yi).drop 1)->Zds K H' (.tup (ss.map Yi)) v:=fun {H' v} h=>by
   cases ss with
   | nil=>exact absurd hl.1 (by decide)
   | cons q0 r0=>exact Zvb h
  have dn:∀ss:List S4,asQ (.tup (ss.map Yi))=none:=fun ss=>by
   rcases ss with _|⟨_,_⟩ <;>rfl
  refine WSs.step (Zx (i:=7) Yp.nd (Zl Wl (pv 7) (Zm (Zb (Zl Yu (Zl Yu (pv 5) (Zg (Zb (Zg (Zb (Zp (r:=rIx K) Zk (pv 3) Ze (fun _ _=>rfl)) (Zb (Zp (r:=rIx K) Zk (pv 3) Ze (fun _ _=>rfl)) (Zb (Zp (r:=rIx K) Zk (pv 3) Ze (fun _ _=>rfl)) (Zb (Zp (r:=rIx K) Zk (pv 3) Ze (fun _ _=>rfl)) Za))))) Za))) (pv 6)) (Zb (Zl Yu (Zg (Zb Zp2 Za)) (Yr (r:=Zbq K) Zcl (pv 0) (Yy Ze) Yz)) Za))))) ⟨_,rfl,_,rfl,_,rfl,.inr (.inl ⟨tq,_,0,_,rfl,rfl,SqT.of b14.hS,Zn (j:=0) rfl,_,rfl,.inr (.inl ⟨tq,_,2,_,rfl,rfl,SqT.of b14.hS,Zn (j:=2) rfl,_,rfl,.inr (.inl ⟨tq,_,1,_,rfl,rfl,SqT.of b14.hS,Zn (j:=1) rfl,_,rfl,.inr (.inl ⟨tq,_,3,_,rfl,rfl,SqT.of b14.hS,Zn (j:=3) rfl,sz (by simp),fun a15 H15 s15 n15 e15=>have b15:=b14.mono s15;⟨sz (by simp),fun a16 H16 s16 n16 e16=>have b16:=b15.mono s16;cAt b16 e16 (Zg7 (q:=(qq.1,qq.2.2.1,qq.2.1,qq.2.2.2)) (s16.at e15)) fun w17 H17 s17 g17=>have b17:=b16.mono s17;⟨_,rfl,cBt b17 g17 (Zhz rt hqq (Zud yv (rt.at hqq).2)) fun x1 H18 s18 b18=>⟨sz (by simp),fun a19 H19 s19 n19 e19=>have b19:=b18.mono s19;⟨_,rfl,_,rfl,b19.hR.fro 1 rfl (by omega) tz fun w20 H20 s20 g20=>(X5.mk1 (s20.at e19) (Zx9)).cat g20 (by simp) (by rw [l1];show 1+_<=_;omega) fun x2 H21 s21 h21=>have b21:=((b19.mono s20).mono s21).add (h21.odd (by rw [List.length_append,l1];show 1+_<=_;omega) (Zij (fun _ z=>by cases z) _));⟨sz (by simp),fun lx H22 s22 n22 e22=>.inr (.inr ⟨l5,lx,_,_,rfl,rfl,(s15.trans (s16.trans (s17.trans (s18.trans (s19.trans (s20.trans (s21.trans s22))))))).at e14,e22,by rw [lvs14];exact sz (by show _+2<=_;omega),fun l6 H23 s23 n23 e23=>?_⟩)⟩⟩⟩⟩⟩⟩)⟩)⟩)⟩)⟩
  have b23:=(b21.mono s22).mono s23
  have e23:H23 l6=some (.lst (vs14++[x1]++[x2])):=by rw [e23];simp
  have q:∀v H',Same H23 H'->Zcg K H' ps js sg v->Q v H':=fun v H' s=>q v H' ((s15.trans (s16.trans (s17.trans (s18.trans (s19.trans (s20.trans (s21.trans (s22.trans s23)))))))).trans s)
  have lvs23:(vs14++[x1]++[x2]).length=7:=by simp [lvs14]
  generalize vs14++[x1]++[x2]=vs23 at b23 e23 lvs23
  refine WSs.step (Zx (i:=7) Yp.nd (Zl Wl (pv 7) (Zm (Zb (Zl Yu (Zl Yu (pv 5) (Zg (Zb (Zl Yu (Yr (r:=Zbq K) Zcl (pv 3) Yz (Yy Ze)) (Zg (Zb (pv 4) Za))) Za))) (pv 6)) (Zb (Zl Yu (pv 0) (Zg (Zb (Zp (r:=rIx K) Zk (pv 0) Ze (fun _ _=>rfl)) Za))) Za))))) ⟨_,rfl,_,rfl,_,rfl,_,rfl,.inl ⟨tq,_,rfl,SqT.of b23.hS,nw3,fun a24 H24 s24 n24 e24=>⟨_,rfl,sz (by simp),fun a25 H25 s25 n25 e25=>⟨a24,a25,[.str qq.1,.str qq.2.1,.str qq.2.2.1],_,rfl,rfl,s25.at e24,e25,by simp,sz (by simp),fun a26 H26 s26 e26=>have b26:=((b23.mono s24).mono s25).mono s26;⟨sz (by simp),fun a27 H27 s27 n27 e27=>have b27:=b26.mono s27;cAt b27 e27 (Zg7 (q:=(qq.1,qq.2.1,qq.2.2.1,ot)) (s27.at e26)) fun w28 H28 s28 g28=>have b28:=b27.mono s28;⟨_,rfl,cBt b28 g28 (Zhz rt hqq (Zvx yv (rt.at hqq).2 hno)) fun x3 H29 s29 b29=>⟨_,rfl,_,rfl,.inr (.inl ⟨t,_,1,.ref t0,rfl,rfl,SqT.of b29.ht,at0,sz (by simp),fun a30 H30 s30 n30 e30=>have b30:=b29.mono s30;b30.hR.cat (.mk1 e30 (Zg7 (h0 b30.has))) tn (by rw [tl];show _+1<=_;omega) fun x4 H31 s31 h31=>have b31:=(b30.mono s31).add (h31.odd (by rw [List.length_append,tl];show _+1<=_;omega) (by rw [List.cons_append,Zax yv hg];exact rt.longer));⟨sz (by simp),fun lx H32 s32 n32 e32=>.inr (.inr ⟨l6,lx,_,_,rfl,rfl,(s24.trans (s25.trans (s26.trans (s27.trans (s28.trans (s29.trans (s30.trans (s31.trans s32)))))))).at e23,e32,by rw [lvs23];exact sz (by show _+2<=_;omega),fun l7 H33 s33 n33 e33=>?_⟩)⟩⟩)⟩⟩⟩⟩⟩⟩⟩
  have b33:=(b31.mono s32).mono s33
  have e33:H33 l7=some (.lst (vs23++[x3]++[x4])):=by rw [e33];simp
  have q:∀v H',Same H33 H'->Zcg K H' ps js sg v->Q v H':=fun v H' s=>q v H' ((s24.trans (s25.trans (s26.trans (s27.trans (s28.trans (s29.trans (s30.trans (s31.trans (s32.trans s33))))))))).trans s)
  have lvs33:(vs23++[x3]++[x4]).length=9:=by simp [lvs23]
  generalize vs23++[x3]++[x4]=vs33 at b33 e33 lvs33
  refine WSs.step (Zx (i:=7) Yp.nd (Zl Wl (pv 7) (Zm (Zb (Zl Yu (pv 0) (Zg (Zb (Zg (Zb Zf (Zb Zf (Zb Zf (Zb Zf Za))))) Za))) (Zb (Zl Yu (Zl Yu (pv 5) (Zg (Zb (Xx (r:=Zqn K) Ze9 (by rfl) T.n_list PyProof.Rows.boot_list (Zb (pv 3) Za)) Za))) (pv 6)) (Zb (Zg (Zb (Zp (r:=rIx K) Zk (pv 0) Ze (fun _ _=>rfl)) (Zb (Yr (r:=Zbq K) Zcl (pv 0) (Yy Ze) Yz) Za))) Za)))))) ⟨_,rfl,_,rfl,sz (by simp),fun a34 H34 s34 n34 e34=>have b34:=b33.mono s34;⟨sz (by simp),fun a35 H35 s35 n35 e35=>have b35:=b34.mono s35;b35.hR.cat (.mk1 e35 (Zg7 (q:=("none", "a", "b", "")) (s35.at e34))) tn (by rw [tl];show _+1<=_;omega) fun x5 H36 s36 h36=>have b36:=(b35.mono s36).add (h36.odd (by rw [List.length_append,tl];show _+1<=_;omega) (by rw [List.cons_append,Zax yv hg];exact rt.longer));⟨_,rfl,_,rfl,tq,_,rfl,.inr (SqT.of b36.hS),fun a37 H37 s37 n37 e37=>have b37:=b36.mono s37;⟨sz (by simp),fun a38 H38 s38 n38 e38=>have b38:=b37.mono s38;cAt b38 e38 (Ztv (xs:=[qq.1,qq.2.1,qq.2.2.1,qq.2.2.2]) (s38.at e37)) fun w39 H39 s39 g39=>have b39:=b38.mono s39;⟨_,rfl,cBt b39 g39 (Zoe rt hqq rfl) fun x6 H40 s40 b40=>⟨_,rfl,.inr (.inl ⟨t,_,0,_,rfl,rfl,SqT.of b40.ht,Zn (j:=0) rfl,_,rfl,_,rfl,b40.hR.fro 1 rfl (by omega) tz fun w41 H41 s41 g41=>⟨sz (by simp),fun x7 H42 s42 n42 e42=>have b42:=((b40.mono s41).mono s42).add ((X5.mk e42 (.cons (Zew sig) (.cons ((dp g41).mono s42) .nil))).odd (by show 2<=40;decide) (by rw [Zax yv hg];exact Zlk (dn ss)));⟨sz (by simp),fun lx H43 s43 n43 e43=>.inr (.inr ⟨l7,lx,_,_,rfl,rfl,(s34.trans (s35.trans (s36.trans (s37.trans (s38.trans (s39.trans (s40.trans (s41.trans (s42.trans s43))))))))).at e33,e43,by rw [lvs33];exact sz (by show _+3<=_;omega),fun l8 H44 s44 n44 e44=>?_⟩)⟩⟩⟩)⟩⟩⟩⟩⟩⟩
  have b44:=(b42.mono s43).mono s44
  have e44:H44 l8=some (.lst (vs33++[x5]++[x6]++[V.ref x7])):=by rw [e44];simp
  have q:∀v H',Same H44 H'->Zcg K H' ps js sg v->Q v H':=fun v H' s=>q v H' ((s34.trans (s35.trans (s36.trans (s37.trans (s38.trans (s39.trans (s40.trans (s41.trans (s42.trans (s43.trans s44)))))))))).trans s)
  have lvs44:(vs33++[x5]++[x6]++[V.ref x7]).length=12:=by simp [lvs33]
  generalize vs33++[x5]++[x6]++[V.ref x7]=vs44 at b44 e44 lvs44
  refine WSs.step (Zx (i:=7) Yp.nd (Zl Wl (pv 7) (Zm (Zb (Zl Yu (Zl Yu (pv 5) (Zg (Zb (Yr (r:=Zbq K) Zcl (pv 3) Yz (Yy Ze)) Za))) (pv 6)) (Zb (Zl Yu (Zl Yu (pv 5) (Zg (Zb (Zl Yu (Yr (r:=Zbq K) Zcl (pv 3) Yz (Yy Ze)) (Zg (Zb Zf (Zb (Zp (r:=rIx K) Zk (pv 3) Ze (fun _ _=>rfl)) Za)))) Za))) (pv 6)) Za))))) ⟨_,rfl,_,rfl,_,rfl,_,rfl,.inl ⟨tq,_,rfl,SqT.of b44.hS,nw3,fun a45 H45 s45 n45 e45=>have b45:=b44.mono s45;⟨sz (by simp),fun a46 H46 s46 n46 e46=>have b46:=b45.mono s46;cAt b46 e46 (Zzm (xs:=[qq.1,qq.2.1,qq.2.2.1]) (s46.at e45) (by show 3≠4;decide)) fun w47 H47 s47 g47=>have b47:=b46.mono s47;⟨_,rfl,cBt b47 g47 (Zoe rt hqq rfl) fun x8 H48 s48 b48=>⟨_,rfl,_,rfl,_,rfl,.inl ⟨tq,_,rfl,SqT.of b48.hS,nw2,fun a49 H49 s49 n49 e49=>⟨_,rfl,.inr (.inl ⟨tq,_,3,_,rfl,rfl,SqT.of (s49.at b48.hS),Zn (j:=3) rfl,sz (by simp),fun a50 H50 s50 n50 e50=>⟨a49,a50,[.str qq.1,.str qq.2.1],_,rfl,rfl,s50.at e49,e50,by simp,sz (by simp),fun a51 H51 s51 e51=>have b51:=((b48.mono s49).mono s50).mono s51;⟨sz (by simp),fun a52 H52 s52 n52 e52=>have b52:=b51.mono s52;cAt b52 e52 (Zg7 (q:=(qq.1,qq.2.1, "e",qq.2.2.2)) (s52.at e51)) fun w53 H53 s53 g53=>have b53:=b52.mono s53;⟨_,rfl,cBt b53 g53 (Zhz rt hqq (Zz0 yv)) fun x9 H54 s54 b54=>⟨sz (by simp),fun lx H55 s55 n55 e55=>.inr (.inr ⟨l8,lx,_,_,rfl,rfl,(s45.trans (s46.trans (s47.trans (s48.trans (s49.trans (s50.trans (s51.trans (s52.trans (s53.trans (s54.trans s55)))))))))).at e44,e55,by rw [lvs44];exact sz (by show _+2<=_;omega),fun l9 H56 s56 n56 e56=>?_⟩)⟩⟩⟩⟩⟩)⟩⟩⟩⟩⟩⟩⟩
  have b56:=(b54.mono s55).mono s56
  have e56:H56 l9=some (.lst (vs44++[x8]++[x9])):=by rw [e56];simp
  have q:∀v H',Same H56 H'->Zcg K H' ps js sg v->Q v H':=fun v H' s=>q v H' ((s45.trans (s46.trans (s47.trans (s48.trans (s49.trans (s50.trans (s51.trans (s52.trans (s53.trans (s54.trans (s55.trans s56))))))))))).trans s)
  have lvs56:(vs44++[x8]++[x9]).length=14:=by simp [lvs44]
  generalize vs44++[x8]++[x9]=vs56 at b56 e56 lvs56
  refine WSs.step (Zx (i:=7) Yp.nd (Zl Wl (pv 7) (Zm (Zb (Zl Yu (Zg (Zb (Zm (Zb Zf Za)) Za)) (Yr (r:=Zbq K) Zcl (pv 0) (Yy Ze) Yz)) (Zb (Yr (r:=Zbq K) Zcl (pv 0) Yz (Yy Ze)) Za))))) ⟨_,rfl,sz (by simp),fun a57 H57 s57 n57 e57=>have b57:=b56.mono s57;⟨sz (by simp),fun a58 H58 s58 n58 e58=>have b58:=b57.mono s58;⟨_,rfl,_,rfl,b58.hR.fro 1 rfl (by omega) tz fun w59 H59 s59 g59=>(X5.mk1 (s59.at e58) (Ztv (xs:=["s"]) ((s58.trans s59).at e57))).cat g59 (by simp) (by rw [l1];show 1+_<=_;omega) fun x10 H60 s60 h60=>have b60:=((b58.mono s59).mono s60).add (h60.odd (by rw [List.length_append,l1];show 1+_<=_;omega) (Zij (fun _ z=>by cases z) _));⟨_,rfl,_,rfl,b60.hR.til 1 rfl (by rw [tl];omega) fun x11 H61 s61 h61=>have b61:=(b60.mono s61).add (h61.odd (by show 1<=40;decide) rfl);⟨sz (by simp),fun lx H62 s62 n62 e62=>.inr (.inr ⟨l9,lx,_,_,rfl,rfl,(s57.trans (s58.trans (s59.trans (s60.trans (s61.trans s62))))).at e56,e62,by rw [lvs56];exact sz (by show _+2<=_;omega),fun l10 H63 s63 n63 e63=>?_⟩)⟩⟩⟩⟩⟩
  have b63:=(b61.mono s62).mono s63
  have e63:H63 l10=some (.lst (vs56++[x10]++[x11])):=by rw [e63];simp
  have q:∀v H',Same H63 H'->Zcg K H' ps js sg v->Q v H':=fun v H' s=>q v H' ((s57.trans (s58.trans (s59.trans (s60.trans (s61.trans (s62.trans s63)))))).trans s)
  have lvs63:(vs56++[x10]++[x11]).length=16:=by simp [lvs56]
  generalize vs56++[x10]++[x11]=vs63 at b63 e63 lvs63
  obtain ⟨i,hi,hi16⟩:=Zb5 (a:=c) (n:=16) (by decide)
  obtain ⟨v,hv⟩:∃v,vs63[i]? =some v:=⟨_,List.getElem?_eq_getElem (by rw [lvs63];exact hi16)⟩
  refine WSs.last (Zq (Zp (r:=rIx K) Zk (pv 7) (Zl Yo (pv 1) Ze) (fun _ _=>rfl))) ⟨_,rfl,_,rfl,_,_,rfl,rfl,(by show (0:Int)<16;decide),.inl ⟨l10,_,_,v,rfl,rfl,SqL.of e63,?_,q v _ (Same.refl _) (b63.od v (List.mem_of_getElem? hv))⟩⟩
  rw [show c%16=(i:Int) from hi]
  exact Zn hv
theorem Zj0(T:Tx K mg){k:Nat}(h:1<=k:=by decide):Z1 P w K mg base CX0 k T.d__law_spoilt.f T.d__law_spoilt.fd ["_law_route", "_law_cell"] (Zxi T):=(Zi2 T).mono h
section
variable {ps:List Zc} {js:List (Zc×Zc)} {sg:List (Str×Str×Str)} {e:Zc}
inductive Way(ps:List Zc)(js:List (Zc×Zc))(sg:List (Str×Str×Str))(e:Zc):List S4->Prop where
 | nil:Way ps js sg e []
 | snoc {ss:List S4} {q:S4}:Way ps js sg e ss->q∈Xl ps (bey js (Y2 e ss)).1 (bey js (Y2 e ss)).2->Wm sg q=false->Way ps js sg e (ss++[q])
theorem Zlp:∀(l ss:List S4),Yv ps js sg e ss (l.map Yi)=true->(e.1 ::ss.map Prod.fst).Nodup->(e.1 ::(ss++l).map Prod.fst).Nodup/\(ss++l).length<13
 | [],ss,h,_=>by cases h
 | q ::l,ss,h,nd=>by
  rw [List.map_cons,Zbp,Bool.and_eq_true] at h
  obtain ⟨h1,h2⟩:=h
  have m:=Zby (of_decide_eq_true h1)
  have nd':(e.1 ::(ss++[q]).map Prod.fst).Nodup:=by
   rw [List.map_append,<-List.cons_append]
   exact List.nodup_append.mpr ⟨nd,by simp,fun a ha b hb z=>m.2.1 (by rw [List.map_cons,List.map_nil,List.mem_singleton] at hb;rw [<-hb,<-z];exact ha)⟩
  split at h2
  ·have:l=[]:=by
    cases l with
    | nil=>rfl
    | cons a l=>cases h2
   subst this
   refine ⟨nd',?_⟩
   rw [List.length_append]
   show _+1<13
   omega
  ·have:=Zlp l (ss++[q]) h2 nd'
   rwa [List.append_assoc] at this
theorem Zwc{ss:List S4}(w:Way ps js sg e ss):(e.1 ::ss.map Prod.fst).Nodup->ss.length<13->Pre ps js sg e ss:=by
 induction w with
 | nil=>exact fun _ _=>.nil
 | @snoc ss q w hq he ih =>
  intro nd hl
  rw [List.map_append,<-List.cons_append,List.nodup_append] at nd
  rw [List.length_append] at hl
  have hl:ss.length+1<13:=hl
  exact (ih nd.1 (by omega)).snoc (Zxk hq (fun z=>nd.2.2 _ z _ List.mem_cons_self rfl) (by omega)) he
theorem Ztc{ss:List S4}{q:S4}(w:Way ps js sg e ss)(hq:q∈Xl ps (bey js (Y2 e ss)).1 (bey js (Y2 e ss)).2) :
  Yv ps js sg e [] ((ss++[q]).map Yi)=(decide (e.1∉(ss++[q]).map Prod.fst/\((ss++[q]).map Prod.fst).Nodup) && (Wm sg q && decide ((ss++[q]).length<13))):=by
 by_cases z:(e.1 ::(ss++[q]).map Prod.fst).Nodup/\(ss++[q]).length<13
 ·obtain ⟨nd,hl⟩:=z
  rw [decide_eq_true (List.nodup_cons.mp nd),decide_eq_true hl]
  have nd':=nd
  rw [List.map_append,<-List.cons_append,List.nodup_append] at nd'
  have hl':ss.length+1<13:=by rw [List.length_append] at hl;exact hl
  rw [List.map_append,Zc0 (Zwc w nd'.1 (by omega))]
  show Yv ps js sg e ss (Yi q ::[])=_
  rw [Zbp,decide_eq_true (Zxk hq (fun y=>nd'.2.2 _ y _ List.mem_cons_self rfl) (by omega))]
  cases Wm sg q <;>rfl
 ·have f:Yv ps js sg e [] ((ss++[q]).map Yi)=false:=by
   cases h:Yv ps js sg e [] ((ss++[q]).map Yi) with
   | false=>rfl
   | true=>exact absurd (Zlp _ [] h (by simp)) z
  rw [f]
  by_cases y:(ss++[q]).length<13
  ·rw [decide_eq_false fun x=>z ⟨List.nodup_cons.mpr x,y⟩]
   rfl
  ·rw [decide_eq_false y,Bool.and_false,Bool.and_false]
theorem Zql:∀k∈Wh,∀en∈Yc k,Zd3 k en≠[]/\∀o∈Zd3 k en,o.1 ≠ "" ->o.1∈Yc k:=by trivial
theorem Zwk{a b:Zc}(h:(a,b)∈qJ js):(b,a)∈qJ js:=by
 unfold qJ at h ⊢
 obtain ⟨p,hp,h⟩:=List.mem_flatMap.mp h
 refine List.mem_flatMap.mpr ⟨p,hp,?_⟩
 simp only [List.mem_cons,Prod.mk.injEq,List.mem_nil_iff,or_false] at h ⊢
 rcases h with ⟨rfl,rfl⟩|⟨rfl,rfl⟩
 ·exact .inr ⟨rfl,rfl⟩
 ·exact .inl ⟨rfl,rfl⟩
theorem Zxe(yv:Y1 ps js sg){a:Zc}(h:a∈Yb ps):(a,bey js a)∈qJ js:=by
 obtain ⟨⟨a',b⟩,hb,rfl⟩:=List.mem_map.mp ((Zox yv).mpr h)
 rw [Zu0 yv hb]
 exact hb
theorem Zwl(yv:Y1 ps js sg){a:Zc}(h:a∈Yb ps):bey js a∈Yb ps:=(Zox yv).mp (List.mem_map.mpr ⟨_,Zwk (Zxe yv h),rfl⟩)
theorem Zvu(yv:Y1 ps js sg){g:Str×Zc}(h:(g:Str×Str×Str)∈sg):g.2∈Yb ps:=by
 obtain ⟨p,hp,e,_,hk⟩:=yv.sigs.at_ _ h
 exact List.mem_flatMap.mpr ⟨p,hp,List.mem_map.mpr ⟨_,hk,by rw [e]⟩⟩
theorem Zqd(yv:Y1 ps js sg)(he:e∈Yb ps){ss:List S4}(w:Way ps js sg e ss):Y2 e ss∈Yb ps:=by
 cases w with
 | nil=>exact he
 | @snoc ss q w hq hb =>
  unfold Y2
  rw [List.getLast?_concat]
  show ((q.1,q.2.2.1):Zc)∈Yb ps
  unfold Xl at hq
  cases hk:kindOf ps (bey js (Y2 e ss)).1 with
  | none=>rw [hk] at hq;cases hq
  | some k =>
   rw [hk] at hq
   dsimp only at hq
   split at hq
   ·rename_i z
    obtain ⟨o,ho,rfl⟩:=List.mem_map.mp hq
    have hp:=Zfr hk
    refine List.mem_flatMap.mpr ⟨_,hp,List.mem_map.mpr ⟨o.1,(Zql k (yv.net.kind _ hp) _ z).2 o ho fun y=>?_,rfl⟩⟩
    unfold Wm at hb
    rw [decide_eq_true (show (o.1:Str) = "" from y)] at hb
    cases hb
   ·cases hq
end
theorem Zk6{H:Hp}{d:Addr}{ps:List Zc}{js:List (Zc×Zc)}{sg:List (Str×Str×Str)}(pn:Zdy H d ps js sg)(yv:Y1 ps js sg){a:Zc}(ha:a∈Yb ps):∃(kp:List (Key×V)) (b:Addr) (kj:List (List Key×V)) (t:Addr),H d=some (.dK kp)/\Y4 kp (Yh "joined")=some (.ref b)/\H b=some (.dT kj)/\Y4 kj (Yq a)=some (.ref t)/\Zw H t (bey js a):=by
 obtain ⟨p1,p2,p3,kk,kj,kst,h1,_,_,h4,h5,_⟩:=pn.ex
 obtain ⟨v,hv,t,rfl,ht⟩:=h5.get Xg (Zxt yv) (Zxe yv ha)
 exact ⟨_,p2,kj,t,h1,(Zm3 p1 p2 p3).2.1,h4,hv,ht⟩
def Zun(l:List Str)(i:Nat):Bool:=decide (∃x,l[i]? =some x/\x∈l.take i)
theorem Zrz(l:List Str):decide (V.int (((List.range l.length).filter (Zun l)).length:Nat)=V.int 0)=decide l.Nodup:=by
 have:((List.range l.length).filter (Zun l)).length=0↔l.Nodup:=by
  rw [List.length_eq_zero_iff,List.filter_eq_nil_iff]
  unfold List.Nodup
  rw [List.pairwise_iff_getElem]
  constructor
  ·intro h i j hi hj hij z
   refine h j (List.mem_range.mpr hj) (decide_eq_true ⟨l[j],List.getElem?_eq_getElem hj,?_⟩)
   rw [<-z]
   exact List.mem_take_iff_getElem.mpr ⟨i,by omega,rfl⟩
  ·intro h j hj z
   obtain ⟨x,h1,h2⟩:=of_decide_eq_true z
   have hj:=List.mem_range.mp hj
   obtain ⟨i,hi,e⟩:=List.mem_take_iff_getElem.mp h2
   rw [List.getElem?_eq_getElem hj] at h1
   exact h i j (by omega) hj (by omega) (e.trans (Option.some.inj h1).symm)
 by_cases z:l.Nodup
 ·rw [decide_eq_true z,decide_eq_true (by rw [this.mpr z];rfl)]
 ·rw [decide_eq_false z,decide_eq_false fun y=>z (this.mp (by have:=V.int.inj y;omega))]
def Zxn:Sp:=fun vs H Q _=>∃(d tr lc:Addr) (cs:List Int) (g:Str×Zc) (ps:List Zc) (js:List (Zc×Zc)) (sg:List (Str×Str×Str)),vs=[.ref d,.ref tr,.ref lc]/\Zdy H d ps js sg/\Y1 ps js sg/\(g:Str×Str×Str)∈sg/\H tr=some (.tup [.str g.1,.str g.2.1,.str g.2.2])/\H lc=some (.lst (cs.map V.int))/\1<=cs.length/\cs.length<=15 /\
 ∀t tt r H',Same H H'->H' t=some (.tup [.ref tt,.bl (Yv ps js sg g.2 [] (r.map Yi))])->Zc8 H' tt g.1 r->r.length<=15->Q (.ref t) H'
theorem Zj9(T:Tx K mg):Z1 P w K mg base CX0 3 T.d__law_round.f T.d__law_round.fd ["_law_plan", "_law_row", "_law_cells_here"] Zxn:=by
 refine T.d__law_round.F.okW Xi fun cdv A outer s H vs Q E hr h=>?_
 ·obtain ⟨d,tr,lc,cs,⟨sig,e⟩,ps,js,sg,rfl,pn,yv,hg,htr,hlc,hc1,hc15,q⟩:=h
  have he:e∈Yb ps:=Zvu yv hg
  obtain ⟨kp,b,kj,t0,k1,k2,k3,k4,k5⟩:=Zk6 pn yv he
  refine WSs.step (Zx (i:=3) Xi.nd (X6 (Wc hr) (X6 (Wc hr) (pv 0) Zf (fun _ _=>rfl)) (Zg (Zb (Zp (r:=rIx K) Zk (pv 1) Ze (fun _ _=>rfl)) (Zb (Zp (r:=rIx K) Zk (pv 1) Ze (fun _ _=>rfl)) Za))) (fun _ _=>rfl))) ⟨_,rfl,d,_,rfl,by rw [<-k2];exact Zar.k (k:=Yh "joined") k1,_,rfl,.inr (.inl ⟨tr,_,1,_,rfl,rfl,SqT.of htr,Zn (j:=1) rfl,_,rfl,.inr (.inl ⟨tr,_,2,_,rfl,rfl,SqT.of htr,Zn (j:=2) rfl,sz (by simp),fun u H1 s1 n1 e1=>⟨b,_,rfl,by rw [<-k4];exact Zar.t (k:=Yq e) (s1.at k3) e1,?_⟩⟩)⟩)⟩
  refine WSs.step (Zx (i:=4) Xi.nd (Zm Za)) ⟨sz (by simp),fun ls H2 s2 n2 e2=>?_⟩
  have s02:=s1.trans s2
  have nls:H ls=none:=s1.free n2
  let I30:=fun (σ:St) (H':Hp)=>∃ss qq ts o3 o5 o6,σ=[some (.ref d),some (.ref tr),some (.ref lc),o3,some (.ref ls),o5,o6,none,none]/\Same H H'/\Way ps js sg e ss/\qq∈Xl ps (bey js (Y2 e ss)).1 (bey js (Y2 e ss)).2/\(ss++[qq]).length<=15/\H' ls=some (.lst (ts.map V.ref))/\Paired (Y7 H') ts (ss++[qq])
  refine WSs.cut I30 ?_ ?_
  ·let I31:=fun (i:Nat) (σ:St) (H':Hp)=>∃ss ts ti o5 o6,σ=[some (.ref d),some (.ref tr),some (.ref lc),some (.ref ti),some (.ref ls),o5,o6,none,none]/\Same H H'/\Zw H' ti (bey js (Y2 e ss))/\Way ps js sg e ss/\ss.length=i/\H' ls=some (.lst (ts.map V.ref))/\Paired (Y7 H') ts ss
   refine WS.of (Wi PassesOwn.never rfl (Yx (pv 2)) (Y5 (i:=5) Xi.nd) Z2) ⟨_,rfl,lc,rfl,⟨_,SqL.of (s02.at hlc)⟩,W6 (K:=K) (xs:=cs.map V.int) I31 ⟨[],[],t0,none,none,rfl,s02,k5.mono s02,.nil,rfl,e2,.nil⟩ ?_ ?_ ?_⟩
   ·rintro i σ H' _ ⟨_,_,_,_,_,_,s3,_⟩
    exact SqL.of (s3.at hlc)
   ·rintro i v σ H3 hi ⟨ss,ts,ti,o5,o6,rfl,s3,hti,hw,hil,hls,hts⟩
    rw [List.getElem?_map] at hi
    obtain ⟨c,hc,rfl⟩:=Option.map_eq_some_iff.mp hi
    have hic:=(List.getElem?_eq_some_iff.mp hc).1
    have hbe:=Zwl yv (Zqd yv he hw)
    obtain ⟨k,hk,hek⟩:=Zk8 (nm:=(bey js (Y2 e ss)).1) (en:=(bey js (Y2 e ss)).2) hbe
    refine WSs.step (Zx (i:=6) Xi.nd (Zu (Zn6 T) hr rfl T.m__law_into T.d__law_into.F.kp T.d__law_into.b .nil Z3 (Zb (pv 0) (Zb (pv 3) Za)))) ⟨_,rfl,_,rfl,d,ti,k,(bey js (Y2 e ss)).1,(bey js (Y2 e ss)).2,ps,js,sg,rfl,pn.mono s3,yv,hti,hk,hek,fun l4 H4 s4 n4 ⟨us,h4,hus⟩=>?_⟩
    have hst:Xl ps (bey js (Y2 e ss)).1 (bey js (Y2 e ss)).2=Zbe k (bey js (Y2 e ss)).1 (bey js (Y2 e ss)).2:=by
     unfold Xl
     rw [Zmf yv.net.nd hk]
     dsimp only
     rw [if_pos hek]
    have hul:=Paired.length hus
    have hne:0<us.length:=by
     rw [hul]
     unfold Zbe
     rw [List.length_map]
     exact List.length_pos_iff.mpr (Zql k (yv.net.kind _ hk) _ hek).1
    obtain ⟨m,hm,hmu⟩:=Zb5 (a:=c) (n:=us.length) hne
    obtain ⟨uq,huq⟩:∃uq,us[m]? =some uq:=⟨_,List.getElem?_eq_getElem hmu⟩
    obtain ⟨qq,hqq,rq⟩:=Paired.get hus huq
    have hqm:qq∈Xl ps (bey js (Y2 e ss)).1 (bey js (Y2 e ss)).2:=by rw [hst];exact List.mem_of_getElem? hqq
    have htl:=Paired.length hts
    refine WSs.step (Wk (Zdq PySem.F.plainAttrs_list PySem.F.slot_list_append PySem.F.type_list_append Xy (pv 4) (Zb (Zp (r:=rIx K) Zk (pv 6) (Zl Yo (pv 5) (Z0 (r:=X0 K) X3 (by rfl) T.n_len PySem.boot_len (Zb (pv 6) Za))) (fun _ _=>rfl)) Za))) ⟨_,rfl,.inl ⟨rfl,_,SqL.of (s4.at hls)⟩,_,rfl,_,rfl,_,rfl,.inl ⟨l4,_,rfl,.inl (SqL.of h4),_,_,rfl,rfl,?_,.inl ⟨l4,_,_,.ref uq,rfl,rfl,SqL.of h4,?_,ls,_,_,rfl,rfl,s4.at hls,?_,?_⟩⟩⟩
    ·show (0:Int)<_
     rw [List.length_map];omega
    ·rw [List.length_map,hm]
     exact Zn (by rw [List.getElem?_map,huq];rfl)
    ·rw [List.length_map,sizeLine_eq];omega
    have e5:upd H4 ls (.lst (ts.map V.ref++[.ref uq])) ls=some (.lst ((ts++[uq]).map V.ref)):=by rw [Zh,List.map_append];rfl
    have s5:Same H (upd H4 ls (.lst (ts.map V.ref++[.ref uq]))):=(s3.trans s4).upd0 nls
    have rq5:=Y7.off (o:=.lst (ts.map V.ref++[.ref uq])) rq (s4.at hls)
    have hts5:Paired (Y7 (upd H4 ls (.lst (ts.map V.ref++[.ref uq])))) (ts++[uq]) (ss++[qq]):=Paired.append (Paired.mapP hts fun _ _ r=>(Y7.mono s4 r).off (s4.at hls)) (.cons rq5 .nil)
    generalize upd H4 ls (.lst (ts.map V.ref++[.ref uq]))=H5 at e5 s5 rq5 hts5
    have la:atI ((ts++[uq]).map V.ref) (-1)=some (.ref uq):=by rw [List.map_append];exact Zfi _ _
    refine WSs.step (Ye (Wz (Zu (Zdw T) hr rfl T.m__law_ends_so T.d__law_ends_so.F.kp T.d__law_ends_so.b .nil Z3 (Zb (pv 0) (Zb (Zp (r:=rIx K) Zk (pv 4) (Zfu Zdm Ze) (fun _ _=>rfl)) Za)))) Z2 Zv) ⟨_,rfl,_,rfl,_,rfl,.inl ⟨ls,_,_,.ref uq,rfl,rfl,SqL.of e5,la,d,uq,qq,ps,js,sg,rfl,pn.mono s5,yv,rq5,fun H6 s6=>⟨_,rfl,Ym (fun y=>?_) (fun y=>?_)⟩⟩⟩
    ·exact WSs.last Ztb ⟨ss,qq,ts++[uq],_,_,_,rfl,s5.trans s6,hw,hqm,by rw [List.length_append];show _+1<=15;omega,s6.at e5,Paired.mapP hts5 fun _ _ r=>r.mono s6⟩
    have hw':Way ps js sg e (ss++[qq]):=hw.snoc hqm (by simpa using y)
    have s06:=s5.trans s6
    have hle:Y2 e (ss++[qq])=(qq.1,qq.2.2.1):=by unfold Y2;rw [List.getLast?_concat]
    obtain ⟨kp',b',kj',t',m1,m2,m3,m4,m5⟩:=Zk6 (pn.mono s06) yv (Zqd yv he hw')
    have rq6:H6 uq=some (.tup [.str qq.1,.str qq.2.1,.str qq.2.2.1,.str qq.2.2.2]):=s6.at rq5
    refine WSs.last (Zx (i:=3) Xi.nd (X6 (Wc hr) (X6 (Wc hr) (pv 0) Zf (fun _ _=>rfl)) (Zg (Zb (Zp (r:=rIx K) Zk (Zp (r:=rIx K) Zk (pv 4) (Zfu Zdm Ze) (fun _ _=>rfl)) Ze (fun _ _=>rfl)) (Zb (Zp (r:=rIx K) Zk (Zp (r:=rIx K) Zk (pv 4) (Zfu Zdm Ze) (fun _ _=>rfl)) Ze (fun _ _=>rfl)) Za))) (fun _ _=>rfl))) ⟨_,rfl,d,_,rfl,by rw [<-m2];exact Zar.k (k:=Yh "joined") m1,_,rfl,_,rfl,.inl ⟨ls,_,_,.ref uq,rfl,rfl,SqL.of (s6.at e5),la,.inr (.inl ⟨uq,_,0,_,rfl,rfl,SqT.of rq6,Zn (j:=0) rfl,_,rfl,_,rfl,.inl ⟨ls,_,_,.ref uq,rfl,rfl,SqL.of (s6.at e5),la,.inr (.inl ⟨uq,_,2,_,rfl,rfl,SqT.of rq6,Zn (j:=2) rfl,sz (by simp),fun u7 H7 s7 n7 e7=>⟨b',_,rfl,by rw [<-m4,hle];exact Zar.t (k:=Yq (qq.1,qq.2.2.1)) (s7.at m3) e7,?_⟩⟩)⟩⟩)⟩⟩
    exact ⟨ss++[qq],ts++[uq],t',_,_,rfl,s06.trans s7,m5.mono s7,hw',by rw [List.length_append,hil];rfl,s7.at (s6.at e5),Paired.mapP hts5 fun _ _ r=>r.mono (s6.trans s7)⟩
   ·rintro σ H3 ⟨ss,ts,ti,o5,o6,rfl,s3,hti,hw,hil,hls,hts⟩
    rw [List.length_map] at hil
    cases hw with
    | nil=>exact absurd hil (by show ¬0=cs.length;omega)
    | @snoc ss qq hw hq _=>exact ⟨ss,qq,ts,_,_,_,rfl,s3,hw,hq,by omega,hls,hts⟩
  rintro σ H3 ⟨ss,qq,ts,o3,o5,o6,rfl,s3,hw,hq,h15,hls,hts⟩
  have htl:=Paired.length hts
  have hww:=Ztc hw hq
  have q:∀t tt H',Same H H'->H' t=some (.tup [.ref tt,.bl (Yv ps js sg e [] ((ss++[qq]).map Yi))])->Zc8 H' tt sig (ss++[qq])->Q (.ref t) H':=fun t tt H' s a b=>q t tt _ H' s a b h15
  rw [hww] at q
  have lst:(ss++[qq]).getLast? =some qq:=List.getLast?_concat
  obtain ⟨uq,la,rq⟩:∃uq,atI (ts.map V.ref) (-1)=some (.ref uq)/\Y7 H3 uq qq:=by
   obtain ⟨uq,h1,h2⟩:=Paired.get' hts (i:=ss.length) (b:=qq) List.getElem?_concat_length
   rw [List.length_append] at htl
   obtain ⟨us,rfl⟩:=List.getLast?_eq_some_iff.mp (show ts.getLast? =some uq by rw [List.getLast?_eq_getElem?,htl];exact h1)
   exact ⟨uq,by rw [List.map_append];exact Zfi _ _,h2⟩
  generalize hr':ss++[qq]=r at q h15 hts htl
  refine WSs.step (Zx (i:=7) Xi.nd (Xn (N':=["_law_step"]) rfl (Ya.std 1 [] rfl (by trivial) (by trivial) rfl trivial rfl rfl trivial) (Yx (pv 4)) (fun _ _ _ _=>(Zbn (i:=0) (by show (["_law_step"]:List Str).Nodup;decide +kernel))) (fun _ _ _ _=>W0) (fun _ _ _ _=>(Zp (r:=rIx K) Zk (pv 0) Ze (fun _ _=>rfl))))) ⟨_,rfl,ls,rfl,⟨_,SqL.of hls⟩,fun D hD=>Xq (K:=K) (xs:=ts.map V.ref) (fun i ys H'=>ys=((r.take i).map Prod.fst).map V.str/\H' D=some (.lst ys)/\Same H3 H') ⟨rfl,Zh,Same.new hD⟩ ?_ ?_ ?_⟩
  ·rintro i ys H' _ ⟨_,_,sm⟩
   exact SqL.of (sm.at hls)
  ·rintro i v ys H4 hi ⟨rfl,hD4,s4⟩
   rw [List.getElem?_map] at hi
   obtain ⟨tq,htq,rfl⟩:=Option.map_eq_some_iff.mp hi
   obtain ⟨q4,hq4,r4⟩:=Paired.get hts htq
   refine ⟨W2.set rfl,_,rfl,.inr (.inl ⟨tq,_,0,_,rfl,rfl,SqT.of (s4.at r4),Zn (j:=0) rfl,hD4,by rw [List.length_map,List.length_map,List.length_take];exact Zy (by omega),?_,Zh,fun b o y=>?_⟩)⟩
   ·rw [List.take_add_one,hq4,List.map_append,List.map_append];rfl
   ·rw [Zj (Zi y hD)];exact s4.at y
  rintro ys H4 ⟨rfl,hD4,s4⟩
  rw [List.length_map,htl,List.take_length] at hD4
  have s04:=s3.trans s4
  have hpl:(r.map Prod.fst).length<=15:=by rw [List.length_map];exact h15
  refine WSs.cut (fun σ H'=>σ=[some (.ref d),some (.ref tr),some (.ref lc),o3,some (.ref ls),o5,o6,some (.ref D),some (.bl (decide (e.1∉r.map Prod.fst/\(r.map Prod.fst).Nodup)))]/\Same H4 H') ?_ ?_
  ·refine WS.of (Zx (i:=8) Xi.nd (Zdu (W1 (r:=Zck K) (Zc3 hr) (Zp (r:=rIx K) Zk (pv 1) Ze (fun _ _=>rfl)) (pv 7) (by with_unfolding_all rfl)) (Zfa (W1 (r:=Zaz K) (Zba hr) (Z0 (r:=X0 K) X3 (by rfl) T.n_len PySem.boot_len (Zb (Xn (N':=["_law_k", "_law_parts"]) rfl (Ya.std 1 [7] rfl (by trivial) (by trivial) rfl ⟨rfl,trivial⟩ rfl rfl ⟨⟨_,rfl,rfl,rfl⟩,trivial⟩) (Zeh rfl T.n_range (Zb (Z0 (r:=X0 K) X3 (by rfl) T.n_len PySem.boot_len (Zb (pv 7) Za)) Za)) (fun _ _ _ _=>(Zbn (i:=0) (by show (["_law_k", "_law_parts"]:List Str).Nodup;decide +kernel))) (fun _ _ _ _=>(Zgf (Zs (r:=Zhg K) (Zim hr) (Zp (r:=rIx K) Zk (pv 1) (pv 0) (fun _ _=>rfl)) (Yr (r:=Zbq K) Zcl (pv 1) Yz (Yy (pv 0))) (by with_unfolding_all rfl)))) (fun _ _ _ _=>(pv 0))) Za)) Ze (Z4 _))))) ⟨_,rfl,.inr (.inl ⟨tr,_,1,_,rfl,rfl,SqT.of (s04.at htr),Zn (j:=1) rfl,_,rfl,.inl ⟨D,_,rfl,.inl (SqL.of hD4),rfl,Zae _,_,rfl,?_⟩⟩)⟩
   rw [if_pos rfl,Zbk]
   refine Ym (fun y=>?_) (fun y=>?_)
   rotate_left
   ·have y:e.1∈r.map Prod.fst:=by
     have:(!decide (e.1∈r.map Prod.fst))=false:=by simpa using y
     exact of_decide_eq_true (by simpa using this)
    rw [decide_eq_false fun x=>x.1 y]
    exact ⟨rfl,Same.refl _⟩
   have y:e.1∉r.map Prod.fst:=by simpa using y
   generalize r.map Prod.fst=L at hD4 y hpl
   refine ⟨_,rfl,.inl ⟨D,_,rfl,.inl (SqL.of hD4),_,rfl,by omega,?_,fun D2 hD2=>Zcq (lo:=0) (fun i ys H'=>ys=((List.range i).filter (Zun L)).map (fun j=>V.int ((j:Nat):Int))/\H' D2=some (.lst ys)/\Same H4 H') ⟨rfl,Zh,Same.new hD2⟩ ?_ ?_⟩⟩
   ·rw [List.length_map];omega
   ·rintro i ys H5 hi ⟨rfl,hD5,s5⟩
    have hi:i<L.length:=by
     rw [List.length_map,Int.toNat_natCast] at hi
     exact hi
    have zi:(0:Int)+(i:Nat)=((i:Nat):Int):=Int.zero_add _
    refine ⟨W2.set rfl,_,rfl,_,rfl,.inl ⟨D,_,_,.str L[i],rfl,rfl,SqL.of (s5.at hD4),?_,_,rfl,_,rfl,_,rfl,.inr (.inl ⟨D,_,rfl,SqL.of (s5.at hD4),fun l6 H6 s6 n6 e6=>?_⟩)⟩⟩
    ·rw [zi]
     exact Zn (by rw [List.getElem?_map,List.getElem?_eq_getElem hi];rfl)
    rw [zi,Ze2,<-List.map_take] at e6
    refine .inl ⟨l6,_,rfl,.inl (SqL.of e6),rfl,Zae _,_,rfl,?_⟩
    rw [if_neg (by decide),Zbk]
    have hd:decide (L[i]∈L.take i)=Zun L i:=by
     by_cases z:L[i]∈L.take i
     ·rw [decide_eq_true z]
      exact (decide_eq_true ⟨_,List.getElem?_eq_getElem hi,z⟩).symm
     ·rw [decide_eq_false z]
      refine (decide_eq_false ?_).symm
      rintro ⟨x,h1,h2⟩
      rw [List.getElem?_eq_getElem hi] at h1
      cases h1
      exact z h2
    rw [hd]
    have fl:=List.length_filter_le (Zun L) (List.range i)
    rw [List.length_range] at fl
    refine Ym (fun hc=>?_) (fun hc=>?_)
    ·refine ⟨_,rfl,s6.at hD5,by rw [List.length_map];exact Zy (by omega),?_,Zh,fun b o y=>?_⟩
     ·rw [List.range_succ,List.filter_append,List.map_append,List.filter_cons,if_pos hc,zi]
      rfl
     ·rw [Zj (Zi y hD2)];exact s6.at (s5.at y)
    ·refine ⟨?_,s6.at hD5,s5.trans s6⟩
     rw [List.range_succ,List.filter_append,List.map_append,List.filter_cons,if_neg hc]
     simp
   ·rintro ys H5 ⟨rfl,hD5,s5⟩
    refine .inl ⟨D2,_,rfl,.inl (SqL.of hD5),.inl ⟨rfl,?_⟩⟩
    rw [List.length_map,List.length_map,Int.toNat_natCast,Zrz]
    rw [show decide (e.1∉L/\L.Nodup)=decide L.Nodup by simp [y]]
    exact ⟨rfl,s5⟩
  rintro σ H5 ⟨rfl,s5⟩
  have s35:=s4.trans s5
  have s05:=s3.trans s35
  have fin:∀{H8 H':Hp} {a8 t:Addr} {v:Bool},Same H5 H8->H8 a8=some (.tup (.str sig ::ts.map V.ref))->Same H8 H'->H' t=some (.tup [.ref a8,.bl v])->v=(decide (e.1∉r.map Prod.fst/\(r.map Prod.fst).Nodup) && (Wm sg qq && decide (r.length<13)))->Q (.ref t) H':=fun {H8 H' a8 t v} s8 e8 s' et hv=>by
   rw [hv] at et
   exact q t a8 H' (s05.trans (s8.trans s')) et ⟨ts,s'.at e8,Paired.mapP hts fun _ _ r=>r.mono (s35.trans (s8.trans s'))⟩
  refine WSs.last (Zq (Zg (Zb (Zl Yu (Zg (Zb (Zp (r:=rIx K) Zk (pv 1) Ze (fun _ _=>rfl)) Za)) (Xx Zeo (by rfl) T.n_tuple PyProof.Rows.boot_tuple (Zb (pv 4) Za))) (Zb (Zdu (pv 8) (Zdu (Zu (Zdw T) hr rfl T.m__law_ends_so T.d__law_ends_so.F.kp T.d__law_ends_so.b .nil Z3 (Zb (pv 0) (Zb (Zp (r:=rIx K) Zk (pv 4) (Zfu Zdm Ze) (fun _ _=>rfl)) Za))) (Zfa (W1 Zfx (Z0 (r:=X0 K) X3 (by rfl) T.n_len PySem.boot_len (Zb (pv 4) Za)) Ze (Z4 _))))) Za)))) ⟨_,rfl,.inr (.inl ⟨tr,_,0,_,rfl,rfl,SqT.of (s05.at htr),Zn (j:=0) rfl,sz (by simp),fun a6 H6 s6 n6 e6=>⟨_,rfl,ls,_,rfl,.inl ⟨SqL.of ((s35.trans s6).at hls),fun a7 n7=>⟨a6,a7,_,_,rfl,rfl,(Same.new n7).at e6,Zh,by simp,sz (by show 1+_<=_;rw [List.length_map,htl];omega),fun a8 H8 s8 e8=>⟨_,rfl,_,rfl,?_⟩⟩⟩⟩⟩)⟩
  have s58:=s6.trans ((Same.new n7).trans s8)
  have s38:=s35.trans s58
  have e8:H8 a8=some (.tup (.str sig ::ts.map V.ref)):=e8
  refine Ym (fun y=>?_) (fun y=>?_)
  rotate_left
  ·refine ⟨sz (by simp),fun t H9 s9 n9 e9=>fin s58 e8 s9 e9 ?_⟩
   rw [show decide (e.1∉r.map Prod.fst/\(r.map Prod.fst).Nodup)=false by simpa using y]
   rfl
  refine ⟨_,rfl,_,rfl,_,rfl,.inl ⟨ls,_,_,.ref uq,rfl,rfl,SqL.of (s38.at hls),la,d,uq,qq,ps,js,sg,rfl,pn.mono (s3.trans s38),yv,rq.mono s38,fun H9 s9=>⟨_,rfl,Ym (fun y2=>?_) (fun y2=>?_)⟩⟩⟩
  ·refine ⟨_,rfl,.inl ⟨ls,_,rfl,.inl (SqL.of ((s38.trans s9).at hls)),_,_,rfl,rfl,sz (by simp),fun t H10 s10 n10 e10=>fin s58 e8 (s9.trans s10) e10 ?_⟩⟩
   rw [y,y2,List.length_map,htl]
   show decide ((r.length:Int)<13)=decide (r.length<13)
   by_cases z:r.length<13
   ·rw [decide_eq_true z,decide_eq_true (by omega)]
   ·rw [decide_eq_false z,decide_eq_false (by omega)]
  ·refine ⟨sz (by simp),fun t H10 s10 n10 e10=>fin s58 e8 (s9.trans s10) e10 ?_⟩
   rw [show Wm sg qq=false by simpa using y2,y]
   rfl
theorem Zmd(T:Tx K mg){k:Nat}(h:3<=k:=by decide):Z1 P w K mg base CX0 k T.d__law_round.f T.d__law_round.fd ["_law_plan", "_law_row", "_law_cells_here"] Zxn:=(Zj9 T).mono h
theorem Im.pair{H:Hp}{n:Nat}{α:Type}{R:Addr->α->Prop}{f:α->Tr}{ts:List Addr}{xs:List α}(h:Paired R ts xs)(hR:∀a x,R a x->Im K H n (f x) (.ref a)):Paired (Im K H n) (xs.map f) (ts.map V.ref):=by
 induction h with
 | nil=>exact .nil
 | cons r _ ih=>exact .cons (hR _ _ r) ih
theorem Zra{α:Type}(f:α->Tr):∀l:List α,decide (Tr.lst (l.map f)=Tr.lst [])=l.isEmpty
 | []=>decide_eq_true rfl
 | a ::l=>decide_eq_false fun z=>by cases z
def tr3(g:Str×Str×Str):Tr:=.tup [.str g.1,.str g.2.1,.str g.2.2]
def Zrf(K:Frag):Sp:=fun vs H Q _=>∃(a:Addr) (ns:List Int),vs=[.ref a]/\SqL K H a (ns.map V.int)/\ns.length<=63/\∀H',Q (.bl true) H'
theorem Zy6{f:Addr}{fd:FuncData} (F:Fun K "law" "law" Zfs f fd) (T:Tx K mg):Z1 P w K mg base CX0 9 f fd ["_law_script"] (Zrf K):=by
 refine F.okW Zc1 fun cdv A outer s H vs Q E hr h=>?_
 ·obtain ⟨a,ns,rfl,hS,hns,q⟩:=h
  refine WSs.step (Zx (i:=1) Zc1.nd (Zu (Ziw T) hr rfl T.m__law_yard_by T.d__law_yard_by.F.kp T.d__law_yard_by.b .nil Z3 (Zb (Zu (Zmy T) hr rfl T.m__law_cells T.d__law_cells.F.kp T.d__law_cells.b .nil Z3 (Zb (pv 0) (Zb Ze (Zb Ze Za)))) (Zb (Zu (Zcz T) hr rfl T.m__law_cell_at T.d__law_cell_at.F.kp T.d__law_cell_at.b .nil Z3 (Zb (pv 0) (Zb Ze Za))) Za)))) ⟨_,rfl,a,ns,3,17,rfl,hS,hns,by decide,by decide,fun cl H1 cs s1 n1 e1 hc hcl=>⟨_,rfl,a,ns,0,rfl,s1.seq hS,cl,_,cs,rfl,SqL.of e1,fun c h=>(hc c h).1,hcl,fun t pl jl sl H2 ps js sg s2 ht hP hJ hG yo=>?_⟩⟩
  have hya:Zg0 H2 t ps js sg:=⟨pl,jl,sl,ht,hP,hJ,hG⟩
  have yv:=yo.v
  refine WSs.step (Zx (i:=2) Zc1.nd (Zu (Zki T) hr rfl T.m__law_tracks T.d__law_tracks.F.kp T.d__law_tracks.b .nil Z3 (Zb (pv 1) Za))) ⟨_,rfl,t,ps,js,sg,rfl,hya,yv,fun x H3 s3 n3 tr=>?_⟩
  refine WSs.step (Zx (i:=3) Zc1.nd (Zu (Zcz T) hr rfl T.m__law_cell_at T.d__law_cell_at.F.kp T.d__law_cell_at.b .nil Z3 (Zb (pv 0) (Zb Ze Za)))) ⟨_,rfl,a,ns,1,rfl,(s1.trans (s2.trans s3)).seq hS,?_⟩
  generalize Zm0 ns 1=c
  have hS:=(s1.trans (s2.trans s3)).seq hS
  have hya:=hya.mono s3
  obtain ⟨gs,hgl,hgs⟩:=hG.mono s3
  have ht:=s3.at ht
  refine WSs.step (Zx (i:=4) Zc1.nd (Zm (Zb Zp2 (Zb Ze (Zb Zf (Zb (Zg Za) (Zb (Zm Za) (Zb Zcw (Zb (Zg (Zb Zf Za)) (Zb (Zg (Zb (Zg (Zb Zf (Zb Zf (Zb Zf (Zb Zf Za))))) Za)) (Zb (Zm (Zb Zf Za)) (Zb (Zg (Zb Zf (Zb Zf Za))) Za)))))))))))) ⟨sz (by simp),fun p1 H4 s4 n4 e4=>⟨sz (by simp),fun p2 H5 s5 n5 e5=>⟨sz (by simp),fun p3 H6 s6 n6 e6=>⟨sz (by simp),fun p4 H7 s7 n7 e7=>⟨sz (by simp),fun p5 H8 s8 n8 e8=>⟨sz (by simp),fun p6 H9 s9 n9 e9=>⟨sz (by simp),fun p7 H10 s10 n10 e10=>⟨sz (by simp),fun lt H11 s11 n11 e11=>?_⟩⟩⟩⟩⟩⟩⟩⟩
  have s811:=s9.trans (s10.trans s11)
  have s611:=s7.trans (s8.trans s811)
  have s411:=s5.trans (s6.trans s611)
  have s311:=s4.trans s411
  have odd:∀v∈[V.non,.int 5,.str "s",.ref p1,.ref p2,.bl true,.ref p3,.ref p5,.ref p6,.ref p7],Zcg K H11 ps js sg v:=by
   intro v hv
   simp only [List.mem_cons,List.mem_nil_iff,or_false] at hv
   rcases hv with rfl|rfl|rfl|rfl|rfl|rfl|rfl|rfl|rfl|rfl
   ·exact ⟨none,⟨_,.non,T.kNT⟩,rfl⟩
   ·exact ⟨none,⟨_,.int _,T.kIT⟩,rfl⟩
   ·exact ⟨none,⟨_,.str _,T.kST⟩,rfl⟩
   ·exact (X5.mk (ts:=[]) (s411.at e4) .nil).odd (by decide) rfl
   ·exact ⟨none,⟨_,.lst (s5.trans s6 |>.trans s611 |>fun _=>(s6.trans s611).at e5),T.kLT⟩,rfl⟩
   ·exact ⟨none,⟨_,.bl _,T.kBT⟩,rfl⟩
   ·exact (X5.mk1 (s611.at e6) (Zew _)).odd (by show 1<=40;decide) rfl
   ·exact (X5.mk1 (s811.at e8) (Zg7 (q:=("g", "a", "", "")) ((s8.trans s811).at e7))).odd (by show 1<=40;decide) rfl
   ·exact ⟨none,⟨_,.lst ((s10.trans s11).at e9),T.kLT⟩,rfl⟩
   ·refine (X5.mk (s11.at e10) (.cons (Zew "g") (.cons (Zew "g") .nil))).odd (by show 2<=40;decide) ?_
    show (match sg.find? (fun g=>decide (g.1=("g" :Str))) with
     | none=>false
     | some g=>Yv ps js sg g.2 [] [.str "g"])=false
    cases sg.find? (fun g=>decide (g.1=("g" :Str))) <;>rfl
  have e11:H11 lt=some (.lst [V.non,.int 5,.str "s",.ref p1,.ref p2,.bl true,.ref p3,.ref p5,.ref p6,.ref p7]):=e11
  have ten:[V.non,.int 5,.str "s",.ref p1,.ref p2,.bl true,.ref p3,.ref p5,.ref p6,.ref p7].length=10:=rfl
  generalize [V.non,.int 5,.str "s",.ref p1,.ref p2,.bl true,.ref p3,.ref p5,.ref p6,.ref p7]=vs at odd e11 ten
  obtain ⟨j,hj,hj10⟩:=Zb5 (a:=c) (n:=10) (by decide)
  obtain ⟨v,hv⟩:∃v,vs[j]? =some v:=⟨_,List.getElem?_eq_getElem (by omega)⟩
  obtain ⟨o,ho,hof⟩:=odd v (List.mem_of_getElem? hv)
  have tr:=tr.mono s311
  have hya:=hya.mono s311
  have ht:=s311.at ht
  have hgl:=s311.at hgl
  have hgs:Paired (Zi5 H11) gs sg:=Paired.mapP hgs fun _ _ r=>s311.at r
  have hS:=s311.seq hS
  have no:∀{b:Bool},(b !=b)=true->False:=fun {b} z=>by cases b <;>cases z
  refine WSs.step (Ye (Zs Zmb (Zu (Zbw T) hr rfl T.m_is_route T.d_is_route.F.kp T.d_is_route.b .nil Z3 (Zb (pv 2) (Zb (Zp (r:=rIx K) Zk (pv 4) (Zl Yo (pv 3) Ze) (fun _ _=>rfl)) Za))) Zcw (Z4 _)) Z2 Zv) ⟨_,rfl,_,rfl,_,rfl,_,_,rfl,rfl,(by show (0:Int)<10;decide),.inl ⟨lt,_,_,v,rfl,rfl,SqL.of e11,?_,x,v,o,ps,js,sg,rfl,tr,yv,ho,fun H12 s12=>⟨_,_,rfl,rfl,_,rfl,Ym (fun z=>?_) (fun _=>?_)⟩⟩⟩
  ·rw [show c%10=(j:Int) from hj]
   exact Zn hv
  ·rw [hof] at z
   exact (no z).elim
  have q:∀H',Q (.bl true) H':=q
  have ht12:=s12.at ht
  refine WSs.step (Ye (Zs (r:=Zaz K) (Zba hr) (Zp (r:=rIx K) Zk (pv 1) Ze (fun _ _=>rfl)) (Zm Za) (Z4 _)) Z2 Zv) ⟨_,rfl,.inr (.inl ⟨t,_,2,_,rfl,rfl,SqT.of ht12,Zn (j:=2) rfl,sz (by simp),fun le H13 s13 n13 e13=>.inr (.inl ⟨2,.lst (sg.map tr3),.lst [],by decide,.inr ⟨_,_,rfl,rfl⟩,Im.lst (SqL.of ((s12.trans s13).at hgl)) (Im.pair hgs fun _ _ r=>Im.tupI (n:=0) (SqT.of ((s12.trans s13).at r)) (.cons (.str _) (.cons (.str _) (.cons (.str _) .nil)))),Im.lst (SqL.of e13) .nil,_,rfl,?_⟩)⟩)⟩
  rw [if_neg (by decide),Zra]
  refine Ym (fun z=>WSs.last (Zq Zcw) (q _)) (fun z=>?_)
  have s1113:=s12.trans s13
  have tr:=tr.mono s1113
  have hya:=hya.mono s1113
  have ht:=s1113.at ht
  have hgl:=s1113.at hgl
  have hgs:Paired (Zi5 H13) gs sg:=Paired.mapP hgs fun _ _ r=>s1113.at r
  have hS:=s1113.seq hS
  have hgn:=Paired.length hgs
  have hpos:0<gs.length:=by
   rw [hgn]
   cases sg with
   | nil=>exact absurd rfl z
   | cons _ _=>exact Nat.succ_pos _
  obtain ⟨m,hm,hmg⟩:=Zb5 (a:=c / 10) (n:=gs.length) hpos
  obtain ⟨tg,htg⟩:∃tg,gs[m]? =some tg:=⟨_,List.getElem?_eq_getElem hmg⟩
  obtain ⟨⟨sig,e⟩,hgm,rg⟩:=Paired.get hgs htg
  have hgm:((sig,e):Str×Zc)∈sg:=List.mem_of_getElem? hgm
  have rg:H13 tg=some (.tup [.str sig,.str e.1,.str e.2]):=rg
  refine WSs.step (Zx (i:=5) Zc1.nd (Zp (r:=rIx K) Zk (Zp (r:=rIx K) Zk (pv 1) Ze (fun _ _=>rfl)) (Zl Yo (Zl Yt (pv 3) Ze) (Z0 (r:=X0 K) X3 (by rfl) T.n_len PySem.boot_len (Zb (Zp (r:=rIx K) Zk (pv 1) Ze (fun _ _=>rfl)) Za))) (fun _ _=>rfl))) ⟨_,rfl,.inr (.inl ⟨t,_,2,_,rfl,rfl,SqT.of ht,Zn (j:=2) rfl,_,rfl,_,_,rfl,rfl,⟨by decide,by decide⟩,_,rfl,.inr (.inl ⟨t,_,2,_,rfl,rfl,SqT.of ht,Zn (j:=2) rfl,.inl ⟨sl,_,rfl,.inl (SqL.of hgl),_,_,rfl,rfl,?_,.inl ⟨sl,_,_,.ref tg,rfl,rfl,SqL.of hgl,?_,?_⟩⟩⟩)⟩)⟩
  ·show (0:Int)<_
   rw [List.length_map];omega
  ·rw [List.length_map,show c / 10%(gs.length:Int)=(m:Int) from hm]
   exact Zn (by rw [List.getElem?_map,htg];rfl)
  obtain ⟨n15,hn15,hn15l⟩:=Zb5 (a:=c / 10) (n:=15) (by decide)
  refine WSs.step (Zp7 (Zu (Zmd T) hr rfl T.m__law_round T.d__law_round.F.kp T.d__law_round.b .nil Z3 (Zb (Zu (Zoz T) hr rfl T.m__law_map T.d__law_map.F.kp T.d__law_map.b .nil Z3 (Zb (pv 1) Za)) (Zb (pv 5) (Zb (Xn (N':=["_law_k", "_law_cell"]) rfl (Ya.std 1 [3] rfl (by trivial) (by trivial) rfl ⟨rfl,trivial⟩ rfl rfl ⟨⟨_,rfl,rfl,rfl⟩,trivial⟩) (Zeh rfl T.n_range (Zb (Zl Wl Ze (Zl Yo (Zl Yt (pv 3) Ze) Ze)) Za)) (fun _ _ _ _=>(Zbn (i:=0) (by show (["_law_k", "_law_cell"]:List Str).Nodup;decide +kernel))) (fun _ _ _ _=>W0) (fun _ _ _ _=>(Zu (Zbg T) hr rfl T.m__law_mixed T.d__law_mixed.F.kp T.d__law_mixed.b .nil Z3 (Zb (pv 1) (Zb (pv 0) Za))))) Za)))) (Zbt rfl (Z6 (Y5 (i:=6) Zc1.nd) (Z6 (Y5 (i:=7) Zc1.nd) X2)))) ⟨_,rfl,t,ps,js,sg,rfl,hya,yv,fun d H14 s14 n14 pn=>⟨_,rfl,_,rfl,_,_,rfl,rfl,⟨by decide,by decide⟩,_,_,rfl,rfl,(by show (0:Int)<15;decide),.inl ⟨_,_,rfl,rfl,((n15+1:Nat):Int),?_,by omega,by omega,fun D hD=>Zcq (lo:=0) (n:=n15+1) (fun i ys H'=>(∃ks:List Int,ys=ks.map V.int/\ks.length=i)/\H' D=some (.lst ys)/\Same H14 H') ⟨⟨[],rfl,rfl⟩,Zh,Same.new hD⟩ ?_ ?_⟩⟩⟩
  ·show [V.int (1+c / 10%15)]=_
   rw [show c / 10%15=(n15:Int) from hn15,show (1:Int)+(n15:Nat)=((n15+1:Nat):Int) by omega]
  ·rintro i ys H15 hi ⟨⟨ks,rfl,hk⟩,hD5,s15⟩
   refine ⟨W2.set rfl,_,rfl,_,rfl,_,_,rfl,hD5,by rw [List.length_map];exact Zy (by omega),⟨ks++[_],by rw [List.map_append];rfl,by rw [List.length_append,hk];rfl⟩,Zh,fun b o y=>?_⟩
   rw [Zj (Zi y hD)];exact s15.at y
  rintro ys H15 ⟨⟨ks,rfl,hk⟩,hD5,s15⟩
  have s1315:=s14.trans s15
  refine ⟨d,tg,D,ks,(sig,e),ps,js,sg,rfl,pn.mono s15,yv,hgm,s1315.at rg,hD5,by omega,by omega,fun t16 tt r H16 s16 e16 rr hr15=>⟨t16,_,rfl,SqT.of e16,rfl,_,_,rfl,_,_,rfl,rfl,?_⟩⟩
  have s1316:=s1315.trans s16
  have tr:=tr.mono s1316
  have rg:=s1316.at rg
  have hS:=s1316.seq hS
  have rl:(Tr.str sig ::r.map Yi).length<=40:=by rw [List.length_cons,List.length_map];omega
  refine WSs.step (Ye (Zs (r:=Zj7 K) (Znp hr) (Zu (Zbw T) hr rfl T.m_is_route T.d_is_route.F.kp T.d_is_route.b .nil Z3 (Zb (pv 2) (Zb (pv 6) Za))) (pv 7) (Z4 _)) Z2 Zv) ⟨_,rfl,_,rfl,x,.ref tt,some (.str sig ::r.map Yi),ps,js,sg,rfl,tr,yv,rr.t.th rl,fun H17 s17=>⟨_,rfl,.inl ⟨rfl,_,rfl,Ym (fun z=>?_) (fun _=>?_)⟩⟩⟩
  ·rw [show Zwb ps js sg (some (.str sig ::r.map Yi))=Yv ps js sg e [] (r.map Yi) from Zax yv hgm _,decide_eq_true rfl] at z
   exact absurd z (by decide)
  have tr:=tr.mono s17
  have rg:=s17.at rg
  have hS:=s17.seq hS
  refine WSs.step (Zx (i:=8) Zc1.nd (Zu (Zkp T) hr rfl T.m_routes_from T.d_routes_from.F.kp T.d_routes_from.b .nil Z3 (Zb (pv 2) (Zb (Zp (r:=rIx K) Zk (pv 5) Ze (fun _ _=>rfl)) Za)))) ⟨_,rfl,_,rfl,.inr (.inl ⟨tg,_,0,_,rfl,rfl,SqT.of rg,Zn (j:=0) rfl,x,(sig,e),ps,js,sg,rfl,tr,yv,hgm,fun lf rs H18 s18 n18 ⟨fs,hlf,hfs⟩ hp=>?_⟩)⟩
  have tr:=tr.mono s18
  have rg:=s18.at rg
  have hS:=s18.seq hS
  have hfl:=Paired.length hfs
  refine WSs.step (Ye (Zs (r:=Zaz K) (Zba hr) (pv 8) (Zm Za) (Z4 _)) Z2 Zv) ⟨_,rfl,sz (by simp),fun le H19 s19 n19 e19=>.inr (.inl ⟨4,.lst (rs.map fun ss=>.tup (.str sig ::ss.map Yi)),.lst [],by decide,.inr ⟨_,_,rfl,rfl⟩,Im.lst (SqL.of (s19.at hlf)) (Im.pair hfs fun _ ss r=>?_),Im.lst (SqL.of e19) .nil,_,rfl,?_⟩)⟩
  ·obtain ⟨us,r1,r2⟩:=r.mono s19
   exact Im.tupI (n:=2) (SqT.of r1) (.cons (.str _) (Ims.ofP (Im.pair r2 fun _ _ z=>Im.tupI (n:=1) (SqT.of z) (.cons (.str _) (.cons (.str _) (.cons (.str _) (.cons (.str _) .nil)))))))
  rw [if_neg (by decide),Zra]
  have tr:=tr.mono s19
  have rg:=s19.at rg
  have hS:=s19.seq hS
  refine Ym (fun z=>?_) (fun z=>?_)
  ·refine WSs.last (Zq (W1 Zub (Zu (Zbw T) hr rfl T.m_is_route T.d_is_route.F.kp T.d_is_route.b .nil Z3 (Zb (pv 2) (Zb (Zg (Zb (Zp (r:=rIx K) Zk (pv 5) Ze (fun _ _=>rfl)) Za)) Za))) Zcw (Z4 _))) ⟨_,rfl,_,rfl,.inr (.inl ⟨tg,_,0,_,rfl,rfl,SqT.of rg,Zn (j:=0) rfl,sz (by simp),fun u H20 s20 n20 e20=>⟨x,.ref u,some [.str sig],ps,js,sg,rfl,tr.mono s20,yv,(X5.mk1 e20 (Zew _)).th (by show 1<=40;decide),fun H21 s21=>⟨_,_,rfl,rfl,q _⟩⟩⟩)⟩
  have hlf:=s19.at hlf
  have hfs:=Paired.mapP hfs fun _ _ r=>Zc8.mono s19 r
  have hfp:0<fs.length:=by
   rw [hfl]
   cases rs with
   | nil=>exact absurd rfl z
   | cons _ _=>exact Nat.succ_pos _
  obtain ⟨m2,hm2,hm2f⟩:=Zb5 (a:=c / 1000) (n:=fs.length) hfp
  obtain ⟨tr',htr'⟩:∃tr',fs[m2]? =some tr':=⟨_,List.getElem?_eq_getElem hm2f⟩
  obtain ⟨ss,hss,hrt⟩:=Paired.get hfs htr'
  have rok:Zf8 ps js sg e ss:=Ztp 13 .nil ss (hp.mem_iff.mp (List.mem_of_getElem? hss))
  refine WSs.step (Zx (i:=9) Zc1.nd (Zp (r:=rIx K) Zk (pv 8) (Zl Yo (Zl Yt (pv 3) Ze) (Z0 (r:=X0 K) X3 (by rfl) T.n_len PySem.boot_len (Zb (pv 8) Za))) (fun _ _=>rfl))) ⟨_,rfl,_,rfl,_,_,rfl,rfl,⟨by decide,by decide⟩,_,rfl,.inl ⟨lf,_,rfl,.inl (SqL.of hlf),_,_,rfl,rfl,?_,.inl ⟨lf,_,_,.ref tr',rfl,rfl,SqL.of hlf,?_,?_⟩⟩⟩
  ·show (0:Int)<_
   rw [List.length_map];omega
  ·rw [List.length_map,show c / 1000%(fs.length:Int)=(m2:Int) from hm2]
   exact Zn (by rw [List.getElem?_map,htr'];rfl)
  refine WSs.step (Zx (i:=10) Zc1.nd (Zu (Zj0 T) hr rfl T.m__law_spoilt T.d__law_spoilt.F.kp T.d__law_spoilt.b .nil Z3 (Zb (pv 9) (Zb (Zu (Zcz T) hr rfl T.m__law_cell_at T.d__law_cell_at.F.kp T.d__law_cell_at.b .nil Z3 (Zb (pv 0) (Zb Ze Za))) Za)))) ⟨_,rfl,_,rfl,a,ns,2,rfl,hS,tr',_,(sig,e),ss,ps,js,sg,rfl,yo,hgm,hrt,rok,fun vo H20 s20 ⟨oo,hoo,hof2⟩=>?_⟩
  have tr:=tr.mono s20
  have hrt:=hrt.mono s20
  have sl12:ss.length<=12:=by
   obtain ⟨ss',q',rfl,_,hq,_⟩:=rok
   have:=(Zby hq).2.2
   rw [List.length_append]
   show _+1<=12
   omega
  have sl40:(Tr.str sig ::ss.map Yi).length<=40:=by rw [List.length_cons,List.length_map];omega
  have yes:Zwb ps js sg (some (.str sig ::ss.map Yi))=true:=(Zax yv hgm _).trans rok.yes
  refine WSs.step (Ye (PW.pt (Zg6 (Zs Zmb (Zu (Zbw T) hr rfl T.m_is_route T.d_is_route.F.kp T.d_is_route.b .nil Z3 (Zb (pv 2) (Zb (pv 9) Za))) Zcw (Z4 _)) (Zd6 (Zs Zmb (Zu (Zbw T) hr rfl T.m_is_route T.d_is_route.F.kp T.d_is_route.b .nil Z3 (Zb (pv 2) (Zb (pv 10) Za))) Zcw (Z4 _))))) Z2 Zv) ⟨_,rfl,_,rfl,x,.ref tr',some (.str sig ::ss.map Yi),ps,js,sg,rfl,tr,yv,hrt.t.th sl40,fun H21 s21=>⟨_,_,rfl,rfl,_,rfl,Ym (fun z=>?_) (fun _=>⟨_,rfl,_,rfl,x,vo,oo,ps,js,sg,rfl,tr.mono s21,yv,hoo.mono s21,fun H22 s22=>⟨_,_,rfl,rfl,_,rfl,Ym (fun z=>?_) (fun _=>?_)⟩⟩)⟩⟩
  ·rw [yes] at z
   exact (no z).elim
  ·rw [hof2] at z
   exact (no z).elim
  have s2022:=s21.trans s22
  have tr:=tr.mono s2022
  obtain ⟨us,hu1,hu2⟩:=hrt.mono s2022
  have hul:=Paired.length hu2
  refine WSs.last (Zq (W1 Zub (Zu (Zbw T) hr rfl T.m_is_route T.d_is_route.F.kp T.d_is_route.b .nil Z3 (Zb (pv 2) (Zb (Zl Yu (Zg (Zb (Zp (r:=rIx K) Zk (pv 9) Ze (fun _ _=>rfl)) Za)) (Xx (r:=Zuy K) Zha (by rfl) T.n_tuple PyProof.Rows.boot_tuple (Zb (Xn (N':=["_law_step"]) rfl (Ya.std 1 [] rfl (by trivial) (by trivial) rfl trivial rfl rfl trivial) (Zp6 (Yr (r:=Zbq K) Zcl (pv 9) (Yy Ze) Yz)) (fun _ _ _ _=>(Zbn (i:=0) (by show (["_law_step"]:List Str).Nodup;decide +kernel))) (fun _ _ _ _=>W0) (fun _ _ _ _=>(Xx (r:=Zuy K) Zha (by rfl) T.n_tuple PyProof.Rows.boot_tuple (Zb (Xx (r:=Zqn K) Ze9 (by rfl) T.n_list PyProof.Rows.boot_list (Zb (pv 0) Za)) Za)))) Za))) Za))) Zcw (Z4 _))) ⟨_,rfl,_,rfl,.inr (.inl ⟨tr',_,0,_,rfl,rfl,SqT.of hu1,Zn (j:=0) rfl,sz (by simp),fun a23 H23 s23 n23 e23=>?_⟩)⟩
  refine ⟨_,rfl,_,rfl,.inl ⟨tr',_,rfl,SqT.of (s23.at hu1),?_,fun a24 H24 s24 n24 e24=>⟨a24,rfl,⟨_,SqT.of e24⟩,fun D hD=>?_⟩⟩⟩
  ·rintro ⟨y,_⟩
   have:HT.sIx (V.str sig ::us.map V.ref).length 0 (some 1)=1:=by
    unfold HT.sIx
    simp
   rw [this] at y
   cases y
  have e24:H24 a24=some (.tup (us.map V.ref)):=by
   have e24:H24 a24=some (.tup (Zfd (V.str sig ::us.map V.ref) (some ((1:Nat):Int)) none)):=e24
   rw [Zcv] at e24
   exact e24
  have hu4:Paired (Y7 H24) us ss:=Paired.mapP hu2 fun _ _ r=>Y7.mono (s23.trans s24) r
  refine Zof (K:=K) (xs:=us.map V.ref) (fun i ys H'=>(∃ws:List Addr,ys=ws.map V.ref/\Paired (Y7 H') ws (ss.take i))/\H' D=some (.lst ys)/\Same H24 H') ⟨⟨[],rfl,.nil⟩,Zh,Same.new hD⟩ ?_ ?_ ?_
  ·rintro i ys H' _ ⟨_,_,sm⟩
   exact SqT.of (sm.at e24)
  ·rintro i v ys H25 hi ⟨⟨ws,rfl,hws⟩,hD5,s25⟩
   rw [List.getElem?_map] at hi
   obtain ⟨tq,htq,rfl⟩:=Option.map_eq_some_iff.mp hi
   obtain ⟨qq,hqq,rq⟩:=Paired.get hu4 htq
   have hwl:=Paired.length hws
   rw [List.length_take] at hwl
   refine ⟨W2.set rfl,_,rfl,tq,_,rfl,.inr (SqT.of (s25.at rq)),fun l6 H26 s26 n26 e26=>⟨l6,_,rfl,SqL.of e26,fun t7 H27 s27 n27 e27=>⟨(s26.trans s27).at hD5,by rw [List.length_map];exact Zy (by omega),⟨ws++[t7],by rw [List.map_append];rfl,?_⟩,Zh,fun b o y=>?_⟩⟩⟩
   ·rw [List.take_add_one,hqq]
    have hD7:=(s26.trans s27).at hD5
    exact Paired.append (Paired.mapP hws fun _ _ r=>(Y7.mono (s26.trans s27) r).off hD7) (.cons (Y7.off (q:=qq) e27 hD7) .nil)
   ·rw [Zj (Zi y hD)];exact (s25.trans (s26.trans s27)).at y
  rintro ys H25 ⟨⟨ws,rfl,hws⟩,hD5,s25⟩
  rw [List.length_map,hul,List.take_length] at hws
  have hwl:=Paired.length hws
  refine ⟨D,_,rfl,SqL.of hD5,fun a26 H26 s26 n26 e26=>⟨a23,a26,_,_,rfl,rfl,(s24.trans (s25.trans s26)).at e23,e26,by simp,sz (by show 1+_<=_;rw [List.length_map];omega),fun a27 H27 s27 e27=>?_⟩⟩
  have rt27:Zc8 H27 a27 sig ss:=⟨ws,e27,Paired.mapP hws fun _ _ r=>Y7.mono (s26.trans s27) r⟩
  refine ⟨x,.ref a27,some (.str sig ::ss.map Yi),ps,js,sg,rfl,tr.mono (s23.trans (s24.trans (s25.trans (s26.trans s27)))),yv,rt27.t.th sl40,fun H28 s28=>⟨_,_,rfl,rfl,?_⟩⟩
  rw [yes]
  exact q _
end
end K24
end
namespace K24
open PySem L2 NM YM
section
end
theorem Zas{α:Type}:∀{us:List α},us.length=1->∃a,us=[a]
 | [a],_=>⟨a,rfl⟩
theorem X4{α:Type}:∀{us:List α},us.length=2->∃a b,us=[a,b]
 | [a,b],_=>⟨a,b,rfl⟩
theorem Zn0{α:Type}:∀{us:List α},us.length=3->∃a b c,us=[a,b,c]
 | [a,b,c],_=>⟨a,b,c,rfl⟩
theorem Ya3{α:Type}:∀{us:List α},us.length=4->∃a b c d,us=[a,b,c,d]
 | [a,b,c,d],_=>⟨a,b,c,d,rfl⟩
theorem all_mk{l:PySem.W.OpenLaw}{w:World}{K:Frag}{h:Heap}{mg:Str->Option Value}{fa f0 f1 f2 f3 f4 f5 f6 f7 f8 f9 f10 f11 f12 f13 f14 f15 f16 f17 f18 f19 f20 f21 f22 f23 f24 f25 f26 f27 f28 f29 f30 f31 f32 f33 f34 f35 f36 f37 f38 f39 f40 f41 f42 f43 f44 f45 f46 f47 f48 f49 f50 f51 f52 f53 f54 f55 f56 f57 cPart cPlain cStop cGate cPoints cCross cTracks:Addr}(X:K.In h)(G:h.Ns mainGlobals mg) (hfa:mg "law" =some (.ref fa))
  {tk_LETTERS:Tok} {tk_FIGURES:Tok}
  {td5:Addr} {dod5:Option Addr} {dsl5:Array (Option Value)} {doc5:Value} {dn5:Nat} {dtk5:Tok} {td31:Addr} {dod31:Option Addr} {dsl31:Array (Option Value)} {doc31:Value} {dn31:Nat} {tk_LONGEST_NAME:Tok} {tk_MOST_PARTS:Tok} {tk_MOST_SIGNALS:Tok} {tk_MOST_STEPS:Tok} {at_NO_END:Addr} {aod_NO_END:Option Addr} {asl_NO_END:Array (Option Value)} {an_NO_END:Nat} {atk0_NO_END atk1_NO_END:Tok}
  {od0 an0 od1 an1 od2 an2 od3 an3 od4 an4 od5 an5 od6 an6 od7 an7 od8 an8 od9 an9 od10 an10 od11 an11 od12 an12 od13 an13 od14 an14 od15 an15 od16 an16 od17 an17 od18 an18 od19 an19 od20 an20 od21 an21 od22 an22 od23 an23 od24 an24 od25 an25 od26 an26 od27 an27 od28 an28 od29 an29 od30 an30 od31 an31 od32 an32 od33 an33 od34 an34 od35 an35 od36 an36 od37 an37 od38 an38 od39 an39 od40 an40 od41 an41 od42 an42 od43 an43 od44 an44 od45 an45 od46 an46 od47 an47 od48 an48 od49 an49 od50 an50 od51 an51 od52 an52 od53 an53 od54 an54 od55 an55 od56 an56 od57 an57:Option Addr} {sl0 sl1 sl2 sl3 sl4 sl5 sl6 sl7 sl8 sl9 sl10 sl11 sl12 sl13 sl14 sl15 sl16 sl17 sl18 sl19 sl20 sl21 sl22 sl23 sl24 sl25 sl26 sl27 sl28 sl29 sl30 sl31 sl32 sl33 sl34 sl35 sl36 sl37 sl38 sl39 sl40 sl41 sl42 sl43 sl44 sl45 sl46 sl47 sl48 sl49 sl50 sl51 sl52 sl53 sl54 sl55 sl56 sl57:Array (Option Value)} {oc0 kV0 dc0 pm0 cd0 ct0 oc1 kV1 dc1 pm1 cd1 ct1 oc2 kV2 dc2 pm2 cd2 ct2 oc3 kV3 dc3 pm3 cd3 ct3 oc4 kV4 dc4 pm4 cd4 ct4 oc5 kV5 dc5 pm5 cd5 ct5 oc6 kV6 dc6 pm6 cd6 ct6 oc7 kV7 dc7 pm7 cd7 ct7 oc8 kV8 dc8 pm8 cd8 ct8 oc9 kV9 dc9 pm9 cd9 ct9 oc10 kV10 dc10 pm10 cd10 ct10 oc11 kV11 dc11 pm11 cd11 ct11 oc12 kV12 dc12 pm12 cd12 ct12 oc13 kV13 dc13 pm13 cd13 ct13 oc14 kV14 dc14 pm14 cd14 ct14 oc15 kV15 dc15 pm15 cd15 ct15 oc16 kV16 dc16 pm16 cd16 ct16 oc17 kV17 dc17 pm17 cd17 ct17 oc18 kV18 dc18 pm18 cd18 ct18 oc19 kV19 dc19 pm19 cd19 ct19 oc20 kV20 dc20 pm20 cd20 ct20 oc21 kV21 dc21 pm21 cd21 ct21 oc22 kV22 dc22 pm22 cd22 ct22 oc23 kV23 dc23 pm23 cd23 ct23 oc24 kV24 dc24 pm24 cd24 ct24 oc25 kV25 dc25 pm25 cd25 ct25 oc26 kV26 dc26 pm26 cd26 ct26 oc27 kV27 dc27 pm27 cd27 ct27 oc28 kV28 dc28 pm28 cd28 ct28 oc29 kV29 dc29 pm29 cd29 ct29 oc30 kV30 dc30 pm30 cd30 ct30 oc31 kV31 dc31 pm31 cd31 ct31 oc32 kV32 dc32 pm32 cd32 ct32 oc33 kV33 dc33 pm33 cd33 ct33 oc34 kV34 dc34 pm34 cd34 ct34 oc35 kV35 dc35 pm35 cd35 ct35 oc36 kV36 dc36 pm36 cd36 ct36 oc37 kV37 dc37 pm37 cd37 ct37 oc38 kV38 dc38 pm38 cd38 ct38 oc39 kV39 dc39 pm39 cd39 ct39 oc40 kV40 dc40 pm40 cd40 ct40 oc41 kV41 dc41 pm41 cd41 ct41 oc42 kV42 dc42 pm42 cd42 ct42 oc43 kV43 dc43 pm43 cd43 ct43 oc44 kV44 dc44 pm44 cd44 ct44 oc45 kV45 dc45 pm45 cd45 ct45 oc46 kV46 dc46 pm46 cd46 ct46 oc47 kV47 dc47 pm47 cd47 ct47 oc48 kV48 dc48 pm48 cd48 ct48 oc49 kV49 dc49 pm49 cd49 ct49 oc50 kV50 dc50 pm50 cd50 ct50 oc51 kV51 dc51 pm51 cd51 ct51 oc52 kV52 dc52 pm52 cd52 ct52 oc53 kV53 dc53 pm53 cd53 ct53 oc54 kV54 dc54 pm54 cd54 ct54 oc55 kV55 dc55 pm55 cd55 ct55 oc56 kV56 dc56 pm56 cd56 ct56 oc57 kV57 dc57 pm57 cd57 ct57:Value}
  (z_aa:nsIn K mainGlobals "Part" =some (some (.ref cPart)))
  (z_ab:nsIn K mainGlobals "Plain" =some (some (.ref cPlain)))
  (z_ac:nsIn K mainGlobals "Stop" =some (some (.ref cStop)))
  (z_ad:nsIn K mainGlobals "Gate" =some (some (.ref cGate)))
  (z_ae:nsIn K mainGlobals "Points" =some (some (.ref cPoints)))
  (z_af:nsIn K mainGlobals "Cross" =some (some (.ref cCross)))
  (z_ag:nsIn K mainGlobals "Tracks" =some (some (.ref cTracks)))
  (a0:nsIn K mainGlobals "is_name" =some (some (.ref f0)))
  (l0:K.lookup f0=some ⟨oc0,od0,.func (fnOf "is_name" "is_name" (Zr Zcn) (Zo Zcn) (Zd Zcn) .none kV0 dc0 pm0 an0 cd0 ct0),sl0⟩)
  (e0:codeIn K cd0 "is_name" =true)
  (k0:keepIn K (.ref f0)=true)
  (a1:findIn K (.ref cPart) "__init__" =some (some (.ref f1)))
  (l1:K.lookup f1=some ⟨oc1,od1,.func (fnOf "__init__" "Part.__init__" (Zr Xs) (Zo Xs) (Zd Xs) .none kV1 dc1 pm1 an1 cd1 ct1),sl1⟩)
  (e1:codeIn K cd1 "Part.__init__" =true)
  (k1:keepIn K (.ref f1)=true)
  (a2:findIn K (.ref cPart) "ends" =some (some (.ref f2)))
  (l2:K.lookup f2=some ⟨oc2,od2,.func (fnOf "ends" "Part.ends" (Zr Za4) (Zo Za4) (Zd Za4) .none kV2 dc2 pm2 an2 cd2 ct2),sl2⟩)
  (e2:codeIn K cd2 "Part.ends" =true)
  (k2:keepIn K (.ref f2)=true)
  (a3:findIn K (.ref cPart) "lies" =some (some (.ref f3)))
  (l3:K.lookup f3=some ⟨oc3,od3,.func (fnOf "lies" "Part.lies" (Zr Za7) (Zo Za7) (Zd Za7) .none kV3 dc3 pm3 an3 cd3 ct3),sl3⟩)
  (e3:codeIn K cd3 "Part.lies" =true)
  (k3:keepIn K (.ref f3)=true)
  (a4:findIn K (.ref cPart) "pairs" =some (some (.ref f4)))
  (l4:K.lookup f4=some ⟨oc4,od4,.func (fnOf "pairs" "Part.pairs" (Zr Zag) (Zo Zag) (Zd Zag) .none kV4 dc4 pm4 an4 cd4 ct4),sl4⟩)
  (e4:codeIn K cd4 "Part.pairs" =true)
  (k4:keepIn K (.ref f4)=true)
  (a5:findIn K (.ref cPart) "leads" =some (some (.ref f5)))
  (l5:K.lookup f5=some ⟨oc5,od5,.func (fnOf "leads" "Part.leads" (Zr Zai) (Zo Zai) (Zd Zai) (.ref td5) kV5 dc5 pm5 an5 cd5 ct5),sl5⟩)
  (ld5:K.lookup td5=some ⟨doc5,dod5,.seq #[.str "" dtk5] dn5,dsl5⟩)
  (e5:codeIn K cd5 "Part.leads" =true)
  (k5:keepIn K (.ref f5)=true)
  (a6:findIn K (.ref cPart) "bears" =some (some (.ref f6)))
  (l6:K.lookup f6=some ⟨oc6,od6,.func (fnOf "bears" "Part.bears" (Zr W8) (Zo W8) (Zd W8) .none kV6 dc6 pm6 an6 cd6 ct6),sl6⟩)
  (e6:codeIn K cd6 "Part.bears" =true)
  (k6:keepIn K (.ref f6)=true)
  (a7:findIn K (.ref cStop) "ends" =some (some (.ref f7)))
  (l7:K.lookup f7=some ⟨oc7,od7,.func (fnOf "ends" "Stop.ends" (Zr Za0) (Zo Za0) (Zd Za0) .none kV7 dc7 pm7 an7 cd7 ct7),sl7⟩)
  (e7:codeIn K cd7 "Stop.ends" =true)
  (k7:keepIn K (.ref f7)=true)
  (a8:findIn K (.ref cStop) "pairs" =some (some (.ref f8)))
  (l8:K.lookup f8=some ⟨oc8,od8,.func (fnOf "pairs" "Stop.pairs" (Zr Zaa) (Zo Zaa) (Zd Zaa) .none kV8 dc8 pm8 an8 cd8 ct8),sl8⟩)
  (e8:codeIn K cd8 "Stop.pairs" =true)
  (k8:keepIn K (.ref f8)=true)
  (a9:findIn K (.ref cPoints) "ends" =some (some (.ref f9)))
  (l9:K.lookup f9=some ⟨oc9,od9,.func (fnOf "ends" "Points.ends" (Zr Ws) (Zo Ws) (Zd Ws) .none kV9 dc9 pm9 an9 cd9 ct9),sl9⟩)
  (e9:codeIn K cd9 "Points.ends" =true)
  (k9:keepIn K (.ref f9)=true)
  (a10:findIn K (.ref cPoints) "lies" =some (some (.ref f10)))
  (l10:K.lookup f10=some ⟨oc10,od10,.func (fnOf "lies" "Points.lies" (Zr Wu) (Zo Wu) (Zd Wu) .none kV10 dc10 pm10 an10 cd10 ct10),sl10⟩)
  (e10:codeIn K cd10 "Points.lies" =true)
  (k10:keepIn K (.ref f10)=true)
  (a11:findIn K (.ref cPoints) "pairs" =some (some (.ref f11)))
  (l11:K.lookup f11=some ⟨oc11,od11,.func (fnOf "pairs" "Points.pairs" (Zr X7) (Zo X7) (Zd X7) .none kV11 dc11 pm11 an11 cd11 ct11),sl11⟩)
  (e11:codeIn K cd11 "Points.pairs" =true)
  (k11:keepIn K (.ref f11)=true)
  (a12:findIn K (.ref cPoints) "bears" =some (some (.ref f12)))
  (l12:K.lookup f12=some ⟨oc12,od12,.func (fnOf "bears" "Points.bears" (Zr Wa) (Zo Wa) (Zd Wa) .none kV12 dc12 pm12 an12 cd12 ct12),sl12⟩)
  (e12:codeIn K cd12 "Points.bears" =true)
  (k12:keepIn K (.ref f12)=true)
  (a13:findIn K (.ref cCross) "ends" =some (some (.ref f13)))
  (l13:K.lookup f13=some ⟨oc13,od13,.func (fnOf "ends" "Cross.ends" (Zr Zan) (Zo Zan) (Zd Zan) .none kV13 dc13 pm13 an13 cd13 ct13),sl13⟩)
  (e13:codeIn K cd13 "Cross.ends" =true)
  (k13:keepIn K (.ref f13)=true)
  (a14:findIn K (.ref cCross) "pairs" =some (some (.ref f14)))
  (l14:K.lookup f14=some ⟨oc14,od14,.func (fnOf "pairs" "Cross.pairs" (Zr Wy) (Zo Wy) (Zd Wy) .none kV14 dc14 pm14 an14 cd14 ct14),sl14⟩)
  (e14:codeIn K cd14 "Cross.pairs" =true)
  (k14:keepIn K (.ref f14)=true)
  (a15:findIn K (.ref cCross) "bears" =some (some (.ref f15)))
  (l15:K.lookup f15=some ⟨oc15,od15,.func (fnOf "bears" "Cross.bears" (Zr Wn) (Zo Wn) (Zd Wn) .none kV15 dc15 pm15 an15 cd15 ct15),sl15⟩)
  (e15:codeIn K cd15 "Cross.bears" =true)
  (k15:keepIn K (.ref f15)=true)
  (a16:nsIn K mainGlobals "steps_into" =some (some (.ref f16)))
  (l16:K.lookup f16=some ⟨oc16,od16,.func (fnOf "steps_into" "steps_into" (Zr Zaj) (Zo Zaj) (Zd Zaj) .none kV16 dc16 pm16 an16 cd16 ct16),sl16⟩)
  (e16:codeIn K cd16 "steps_into" =true)
  (k16:keepIn K (.ref f16)=true)
  (a17:nsIn K mainGlobals "end_behind" =some (some (.ref f17)))
  (l17:K.lookup f17=some ⟨oc17,od17,.func (fnOf "end_behind" "end_behind" (Zr Zad) (Zo Zad) (Zd Zad) .none kV17 dc17 pm17 an17 cd17 ct17),sl17⟩)
  (e17:codeIn K cd17 "end_behind" =true)
  (k17:keepIn K (.ref f17)=true)
  (a18:nsIn K mainGlobals "ends_there" =some (some (.ref f18)))
  (l18:K.lookup f18=some ⟨oc18,od18,.func (fnOf "ends_there" "ends_there" (Zr W9) (Zo W9) (Zd W9) .none kV18 dc18 pm18 an18 cd18 ct18),sl18⟩)
  (e18:codeIn K cd18 "ends_there" =true)
  (k18:keepIn K (.ref f18)=true)
  (a19:nsIn K mainGlobals "steps_on" =some (some (.ref f19)))
  (l19:K.lookup f19=some ⟨oc19,od19,.func (fnOf "steps_on" "steps_on" (Zr Zbs) (Zo Zbs) (Zd Zbs) .none kV19 dc19 pm19 an19 cd19 ct19),sl19⟩)
  (e19:codeIn K cd19 "steps_on" =true)
  (k19:keepIn K (.ref f19)=true)
  (a20:nsIn K mainGlobals "routes_from" =some (some (.ref f20)))
  (l20:K.lookup f20=some ⟨oc20,od20,.func (fnOf "routes_from" "routes_from" (Zr Wr) (Zo Wr) (Zd Wr) .none kV20 dc20 pm20 an20 cd20 ct20),sl20⟩)
  (e20:codeIn K cd20 "routes_from" =true)
  (k20:keepIn K (.ref f20)=true)
  (a21:nsIn K mainGlobals "is_route" =some (some (.ref f21)))
  (l21:K.lookup f21=some ⟨oc21,od21,.func (fnOf "is_route" "is_route" (Zr Zbo) (Zo Zbo) (Zd Zbo) .none kV21 dc21 pm21 an21 cd21 ct21),sl21⟩)
  (e21:codeIn K cd21 "is_route" =true)
  (k21:keepIn K (.ref f21)=true)
  (a22:nsIn K mainGlobals "is_pair" =some (some (.ref f22)))
  (l22:K.lookup f22=some ⟨oc22,od22,.func (fnOf "is_pair" "is_pair" (Zr Zcp) (Zo Zcp) (Zd Zcp) .none kV22 dc22 pm22 an22 cd22 ct22),sl22⟩)
  (e22:codeIn K cd22 "is_pair" =true)
  (k22:keepIn K (.ref f22)=true)
  (a23:nsIn K mainGlobals "is_known" =some (some (.ref f23)))
  (l23:K.lookup f23=some ⟨oc23,od23,.func (fnOf "is_known" "is_known" (Zr Zb2) (Zo Zb2) (Zd Zb2) .none kV23 dc23 pm23 an23 cd23 ct23),sl23⟩)
  (e23:codeIn K cd23 "is_known" =true)
  (k23:keepIn K (.ref f23)=true)
  (a24:nsIn K mainGlobals "refuse_name" =some (some (.ref f24)))
  (l24:K.lookup f24=some ⟨oc24,od24,.func (fnOf "refuse_name" "refuse_name" (Zr Ww) (Zo Ww) (Zd Ww) .none kV24 dc24 pm24 an24 cd24 ct24),sl24⟩)
  (e24:codeIn K cd24 "refuse_name" =true)
  (k24:keepIn K (.ref f24)=true)
  (a25:nsIn K mainGlobals "parts_by_name" =some (some (.ref f25)))
  (l25:K.lookup f25=some ⟨oc25,od25,.func (fnOf "parts_by_name" "parts_by_name" (Zr Xt) (Zo Xt) (Zd Xt) .none kV25 dc25 pm25 an25 cd25 ct25),sl25⟩)
  (e25:codeIn K cd25 "parts_by_name" =true)
  (k25:keepIn K (.ref f25)=true)
  (a26:nsIn K mainGlobals "ends_to_parts" =some (some (.ref f26)))
  (l26:K.lookup f26=some ⟨oc26,od26,.func (fnOf "ends_to_parts" "ends_to_parts" (Zr Xz) (Zo Xz) (Zd Xz) .none kV26 dc26 pm26 an26 cd26 ct26),sl26⟩)
  (e26:codeIn K cd26 "ends_to_parts" =true)
  (k26:keepIn K (.ref f26)=true)
  (a27:nsIn K mainGlobals "refuse_join" =some (some (.ref f27)))
  (l27:K.lookup f27=some ⟨oc27,od27,.func (fnOf "refuse_join" "refuse_join" (Zr Wq) (Zo Wq) (Zd Wq) .none kV27 dc27 pm27 an27 cd27 ct27),sl27⟩)
  (e27:codeIn K cd27 "refuse_join" =true)
  (k27:keepIn K (.ref f27)=true)
  (a28:nsIn K mainGlobals "joined_ends" =some (some (.ref f28)))
  (l28:K.lookup f28=some ⟨oc28,od28,.func (fnOf "joined_ends" "joined_ends" (Zr Wt) (Zo Wt) (Zd Wt) .none kV28 dc28 pm28 an28 cd28 ct28),sl28⟩)
  (e28:codeIn K cd28 "joined_ends" =true)
  (k28:keepIn K (.ref f28)=true)
  (a29:nsIn K mainGlobals "refuse_post" =some (some (.ref f29)))
  (l29:K.lookup f29=some ⟨oc29,od29,.func (fnOf "refuse_post" "refuse_post" (Zr Wo) (Zo Wo) (Zd Wo) .none kV29 dc29 pm29 an29 cd29 ct29),sl29⟩)
  (e29:codeIn K cd29 "refuse_post" =true)
  (k29:keepIn K (.ref f29)=true)
  (a30:nsIn K mainGlobals "posts_of" =some (some (.ref f30)))
  (l30:K.lookup f30=some ⟨oc30,od30,.func (fnOf "posts_of" "posts_of" (Zr Zbr) (Zo Zbr) (Zd Zbr) .none kV30 dc30 pm30 an30 cd30 ct30),sl30⟩)
  (e30:codeIn K cd30 "posts_of" =true)
  (k30:keepIn K (.ref f30)=true)
  (a31:findIn K (.ref cTracks) "__init__" =some (some (.ref f31)))
  (l31:K.lookup f31=some ⟨oc31,od31,.func (fnOf "__init__" "Tracks.__init__" (Zr Xb) (Zo Xb) (Zd Xb) (.ref td31) kV31 dc31 pm31 an31 cd31 ct31),sl31⟩)
  (ld31:K.lookup td31=some ⟨doc31,dod31,.seq #[.none] dn31,dsl31⟩)
  (e31:codeIn K cd31 "Tracks.__init__" =true)
  (k31:keepIn K (.ref f31)=true)
  (a32:findIn K (.ref cTracks) "named" =some (some (.ref f32)))
  (l32:K.lookup f32=some ⟨oc32,od32,.func (fnOf "named" "Tracks.named" (Zr X8) (Zo X8) (Zd X8) .none kV32 dc32 pm32 an32 cd32 ct32),sl32⟩)
  (e32:codeIn K cd32 "Tracks.named" =true)
  (k32:keepIn K (.ref f32)=true)
  (a33:findIn K (.ref cTracks) "beyond" =some (some (.ref f33)))
  (l33:K.lookup f33=some ⟨oc33,od33,.func (fnOf "beyond" "Tracks.beyond" (Zr Xr) (Zo Xr) (Zd Xr) .none kV33 dc33 pm33 an33 cd33 ct33),sl33⟩)
  (e33:codeIn K cd33 "Tracks.beyond" =true)
  (k33:keepIn K (.ref f33)=true)
  (a34:findIn K (.ref cTracks) "signal_at" =some (some (.ref f34)))
  (l34:K.lookup f34=some ⟨oc34,od34,.func (fnOf "signal_at" "Tracks.signal_at" (Zr Y6) (Zo Y6) (Zd Y6) .none kV34 dc34 pm34 an34 cd34 ct34),sl34⟩)
  (e34:codeIn K cd34 "Tracks.signal_at" =true)
  (k34:keepIn K (.ref f34)=true)
  (a35:findIn K (.ref cTracks) "signals" =some (some (.ref f35)))
  (l35:K.lookup f35=some ⟨oc35,od35,.func (fnOf "signals" "Tracks.signals" (Zr Xj) (Zo Xj) (Zd Xj) .none kV35 dc35 pm35 an35 cd35 ct35),sl35⟩)
  (e35:codeIn K cd35 "Tracks.signals" =true)
  (k35:keepIn K (.ref f35)=true)
  (a36:findIn K (.ref cTracks) "end_of" =some (some (.ref f36)))
  (l36:K.lookup f36=some ⟨oc36,od36,.func (fnOf "end_of" "Tracks.end_of" (Zr Xu) (Zo Xu) (Zd Xu) .none kV36 dc36 pm36 an36 cd36 ct36),sl36⟩)
  (e36:codeIn K cd36 "Tracks.end_of" =true)
  (k36:keepIn K (.ref f36)=true)
  (a37:nsIn K mainGlobals "_law_mixed" =some (some (.ref f37)))
  (l37:K.lookup f37=some ⟨oc37,od37,.func (fnOf "_law_mixed" "_law_mixed" (Zr Zab) (Zo Zab) (Zd Zab) .none kV37 dc37 pm37 an37 cd37 ct37),sl37⟩)
  (e37:codeIn K cd37 "_law_mixed" =true)
  (k37:keepIn K (.ref f37)=true)
  (a38:nsIn K mainGlobals "_law_cell_at" =some (some (.ref f38)))
  (l38:K.lookup f38=some ⟨oc38,od38,.func (fnOf "_law_cell_at" "_law_cell_at" (Zr X9) (Zo X9) (Zd X9) .none kV38 dc38 pm38 an38 cd38 ct38),sl38⟩)
  (e38:codeIn K cd38 "_law_cell_at" =true)
  (k38:keepIn K (.ref f38)=true)
  (a39:nsIn K mainGlobals "_law_cells" =some (some (.ref f39)))
  (l39:K.lookup f39=some ⟨oc39,od39,.func (fnOf "_law_cells" "_law_cells" (Zr Zap) (Zo Zap) (Zd Zap) .none kV39 dc39 pm39 an39 cd39 ct39),sl39⟩)
  (e39:codeIn K cd39 "_law_cells" =true)
  (k39:keepIn K (.ref f39)=true)
  (a40:nsIn K mainGlobals "_law_ends" =some (some (.ref f40)))
  (l40:K.lookup f40=some ⟨oc40,od40,.func (fnOf "_law_ends" "_law_ends" (Zr Za6) (Zo Za6) (Zd Za6) .none kV40 dc40 pm40 an40 cd40 ct40),sl40⟩)
  (e40:codeIn K cd40 "_law_ends" =true)
  (k40:keepIn K (.ref f40)=true)
  (a41:nsIn K mainGlobals "_law_name_by" =some (some (.ref f41)))
  (l41:K.lookup f41=some ⟨oc41,od41,.func (fnOf "_law_name_by" "_law_name_by" (Zr Wg) (Zo Wg) (Zd Wg) .none kV41 dc41 pm41 an41 cd41 ct41),sl41⟩)
  (e41:codeIn K cd41 "_law_name_by" =true)
  (k41:keepIn K (.ref f41)=true)
  (a42:nsIn K mainGlobals "_law_block" =some (some (.ref f42)))
  (l42:K.lookup f42=some ⟨oc42,od42,.func (fnOf "_law_block" "_law_block" (Zr Zaf) (Zo Zaf) (Zd Zaf) .none kV42 dc42 pm42 an42 cd42 ct42),sl42⟩)
  (e42:codeIn K cd42 "_law_block" =true)
  (k42:keepIn K (.ref f42)=true)
  (a43:nsIn K mainGlobals "_law_line" =some (some (.ref f43)))
  (l43:K.lookup f43=some ⟨oc43,od43,.func (fnOf "_law_line" "_law_line" (Zr Za5) (Zo Za5) (Zd Za5) .none kV43 dc43 pm43 an43 cd43 ct43),sl43⟩)
  (e43:codeIn K cd43 "_law_line" =true)
  (k43:keepIn K (.ref f43)=true)
  (a44:nsIn K mainGlobals "_law_closed" =some (some (.ref f44)))
  (l44:K.lookup f44=some ⟨oc44,od44,.func (fnOf "_law_closed" "_law_closed" (Zr Wp) (Zo Wp) (Zd Wp) .none kV44 dc44 pm44 an44 cd44 ct44),sl44⟩)
  (e44:codeIn K cd44 "_law_closed" =true)
  (k44:keepIn K (.ref f44)=true)
  (a45:nsIn K mainGlobals "_law_drawn" =some (some (.ref f45)))
  (l45:K.lookup f45=some ⟨oc45,od45,.func (fnOf "_law_drawn" "_law_drawn" (Zr Zac) (Zo Zac) (Zd Zac) .none kV45 dc45 pm45 an45 cd45 ct45),sl45⟩)
  (e45:codeIn K cd45 "_law_drawn" =true)
  (k45:keepIn K (.ref f45)=true)
  (a46:nsIn K mainGlobals "_law_signals_by" =some (some (.ref f46)))
  (l46:K.lookup f46=some ⟨oc46,od46,.func (fnOf "_law_signals_by" "_law_signals_by" (Zr Xc) (Zo Xc) (Zd Xc) .none kV46 dc46 pm46 an46 cd46 ct46),sl46⟩)
  (e46:codeIn K cd46 "_law_signals_by" =true)
  (k46:keepIn K (.ref f46)=true)
  (a47:nsIn K mainGlobals "_law_long" =some (some (.ref f47)))
  (l47:K.lookup f47=some ⟨oc47,od47,.func (fnOf "_law_long" "_law_long" (Zr Za8) (Zo Za8) (Zd Za8) .none kV47 dc47 pm47 an47 cd47 ct47),sl47⟩)
  (e47:codeIn K cd47 "_law_long" =true)
  (k47:keepIn K (.ref f47)=true)
  (a48:nsIn K mainGlobals "_law_yard_by" =some (some (.ref f48)))
  (l48:K.lookup f48=some ⟨oc48,od48,.func (fnOf "_law_yard_by" "_law_yard_by" (Zr We) (Zo We) (Zd We) .none kV48 dc48 pm48 an48 cd48 ct48),sl48⟩)
  (e48:codeIn K cd48 "_law_yard_by" =true)
  (k48:keepIn K (.ref f48)=true)
  (a49:nsIn K mainGlobals "_law_part" =some (some (.ref f49)))
  (l49:K.lookup f49=some ⟨oc49,od49,.func (fnOf "_law_part" "_law_part" (Zr Za2) (Zo Za2) (Zd Za2) .none kV49 dc49 pm49 an49 cd49 ct49),sl49⟩)
  (e49:codeIn K cd49 "_law_part" =true)
  (k49:keepIn K (.ref f49)=true)
  (a50:nsIn K mainGlobals "_law_tracks" =some (some (.ref f50)))
  (l50:K.lookup f50=some ⟨oc50,od50,.func (fnOf "_law_tracks" "_law_tracks" (Zr Wv) (Zo Wv) (Zd Wv) .none kV50 dc50 pm50 an50 cd50 ct50),sl50⟩)
  (e50:codeIn K cd50 "_law_tracks" =true)
  (k50:keepIn K (.ref f50)=true)
  (a51:nsIn K mainGlobals "_law_map" =some (some (.ref f51)))
  (l51:K.lookup f51=some ⟨oc51,od51,.func (fnOf "_law_map" "_law_map" (Zr Zb0) (Zo Zb0) (Zd Zb0) .none kV51 dc51 pm51 an51 cd51 ct51),sl51⟩)
  (e51:codeIn K cd51 "_law_map" =true)
  (k51:keepIn K (.ref f51)=true)
  (a52:nsIn K mainGlobals "_law_leads" =some (some (.ref f52)))
  (l52:K.lookup f52=some ⟨oc52,od52,.func (fnOf "_law_leads" "_law_leads" (Zr Zak) (Zo Zak) (Zd Zak) .none kV52 dc52 pm52 an52 cd52 ct52),sl52⟩)
  (e52:codeIn K cd52 "_law_leads" =true)
  (k52:keepIn K (.ref f52)=true)
  (a53:nsIn K mainGlobals "_law_into" =some (some (.ref f53)))
  (l53:K.lookup f53=some ⟨oc53,od53,.func (fnOf "_law_into" "_law_into" (Zr Za1) (Zo Za1) (Zd Za1) .none kV53 dc53 pm53 an53 cd53 ct53),sl53⟩)
  (e53:codeIn K cd53 "_law_into" =true)
  (k53:keepIn K (.ref f53)=true)
  (a54:nsIn K mainGlobals "_law_ends_so" =some (some (.ref f54)))
  (l54:K.lookup f54=some ⟨oc54,od54,.func (fnOf "_law_ends_so" "_law_ends_so" (Zr Wd) (Zo Wd) (Zd Wd) .none kV54 dc54 pm54 an54 cd54 ct54),sl54⟩)
  (e54:codeIn K cd54 "_law_ends_so" =true)
  (k54:keepIn K (.ref f54)=true)
  (a55:nsIn K mainGlobals "_law_round" =some (some (.ref f55)))
  (l55:K.lookup f55=some ⟨oc55,od55,.func (fnOf "_law_round" "_law_round" (Zr Zah) (Zo Zah) (Zd Zah) .none kV55 dc55 pm55 an55 cd55 ct55),sl55⟩)
  (e55:codeIn K cd55 "_law_round" =true)
  (k55:keepIn K (.ref f55)=true)
  (a56:nsIn K mainGlobals "_law_spoilt" =some (some (.ref f56)))
  (l56:K.lookup f56=some ⟨oc56,od56,.func (fnOf "_law_spoilt" "_law_spoilt" (Zr Wx) (Zo Wx) (Zd Wx) .none kV56 dc56 pm56 an56 cd56 ct56),sl56⟩)
  (e56:codeIn K cd56 "_law_spoilt" =true)
  (k56:keepIn K (.ref f56)=true)
  (a57:nsIn K mainGlobals "law" =some (some (.ref f57)))
  (l57:K.lookup f57=some ⟨oc57,od57,.func (fnOf "law" "law" (Zr Zfs) (Zo Zfs) (Zd Zfs) .none kV57 dc57 pm57 an57 cd57 ct57),sl57⟩)
  (e57:codeIn K cd57 "law" =true)
  (k57:keepIn K (.ref f57)=true)
  (z_ah:PySem.W.plainGet K cPart Str.empty=true)
  (z_ai:PySem.W.hasDictIn K cPart=true)
  (z_aj:PySem.W.plainOver K cPart=true)
  (z_ak:findIn K (.ref cPart) "__setattr__" =some (some (.builtin "object.__setattr__")))
  (z_al:findIn K (.ref cPart) "name" =some none)
  (z_am:PySem.W.makesIn K cPart=true)
  (z_an:findIn K (.ref cPart) "__init__" =some (some (.ref f1)))
  (z_ao:PySem.W.isFn K (.ref f1)=true)
  (z_ap:keepIn K (.ref cPart)=true)
  (z_aq:findIn K (.ref cPart) "ends" =some (some (.ref f2)))
  (z_ar:PySem.W.isFn K (.ref f2)=true)
  (z_as:keepIn K (.ref f2)=true)
  (z_at:findIn K (.ref cPart) "lies" =some (some (.ref f3)))
  (z_au:PySem.W.isFn K (.ref f3)=true)
  (z_av:keepIn K (.ref f3)=true)
  (z_aw:findIn K (.ref cPart) "pairs" =some (some (.ref f4)))
  (z_ax:PySem.W.isFn K (.ref f4)=true)
  (z_ay:keepIn K (.ref f4)=true)
  (z_az:findIn K (.ref cPart) "bears" =some (some (.ref f6)))
  (z_a0:PySem.W.isFn K (.ref f6)=true)
  (z_a1:keepIn K (.ref f6)=true)
  (z_a2:findIn K (.ref cPart) "leads" =some (some (.ref f5)))
  (z_a3:PySem.W.isFn K (.ref f5)=true)
  (z_a4:keepIn K (.ref f5)=true)
  (z_a5:PySem.W.plainGet K cPlain Str.empty=true)
  (z_a6:PySem.W.hasDictIn K cPlain=true)
  (z_a7:PySem.W.plainOver K cPlain=true)
  (z_a8:findIn K (.ref cPlain) "__setattr__" =some (some (.builtin "object.__setattr__")))
  (z_a9:findIn K (.ref cPlain) "name" =some none)
  (z_ba:PySem.W.makesIn K cPlain=true)
  (z_bb:findIn K (.ref cPlain) "__init__" =some (some (.ref f1)))
  (z_bc:PySem.W.isFn K (.ref f1)=true)
  (z_bd:keepIn K (.ref cPlain)=true)
  (z_be:findIn K (.ref cPlain) "ends" =some (some (.ref f2)))
  (z_bf:PySem.W.isFn K (.ref f2)=true)
  (z_bg:keepIn K (.ref f2)=true)
  (z_bh:findIn K (.ref cPlain) "lies" =some (some (.ref f3)))
  (z_bi:PySem.W.isFn K (.ref f3)=true)
  (z_bj:keepIn K (.ref f3)=true)
  (z_bk:findIn K (.ref cPlain) "pairs" =some (some (.ref f4)))
  (z_bl:PySem.W.isFn K (.ref f4)=true)
  (z_bm:keepIn K (.ref f4)=true)
  (z_bn:findIn K (.ref cPlain) "bears" =some (some (.ref f6)))
  (z_bo:PySem.W.isFn K (.ref f6)=true)
  (z_bp:keepIn K (.ref f6)=true)
  (z_bq:findIn K (.ref cPlain) "leads" =some (some (.ref f5)))
  (z_br:PySem.W.isFn K (.ref f5)=true)
  (z_bs:keepIn K (.ref f5)=true)
  (z_bt:PySem.W.plainGet K cStop Str.empty=true)
  (z_bu:PySem.W.hasDictIn K cStop=true)
  (z_bv:PySem.W.plainOver K cStop=true)
  (z_bw:findIn K (.ref cStop) "__setattr__" =some (some (.builtin "object.__setattr__")))
  (z_bx:findIn K (.ref cStop) "name" =some none)
  (z_by:PySem.W.makesIn K cStop=true)
  (z_bz:findIn K (.ref cStop) "__init__" =some (some (.ref f1)))
  (z_b0:PySem.W.isFn K (.ref f1)=true)
  (z_b1:keepIn K (.ref cStop)=true)
  (z_b2:findIn K (.ref cStop) "ends" =some (some (.ref f7)))
  (z_b3:PySem.W.isFn K (.ref f7)=true)
  (z_b4:keepIn K (.ref f7)=true)
  (z_b5:findIn K (.ref cStop) "lies" =some (some (.ref f3)))
  (z_b6:PySem.W.isFn K (.ref f3)=true)
  (z_b7:keepIn K (.ref f3)=true)
  (z_b8:findIn K (.ref cStop) "pairs" =some (some (.ref f8)))
  (z_b9:PySem.W.isFn K (.ref f8)=true)
  (z_ca:keepIn K (.ref f8)=true)
  (z_cb:findIn K (.ref cStop) "bears" =some (some (.ref f6)))
  (z_cc:PySem.W.isFn K (.ref f6)=true)
  (z_cd:keepIn K (.ref f6)=true)
  (z_ce:findIn K (.ref cStop) "leads" =some (some (.ref f5)))
  (z_cf:PySem.W.isFn K (.ref f5)=true)
  (z_cg:keepIn K (.ref f5)=true)
  (z_ch:PySem.W.plainGet K cGate Str.empty=true)
  (z_ci:PySem.W.hasDictIn K cGate=true)
  (z_cj:PySem.W.plainOver K cGate=true)
  (z_ck:findIn K (.ref cGate) "__setattr__" =some (some (.builtin "object.__setattr__")))
  (z_cl:findIn K (.ref cGate) "name" =some none)
  (z_cm:PySem.W.makesIn K cGate=true)
  (z_cn:findIn K (.ref cGate) "__init__" =some (some (.ref f1)))
  (z_co:PySem.W.isFn K (.ref f1)=true)
  (z_cp:keepIn K (.ref cGate)=true)
  (z_cq:findIn K (.ref cGate) "ends" =some (some (.ref f7)))
  (z_cr:PySem.W.isFn K (.ref f7)=true)
  (z_cs:keepIn K (.ref f7)=true)
  (z_ct:findIn K (.ref cGate) "lies" =some (some (.ref f3)))
  (z_cu:PySem.W.isFn K (.ref f3)=true)
  (z_cv:keepIn K (.ref f3)=true)
  (z_cw:findIn K (.ref cGate) "pairs" =some (some (.ref f8)))
  (z_cx:PySem.W.isFn K (.ref f8)=true)
  (z_cy:keepIn K (.ref f8)=true)
  (z_cz:findIn K (.ref cGate) "bears" =some (some (.ref f6)))
  (z_c0:PySem.W.isFn K (.ref f6)=true)
  (z_c1:keepIn K (.ref f6)=true)
  (z_c2:findIn K (.ref cGate) "leads" =some (some (.ref f5)))
  (z_c3:PySem.W.isFn K (.ref f5)=true)
  (z_c4:keepIn K (.ref f5)=true)
  (z_c5:PySem.W.plainGet K cPoints Str.empty=true)
  (z_c6:PySem.W.hasDictIn K cPoints=true)
  (z_c7:PySem.W.plainOver K cPoints=true)
  (z_c8:findIn K (.ref cPoints) "__setattr__" =some (some (.builtin "object.__setattr__")))
  (z_c9:findIn K (.ref cPoints) "name" =some none)
  (z_da:PySem.W.makesIn K cPoints=true)
  (z_db:findIn K (.ref cPoints) "__init__" =some (some (.ref f1)))
  (z_dc:PySem.W.isFn K (.ref f1)=true)
  (z_dd:keepIn K (.ref cPoints)=true)
  (z_de:findIn K (.ref cPoints) "ends" =some (some (.ref f9)))
  (z_df:PySem.W.isFn K (.ref f9)=true)
  (z_dg:keepIn K (.ref f9)=true)
  (z_dh:findIn K (.ref cPoints) "lies" =some (some (.ref f10)))
  (z_di:PySem.W.isFn K (.ref f10)=true)
  (z_dj:keepIn K (.ref f10)=true)
  (z_dk:findIn K (.ref cPoints) "pairs" =some (some (.ref f11)))
  (z_dl:PySem.W.isFn K (.ref f11)=true)
  (z_dm:keepIn K (.ref f11)=true)
  (z_dn:findIn K (.ref cPoints) "bears" =some (some (.ref f12)))
  (z_do:PySem.W.isFn K (.ref f12)=true)
  (z_dp:keepIn K (.ref f12)=true)
  (z_dq:findIn K (.ref cPoints) "leads" =some (some (.ref f5)))
  (z_dr:PySem.W.isFn K (.ref f5)=true)
  (z_ds:keepIn K (.ref f5)=true)
  (z_dt:PySem.W.plainGet K cCross Str.empty=true)
  (z_du:PySem.W.hasDictIn K cCross=true)
  (z_dv:PySem.W.plainOver K cCross=true)
  (z_dw:findIn K (.ref cCross) "__setattr__" =some (some (.builtin "object.__setattr__")))
  (z_dx:findIn K (.ref cCross) "name" =some none)
  (z_dy:PySem.W.makesIn K cCross=true)
  (z_dz:findIn K (.ref cCross) "__init__" =some (some (.ref f1)))
  (z_d0:PySem.W.isFn K (.ref f1)=true)
  (z_d1:keepIn K (.ref cCross)=true)
  (z_d2:findIn K (.ref cCross) "ends" =some (some (.ref f13)))
  (z_d3:PySem.W.isFn K (.ref f13)=true)
  (z_d4:keepIn K (.ref f13)=true)
  (z_d5:findIn K (.ref cCross) "lies" =some (some (.ref f3)))
  (z_d6:PySem.W.isFn K (.ref f3)=true)
  (z_d7:keepIn K (.ref f3)=true)
  (z_d8:findIn K (.ref cCross) "pairs" =some (some (.ref f14)))
  (z_d9:PySem.W.isFn K (.ref f14)=true)
  (z_ea:keepIn K (.ref f14)=true)
  (z_eb:findIn K (.ref cCross) "bears" =some (some (.ref f15)))
  (z_ec:PySem.W.isFn K (.ref f15)=true)
  (z_ed:keepIn K (.ref f15)=true)
  (z_ee:findIn K (.ref cCross) "leads" =some (some (.ref f5)))
  (z_ef:PySem.W.isFn K (.ref f5)=true)
  (z_eg:keepIn K (.ref f5)=true)
  (z_eh:PySem.W.plainGet K cTracks Str.empty=true)
  (z_ei:PySem.W.hasDictIn K cTracks=true)
  (z_ej:PySem.W.plainOver K cTracks=true)
  (z_ek:findIn K (.ref cTracks) "__setattr__" =some (some (.builtin "object.__setattr__")))
  (z_el:findIn K (.ref cTracks) "part_of" =some none)
  (z_em:findIn K (.ref cTracks) "joined" =some none)
  (z_en:findIn K (.ref cTracks) "post_of" =some none)
  (z_eo:findIn K (.ref cTracks) "signal_on" =some none)
  (z_ep:PySem.W.makesIn K cTracks=true)
  (z_eq:findIn K (.ref cTracks) "__init__" =some (some (.ref f31)))
  (z_er:PySem.W.isFn K (.ref f31)=true)
  (z_es:keepIn K (.ref cTracks)=true)
  (z_et:findIn K (.ref cTracks) "named" =some (some (.ref f32)))
  (z_eu:PySem.W.isFn K (.ref f32)=true)
  (z_ev:keepIn K (.ref f32)=true)
  (z_ew:findIn K (.ref cTracks) "beyond" =some (some (.ref f33)))
  (z_ex:PySem.W.isFn K (.ref f33)=true)
  (z_ey:keepIn K (.ref f33)=true)
  (z_ez:findIn K (.ref cTracks) "signal_at" =some (some (.ref f34)))
  (z_e0:PySem.W.isFn K (.ref f34)=true)
  (z_e1:keepIn K (.ref f34)=true)
  (z_e2:findIn K (.ref cTracks) "signals" =some (some (.ref f35)))
  (z_e3:PySem.W.isFn K (.ref f35)=true)
  (z_e4:keepIn K (.ref f35)=true)
  (z_e5:findIn K (.ref cTracks) "end_of" =some (some (.ref f36)))
  (z_e6:PySem.W.isFn K (.ref f36)=true)
  (z_e7:keepIn K (.ref f36)=true)
  (z_e8:nsIn K mainGlobals "len" =some none)
  (z_e9:nsIn K mainGlobals "range" =some none)
  (z_fa:nsIn K mainGlobals "isinstance" =some none)
  (z_fb:nsIn K mainGlobals "list" =some none)
  (z_fc:nsIn K mainGlobals "dict" =some none)
  (z_fd:nsIn K mainGlobals "tuple" =some none)
  (z_fe:nsIn K mainGlobals "str" =some none)
  (z_ff:nsIn K mainGlobals "enumerate" =some none)
  (z_fg:nsIn K mainGlobals "max" =some none)
  (z_fh:nsIn K mainGlobals "min" =some none)
  (z_fi:nsIn K mainGlobals "sum" =some none)
  (z_fj:nsIn K mainGlobals "sorted" =some none)
  (z_fk:nsIn K mainGlobals "all" =some none)
  (z_fl:kitOne K (.type "tuple") (.type "tuple")=some true)
  (z_fm:kitOne K (.type "str") (.type "str")=some true)
  (z_fn:kitOne K (.type "NoneType") (.type "tuple")=some false)
  (z_fo:kitOne K (.type "int") (.type "tuple")=some false)
  (z_fp:kitOne K (.type "str") (.type "tuple")=some false)
  (z_fq:kitOne K (.type "list") (.type "tuple")=some false)
  (z_fr:kitOne K (.type "bool") (.type "tuple")=some false)
  (z_fs:kitOne K (.ref cPart) (.ref cStop)=some false)
  (z_ft:kitOne K (.ref cPlain) (.ref cStop)=some false)
  (z_fu:kitOne K (.ref cStop) (.ref cStop)=some true)
  (z_fv:kitOne K (.ref cGate) (.ref cStop)=some true)
  (z_fw:kitOne K (.ref cPoints) (.ref cStop)=some false)
  (z_fx:kitOne K (.ref cCross) (.ref cStop)=some false)
  (z_fy:nsIn K mainGlobals "LETTERS" =some (some (.str "abcdefghijklmnopqrstuvwxyz" tk_LETTERS)))
  (z_fz:nsIn K mainGlobals "FIGURES" =some (some (.str "0123456789" tk_FIGURES)))
  (z_f0:nsIn K mainGlobals "LONGEST_NAME" =some (some (.int 6 tk_LONGEST_NAME)))
  (z_f1:nsIn K mainGlobals "MOST_PARTS" =some (some (.int 40 tk_MOST_PARTS)))
  (z_f2:nsIn K mainGlobals "MOST_SIGNALS" =some (some (.int 40 tk_MOST_SIGNALS)))
  (z_f3:nsIn K mainGlobals "MOST_STEPS" =some (some (.int 12 tk_MOST_STEPS)))
  (z_f4:nsIn K mainGlobals "NO_END" =some (some (.ref at_NO_END)))
  (z_f5:K.lookup at_NO_END=some ⟨.type "tuple",aod_NO_END,.seq #[.str "" atk0_NO_END,.str "" atk1_NO_END] an_NO_END,asl_NO_END⟩)
  (tG:PySem.W.specialIn K (.builtin "object.__class__") "__get__" =some (some (.builtin "getset_descriptor.__get__")))
  (tK:PySem.W.takesIn K (.builtin "object.__class__")=some true)
  (z_f6:findIn K (.ref cPart) "__class__" =some (some (.builtin "object.__class__")))
  (z_f7:PySem.W.mroIn K cPart (.type "object")=some true)
  (z_f8:findIn K (.ref cPlain) "__class__" =some (some (.builtin "object.__class__")))
  (z_f9:PySem.W.mroIn K cPlain (.type "object")=some true)
  (z_ga:findIn K (.ref cStop) "__class__" =some (some (.builtin "object.__class__")))
  (z_gb:PySem.W.mroIn K cStop (.type "object")=some true)
  (z_gc:findIn K (.ref cGate) "__class__" =some (some (.builtin "object.__class__")))
  (z_gd:PySem.W.mroIn K cGate (.type "object")=some true)
  (z_ge:findIn K (.ref cPoints) "__class__" =some (some (.builtin "object.__class__")))
  (z_gf:PySem.W.mroIn K cPoints (.type "object")=some true)
  (z_gg:findIn K (.ref cCross) "__class__" =some (some (.builtin "object.__class__")))
  (z_gh:PySem.W.mroIn K cCross (.type "object")=some true)
  :∃fd:FuncData,(∀(s:Shared) (v:Value),BindsTo s fd ⟨[v],[]⟩ [("_law_script",v)])/\∀base:Heap,K.In base->base.Ns mainGlobals mg->Z1 l.prog w K mg base CX0 9 fa fd ["_law_script"] (Zrf K):=by
 have e:=hfa.symm.trans (mg_of X G a57)
 cases e
 have F0:=Z7 (st:=Zcn) l0 e0 k0
 have b0:=F0.binds (ps:=["thing"]) fun _ _ _ _ _ _ us hl=>by obtain ⟨_,rfl⟩:=Zas hl;rfl
 have F1:=Z7 (st:=Xs) l1 e1 k1
 have b1:=F1.binds (ps:=["self", "name"]) fun _ _ _ _ _ _ us hl=>by obtain ⟨_,_,rfl⟩:=X4 hl;rfl
 have F2:=Z7 (st:=Za4) l2 e2 k2
 have b2:=F2.binds (ps:=["self"]) fun _ _ _ _ _ _ us hl=>by obtain ⟨_,rfl⟩:=Zas hl;rfl
 have F3:=Z7 (st:=Za7) l3 e3 k3
 have b3:=F3.binds (ps:=["self"]) fun _ _ _ _ _ _ us hl=>by obtain ⟨_,rfl⟩:=Zas hl;rfl
 have F4:=Z7 (st:=Zag) l4 e4 k4
 have b4:=F4.binds (ps:=["self", "lie"]) fun _ _ _ _ _ _ us hl=>by obtain ⟨_,_,rfl⟩:=X4 hl;rfl
 have F5:=Zq0 (st:=Zai) l5 e5 k5
 have F6:=Z7 (st:=W8) l6 e6 k6
 have b6:=F6.binds (ps:=["self"]) fun _ _ _ _ _ _ us hl=>by obtain ⟨_,rfl⟩:=Zas hl;rfl
 have F7:=Z7 (st:=Za0) l7 e7 k7
 have b7:=F7.binds (ps:=["self"]) fun _ _ _ _ _ _ us hl=>by obtain ⟨_,rfl⟩:=Zas hl;rfl
 have F8:=Z7 (st:=Zaa) l8 e8 k8
 have b8:=F8.binds (ps:=["self", "lie"]) fun _ _ _ _ _ _ us hl=>by obtain ⟨_,_,rfl⟩:=X4 hl;rfl
 have F9:=Z7 (st:=Ws) l9 e9 k9
 have b9:=F9.binds (ps:=["self"]) fun _ _ _ _ _ _ us hl=>by obtain ⟨_,rfl⟩:=Zas hl;rfl
 have F10:=Z7 (st:=Wu) l10 e10 k10
 have b10:=F10.binds (ps:=["self"]) fun _ _ _ _ _ _ us hl=>by obtain ⟨_,rfl⟩:=Zas hl;rfl
 have F11:=Z7 (st:=X7) l11 e11 k11
 have b11:=F11.binds (ps:=["self", "lie"]) fun _ _ _ _ _ _ us hl=>by obtain ⟨_,_,rfl⟩:=X4 hl;rfl
 have F12:=Z7 (st:=Wa) l12 e12 k12
 have b12:=F12.binds (ps:=["self"]) fun _ _ _ _ _ _ us hl=>by obtain ⟨_,rfl⟩:=Zas hl;rfl
 have F13:=Z7 (st:=Zan) l13 e13 k13
 have b13:=F13.binds (ps:=["self"]) fun _ _ _ _ _ _ us hl=>by obtain ⟨_,rfl⟩:=Zas hl;rfl
 have F14:=Z7 (st:=Wy) l14 e14 k14
 have b14:=F14.binds (ps:=["self", "lie"]) fun _ _ _ _ _ _ us hl=>by obtain ⟨_,_,rfl⟩:=X4 hl;rfl
 have F15:=Z7 (st:=Wn) l15 e15 k15
 have b15:=F15.binds (ps:=["self"]) fun _ _ _ _ _ _ us hl=>by obtain ⟨_,rfl⟩:=Zas hl;rfl
 have F16:=Z7 (st:=Zaj) l16 e16 k16
 have b16:=F16.binds (ps:=["tracks", "end"]) fun _ _ _ _ _ _ us hl=>by obtain ⟨_,_,rfl⟩:=X4 hl;rfl
 have F17:=Z7 (st:=Zad) l17 e17 k17
 have b17:=F17.binds (ps:=["step"]) fun _ _ _ _ _ _ us hl=>by obtain ⟨_,rfl⟩:=Zas hl;rfl
 have F18:=Z7 (st:=W9) l18 e18 k18
 have b18:=F18.binds (ps:=["tracks", "step"]) fun _ _ _ _ _ _ us hl=>by obtain ⟨_,_,rfl⟩:=X4 hl;rfl
 have F19:=Z7 (st:=Zbs) l19 e19 k19
 have b19:=F19.binds (ps:=["tracks", "begun"]) fun _ _ _ _ _ _ us hl=>by obtain ⟨_,_,rfl⟩:=X4 hl;rfl
 have F20:=Z7 (st:=Wr) l20 e20 k20
 have b20:=F20.binds (ps:=["tracks", "signal"]) fun _ _ _ _ _ _ us hl=>by obtain ⟨_,_,rfl⟩:=X4 hl;rfl
 have F21:=Z7 (st:=Zbo) l21 e21 k21
 have b21:=F21.binds (ps:=["tracks", "thing"]) fun _ _ _ _ _ _ us hl=>by obtain ⟨_,_,rfl⟩:=X4 hl;rfl
 have F22:=Z7 (st:=Zcp) l22 e22 k22
 have b22:=F22.binds (ps:=["thing"]) fun _ _ _ _ _ _ us hl=>by obtain ⟨_,rfl⟩:=Zas hl;rfl
 have F23:=Z7 (st:=Zb2) l23 e23 k23
 have b23:=F23.binds (ps:=["end", "ends"]) fun _ _ _ _ _ _ us hl=>by obtain ⟨_,_,rfl⟩:=X4 hl;rfl
 have F24:=Z7 (st:=Ww) l24 e24 k24
 have b24:=F24.binds (ps:=["name", "known"]) fun _ _ _ _ _ _ us hl=>by obtain ⟨_,_,rfl⟩:=X4 hl;rfl
 have F25:=Z7 (st:=Xt) l25 e25 k25
 have b25:=F25.binds (ps:=["parts"]) fun _ _ _ _ _ _ us hl=>by obtain ⟨_,rfl⟩:=Zas hl;rfl
 have F26:=Z7 (st:=Xz) l26 e26 k26
 have b26:=F26.binds (ps:=["part_of"]) fun _ _ _ _ _ _ us hl=>by obtain ⟨_,rfl⟩:=Zas hl;rfl
 have F27:=Z7 (st:=Wq) l27 e27 k27
 have b27:=F27.binds (ps:=["join", "part_at", "joined"]) fun _ _ _ _ _ _ us hl=>by obtain ⟨_,_,_,rfl⟩:=Zn0 hl;rfl
 have F28:=Z7 (st:=Wt) l28 e28 k28
 have b28:=F28.binds (ps:=["joins", "part_at"]) fun _ _ _ _ _ _ us hl=>by obtain ⟨_,_,rfl⟩:=X4 hl;rfl
 have F29:=Z7 (st:=Wo) l29 e29 k29
 have b29:=F29.binds (ps:=["end", "part_at", "ends_with_signals"]) fun _ _ _ _ _ _ us hl=>by obtain ⟨_,_,_,rfl⟩:=Zn0 hl;rfl
 have F30:=Z7 (st:=Zbr) l30 e30 k30
 have b30:=F30.binds (ps:=["signals", "part_at"]) fun _ _ _ _ _ _ us hl=>by obtain ⟨_,_,rfl⟩:=X4 hl;rfl
 have F31:=Zq0 (st:=Xb) l31 e31 k31
 have F32:=Z7 (st:=X8) l32 e32 k32
 have b32:=F32.binds (ps:=["self", "name"]) fun _ _ _ _ _ _ us hl=>by obtain ⟨_,_,rfl⟩:=X4 hl;rfl
 have F33:=Z7 (st:=Xr) l33 e33 k33
 have b33:=F33.binds (ps:=["self", "end"]) fun _ _ _ _ _ _ us hl=>by obtain ⟨_,_,rfl⟩:=X4 hl;rfl
 have F34:=Z7 (st:=Y6) l34 e34 k34
 have b34:=F34.binds (ps:=["self", "end"]) fun _ _ _ _ _ _ us hl=>by obtain ⟨_,_,rfl⟩:=X4 hl;rfl
 have F35:=Z7 (st:=Xj) l35 e35 k35
 have b35:=F35.binds (ps:=["self"]) fun _ _ _ _ _ _ us hl=>by obtain ⟨_,rfl⟩:=Zas hl;rfl
 have F36:=Z7 (st:=Xu) l36 e36 k36
 have b36:=F36.binds (ps:=["self", "signal"]) fun _ _ _ _ _ _ us hl=>by obtain ⟨_,_,rfl⟩:=X4 hl;rfl
 have F37:=Z7 (st:=Zab) l37 e37 k37
 have b37:=F37.binds (ps:=["_law_cell", "_law_k"]) fun _ _ _ _ _ _ us hl=>by obtain ⟨_,_,rfl⟩:=X4 hl;rfl
 have F38:=Z7 (st:=X9) l38 e38 k38
 have b38:=F38.binds (ps:=["_law_script", "_law_k"]) fun _ _ _ _ _ _ us hl=>by obtain ⟨_,_,rfl⟩:=X4 hl;rfl
 have F39:=Z7 (st:=Zap) l39 e39 k39
 have b39:=F39.binds (ps:=["_law_script", "_law_at", "_law_end"]) fun _ _ _ _ _ _ us hl=>by obtain ⟨_,_,_,rfl⟩:=Zn0 hl;rfl
 have F40:=Z7 (st:=Za6) l40 e40 k40
 have b40:=F40.binds (ps:=["_law_kind"]) fun _ _ _ _ _ _ us hl=>by obtain ⟨_,rfl⟩:=Zas hl;rfl
 have F41:=Z7 (st:=Wg) l41 e41 k41
 have b41:=F41.binds (ps:=["_law_kind", "_law_cell", "_law_k"]) fun _ _ _ _ _ _ us hl=>by obtain ⟨_,_,_,rfl⟩:=Zn0 hl;rfl
 have F42:=Z7 (st:=Zaf) l42 e42 k42
 have b42:=F42.binds (ps:=["_law_cell", "_law_names"]) fun _ _ _ _ _ _ us hl=>by obtain ⟨_,_,rfl⟩:=X4 hl;rfl
 have F43:=Z7 (st:=Za5) l43 e43 k43
 have b43:=F43.binds (ps:=["_law_cells_here"]) fun _ _ _ _ _ _ us hl=>by obtain ⟨_,rfl⟩:=Zas hl;rfl
 have F44:=Z7 (st:=Wp) l44 e44 k44
 have b44:=F44.binds (ps:=["_law_parts", "_law_joins", "_law_rest", "_law_cell"]) fun _ _ _ _ _ _ us hl=>by obtain ⟨_,_,_,_,rfl⟩:=Ya3 hl;rfl
 have F45:=Z7 (st:=Zac) l45 e45 k45
 have b45:=F45.binds (ps:=["_law_cells_here"]) fun _ _ _ _ _ _ us hl=>by obtain ⟨_,rfl⟩:=Zas hl;rfl
 have F46:=Z7 (st:=Xc) l46 e46 k46
 have b46:=F46.binds (ps:=["_law_parts", "_law_cell"]) fun _ _ _ _ _ _ us hl=>by obtain ⟨_,_,rfl⟩:=X4 hl;rfl
 have F47:=Z7 (st:=Za8) l47 e47 k47
 have b47:=F47.binds (ps:=["_law_cell"]) fun _ _ _ _ _ _ us hl=>by obtain ⟨_,rfl⟩:=Zas hl;rfl
 have F48:=Z7 (st:=We) l48 e48 k48
 have b48:=F48.binds (ps:=["_law_cells_here", "_law_cell"]) fun _ _ _ _ _ _ us hl=>by obtain ⟨_,_,rfl⟩:=X4 hl;rfl
 have F49:=Z7 (st:=Za2) l49 e49 k49
 have b49:=F49.binds (ps:=["_law_kind", "_law_name"]) fun _ _ _ _ _ _ us hl=>by obtain ⟨_,_,rfl⟩:=X4 hl;rfl
 have F50:=Z7 (st:=Wv) l50 e50 k50
 have b50:=F50.binds (ps:=["_law_yard"]) fun _ _ _ _ _ _ us hl=>by obtain ⟨_,rfl⟩:=Zas hl;rfl
 have F51:=Z7 (st:=Zb0) l51 e51 k51
 have b51:=F51.binds (ps:=["_law_yard"]) fun _ _ _ _ _ _ us hl=>by obtain ⟨_,rfl⟩:=Zas hl;rfl
 have F52:=Z7 (st:=Zak) l52 e52 k52
 have b52:=F52.binds (ps:=["_law_kind", "_law_end"]) fun _ _ _ _ _ _ us hl=>by obtain ⟨_,_,rfl⟩:=X4 hl;rfl
 have F53:=Z7 (st:=Za1) l53 e53 k53
 have b53:=F53.binds (ps:=["_law_plan", "_law_end"]) fun _ _ _ _ _ _ us hl=>by obtain ⟨_,_,rfl⟩:=X4 hl;rfl
 have F54:=Z7 (st:=Wd) l54 e54 k54
 have b54:=F54.binds (ps:=["_law_plan", "_law_step"]) fun _ _ _ _ _ _ us hl=>by obtain ⟨_,_,rfl⟩:=X4 hl;rfl
 have F55:=Z7 (st:=Zah) l55 e55 k55
 have b55:=F55.binds (ps:=["_law_plan", "_law_row", "_law_cells_here"]) fun _ _ _ _ _ _ us hl=>by obtain ⟨_,_,_,rfl⟩:=Zn0 hl;rfl
 have F56:=Z7 (st:=Wx) l56 e56 k56
 have b56:=F56.binds (ps:=["_law_route", "_law_cell"]) fun _ _ _ _ _ _ us hl=>by obtain ⟨_,_,rfl⟩:=X4 hl;rfl
 have F57:=Z7 (st:=Zfs) l57 e57 k57
 have T:Tx K mg:={
  d_is_name:=⟨f0,_,F0,b0⟩
  m_is_name:=mg_of X G a0
  d_Part___init__:=⟨f1,_,F1,b1⟩
  d_Part_ends:=⟨f2,_,F2,b2⟩
  d_Part_lies:=⟨f3,_,F3,b3⟩
  d_Part_pairs:=⟨f4,_,F4,b4⟩
  d_Part_leads:=⟨f5,_,_,F5,fun s us KX hl=>by
   rw [List.append_nil] at hl ⊢
   match us,hl with
   | [_,_,_],_=>exact BindsTo.of_defaults rfl (KX _ _ ld5) rfl rfl rfl,.str "" dtk5,⟨dtk5,rfl⟩,fun s us KX hl=>by
   have h2:us.length=2:=by simpa using hl
   match us,h2 with
   | [_,_],_=>exact BindsTo.of_defaults rfl (KX _ _ ld5) rfl rfl rfl⟩
  d_Part_bears:=⟨f6,_,F6,b6⟩
  d_Stop_ends:=⟨f7,_,F7,b7⟩
  d_Stop_pairs:=⟨f8,_,F8,b8⟩
  d_Points_ends:=⟨f9,_,F9,b9⟩
  d_Points_lies:=⟨f10,_,F10,b10⟩
  d_Points_pairs:=⟨f11,_,F11,b11⟩
  d_Points_bears:=⟨f12,_,F12,b12⟩
  d_Cross_ends:=⟨f13,_,F13,b13⟩
  d_Cross_pairs:=⟨f14,_,F14,b14⟩
  d_Cross_bears:=⟨f15,_,F15,b15⟩
  d_steps_into:=⟨f16,_,F16,b16⟩
  m_steps_into:=mg_of X G a16
  d_end_behind:=⟨f17,_,F17,b17⟩
  m_end_behind:=mg_of X G a17
  d_ends_there:=⟨f18,_,F18,b18⟩
  m_ends_there:=mg_of X G a18
  d_steps_on:=⟨f19,_,F19,b19⟩
  m_steps_on:=mg_of X G a19
  d_routes_from:=⟨f20,_,F20,b20⟩
  m_routes_from:=mg_of X G a20
  d_is_route:=⟨f21,_,F21,b21⟩
  m_is_route:=mg_of X G a21
  d_is_pair:=⟨f22,_,F22,b22⟩
  m_is_pair:=mg_of X G a22
  d_is_known:=⟨f23,_,F23,b23⟩
  m_is_known:=mg_of X G a23
  d_refuse_name:=⟨f24,_,F24,b24⟩
  m_refuse_name:=mg_of X G a24
  d_parts_by_name:=⟨f25,_,F25,b25⟩
  m_parts_by_name:=mg_of X G a25
  d_ends_to_parts:=⟨f26,_,F26,b26⟩
  m_ends_to_parts:=mg_of X G a26
  d_refuse_join:=⟨f27,_,F27,b27⟩
  m_refuse_join:=mg_of X G a27
  d_joined_ends:=⟨f28,_,F28,b28⟩
  m_joined_ends:=mg_of X G a28
  d_refuse_post:=⟨f29,_,F29,b29⟩
  m_refuse_post:=mg_of X G a29
  d_posts_of:=⟨f30,_,F30,b30⟩
  m_posts_of:=mg_of X G a30
  d_Tracks___init__:=⟨f31,_,_,F31,fun s us KX hl=>by
   rw [List.append_nil] at hl ⊢
   match us,hl with
   | [_,_,_,_],_=>exact BindsTo.of_defaults rfl (KX _ _ ld31) rfl rfl rfl,.none,rfl,fun s us KX hl=>by
   have h2:us.length=3:=by simpa using hl
   match us,h2 with
   | [_,_,_],_=>exact BindsTo.of_defaults rfl (KX _ _ ld31) rfl rfl rfl⟩
  d_Tracks_named:=⟨f32,_,F32,b32⟩
  d_Tracks_beyond:=⟨f33,_,F33,b33⟩
  d_Tracks_signal_at:=⟨f34,_,F34,b34⟩
  d_Tracks_signals:=⟨f35,_,F35,b35⟩
  d_Tracks_end_of:=⟨f36,_,F36,b36⟩
  d__law_mixed:=⟨f37,_,F37,b37⟩
  m__law_mixed:=mg_of X G a37
  d__law_cell_at:=⟨f38,_,F38,b38⟩
  m__law_cell_at:=mg_of X G a38
  d__law_cells:=⟨f39,_,F39,b39⟩
  m__law_cells:=mg_of X G a39
  d__law_ends:=⟨f40,_,F40,b40⟩
  m__law_ends:=mg_of X G a40
  d__law_name_by:=⟨f41,_,F41,b41⟩
  m__law_name_by:=mg_of X G a41
  d__law_block:=⟨f42,_,F42,b42⟩
  m__law_block:=mg_of X G a42
  d__law_line:=⟨f43,_,F43,b43⟩
  m__law_line:=mg_of X G a43
  d__law_closed:=⟨f44,_,F44,b44⟩
  m__law_closed:=mg_of X G a44
  d__law_drawn:=⟨f45,_,F45,b45⟩
  m__law_drawn:=mg_of X G a45
  d__law_signals_by:=⟨f46,_,F46,b46⟩
  m__law_signals_by:=mg_of X G a46
  d__law_long:=⟨f47,_,F47,b47⟩
  m__law_long:=mg_of X G a47
  d__law_yard_by:=⟨f48,_,F48,b48⟩
  m__law_yard_by:=mg_of X G a48
  d__law_part:=⟨f49,_,F49,b49⟩
  m__law_part:=mg_of X G a49
  d__law_tracks:=⟨f50,_,F50,b50⟩
  m__law_tracks:=mg_of X G a50
  d__law_map:=⟨f51,_,F51,b51⟩
  m__law_map:=mg_of X G a51
  d__law_leads:=⟨f52,_,F52,b52⟩
  m__law_leads:=mg_of X G a52
  d__law_into:=⟨f53,_,F53,b53⟩
  m__law_into:=mg_of X G a53
  d__law_ends_so:=⟨f54,_,F54,b54⟩
  m__law_ends_so:=mg_of X G a54
  d__law_round:=⟨f55,_,F55,b55⟩
  m__law_round:=mg_of X G a55
  d__law_spoilt:=⟨f56,_,F56,b56⟩
  m__law_spoilt:=mg_of X G a56
  CPart:=cPart
  mPart:=mg_of X G z_aa
  clPart:=⟨z_ah,z_ai,z_aj,z_ak⟩
  nPart_name:=z_al
  mkPart:=⟨z_am,z_an,z_ao,z_ap⟩
  mtPart_ends:=⟨z_aq,z_ar,z_as⟩
  mtPart_lies:=⟨z_at,z_au,z_av⟩
  mtPart_pairs:=⟨z_aw,z_ax,z_ay⟩
  mtPart_bears:=⟨z_az,z_a0,z_a1⟩
  mtPart_leads:=⟨z_a2,z_a3,z_a4⟩
  CPlain:=cPlain
  mPlain:=mg_of X G z_ab
  clPlain:=⟨z_a5,z_a6,z_a7,z_a8⟩
  nPlain_name:=z_a9
  mkPlain:=⟨z_ba,z_bb,z_bc,z_bd⟩
  mtPlain_ends:=⟨z_be,z_bf,z_bg⟩
  mtPlain_lies:=⟨z_bh,z_bi,z_bj⟩
  mtPlain_pairs:=⟨z_bk,z_bl,z_bm⟩
  mtPlain_bears:=⟨z_bn,z_bo,z_bp⟩
  mtPlain_leads:=⟨z_bq,z_br,z_bs⟩
  CStop:=cStop
  mStop:=mg_of X G z_ac
  clStop:=⟨z_bt,z_bu,z_bv,z_bw⟩
  nStop_name:=z_bx
  mkStop:=⟨z_by,z_bz,z_b0,z_b1⟩
  mtStop_ends:=⟨z_b2,z_b3,z_b4⟩
  mtStop_lies:=⟨z_b5,z_b6,z_b7⟩
  mtStop_pairs:=⟨z_b8,z_b9,z_ca⟩
  mtStop_bears:=⟨z_cb,z_cc,z_cd⟩
  mtStop_leads:=⟨z_ce,z_cf,z_cg⟩
  CGate:=cGate
  mGate:=mg_of X G z_ad
  clGate:=⟨z_ch,z_ci,z_cj,z_ck⟩
  nGate_name:=z_cl
  mkGate:=⟨z_cm,z_cn,z_co,z_cp⟩
  mtGate_ends:=⟨z_cq,z_cr,z_cs⟩
  mtGate_lies:=⟨z_ct,z_cu,z_cv⟩
  mtGate_pairs:=⟨z_cw,z_cx,z_cy⟩
  mtGate_bears:=⟨z_cz,z_c0,z_c1⟩
  mtGate_leads:=⟨z_c2,z_c3,z_c4⟩
  CPoints:=cPoints
  mPoints:=mg_of X G z_ae
  clPoints:=⟨z_c5,z_c6,z_c7,z_c8⟩
  nPoints_name:=z_c9
  mkPoints:=⟨z_da,z_db,z_dc,z_dd⟩
  mtPoints_ends:=⟨z_de,z_df,z_dg⟩
  mtPoints_lies:=⟨z_dh,z_di,z_dj⟩
  mtPoints_pairs:=⟨z_dk,z_dl,z_dm⟩
  mtPoints_bears:=⟨z_dn,z_do,z_dp⟩
  mtPoints_leads:=⟨z_dq,z_dr,z_ds⟩
  CCross:=cCross
  mCross:=mg_of X G z_af
  clCross:=⟨z_dt,z_du,z_dv,z_dw⟩
  nCross_name:=z_dx
  mkCross:=⟨z_dy,z_dz,z_d0,z_d1⟩
  mtCross_ends:=⟨z_d2,z_d3,z_d4⟩
  mtCross_lies:=⟨z_d5,z_d6,z_d7⟩
  mtCross_pairs:=⟨z_d8,z_d9,z_ea⟩
  mtCross_bears:=⟨z_eb,z_ec,z_ed⟩
  mtCross_leads:=⟨z_ee,z_ef,z_eg⟩
  CTracks:=cTracks
  mTracks:=mg_of X G z_ag
  clTracks:=⟨z_eh,z_ei,z_ej,z_ek⟩
  nTracks_part_of:=z_el
  nTracks_joined:=z_em
  nTracks_post_of:=z_en
  nTracks_signal_on:=z_eo
  mkTracks:=⟨z_ep,z_eq,z_er,z_es⟩
  mtTracks_named:=⟨z_et,z_eu,z_ev⟩
  mtTracks_beyond:=⟨z_ew,z_ex,z_ey⟩
  mtTracks_signal_at:=⟨z_ez,z_e0,z_e1⟩
  mtTracks_signals:=⟨z_e2,z_e3,z_e4⟩
  mtTracks_end_of:=⟨z_e5,z_e6,z_e7⟩
  n_len:=PySem.W.mg_none_of X G z_e8
  n_range:=PySem.W.mg_none_of X G z_e9
  n_isinstance:=PySem.W.mg_none_of X G z_fa
  n_list:=PySem.W.mg_none_of X G z_fb
  n_dict:=PySem.W.mg_none_of X G z_fc
  n_tuple:=PySem.W.mg_none_of X G z_fd
  n_str:=PySem.W.mg_none_of X G z_fe
  n_enumerate:=PySem.W.mg_none_of X G z_ff
  n_max:=PySem.W.mg_none_of X G z_fg
  n_min:=PySem.W.mg_none_of X G z_fh
  n_sum:=PySem.W.mg_none_of X G z_fi
  n_sorted:=PySem.W.mg_none_of X G z_fj
  n_all:=PySem.W.mg_none_of X G z_fk
  kTT:=z_fl
  kSS:=z_fm
  kNT:=z_fn
  kIT:=z_fo
  kST:=z_fp
  kLT:=z_fq
  kBT:=z_fr
  iPart:=z_fs
  iPlain:=z_ft
  iStop:=z_fu
  iGate:=z_fv
  iPoints:=z_fw
  iCross:=z_fx
  c_LETTERS:=⟨_,mg_of X G z_fy⟩
  c_FIGURES:=⟨_,mg_of X G z_fz⟩
  c_LONGEST_NAME:=⟨_,mg_of X G z_f0⟩
  c_MOST_PARTS:=⟨_,mg_of X G z_f1⟩
  c_MOST_SIGNALS:=⟨_,mg_of X G z_f2⟩
  c_MOST_STEPS:=⟨_,mg_of X G z_f3⟩
  a_NO_END:=at_NO_END
  c_NO_END:=mg_of X G z_f4
  t_NO_END:=fun H=>.inr ⟨_,_,_,z_f5,rfl,rfl,by simp [sizeLine_eq],.cons ⟨_,rfl⟩ (.cons ⟨_,rfl⟩ .nil)⟩
  tG:=tG
  tK:=tK
  tcPart:=z_f6
  tmPart:=z_f7
  tcPlain:=z_f8
  tmPlain:=z_f9
  tcStop:=z_ga
  tmStop:=z_gb
  tcGate:=z_gc
  tmGate:=z_gd
  tcPoints:=z_ge
  tmPoints:=z_gf
  tcCross:=z_gg
  tmCross:=z_gh
 }
 exact ⟨fnOf "law" "law" (Zr Zfs) (Zo Zfs) (Zd Zfs) .none kV57 dc57 pm57 an57 cd57 ct57,fun s v=>.of_eq rfl,fun base _ _=>Zy6 F57 T⟩
theorem walk{l:PySem.W.OpenLaw}{q:Program}{loose:List Str}{XP:(Str->Option Value)->Heap->Prop}{YP:World->Heap->Prop}{d:DefRec}{K:Params->Frag}(hn:l.most=some 63)(hdf:d.params.defaults=[])
  (hY:∀(w:World) (h:Heap),YP w h->(K w.params).In h)
  (F:∀(w:World) (mg:Str->Option Value) (fa:Addr) (h:Heap),(K w.params).In h->h.Ns mainGlobals mg->mg d.name=some (.ref fa) ->
   ∃fd:FuncData,(∀(s:Shared) (u:Value),BindsTo s fd ⟨[u],[]⟩ [("_law_script",u)])/\∀base:Heap,(K w.params).In base->base.Ns mainGlobals mg->Z1 l.prog w (K w.params) mg base CX0 9 fa fd ["_law_script"] (Zrf (K w.params))) :
  PySem.W.WalkO q loose XP YP l.row.toRowW d [] (fun f vs=>PySem.call f vs) :=
 L2.walk_of (n:=63) (k:=9) (x := "_law_script") (CX:=fun _=>CX0) (sp:=fun w=>Zrf (K w.params)) hn (by decide) hdf ⟨rfl,by decide,by decide⟩ hY F (fun _ _ a ns hl _ hS=>⟨a,ns,rfl,hS,hl,fun _=>rfl⟩) fun _ _ _ _ _ z=>z
end K24
namespace PySem.W.Fast
def tw3305299877110697285:=()
def tw15418647294016509757:=()
def tw4003925088865101761:=()
def tw4539388445462028596:=()
def tw5065663580143393432:=()
def tw17701164820685999543:=()
def tw11385745256286805919:=()
def tw4680721381701672328:=()
def tw9412381970369495383:=()
def tw3894679215195986593:=()
def tw6874641658363849737:=()
def tw7610198003088677918:=()
def tw387567888315609964:=()
def tw17772883556626893801:=()
def tw16229042735924715520:=()
def tw15862506957537606909:=()
def tw9492649270832453203:=()
def tw9412631272986027875:=()
def tw3699101808325659759:=()
def tw7149550717754327049:=()
def tw13452466989508963403:=()
def tw8020719642035670305:=()
def tw17809340845972667729:=()
def tw5332561592029234930:=()
def tw5605175234457867615:=()
def tw7717465796607906868:=()
def tw14026689061011808017:=()
def tw7064447118365492988:=()
def tw2646530393002108407:=()
def tw11299131190130701156:=()
def tw2286277333232068146:=()
def tw10712489258459537916:=()
def tw4670236959654331562:=()
def tw13145913497118448280:=()
def tw2309607318799922924:=()
def tw5840172168650132452:=()
def tw17257983452402991979:=()
def tw11444304472386180350:=()
def tw7800862134286417128:=()
def tw10536271130446772704:=()
def tw14529256088312120232:=()
def tw4647696019579423479:=()
def tw1934035932627275007:=()
def tw14042700698518659112:=()
def tw13027217330633239175:=()
def tw2025987639722357546:=()
def tw12076796538255009269:=()
def tw10126066758546286384:=()
def tw1333017656778247591:=()
def tw9091417888100054652:=()
def tw15739747073589920508:=()
def tw16864428962750126881:=()
def tw4428817194666179566:=()
def tw4711188689321551085:=()
def tw8919037231124850915:=()
def tw1830100772257264608:=()
def tw8526281463197316747:=()
def tw4430821034364264436:=()
def tw3222046817967334179:=()
def tw5215099512475358845:=()
def tw10815296532533542633:=()
def tw16194670033993577887:=()
def tw3857778739919167450:=()
def tw11089965054713079175:=()
def tw17458253872886285396:=()
def tw2994292241030835300:=()
def tw16469740866176224614:=()
def tw17779285446129576488:=()
def tw7697408330025922192:=()
def tw78240265118015531:=()
def tw6949969430976514896:=()
def tw7161998453398555401:=()
def tw2350382599436634909:=()
def tw171161474456654411:=()
def tw4338275534560582310:=()
def tw12208030204210831042:=()
def tw3561523949936961481:=()
def tw16941603872950873013:=()
def tw16417363808287416665:=()
def tw8928960838209031014:=()
def tw10711045733602852849:=()
def tw211139377812395533:=()
def tw1497803574935821933:=()
def tw12885291003551530362:=()
def tw9653424100744614902:=()
def tw14466746162768066229:=()
def tw17906680183051254174:=()
def tw15647011457793688581:=()
def tw17935733376974401490:=()
def tw4444228411739171768:=()
def tw4326488541676520420:=()
def tw13897926095583175386:=()
def tw15228487396369263163:=()
def tw2155386606339382510:=()
def tw8783003184985859992:=()
def tw11949585757481889951:=()
def tw4153462186582085573:=()
def tw12864764094674208525:=()
def tw3573641764569414943:=()
def tw10449126566410188727:=()
def tw6855117603357808411:=()
def tw567395332540909517:=()
def tw1846961808049181042:=()
def tw12161863661380362607:=()
def tw2333729925445263681:=()
def tw8242601636478490139:=()
def tw15565529797606990742:=()
def tw3238993557626213436:=()
def tw2891175122818188558:=()
def tw17067064168432604261:=()
def tw5867291581722308950:=()
def tw13618603432070662897:=()
def tw1404967532659678383:=()
def tw12125130393579683369:=()
def tw3184929225540439161:=()
def tw2825056647317911751:=()
def tw2916598677497367989:=()
def tw16145432009160637052:=()
def tw8807705528196672365:=()
def tw11045143780371343717:=()
def tw12627030030055626410:=()
def tw17296412579172427229:=()
def tw6725461903139048396:=()
def tw12187297033548827688:=()
def tw16238905424817970218:=()
def tw1396899408504675148:=()
def tw7646253480159673277:=()
def tw4792996223502687177:=()
def tw10393699147089001355:=()
def tw14651236626991909259:=()
def tw11416862448747174288:=()
def tw598384816285278786:=()
def tw9762550564103527939:=()
def tw8671571439344827233:=()
def tw6775112048726464960:=()
def tw7285276882526611483:=()
def tw2023218195967433044:=()
def tw14219192704951493287:=()
def tw17660014836740168796:=()
def tw12705551789928501611:=()
def tw11396803357498919267:=()
def tw17283563681917839448:=()
def tw11293532747343296309:=()
def tw2636014343252240257:=()
def tw13135661033534489462:=()
def tw10361056579044032076:=()
def tw17638565367833250531:=()
def tw15976875558327042858:=()
def tw8040273379978368246:=()
def tw14340225093514004360:=()
def tw15471129190449474973:=()
def tw13471885879147171261:=()
def tw13720347150247862736:=()
def tw5752742952111604544:=()
def tw10510438364790481178:=()
def tw11663207921675247256:=()
def tw13115003557772783977:=()
def tw13356921792940526065:=()
def tw10175495867134652944:=()
def tw5892469247482082777:=()
def tw7778106303319747549:=()
def tw16782552223167849144:=()
def tw10351563373828500606:=()
def tw9402299511334491366:=()
def tw16494817030370122397:=()
def tw13197608740689440136:=()
def tw17286860780491302523:=()
def tw6465487347620927430:=()
def tw9108170367070159556:=()
def tw16814929899584101600:=()
def tw13602810534378710635:=()
def tw17434048607405493366:=()
def tw4326159274536721749:=()
def tw6465885932400687026:=()
def tw17657744192760370341:=()
def tw6406219186222082961:=()
def tw8653896210451694226:=()
def tw1365309897212539465:=()
def tw13711892094701396649:=()
def tw12836816599453266445:=()
def tw12889499797331909552:=()
def tw8112407831322674801:=()
def tw8146126629776575950:=()
def tw15488592340461755569:=()
def tw4225635994153729078:=()
def tw3054418540928751166:=()
def tw1959319623413903701:=()
def tw4805684432839714780:=()
def tw13023286595944990759:=()
def tw16832012784112647273:=()
def tw946641365685435201:=()
def tw7531205286637506460:=()
def tw3439909854566995333:=()
def tw17609022749656960590:=()
def tw16551022471088852061:=()
def tw11439424854656037283:=()
def tw18088037162764961671:=()
def tw7443307918063224104:=()
def tw4618350976899723421:=()
def tw13200134467841554851:=()
def tw8598298218654361008:=()
def tw529159604909469237:=()
def tw9219809803213101983:=()
def tw449209226226086100:=()
def tw1774911371657168815:=()
def tw7544672644939653596:=()
def tw6096986406879839587:=()
def tw6489883967404693310:=()
def tw11787057118085694549:=()
def tw5285819706862151167:=()
def tw8355031170139748990:=()
def tw10683823939156414855:=()
def tw2867659777219310470:=()
def tw15542209859671760631:=()
def tw16630476718431863054:=()
def tw14199713391861816608:=()
def tw13723635955989141582:=()
def tw10291831568598741778:=()
def tw6062984350282642006:=()
def tw1018238328846007151:=()
def tw8523066769010573675:=()
def tw4315104218783912986:=()
def tw10930455254213126276:=()
def tw15456622650155830781:=()
def tw6465287350838880434:=()
def tw12570172972026231966:=()
def tw4112481099645930138:=()
def tw6162169856060745011:=()
def tw326182983173197466:=()
def tw17047179173262253366:=()
def tw9793606874186800049:=()
def tw17401560862078335850:=()
def tw8275017087296959548:=()
def tw6037695581543823430:=()
def tw16858624833729693537:=()
def tw10218340125315740220:=()
def tw5464394220102446689:=()
def tw4902532934877053399:=()
def tw11207109574703726318:=()
def tw4201326734292677796:=()
def tw3752676954769606272:=()
def tw16056816501541662188:=()
def tw1152963567486809096:=()
def tw16480506253969121209:=()
def tw11512296860519607196:=()
def tw6127931373746845922:=()
def tw14964502119636871597:=()
def tw10820692476896347851:=()
def tw4727318749990620471:=()
def tw12384589784913442207:=()
end PySem.W.Fast
open PySem PySem.W PyProof.Rows
set_option maxRecDepth 100000 in
set_option maxHeartbeats 0 in
theorem PySem.Challenge.cw_yardkeep_k24_other_things_holds : PySem.Challenge.rw_yardkeep_k24_other_things.Holds := by
  w_on; o_law; k_head; (case hw=>w_witness2)
  k_fill
  refine K24.walk (l:=PySem.Challenge.rw_yardkeep_k24_other_things) rfl rfl (fun w h Y=>PySem.W.kIn_of Y) ?F
  case F =>
    intro w mg fa h KX G hmg
    refine' K24.all_mk KX G hmg ?q0a ?q0b ?q0c ?q0d ?q0e ?q0f ?q0g ?q0h ?q0i ?q0j ?q0k ?q0l ?q0m ?q0n ?q0o ?q0p ?q0q ?q0r ?q0s ?q0t ?q0u ?q0v ?q0w ?q0x ?q0y ?q0z ?q00 ?q01 ?q02 ?q03 ?q04 ?q05 ?q06 ?q07 ?q08 ?q09 ?q1a ?q1b ?q1c ?q1d ?q1e ?q1f ?q1g ?q1h ?q1i ?q1j ?q1k ?q1l ?q1m ?q1n ?q1o ?q1p ?q1q ?q1r ?q1s ?q1t ?q1u ?q1v ?q1w ?q1x ?q1y ?q1z ?q10 ?q11 ?q12 ?q13 ?q14 ?q15 ?q16 ?q17 ?q18 ?q19 ?q2a ?q2b ?q2c ?q2d ?q2e ?q2f ?q2g ?q2h ?q2i ?q2j ?q2k ?q2l ?q2m ?q2n ?q2o ?q2p ?q2q ?q2r ?q2s ?q2t ?q2u ?q2v ?q2w ?q2x ?q2y ?q2z ?q20 ?q21 ?q22 ?q23 ?q24 ?q25 ?q26 ?q27 ?q28 ?q29 ?q3a ?q3b ?q3c ?q3d ?q3e ?q3f ?q3g ?q3h ?q3i ?q3j ?q3k ?q3l ?q3m ?q3n ?q3o ?q3p ?q3q ?q3r ?q3s ?q3t ?q3u ?q3v ?q3w ?q3x ?q3y ?q3z ?q30 ?q31 ?q32 ?q33 ?q34 ?q35 ?q36 ?q37 ?q38 ?q39 ?q4a ?q4b ?q4c ?q4d ?q4e ?q4f ?q4g ?q4h ?q4i ?q4j ?q4k ?q4l ?q4m ?q4n ?q4o ?q4p ?q4q ?q4r ?q4s ?q4t ?q4u ?q4v ?q4w ?q4x ?q4y ?q4z ?q40 ?q41 ?q42 ?q43 ?q44 ?q45 ?q46 ?q47 ?q48 ?q49 ?q5a ?q5b ?q5c ?q5d ?q5e ?q5f ?q5g ?q5h ?q5i ?q5j ?q5k ?q5l ?q5m ?q5n ?q5o ?q5p ?q5q ?q5r ?q5s ?q5t ?q5u ?q5v ?q5w ?q5x ?q5y ?q5z ?q50 ?q51 ?q52 ?q53 ?q54 ?q55 ?q56 ?q57 ?q58 ?q59 ?q6a ?q6b ?q6c ?q6d ?q6e ?q6f ?q6g ?q6h ?q6i ?q6j ?q6k ?q6l ?q6m ?q6n ?q6o ?q6p ?q6q ?q6r ?q6s ?q6t ?q6u ?q6v ?q6w ?q6x ?q6y ?q6z ?q60 ?q61 ?q62 ?q63 ?q64 ?q65 ?q66 ?q67 ?q68 ?q69 ?q7a ?q7b ?q7c ?q7d ?q7e ?q7f ?q7g ?q7h ?q7i ?q7j ?q7k ?q7l ?q7m ?q7n ?q7o ?q7p ?q7q ?q7r ?q7s ?q7t ?q7u ?q7v ?q7w ?q7x ?q7y ?q7z ?q70 ?q71 ?q72 ?q73 ?q74 ?q75 ?q76 ?q77 ?q78 ?q79 ?q8a ?q8b ?q8c ?q8d ?q8e ?q8f ?q8g ?q8h ?q8i ?q8j ?q8k ?q8l ?q8m ?q8n ?q8o ?q8p ?q8q ?q8r ?q8s ?q8t ?q8u ?q8v ?q8w ?q8x ?q8y ?q8z ?q80 ?q81 ?q82 ?q83 ?q84 ?q85 ?q86 ?q87 ?q88 ?q89 ?q9a ?q9b ?q9c ?q9d ?q9e ?q9f ?q9g ?q9h ?q9i ?q9j ?q9k ?q9l ?q9m ?q9n ?q9o ?q9p ?q9q ?q9r ?q9s ?q9t ?q9u ?q9v ?q9w ?q9x ?q9y ?q9z ?q90 ?q91 ?q92 ?q93 ?q94 ?q95 ?q96 ?q97 ?q98 ?q99 ?qja ?qjb ?qjc ?qjd ?qje ?qjf ?qjg ?qjh ?qji ?qjj ?qjk ?qjl ?qjm ?qjn ?qjo ?qjp ?qjq ?qjr ?qjs ?qjt ?qju ?qjv ?qjw ?qjx ?qjy ?qjz ?qj0 ?qj1 ?qj2 ?qj3 ?qj4 ?qj5 ?qj6 ?qj7 ?qj8 ?qj9 ?qka ?qkb ?qkc ?qkd ?qke ?qkf ?qkg ?qkh ?qki ?qkj ?qkk ?qkl ?qkm ?qkn ?qko ?qkp ?qkq ?qkr ?qks ?qkt ?qku ?qkv ?qkw ?qkx ?qky ?qkz ?qk0 ?qk1 ?qk2 ?qk3 ?qk4 ?qk5 ?qk6 ?qk7 ?qk8 ?qk9 ?qva ?qvb ?qvc ?qvd ?qve ?qvf ?qvg ?qvh ?qvi ?qvj ?qvk ?qvl ?qvm ?qvn ?qvo ?qvp ?qvq ?qvr ?qvs ?qvt ?qvu ?qvv ?qvw ?qvx ?qvy ?qvz ?qv0 ?qv1
    case q0a|q0b|q0c|q0d|q0e|q0f|q0g|q0h|q0i|q0j|q0k|q0l|q0m|q0n|q0o|q0p|q0q|q0r|q0s|q0t|q0u|q0v|q0w|q0x|q0y|q0z|q00|q01|q02|q03|q04|q05|q06|q07|q08|q09|q1a|q1b|q1c|q1d|q1e|q1f|q1g|q1h|q1i|q1j|q1k|q1l|q1m|q1n|q1o|q1p|q1q|q1r|q1s|q1t|q1u|q1v|q1w|q1x|q1y|q1z|q10|q11|q12|q13|q14|q15|q16|q17|q18|q19|q2a|q2b|q2c|q2d|q2e|q2f|q2g|q2h|q2i|q2j|q2k|q2l|q2m|q2n|q2o|q2p|q2q|q2r|q2s|q2t|q2u|q2v|q2w|q2x|q2y|q2z|q20|q21|q22|q23|q24|q25|q26|q27|q28|q29|q3a|q3b|q3c|q3d|q3e|q3f|q3g|q3h|q3i|q3j|q3k|q3l|q3m|q3n|q3o|q3p|q3q|q3r|q3s|q3t|q3u|q3v|q3w|q3x|q3y|q3z|q30|q31|q32|q33|q34|q35|q36|q37|q38|q39|q4a|q4b|q4c|q4d|q4e|q4f|q4g|q4h|q4i|q4j|q4k|q4l|q4m|q4n|q4o|q4p|q4q|q4r|q4s|q4t|q4u|q4v|q4w|q4x|q4y|q4z|q40|q41|q42|q43|q44|q45|q46|q47|q48|q49|q5a|q5b|q5c|q5d|q5e|q5f|q5g|q5h|q5i|q5j|q5k|q5l|q5m|q5n|q5o|q5p|q5q|q5r|q5s|q5t|q5u|q5v|q5w|q5x|q5y|q5z|q50|q51|q52|q53|q54|q55|q56|q57|q58|q59|q6a|q6b|q6c|q6d|q6e|q6f|q6g|q6h|q6i|q6j|q6k|q6l|q6m|q6n|q6o|q6p|q6q|q6r|q6s|q6t|q6u|q6v|q6w|q6x|q6y|q6z|q60|q61|q62|q63|q64|q65|q66|q67|q68|q69|q7a|q7b|q7c|q7d|q7e|q7f|q7g|q7h|q7i|q7j|q7k|q7l|q7m|q7n|q7o|q7p|q7q|q7r|q7s|q7t|q7u|q7v|q7w|q7x|q7y|q7z|q70|q71|q72|q73|q74|q75|q76|q77|q78|q79|q8a|q8b|q8c|q8d|q8e|q8f|q8g|q8h|q8i|q8j|q8k|q8l|q8m|q8n|q8o|q8p|q8q|q8r|q8s|q8t|q8u|q8v|q8w|q8x|q8y|q8z|q80|q81|q82|q83|q84|q85|q86|q87|q88|q89|q9a|q9b|q9c|q9d|q9e|q9f|q9g|q9h|q9i|q9j|q9k|q9l|q9m|q9n|q9o|q9p|q9q|q9r|q9s|q9t|q9u|q9v|q9w|q9x|q9y|q9z|q90|q91|q92|q93|q94|q95|q96|q97|q98|q99|qja|qjb|qjc|qjd|qje|qjf|qjg|qjh|qji|qjj|qjk|qjl|qjm|qjn|qjo|qjp|qjq|qjr|qjs|qjt|qju|qjv|qjw|qjx|qjy|qjz|qj0|qj1|qj2|qj3|qj4|qj5|qj6|qj7|qj8|qj9|qka|qkb|qkc|qkd|qke|qkf|qkg|qkh|qki|qkj|qkk|qkl|qkm|qkn|qko|qkp|qkq|qkr|qks|qkt|qku|qkv|qkw|qkx|qky|qkz|qk0|qk1|qk2=>k_is
    case qk3|qk4|qk5|qk6|qk7|qk8|qk9|qva|qvb|qvc|qvd|qve|qvf=>kit_is
    case qvg|qvh|qvi|qvj|qvk|qvl|qvm|qvn|qvo|qvp|qvq|qvr|qvs|qvt|qvu|qvv|qvw|qvx|qvy|qvz|qv0|qv1=>k_is
