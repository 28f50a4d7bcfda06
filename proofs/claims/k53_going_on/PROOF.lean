import PyProof.Rows.All
import Wide.All
import OpenK.AllK
import Wide.FinOn
import Lean
import PyProof.EqAt
import PyProof.EqKinds
import PyProof.TupleCall
import PyProof.NeKinds
import KE.KEqDict
import KE.KPairComp
import PyProof.EnumStmt
import PyProof.EnumMake
import PyProof.Rows.EnumRows
import KE.KDictList
import PyProof.ListRange
import PyProof.StationsW
import PyProof.Rows.SortStr
import KE.KDictSum
import PyProof.InstStoreFacts
import KE.KIsAll
import PyProof.ExcAttrAll.ValueError
import PyProof.ExcClass2
import PyProof.RulesAs
import KE.KDictOf
import PyProof.IsiH_list
import KE.KLam
import KE.KNestM
import PyProof.Rows.ZipGen
import PyProof.Rows.FactsT2
import PyProof.Rows.TupAssign
import PyProof.StrOps2
import PyProof.FitsStr
import PyProof.SumWalkG
import KE.KRevSl
import KE.KRevIter
import PyProof.Rows.SortRuns
import KE.KSortTup
import PyProof.DictWalks
import PyProof.DictValues
import PySem.Challenge.RW_yardkeep_k53_going_on
set_option Elab.async false
set_option linter.all false
set_option maxRecDepth 100000
set_option maxHeartbeats 4000000
local macro_rules|`(tactic|trivial)=>`(tactic|decide +kernel)
open PySem.W (Frag kitOne keepIn findIn nsIn mg_of fnOf codeIn)
namespace L2
open PySem PySem.Spec PyProof.Rows
abbrev Key:=Sum Int Str
def Zlc:Key->Value->Bool
 | .inl k,v=>Value.isInt k v
 | .inr x,v=>Value.isStrOf x v
def Ycq(w:World):Key->Int
 | .inl k=>hashInt k
 | .inr x=>hashStr w x
theorem Xs:∀{k:Key} {v:Value},Zlc k v=true->(∃i t,k=Sum.inl i/\v=Value.int i t)\/(∃x t,k=Sum.inr x/\v=Value.str x t)
 | .inl i,v,h=>by
  obtain ⟨t,e⟩:=Value.isInt_shape (k:=i) (v:=v) h;exact .inl ⟨i,t,rfl,e⟩
 | .inr x,v,h=>by
  obtain ⟨t,e⟩:=Value.isStrOf_shape (x:=x) (v:=v) h;exact .inr ⟨x,t,rfl,e⟩
theorem Zt7(i:Int)(t:Tok):Zlc (.inl i) (.int i t)=true:=by simp [Zlc,Value.isInt]
theorem Zuy(x:Str)(t:Tok):Zlc (.inr x) (.str x t)=true:=by simp [Zlc,Value.isStrOf]
theorem Zzu(a b:Int):decide ((Sum.inl a:Key)=Sum.inl b)=(a ==b):=by
 by_cases e:a=b
 ·subst e;simp
 ·have h:¬(Sum.inl a:Key)=Sum.inl b:=fun q=>e (Sum.inl.inj q)
  rw [decide_eq_false h];exact (beq_eq_false_iff_ne.mpr e).symm
theorem Yaa(a b:Str):decide ((Sum.inr a:Key)=Sum.inr b)=decide (a=b):=by
 by_cases e:a=b
 ·subst e;simp
 ·have h:¬(Sum.inr a:Key)=Sum.inr b:=fun q=>e (Sum.inr.inj q)
  rw [decide_eq_false h,decide_eq_false e]
theorem Zzi(a:Int)(b:Str):decide ((Sum.inl a:Key)=Sum.inr b)=false:=decide_eq_false (fun q=>nomatch q)
theorem Yag(a:Str)(b:Int):decide ((Sum.inr a:Key)=Sum.inl b)=false:=decide_eq_false (fun q=>nomatch q)
def Z5(prog:Program)(w:World):PySem.KeyKind prog w Key where
 is:=Zlc
 hash:=Ycq w
 inj:=fun v a b ha hb=>by
  rcases Xs ha with ⟨i,t,rfl,rfl⟩|⟨x,t,rfl,rfl⟩
  ·rcases Xs hb with ⟨j,u,rfl,e⟩|⟨y,u,rfl,e⟩
   ·injection e with e1 _;rw [e1]
   ·exact nomatch e
  ·rcases Xs hb with ⟨j,u,rfl,e⟩|⟨y,u,rfl,e⟩
   ·exact nomatch e
   ·injection e with e1 _;rw [e1]
 byValue:=fun k v h=>by
  rcases Xs h with ⟨i,t,rfl,rfl⟩|⟨x,t,rfl,rfl⟩ <;>rfl
 pyHash:=fun hv h=>by
  rcases Xs hv with ⟨i,t,rfl,rfl⟩|⟨x,t,rfl,rfl⟩
  ·exact wpAny_pyHash_int h
  ·exact wpAny_pyHash_str h
 eqBool:=fun hu hv h=>by
  rcases Xs hu with ⟨i,t,rfl,rfl⟩|⟨x,t,rfl,rfl⟩
  ·rcases Xs hv with ⟨j,u,rfl,rfl⟩|⟨y,u,rfl,rfl⟩
   ·rw [Zzu] at h;exact wpAny_eqBool_int h
   ·rw [Zzi] at h;exact SeqAt.EqAt.int_str i t y u _ _ _ _ h
  ·rcases Xs hv with ⟨j,u,rfl,rfl⟩|⟨y,u,rfl,rfl⟩
   ·rw [Yag] at h;exact SeqAt.EqAt.str_int x t j u _ _ _ _ h
   ·rw [Yaa] at h;exact wpAny_eqBool_str h
 «strs» :=fun k x t v h=>by
  rcases Xs h with ⟨i,u,rfl,e⟩|⟨y,u,rfl,e⟩
  ·exact nomatch e
  ·injection e with e1 _
   subst e1;cases v <;>rfl
theorem Zqt(prog:Program)(w:World)(i:Int)(t:Tok):(Z5 prog w).is (.inl i) (.int i t)=true:=Zt7 i t
theorem Zqg(prog:Program)(w:World)(x:Str)(t:Tok):(Z5 prog w).is (.inr x) (.str x t)=true:=Zuy x t
end L2
namespace L2
open PySem PySem.Spec PyProof.Rows
inductive V where
 | non | bl (b:Bool) | int (i:Int) | str (x:Str) | byt (b:Array UInt8) | flt (b:UInt64) | ref (a:Addr) | ty (n:String)
 deriving DecidableEq
def Yl:V->Value->Prop
 | .non,u=>u=Value.none
 | .bl b,u=>u=Value.bool b
 | .int i,u=>∃t,u=Value.int i t
 | .str x,u=>∃t,u=Value.str x t
 | .byt b,u=>∃t,u=Value.bytes b t
 | .flt b,u=>∃t,u=Value.float b t
 | .ref a,u=>u=Value.ref a
 | .ty n,u=>u=Value.type n
abbrev Yh:List V->List Value->Prop:=Paired Yl
theorem Yh.length{xs:List V}{us:List Value}(r:Yh xs us):xs.length=us.length:=Paired.length r
theorem Yh.get:∀{xs:List V} {us:List Value} {i:Nat} {x:V},Yh xs us->xs[i]? =some x->∃u,us[i]? =some u/\Yl x u
 | _,_,_,_,.nil,e=>by simp at e
 | _,_,0,_,.cons r _,e=>by simp at e;subst e;exact ⟨_,rfl,r⟩
 | _,_,i+1,x,.cons _ t,e=>by
  obtain ⟨u,h1,h2⟩:=Yh.get (i:=i) (x:=x) t (by simpa using e);exact ⟨u,by simpa using h1,h2⟩
theorem Yh.set{x:V}{u:Value}(r:Yl x u):∀{xs:List V} {us:List Value} (i:Nat),Yh xs us->Yh (xs.set i x) (us.set i u)
 | _,_,_,.nil=>.nil
 | _,_,0,.cons _ t=>.cons r t
 | _,_,i+1,.cons q t=>.cons q (Yh.set r i t)
theorem Yh.append:∀{xs ys:List V} {us ws:List Value},Yh xs us->Yh ys ws->Yh (xs++ys) (us++ws)
 | _,_,_,_,.nil,s=>s
 | _,_,_,_,.cons r t,s=>.cons r (Yh.append t s)
theorem Yh.take:∀{xs:List V} {us:List Value} (n:Nat),Yh xs us->Yh (xs.take n) (us.take n)
 | _,_,0,_=>.nil
 | _,_,_+1,.nil=>.nil
 | _,_,n+1,.cons r t=>.cons r (Yh.take n t)
theorem Yh.drop:∀{xs:List V} {us:List Value} (n:Nat),Yh xs us->Yh (xs.drop n) (us.drop n)
 | _,_,0,r=>r
 | _,_,_+1,.nil=>.nil
 | _,_,n+1,.cons _ t=>Yh.drop n t
def Zdk:Option V->Option Value->Prop
 | some v,some u=>Yl v u
 | none,none=>True
 | _,_=>False
def KV{κ:Type}:List (κ×V)->List (κ×Value)->Prop:=Paired fun (p:κ×V) (q:κ×Value)=>p.1=q.1/\Yl p.2 q.2
def kV:Key->V
 | .inl i=>.int i
 | .inr x=>.str x
inductive HO where
  | lst (xs:List V)
  | tup (xs:List V)
  | dK (kvs:List (Key×V)) | dT (kvs:List (List Key×V))
  | set (S:Int->Bool) (n:Nat)
  | ins (C dx:Addr) (fs:List (Str×V))
  | own (x:Addr)
  | xd (fs:List (Str×V))
  | met (f x:Addr)
  | rng (lo hi:Int)
  | frz (o:Obj) (u:HO)
  | tbl (ps:Array Value)
  | ext (φ:Heap->Prop)
abbrev Hp:=Addr->Option HO
def upd(H:Hp)(a:Addr)(o:HO):Hp:=fun b=>if b=a then some o else H b
theorem Zf{H:Hp}{a:Addr}{o:HO}:upd H a o a=some o:=by unfold upd;rw [if_pos rfl]
theorem Ze{H:Hp}{a b:Addr}{o:HO}(h:b≠a):upd H a o b=H b:=by unfold upd;rw [if_neg h]
theorem Zzd{H:Hp}{a b:Addr}{o u:HO}(h:H a=some o)(h':H b=some u)(d:o≠u):a≠b:=by
 intro e;subst e;rw [h] at h';exact d (Option.some.inj h')
theorem Zi{H:Hp}{a b:Addr}{o:HO}(h:H a=some o)(h':H b=none):a≠b:=by
 intro e;subst e;rw [h] at h';cases h'
section
variable (P:Program) (w:World)
def Yy(H:Hp)(h:Heap)(a:Addr):HO->Prop
 | .lst xs=>xs.length<=sizeLine/\∃(a7:List Value) (n:Nat),Yh xs a7/\h.get? a=some { cls:=.type "list",data:=.seq a7.toArray n }
 | .tup xs=>xs.length<=sizeLine/\∃a7:List Value,Yh xs a7/\IsTup h a a7.toArray
 | .dK kvs=>kvs.length<=sizeLine/\(a ==sysModules)=false/\∃vs,KV kvs vs/\h.DictOf (Z5 P w) a vs
 | .dT kvs=>kvs.length<=sizeLine/\(a ==sysModules)=false/\∃xs:List (List Key×Addr×Value),
   Paired (fun (p:List Key×V) (q:List Key×Addr×Value)=>p.1=q.1/\H q.2.1=some (.tup (p.1.map kV))/\Yl p.2 q.2.2) kvs xs /\
   ∃o es ep,h.get? a=some o/\o.ExactDict/\o.data=.dict es ep/\es.toList=xs.map (entryOfKey (tupleKind (Z5 P w)))/\(xs.map (·.1)).Nodup
 | .set S n=>h.SetOf (intKind P w) a S n
 | .ins C dx fs=>H dx=some (.own a)/\fs.length<=1000/\dx≠a/\h.get? a=some (PySem.W.instObj C dx) /\
   ∃mA,h.Ns1 dx mA/\(∀f,Zdk (fs.lookup f) (mA f))/\PySem.Within mA (fs.map (·.1))
 | .own _=>∃o,h.get? a=some o
 | .xd fs=>∃mA,h.Ns1 a mA/\∀f,Zdk (fs.lookup f) (mA f)
 | .rng lo hi=>∃t u v,h.get? a=some { cls:=.type "range",data:=.fields #[.int lo t,.int hi u,.int 1 v] }
 | .frz o u=>h.get? a=some o/\Yy H h a u
 | .tbl ps=>∃(ln cl:Value) (q:Str) (t:Nat),ps[0]? =some ln/\ps[1]? =some cl/\ps[2]? =some (.str q t) /\
   (h.get? a=some { cls:=.none,data:=.fields #[] }\/∃(c:Addr) (oc:Obj) (vs:Array Value) (tt:Nat),H c=some (.frz oc (.own a))/\oc.data=.fields vs/\vs[1]? =some (.str q tt) /\
    h.get? a=some { cls:=.none,data:=.fields #[ln,cl,.ref c] })
 | .met f x=>h.get? a=some (PySem.W.methodObj (.ref f) (.ref x))
 | .ext φ=>φ h/\(∃o,h.get? a=some o)/\∀h1 h2:Heap,φ h1->(∀o,h1.get? a=some o->h2.get? a=some o)->φ h2
def HOk(H:Hp)(h:Heap):Prop:=∀a o,H a=some o->Yy P w H h a o
end
section
variable {P:Program} {w:World} {H H':Hp} {h h':Heap} {a:Addr} {o:HO}
theorem Yy.lt(x:Yy P w H h a o):a<h.objs.size:=by
 cases o with
 | lst xs=>obtain ⟨_,_,_,_,e⟩:=x;exact Heap.lt_size e
 | tup xs=>obtain ⟨_,_,_,p⟩:=x;exact p.lt
 | dK kvs=>obtain ⟨_,_,_,_,o,_,_,e,_⟩:=x;exact Heap.lt_size e
 | dT kvs=>obtain ⟨_,_,_,_,o,_,_,e,_⟩:=x;exact Heap.lt_size e
 | set S n=>obtain ⟨o,_,_,_,e,_⟩:=x;exact Heap.lt_size e
 | ins C dx fs=>obtain ⟨_,_,_,e,_⟩:=x;exact Heap.lt_size e
 | own y=>obtain ⟨_,e⟩:=x;exact Heap.lt_size e
 | xd fs=>obtain ⟨_,⟨_,_,_,e,_⟩,_⟩:=x;exact Heap.lt_size e
 | rng lo hi=>obtain ⟨_,_,_,e⟩:=x;exact Heap.lt_size e
 | frz ob u=>obtain ⟨e,_⟩:=x;exact Heap.lt_size e
 | tbl ps =>
  obtain ⟨_,_,_,_,_,_,_,e | ⟨_,_,_,_,_,_,_,e⟩⟩:=x
  ·exact Heap.lt_size e
  ·exact Heap.lt_size e
 | met f y=>exact Heap.lt_size (show h.get? a=some _ from x)
 | ext φ=>obtain ⟨_,⟨_,e⟩,_⟩:=x;exact Heap.lt_size e
theorem Paired.mapP{α β:Type}{F G:α->β->Prop}:∀{l₁:List α} {l₂:List β},Paired F l₁ l₂->(∀a b,F a b->G a b)->Paired G l₁ l₂
 | _,_,.nil,_=>.nil
 | _,_,.cons r t,f=>.cons (f _ _ r) (Paired.mapP t f)
theorem Yy.stay(x:Yy P w H h a o)(k:∀b u,(b=a\/H b=some (.own a))->h.get? b=some u->h'.get? b=some u)
  (ho:∀b,H b=some (.own a)->H' b=some (.own a)) (ht:∀b xs,H b=some (.tup xs)->H' b=some (.tup xs))
  (hz:∀b o,H b=some (.frz o (.own a))->H' b=some (.frz o (.own a)):=by first | exact fun _ _ q=>q | (intro b o q;rw [Ze (Zi q (by assumption))];exact q)):Yy P w H' h' a o:=by
 induction o with
 | lst xs=>obtain ⟨z,a7,n,r,e⟩:=x;exact ⟨z,a7,n,r,k _ _ (.inl rfl) e⟩
 | tup xs=>obtain ⟨z,a7,r,ob,e,c⟩:=x;exact ⟨z,a7,r,ob,k _ _ (.inl rfl) e,c⟩
 | dK kvs=>obtain ⟨z,y,vs,r,ob,es,ep,e,c⟩:=x;exact ⟨z,y,vs,r,ob,es,ep,k _ _ (.inl rfl) e,c⟩
 | dT kvs =>
  obtain ⟨z,y,xs,r,ob,es,ep,e,c⟩:=x;exact ⟨z,y,xs,Paired.mapP r fun p q z=>⟨z.1,ht _ _ z.2.1,z.2.2⟩,ob,es,ep,k _ _ (.inl rfl) e,c⟩
 | set S n=>obtain ⟨ob,es,ep,t,e,c⟩:=x;exact ⟨ob,es,ep,t,k _ _ (.inl rfl) e,c⟩
 | ins C dx fs =>
  obtain ⟨d,z,ne,e,mA,⟨od,es,ep,e2,c⟩,r⟩:=x;exact ⟨ho _ d,z,ne,k _ _ (.inl rfl) e,mA,⟨od,es,ep,k _ _ (.inr d) e2,c⟩,r⟩
 | own y=>obtain ⟨ob,e⟩:=x;exact ⟨ob,k _ _ (.inl rfl) e⟩
 | xd fs=>obtain ⟨mA,⟨od,es,ep,e,c⟩,r⟩:=x;exact ⟨mA,⟨od,es,ep,k _ _ (.inl rfl) e,c⟩,r⟩
 | rng lo hi=>obtain ⟨t,u,v,e⟩:=x;exact ⟨t,u,v,k _ _ (.inl rfl) e⟩
 | frz ob u ih=>obtain ⟨e,q⟩:=x;exact ⟨k _ _ (.inl rfl) e,ih q⟩
 | tbl ps =>
  obtain ⟨ln,cl,q,t,e1,e2,e3,e | ⟨c,oc,vs,tt,f1,f2,f3,e⟩⟩:=x
  ·exact ⟨ln,cl,q,t,e1,e2,e3,.inl (k a _ (.inl rfl) e)⟩
  ·exact ⟨ln,cl,q,t,e1,e2,e3,.inr ⟨c,oc,vs,tt,hz _ _ f1,f2,f3,k a _ (.inl rfl) e⟩⟩
 | met f y =>
  have e:h.get? a=some (PySem.W.methodObj (.ref f) (.ref y)):=x;show h'.get? a=some (PySem.W.methodObj (.ref f) (.ref y));exact k a _ (.inl rfl) e
 | ext φ=>obtain ⟨p,⟨o,e⟩,st⟩:=x;exact ⟨st _ _ p fun o q=>k _ _ (.inl rfl) q,⟨o,k _ _ (.inl rfl) e⟩,st⟩
theorem HOk.lt(x:HOk P w H h)(e:H a=some o):a<h.objs.size:=(x a o e).lt
theorem HOk.fresh(x:HOk P w H h)(e:h.objs.size<=a):H a=none:=by
 cases q:H a with
 | none=>rfl
 | some u=>exact absurd (Nat.lt_of_lt_of_le (x.lt q) e) (Nat.lt_irrefl _)
theorem HOk.kept(x:HOk P w H h)(k:∀b u,h.get? b=some u->h'.get? b=some u):HOk P w H h':=fun a o e =>
 (x a o e).stay (fun b u _ q=>k b u q) (fun _ q=>q) fun _ _ q=>q
theorem HOk.laid(x:HOk P w H h)(k:∀b u,h.get? b=some u->h'.get? b=some u)(hp:h.objs.size<=a)(new:Yy P w (upd H a o) h' a o):HOk P w (upd H a o) h':=fun b u e=>by
 have hn:=x.fresh hp
 by_cases hb:b=a
 ·subst hb;rw [Zf] at e;cases e;exact new
 ·rw [Ze hb] at e;exact (x b u e).stay (fun c v _ q=>k c v q) (fun c q=>by rw [Ze (Zi q hn)];exact q) fun c xs q=>by rw [Ze (Zi q hn)];exact q
end
def Rd(H:Hp)(a:Addr)(u:HO):Prop:=H a=some u\/∃o,H a=some (.frz o u)
theorem Rd.ok{P:Program}{w:World}{H:Hp}{h:Heap}{a:Addr}{u:HO}(r:Rd H a u)(x:HOk P w H h):Yy P w H h a u:=by
 rcases r with r|⟨o,r⟩
 ·exact x a u r
 ·obtain ⟨_,q⟩:=x a _ r;exact q
def Mut:Option HO->Prop
 | some (.lst _)=>True
 | some (.dK _)=>True
 | some (.dT _)=>True
 | some (.set _ _)=>True
 | some (.ins _ _ _)=>True
 | some (.ext _)=>True
 | _=>False
section
variable {P:Program} {w:World} {H:Hp} {h h':Heap} {x e:Addr} {o':HO}
theorem HOk.write(ok:HOk P w H h)(mu:Mut (H x))(he:e=x\/H e=some (.own x))(k:∀b u,b≠e->h.get? b=some u->h'.get? b=some u)(heo:∃u,h'.get? e=some u)
  (new:Yy P w (upd H x o') h' x o'):HOk P w (upd H x o') h':=fun b u q=>by
 have nown:∀c y,H c=some (.own y)->c≠x:=fun c y r z=>by subst z;rw [r] at mu;exact mu
 have ntup:∀c xs,H c=some (.tup xs)->c≠x:=fun c xs r z=>by subst z;rw [r] at mu;exact mu
 have nfrz:∀c o y,H c=some (.frz o (.own y))->c≠x:=fun c o y r z=>by subst z;rw [r] at mu;exact mu
 by_cases hb:b=x
 ·subst hb;rw [Zf] at q;cases q;exact new
 ·rw [Ze hb] at q
  by_cases hbe:b=e
  ·have q':H b=some (.own x):=by
    rcases he with z|z
    ·exact absurd (hbe.trans z) hb
    ·rw [hbe];exact z
   rw [q] at q';cases q';obtain ⟨v,hv⟩:=heo;exact ⟨v,by rw [hbe];exact hv⟩
  ·refine (ok b u q).stay (fun c v hc r=>k c v ?_ r) (fun c r=>by rw [Ze (nown c b r)];exact r) (fun c xs r=>by rw [Ze (ntup c xs r)];exact r) (fun c o r=>by rw [Ze (nfrz c o b r)];exact r);rcases hc with rfl|hc
   ·exact hbe
   ·rintro rfl;rcases he with z|z
    ·exact nown c b hc z
    ·rw [hc] at z;cases z;exact hb rfl
end
structure Un(fs ex:List Addr)(H H':Hp)(h h':Heap):Prop where
 keep:∀b o,h.get? b=some o->H b=none->b∉fs->b∉ex->h'.get? b=some o
 slot:∀b o,h.get? b=some o->H b=none->b∈fs->b∉ex->∃sl,h'.get? b=some { o with slots:=sl }
 free:∀b o,h.get? b=some o->H b=none->b∉ex->H' b=none
 there:∀b o,h.get? b=some o->b∉ex->∃o',h'.get? b=some o'
 tups:∀b xs,H b=some (.tup xs)->H' b=some (.tup xs)
 frzs:∀b o u,H b=some (.frz o u)->H' b=some (.frz o u)
 tbls:∀b ps,H b=some (.tbl ps)->∃more,H' b=some (.tbl (ps++more))
section
variable {fs fs' ex ex':List Addr} {H H1 H2:Hp} {h h1 h2 h':Heap} {a x e:Addr} {o:HO}
theorem Un.any(u:Un fs ex H H1 h h1){b:Addr}{ob:Obj}(q:h.get? b=some ob)(n:H b=none)(hx:b∉ex):∃sl,h1.get? b=some { ob with slots:=sl }:=by
 by_cases hb:b∈fs
 ·exact u.slot b ob q n hb hx
 ·exact ⟨ob.slots,u.keep b ob q n hb hx⟩
theorem Un.kept(k:∀b u,h.get? b=some u->h'.get? b=some u):Un fs ex H H h h' :=
 ⟨fun b ob q _ _ _=>k b ob q,fun b ob q _ _ _=>⟨ob.slots,k b ob q⟩,fun _ _ _ n _=>n,fun b ob q _=>⟨ob,k b ob q⟩,fun _ _ q=>q,fun _ _ _ q=>q,fun _ ps q=>⟨#[],by rw [q];simp⟩⟩
theorem Un.refl:Un fs ex H H h h:=Un.kept fun _ _ q=>q
theorem Un.laid(k:∀b u,h.get? b=some u->h'.get? b=some u)(hp:h.objs.size<=a)(hn:H a=none):Un fs ex H (upd H a o) h h' where
 keep:=fun b u q _ _ _=>k b u q
 slot:=fun b u q _ _ _=>⟨u.slots,k b u q⟩
 free:=fun b u q n _=>by rw [Ze (Nat.ne_of_lt (Nat.lt_of_lt_of_le (Heap.lt_size q) hp))];exact n
 there:=fun b u q _=>⟨u,k b u q⟩
 tups:=fun b xs q=>by rw [Ze (Zi q hn)];exact q
 frzs:=fun b u xs q=>by rw [Ze (Zi q hn)];exact q
 tbls:=fun b ps q=>⟨#[],by rw [Ze (Zi q hn),q];simp⟩
theorem Un.write(mu:Mut (H x))(he:e=x\/H e=some (.own x))(k:∀b u,b≠e->h.get? b=some u->h'.get? b=some u)(heo:∃u,h'.get? e=some u):Un fs ex H (upd H x o) h h':=by
 have hx:∀b,H b=none->b≠x:=fun b n z=>by subst z;rw [n] at mu;exact mu
 have hb:∀b,H b=none->b≠e:=fun b n z=>by
  subst z;rcases he with r|r
  ·exact hx b n r
  ·rw [n] at r;cases r
 have hm:∀b u,H b=some u->¬Mut (some u)->b≠x:=fun b u q nm z=>by subst z;rw [q] at mu;exact nm mu
 refine ⟨fun b u q n _ _=>k b u (hb b n) q,fun b u q n _ _=>⟨u.slots,k b u (hb b n) q⟩,fun b u q n _=>by rw [Ze (hx b n)];exact n,fun b u q _=>?_,
  fun b xs q=>by rw [Ze (hm b _ q fun z=>z)];exact q,fun b u xs q=>by rw [Ze (hm b _ q fun z=>z)];exact q,fun b ps q=>⟨#[],by rw [Ze (hm b _ q fun z=>z),q];simp⟩⟩
 by_cases hbe:b=e
 ·subst hbe;exact heo
 ·exact ⟨u,k b u hbe q⟩
end
def trk(h:Heap)(H:Hp):List Addr:=(List.range h.objs.size).filter fun a=>(H a).isSome
def Zow(h:Heap)(H:Hp):Heap:=PySem.W.hideAll h (trk h H)
theorem Ztx(h:Heap)(H:Hp):(Zow h H).objs.size=h.objs.size:=PySem.W.hideAll_size _ _
theorem Zw6{h:Heap}{H:Hp}{b:Addr}{o:Obj}(e:h.get? b=some o)(n:H b=none):(Zow h H).get? b=some o :=
 PySem.W.hideAll_get _ e fun hm=>by
  have q:(H b).isSome=true:=(List.mem_filter.mp hm).2;rw [n] at q;simp at q
theorem Zya{h:Heap}{H:Hp}{b:Addr}{o:Obj}(e:(Zow h H).get? b=some o):h.get? b=some o/\H b=none:=by
 have e':h.get? b=some o:=PySem.W.of_hideAll (trk h H) e;refine ⟨e',?_⟩;cases q:H b with
 | none=>rfl
 | some x =>
  have hm:b∈trk h H:=List.mem_filter.mpr ⟨List.mem_range.mpr (Heap.lt_size e'),by simp [q]⟩;have z:(Zow h H).get? b=none:=PySem.W.hideAll_none (trk h H) hm;rw [z] at e;cases e
def Zxr(g h:Heap)(L:Addr):List (Addr×Obj):=(List.range h.objs.size).filterMap fun a=>if a=L\/(g.get? a).isSome=true then none else (h.get? a).map fun o=>(a,o)
def Yo(g h:Heap)(L d:Addr):List (Addr×Obj):=(Zxr g h L).filter fun p=>decide (p.1≠d)
end L2
namespace L2
open PySem PySem.Spec PyProof.Rows
def Zyr(mg:Str->Option Value)(h:Heap):Prop:=∃bm ob,mg "__builtins__" =some (.ref bm)/\bm≠builtinsNs/\h.get? bm=some ob/\ob.cls=.type "module" /\ob.dict=some builtinsNs/\ob.data=.plain
structure Mod(K:Frag)(mg:Str->Option Value)(base:Heap):Prop where
 kin:K.In base
 glob:base.Ns mainGlobals mg
 blt:∃mb,base.Ns builtinsNs mb/\∀x:Str,x ≠ "__name__" ->mb x=bootBuiltins x
 nolimit:base.NoLimit
 bm:Zyr mg base
structure Cx where
 prog:Program
 w:World
 K:Frag
 mg:Str->Option Value
 base:Heap
 A:Around
 N:List Str
 s₀:Shared
 H₀:Hp
 env:Env
 outer:List Env
 stack:List Env
 ex:List Addr
 fn:Str->Bool
 calm:Bool
 pn:List (Addr×Obj)
 xe:Value->Shared->Prop
def frs(l:List Env):List Addr:=l.filterMap (·.frame)
abbrev Cx.fs(X:Cx):List Addr:=frs X.outer
def Vis(sc:Scope)(x:Str):Prop:=sc.names.lookup x=some .local\/sc.names.lookup x=some .cell\/sc.names.lookup x=some .free
def Loc(sc:Scope)(x:Str):Prop:=sc.names.lookup x=some .local\/sc.names.lookup x=some .cell
def Ycu(env:Env)(h:Heap)(m:Str->Option Value)(x:Str)(u:Value):Prop :=
 (env.kindOf x=some .local/\m x=some u)\/((env.kindOf x=some .cell\/env.kindOf x=some .free)/\∃c,env.cells.lookup x=some c/\h.IsCell c (some u))
structure Cx.Ok(X:Cx):Prop where
 mod:Mod X.K X.mg X.base
 kind:X.env.scope.kind=.function
 glob:X.env.globals=mainGlobals
 blt:X.env.builtins=builtinsNs
 above:X.s₀.heap.objs.size<=X.env.locals
 inj:∀x y c,X.env.cells.lookup x=some c->X.env.cells.lookup y=some c->x=y
 has:∀x,(X.env.kindOf x=some .cell\/X.env.kindOf x=some .free)->∃c,X.env.cells.lookup x=some c
 cab:∀x c,X.fn x=true->X.env.cells.lookup x=some c->X.s₀.heap.objs.size<=c
 hd:X.calm=true->X.A.handled=none
 frames:X.A.frames=some X.stack
 stk:X.stack=X.outer\/(X.stack=X.env ::X.outer/\X.env.frame=some X.env.locals)
 exf:∀b∈X.ex,b≠X.env.locals/\∀x c,X.env.cells.lookup x=some c->c≠b
 bs:∀b o,X.base.get? b=some o->X.s₀.heap.get? b=some o/\X.H₀ b=none
 bsz:X.base.objs.size<=X.s₀.heap.objs.size
 noex:∀b o,X.base.get? b=some o->b∉X.ex
 exfs:∀b∈X.ex,b∉X.fs
 funs:X.s₀.heap.FunFrames X.base X.outer
 frf:∀b∈X.fs,X.H₀ b=none
structure Inv(X:Cx)(a6:List (Addr×Obj))(σ:List (Option V))(H:Hp)(s:Shared):Prop where
 ok:X.Ok
 os:s.os=X.s₀.os
 bare:AllBare s.gens
 base:Un X.fs X.ex X.H₀ H X.s₀.heap s.heap
 loc:∃m,s.heap.Ns X.env.locals m/\∀(i:Nat) (x:Str) (v:V),X.N[i]? =some x->σ[i]? =some (some v)->Vis X.env.scope x->∃u,Yl v u/\Ycu X.env s.heap m x u
 cell:∀x c,X.env.cells.lookup x=some c->∃v,s.heap.IsCell c v
 free:H X.env.locals=none
 freeC:∀x c,X.env.cells.lookup x=some c->H c=none
 pin:∀p∈X.pn++a6,s.heap.get? p.1=some p.2/\H p.1=none/\p.1≠X.env.locals/\p.1∉X.fs/\∀v,p.2.data ≠ .cell v
 hok:HOk X.prog X.w H s.heap
 len:σ.length=X.N.length
section
variable {X:Cx} {a6:List (Addr×Obj)} {σ:List (Option V)} {H H':Hp} {s:Shared} {h':Heap}
theorem Cx.Ok.nofr(ok:X.Ok){b:Addr}{o:Obj}(e:X.base.get? b=some o):b∉X.fs:=fun hb=>by
 have:=(ok.funs.mem hb).1;rw [e] at this;cases this
theorem Inv.bs(I:Inv X a6 σ H s):∀b o,X.base.get? b=some o->s.heap.get? b=some o/\H b=none:=fun b o e =>
 ⟨I.base.keep b o (I.ok.bs b o e).1 (I.ok.bs b o e).2 (I.ok.nofr e) (I.ok.noex b o e),I.base.free b o (I.ok.bs b o e).1 (I.ok.bs b o e).2 (I.ok.noex b o e)⟩
theorem Inv.bk(I:Inv X a6 σ H s):∀b o,X.base.get? b=some o->s.heap.get? b=some o:=fun b o e=>(I.bs b o e).1
theorem Inv.mod(I:Inv X a6 σ H s):Mod X.K X.mg X.base:=I.ok.mod
theorem Inv.kIn(I:Inv X a6 σ H s):X.K.In s.heap:=I.ok.mod.kin.keeps I.bk
theorem Inv.fr(I:Inv X a6 σ H s):∃m,Fr X.base X.env.locals s.heap m :=
 let ⟨m,hn,_⟩:=I.loc
 ⟨m,hn,I.bk,Nat.le_trans I.ok.bsz I.ok.above⟩
theorem Inv.lt(I:Inv X a6 σ H s):X.env.locals<s.heap.objs.size:=let ⟨_,hn,_⟩:=I.loc;hn.lt
theorem Inv.sz(I:Inv X a6 σ H s):X.s₀.heap.objs.size<=s.heap.objs.size:=Nat.le_trans I.ok.above (Nat.le_of_lt I.lt)
theorem Inv.nofs(I:Inv X a6 σ H s){a:Addr}(h:s.heap.objs.size<=a):a∉X.fs:=fun hb=>by
 obtain ⟨_,o,ho,_⟩:=I.ok.funs.mem hb;exact absurd (Nat.lt_of_lt_of_le (Heap.lt_size ho) (Nat.le_trans I.sz h)) (Nat.lt_irrefl _)
theorem Inv.cne(I:Inv X a6 σ H s):∀x c,X.env.cells.lookup x=some c->c≠X.env.locals:=fun x c e z=>by
 obtain ⟨v,o,ho,hd⟩:=I.cell x c e;obtain ⟨m,⟨o',es,ep,S4,hd',_⟩,_⟩:=I.loc;rw [z,S4] at ho;cases ho;rw [hd'] at hd;cases hd
theorem Inv.funs(I:Inv X a6 σ H s):s.heap.FunFrames X.base X.outer:=by
 have all:∀(l:List Env),(∀b∈frs l,b∈X.fs)->X.s₀.heap.FunFrames X.base l->s.heap.FunFrames X.base l:=by
  intro l
  induction l with
  | nil=>intro _ _;trivial
  | cons env r ih =>
   intro hs hl;obtain ⟨hk,⟨L,o,hf,hn,ho,hd⟩,hr⟩:=hl;have hL:L∈X.fs:=hs L (by unfold frs;rw [List.filterMap_cons,hf];exact List.mem_cons_self);obtain ⟨sl,e⟩:=I.base.slot L o ho (I.ok.frf L hL) hL fun z=>I.ok.exfs L z hL
   exact ⟨hk,⟨L,_,hf,hn,e,hd⟩,ih (fun b hb=>hs b (by unfold frs;rw [List.filterMap_cons,hf];exact List.mem_cons_of_mem _ hb)) hr⟩
 exact all X.outer (fun _ hb=>hb) I.ok.funs
theorem Inv.stack(I:Inv X a6 σ H s):s.heap.FunFrames X.base X.stack:=by
 rcases I.ok.stk with e|⟨e,hf⟩
 ·rw [e];exact I.funs
 ·rw [e];obtain ⟨m,hn,_⟩:=I.loc;refine .cons (by rw [I.ok.kind];decide) hf hn ?_ I.funs;exact Heap.get?_none_of_le (Nat.le_trans I.ok.bsz I.ok.above)
theorem Inv.stkSub(I:Inv X a6 σ H s):∀b∈frs X.stack,b∈X.env.locals ::X.fs:=fun b hb=>by
 rcases I.ok.stk with e|⟨e,hf⟩
 ·rw [e] at hb;exact List.mem_cons_of_mem _ hb
 ·rw [e] at hb;unfold frs at hb;rw [List.filterMap_cons,hf] at hb;exact hb
theorem Inv.stkFree(I:Inv X a6 σ H s):∀b∈frs X.stack,H b=none:=fun b hb=>by
 rcases List.mem_cons.mp (I.stkSub b hb) with e|hb
 ·rw [e];exact I.free
 ·obtain ⟨_,o,ho,_⟩:=I.ok.funs.mem hb;exact I.base.free b o ho (I.ok.frf b hb) fun z=>I.ok.exfs b z hb
theorem Inv.step{g':Array GenState}{t':Nat}{d':Drawn}{ch:List Addr}(I:Inv X a6 σ H s)
  (L6:∀b∈ch,(b∈X.ex\/X.s₀.heap.objs.size<=b)/\b≠X.env.locals/\(∀x c,X.env.cells.lookup x=some c->c≠b)/\∀p∈X.pn++a6,p.1≠b)
  (keep:∀b o,b≠X.env.locals->b∉X.fs->b∉ch->s.heap.get? b=some o->H b=none->h'.get? b=some o)
  (slot:∀b o,b≠X.env.locals->b∈X.fs->b∉ch->s.heap.get? b=some o->H b=none->∃sl,h'.get? b=some { o with slots:=sl }) (free:∀b o,b∉ch->s.heap.get? b=some o->H b=none->H' b=none)
  (there:∀b o,b∉ch->s.heap.get? b=some o->∃o',h'.get? b=some o')
  (tups:∀b xs,H b=some (.tup xs)->H' b=some (.tup xs)) (frzs:∀b o u,H b=some (.frz o u)->H' b=some (.frz o u)) (tbls:∀b ps,H b=some (.tbl ps)->∃more,H' b=some (.tbl (ps++more)))
  (ns:∀m,s.heap.Ns X.env.locals m->h'.Ns X.env.locals m) (hok:HOk X.prog X.w H' h') (hg:AllBare g') :
  Inv X a6 σ H' { s with heap:=h',gens:=g',drawn:=d',toks:=t' }:=by
 have neL:∀b o,X.s₀.heap.get? b=some o->b≠X.env.locals:=fun b o e=>Nat.ne_of_lt (Nat.lt_of_lt_of_le (Heap.lt_size e) I.ok.above)
 have neC:∀b o,X.s₀.heap.get? b=some o->b∉X.ex->b∉ch:=fun b o e hx hb=>by
  rcases (L6 b hb).1 with z|z
  ·exact hx z
  ·exact absurd (Nat.lt_of_lt_of_le (Heap.lt_size e) z) (Nat.lt_irrefl _)
 have cellK:∀x c,X.env.cells.lookup x=some c->∀v,s.heap.IsCell c v->h'.IsCell c v:=fun x c e v ⟨o,ho,hd⟩=>by
  have nch:c∉ch:=fun z=>(L6 c z).2.2.1 x c e rfl
  by_cases hc:c∈X.fs
  ·obtain ⟨sl,q⟩:=slot c o (I.cne x c e) hc nch ho (I.freeC x c e);exact ⟨_,q,hd⟩
  ·exact ⟨o,keep c o (I.cne x c e) hc nch ho (I.freeC x c e),hd⟩
 refine ⟨I.ok,I.os,hg,⟨fun b o e n hb hx=>?_,fun b o e n hb hx=>?_,fun b o e n hx=>?_,fun b o e hx=>?_,fun b xs e=>tups b xs (I.base.tups b xs e),fun b o xs e=>frzs b o xs (I.base.frzs b o xs e),fun b ps e=>?_⟩,?_,fun x c e=>?_,?_,fun x c e=>?_,fun p hp=>?_,hok,I.len⟩
 ·exact keep b o (neL b o e) hb (neC b o e hx) (I.base.keep b o e n hb hx) (I.base.free b o e n hx)
 ·obtain ⟨sl,e1⟩:=I.base.slot b o e n hb hx;obtain ⟨sl',e2⟩:=slot b _ (neL b o e) hb (neC b o e hx) e1 (I.base.free b o e n hx);exact ⟨sl',e2⟩
 ·obtain ⟨o',e1⟩:=I.base.there b o e hx;exact free b o' (neC b o e hx) e1 (I.base.free b o e n hx)
 ·obtain ⟨o',e1⟩:=I.base.there b o e hx;exact there b o' (neC b o e hx) e1
 ·obtain ⟨m1,e1⟩:=I.base.tbls b ps e;obtain ⟨m2,e2⟩:=tbls b _ e1;exact ⟨m1++m2,by rw [e2,Array.append_assoc]⟩
 ·obtain ⟨m,hn,hl⟩:=I.loc;refine ⟨m,ns m hn,fun i x v e1 e2 e3=>?_⟩;obtain ⟨u,r,l⟩:=hl i x v e1 e2 e3;refine ⟨u,r,?_⟩;rcases l with l|⟨k,c,e,z⟩
  ·exact .inl l
  ·exact .inr ⟨k,c,e,cellK x c e _ z⟩
 ·obtain ⟨v,z⟩:=I.cell x c e;exact ⟨v,cellK x c e v z⟩
 ·obtain ⟨m,⟨o,_,_,ho,_⟩,_⟩:=I.loc;exact free _ o (fun z=>(L6 _ z).2.1 rfl) ho I.free
 ·obtain ⟨v,o,ho,hd⟩:=I.cell x c e;exact free c o (fun z=>(L6 c z).2.2.1 x c e rfl) ho (I.freeC x c e)
 ·obtain ⟨e,n,ne,nf,d⟩:=I.pin p hp;have nch:p.1∉ch:=fun z=>(L6 p.1 z).2.2.2 p hp rfl
  exact ⟨keep p.1 p.2 ne nf nch e n,free p.1 p.2 nch e n,ne,nf,d⟩
theorem Inv.un{t':Nat}(I:Inv X a6 σ H s)(u:Un X.fs [] H H' s.heap h')(hok:HOk X.prog X.w H' h'):Inv X a6 σ H' { s with heap:=h',toks:=t' }:=by
 obtain ⟨m,⟨o,es,ep,ho,r⟩,_⟩:=id I.loc;obtain ⟨sl,hL⟩:=u.any ho I.free (by simp);exact I.step (g':=s.gens) (d':=s.drawn) (ch:=[]) (fun _ z=>nomatch z) (fun b o _ hb _ e n=>u.keep b o e n hb (by simp)) (fun b o _ hb _ e n=>u.slot b o e n hb (by simp)) (fun b o _ e n=>u.free b o e n (by simp)) (fun b o _ e=>u.there b o e (by simp)) u.tups u.frzs u.tbls (fun m' hm=>by
  obtain ⟨o',es',ep',S4,r'⟩:=hm;rw [ho] at S4;cases S4;exact ⟨_,es',ep',hL,r'⟩) hok I.bare
theorem Inv.call{g':Array GenState}{t':Nat}{d':Drawn}{ch:List Addr}(I:Inv X a6 σ H s)(u:Un (frs X.stack) ch H H' s.heap h')(hok:HOk X.prog X.w H' h')(hg:AllBare g')
  (L6:∀b∈ch,(b∈X.ex\/X.s₀.heap.objs.size<=b)/\b≠X.env.locals/\(∀x c,X.env.cells.lookup x=some c->c≠b)/\∀p∈X.pn++a6,p.1≠b) :
  Inv X a6 σ H' { s with heap:=h',gens:=g',drawn:=d',toks:=t' }:=by
 obtain ⟨m,⟨o,es,ep,ho,r⟩,_⟩:=id I.loc;obtain ⟨sl,hL⟩:=u.any ho I.free fun z=>(L6 _ z).2.1 rfl
 exact I.step (ch:=ch) L6 (fun b o hL hb hc e n=>u.keep b o e n (fun z=>(List.mem_cons.mp (I.stkSub b z)).elim hL hb) hc) (fun b o _ _ hc e n=>u.any e n hc) (fun b o hc e n=>u.free b o e n hc) (fun b o hc e=>u.there b o e hc) u.tups u.frzs u.tbls (fun m' hm=>by
  obtain ⟨o',es',ep',S4,r'⟩:=hm;rw [ho] at S4;cases S4;exact ⟨_,es',ep',hL,r'⟩) hok hg
theorem Inv.turned{t':Nat}{it:Addr}(I:Inv X a6 σ H s)(k:∀b o,b≠it->s.heap.get? b=some o->h'.get? b=some o)(hn:H it=none)(hL:it≠X.env.locals)
  (h1:it∈X.ex\/X.s₀.heap.objs.size<=it) (h2:∀x c,X.env.cells.lookup x=some c->c≠it) (h3:∀p∈X.pn++a6,p.1≠it):Inv X a6 σ H { s with heap:=h',toks:=t' }:=by
 have nit:∀b u,H b=some u->b≠it:=fun b u e z=>by rw [z,hn] at e;cases e
 refine I.step (g':=s.gens) (d':=s.drawn) (ch:=[it]) (fun b hb=>?_) (fun b o _ _ hc e _=>k b o (fun z=>hc (by simp [z])) e) (fun b o _ _ hc e _=>⟨o.slots,k b o (fun z=>hc (by simp [z])) e⟩) (fun _ _ _ _ n=>n)
  (fun b o hc e=>⟨o,k b o (fun z=>hc (by simp [z])) e⟩) (fun _ _ e=>e) (fun _ _ _ e=>e) (fun b ps e=>⟨#[],by rw [e];simp⟩) (fun m hm=>?_) (fun b u e=>?_) I.bare
 ·have e:b=it:=by simpa using hb
  subst e;exact ⟨h1,hL,h2,h3⟩
 ·obtain ⟨o,es,ep,ho,r⟩:=hm;exact ⟨o,es,ep,k _ o (Ne.symm hL) ho,r⟩
 ·refine (I.hok b u e).stay (fun c v hc q=>k c v ?_ q) (fun _ q=>q) fun _ _ q=>q
  rcases hc with z|z
  ·rw [z];exact nit b u e
  ·exact nit c _ z
theorem Inv.tok(I:Inv X a6 σ H s)(t:Nat):Inv X a6 σ H { s with toks:=t }:=I.un (h':=s.heap) (t':=t) Un.refl I.hok
theorem Inv.kept{t':Nat}(I:Inv X a6 σ H s)(k:∀b u,s.heap.get? b=some u->h'.get? b=some u):Inv X a6 σ H { s with heap:=h',toks:=t' }:=I.un (Un.kept k) (I.hok.kept k)
theorem Inv.laid{a:Addr}{o:HO}{t':Nat}(I:Inv X a6 σ H s)(k:∀b u,s.heap.get? b=some u->h'.get? b=some u)(hp:s.heap.objs.size<=a)(new:Yy X.prog X.w (upd H a o) h' a o) :
  Inv X a6 σ (upd H a o) { s with heap:=h',toks:=t' }:=I.un (Un.laid k hp (I.hok.fresh hp)) (I.hok.laid k hp new)
theorem Inv.write{x e:Addr}{o:HO}{t':Nat}(I:Inv X a6 σ H s)(mu:Mut (H x))(he:e=x\/H e=some (.own x))(k:∀b u,b≠e->s.heap.get? b=some u->h'.get? b=some u)(heo:∃u,h'.get? e=some u)
  (new:Yy X.prog X.w (upd H x o) h' x o):Inv X a6 σ (upd H x o) { s with heap:=h',toks:=t' }:=I.un (Un.write mu he k heo) (I.hok.write mu he k heo new)
theorem Inv.weak{σ':List (Option V)}(I:Inv X a6 σ H s)(hl:σ'.length=σ.length)(w:∀(i:Nat) v,σ'[i]? =some (some v)->σ[i]? =some (some v)):Inv X a6 σ' H s :=
 ⟨I.ok,I.os,I.bare,I.base,let ⟨m,hn,C5⟩:=I.loc;⟨m,hn,fun i x v e1 e2 e3=>C5 i x v e1 (w i v e2) e3⟩,I.cell,I.free,I.freeC,I.pin,I.hok,hl.trans I.len⟩
theorem Inv.pins_of{m9:List (Addr×Obj)}(I:Inv X a6 σ H s)(h:∀p∈m9,s.heap.get? p.1=some p.2/\H p.1=none/\p.1≠X.env.locals/\p.1∉X.fs/\∀v,p.2.data ≠ .cell v):Inv X m9 σ H s :=
 ⟨I.ok,I.os,I.bare,I.base,I.loc,I.cell,I.free,I.freeC,fun p hp=>(List.mem_append.mp hp).elim (fun z=>I.pin p (List.mem_append_left _ z)) (h p),I.hok,I.len⟩
theorem Zqa{N:List Str}(hN:N.Nodup){i j:Nat}{x:Str}(a:N[i]? =some x)(b:N[j]? =some x):i=j:=by
 obtain ⟨h1,e1⟩:=List.getElem?_eq_some_iff.mp a;obtain ⟨h2,e2⟩:=List.getElem?_eq_some_iff.mp b;exact (List.getElem_inj hN).mp (e1.trans e2.symm)
theorem Zug{M:Model}{A:Around}{E:Value->Shared->Prop}{i:Nat}{x:Str}{v:V}{u:Value}{Q:Unit->Shared->Prop}(I:Inv X a6 σ H s)(hN:X.N.Nodup)(hi:X.N[i]? =some x)(hx:Loc X.env.scope x)(r:Yl v u)
  (h:∀s',Inv X a6 (σ.set i (some v)) H s'->(∃a,Heap.SameBut a s.heap s'.heap/\(a=X.env.locals\/X.env.cells.lookup x=some a))->Q () s') (hf:X.fn x=true\/X.env.scope.names.lookup x=some .local:=by first | exact .inl rfl | exact .inr rfl | assumption):wpAny M A (storeName X.env x u) Q E s:=by
 obtain ⟨m,hn,hl⟩:=id I.loc;have hcls:(X.env.scope.kind ==.class || (X.env.scope.kind ==.module && X.env.locals !=X.env.globals))=false:=by rw [I.ok.kind];rfl
 have hiσ:i<σ.length:=by rw [I.len];exact (List.getElem?_eq_some_iff.mp hi).1
 have cne:=I.cne;have K5:∀{a:Addr} {h':Heap},(∃o,s.heap.get? a=some o/\H a=none)->Heap.SameBut a s.heap h'->HOk X.prog X.w H h':=fun {a h'} ha hs b ob e=>by
  obtain ⟨_,_,A3⟩:=ha;refine (I.hok b ob e).stay (fun c w' hc q=>(hs.2 c ?_).trans q) (fun _ q=>q) fun _ _ q=>q
  rintro rfl;rcases hc with rfl|hc
  ·rw [A3] at e;cases e
  ·rw [A3] at hc;cases hc
 rcases hx with hk|hk
 ·refine wpAny_storeName_local hk hn (fun h' hn' hs=>?_) hcls;obtain ⟨oL,_,_,hoL,_⟩:=id hn;refine h _ ⟨I.ok,I.os,I.bare,⟨fun b o e n hb hx=>?_,fun b o e n hb hx=>?_,I.base.free,fun b o e hx=>?_,I.base.tups,I.base.frzs,I.base.tbls⟩,⟨_,hn',fun j y v' e1 e2 e3=>?_⟩,fun y c e=>?_,I.free,I.freeC,fun p hp=>?_,K5 ⟨oL,hoL,I.free⟩ hs,by simpa using I.len⟩ ⟨_,hs,.inl rfl⟩
  ·exact (hs.2 b (Nat.ne_of_lt (Nat.lt_of_lt_of_le (Heap.lt_size e) I.ok.above))).trans (I.base.keep b o e n hb hx)
  ·obtain ⟨sl,e1⟩:=I.base.slot b o e n hb hx;exact ⟨sl,(hs.2 b (Nat.ne_of_lt (Nat.lt_of_lt_of_le (Heap.lt_size e) I.ok.above))).trans e1⟩
  ·obtain ⟨o',e1⟩:=I.base.there b o e hx;exact ⟨o',(hs.2 b (Nat.ne_of_lt (Nat.lt_of_lt_of_le (Heap.lt_size e) I.ok.above))).trans e1⟩
  ·by_cases hj:j=i
   ·subst hj;rw [hi] at e1;cases e1;rw [List.getElem?_set_self hiσ] at e2;cases e2;exact ⟨u,r,.inl ⟨hk,by simp⟩⟩
   ·rw [List.getElem?_set_ne (Ne.symm hj)] at e2;obtain ⟨u',r',q⟩:=hl j y v' e1 e2 e3;refine ⟨u',r',?_⟩;rcases q with ⟨k,e⟩|⟨k,c,e,z⟩
    ·refine .inl ⟨k,?_⟩;have:y≠x:=fun e=>hj (Zqa hN e1 (e ▸ hi))
     simp [this,e]
    ·exact .inr ⟨k,c,e,z.sameBut hs (cne y c e)⟩
  ·obtain ⟨w',z⟩:=I.cell y c e;exact ⟨w',z.sameBut hs (cne y c e)⟩
  ·obtain ⟨e,n,ne,nf,d⟩:=I.pin p hp;exact ⟨(hs.2 p.1 ne).trans e,n,ne,nf,d⟩
 ·have hfn:X.fn x=true:=by
   rcases hf with z|z
   ·exact z
   ·rw [z] at hk;cases hk
  obtain ⟨c,hc⟩:=I.ok.has x (.inl hk);obtain ⟨w',z⟩:=I.cell x c hc;refine wpAny_storeName_cell I.ok.kind hk hc z (fun h' R7 hs=>?_);obtain ⟨oc,hoc,hocd⟩:=id z;refine h { s with heap:=h' } ⟨I.ok,I.os,I.bare,⟨fun b o e n hb hx=>?_,fun b o e n hb hx=>?_,I.base.free,fun b o e hx=>?_,I.base.tups,I.base.frzs,I.base.tbls⟩,⟨m,hn.sameBut hs (Ne.symm (cne x c hc)),fun j y v' e1 e2 e3=>?_⟩,fun y c' e=>?_,I.free,I.freeC,fun p hp=>?_,K5 ⟨oc,hoc,I.freeC x c hc⟩ hs,by simpa using I.len⟩ ⟨c,hs,.inr hc⟩
  ·exact (hs.2 b (Nat.ne_of_lt (Nat.lt_of_lt_of_le (Heap.lt_size e) (I.ok.cab x c hfn hc)))).trans (I.base.keep b o e n hb hx)
  ·obtain ⟨sl,e1⟩:=I.base.slot b o e n hb hx;exact ⟨sl,(hs.2 b (Nat.ne_of_lt (Nat.lt_of_lt_of_le (Heap.lt_size e) (I.ok.cab x c hfn hc)))).trans e1⟩
  ·obtain ⟨o',e1⟩:=I.base.there b o e hx;exact ⟨o',(hs.2 b (Nat.ne_of_lt (Nat.lt_of_lt_of_le (Heap.lt_size e) (I.ok.cab x c hfn hc)))).trans e1⟩
  ·by_cases hj:j=i
   ·subst hj;rw [hi] at e1;cases e1;rw [List.getElem?_set_self hiσ] at e2;cases e2;exact ⟨u,r,.inr ⟨.inl hk,c,hc,R7⟩⟩
   ·rw [List.getElem?_set_ne (Ne.symm hj)] at e2;obtain ⟨u',r',q⟩:=hl j y v' e1 e2 e3;refine ⟨u',r',?_⟩;rcases q with q|⟨k,c',e,z'⟩
    ·exact .inl q
    ·refine .inr ⟨k,c',e,z'.sameBut hs ?_⟩;rintro rfl;exact hj (Zqa hN e1 (I.ok.inj _ _ _ e hc ▸ hi))
  ·by_cases hcc:c'=c
   ·subst hcc;exact ⟨_,R7⟩
   ·obtain ⟨w2,z2⟩:=I.cell y c' e;exact ⟨w2,z2.sameBut hs hcc⟩
  ·obtain ⟨e,n,ne,nf,d⟩:=I.pin p hp;refine ⟨(hs.2 p.1 ?_).trans e,n,ne,nf,d⟩;intro q;rw [q,hoc] at e;have q':oc=p.2:=Option.some.inj e;exact d w' (by rw [<-q'];exact hocd)
theorem Zks{M:Model}{A:Around}{E:Value->Shared->Prop}{i:Nat}{x:Str}{v:V}{u:Value}{Q:Unit->Shared->Prop}(I:Inv X a6 σ H s)(hN:X.N.Nodup)(hi:X.N[i]? =some x)(hx:Loc X.env.scope x)(r:Yl v u)
  (h:∀s',Inv X a6 (σ.set i (some v)) H s'->Q () s') (hf:X.fn x=true\/X.env.scope.names.lookup x=some .local:=by first | exact .inl rfl | exact .inr rfl | assumption):wpAny M A (storeName X.env x u) Q E s :=
 Zug I hN hi hx r (fun s' I' _=>h s' I') hf
theorem Inv.call'{s':Shared}{ch:List Addr}(I:Inv X a6 σ H s)(ho:s'.os=s.os)(u:Un (frs X.stack) ch H H' s.heap s'.heap)(hok:HOk X.prog X.w H' s'.heap)(hg:AllBare s'.gens)
  (L6:∀b∈ch,(b∈X.ex\/X.s₀.heap.objs.size<=b)/\b≠X.env.locals/\(∀x c,X.env.cells.lookup x=some c->c≠b)/\∀p∈X.pn++a6,p.1≠b):Inv X a6 σ H' s':=by
 obtain ⟨h',g',d',t',o'⟩:=s';have e:o'=s.os:=ho;subst e;exact I.call (g':=g') (t':=t') (d':=d') u hok hg L6
end
abbrev XK:=Value->Option Addr->Hp->Prop
abbrev St:=List (Option V)
abbrev VK:=V->Hp->Prop
abbrev TE:=St->Hp->VK->Prop
abbrev TT:=St->Hp->(Bool->Hp->Prop)->Prop
abbrev TA:=St->Hp->(List V->Hp->Prop)->Prop
structure Zgg where
 nx:St->Hp->Prop
 rt:VK
 bk:St->Hp->Prop:=fun _ _=>False
 ct:St->Hp->Prop:=fun _ _=>False
abbrev TS:=Zgg->St->Hp->Prop
def EP(X:Cx)(a6:List (Addr×Obj))(σ:St)(Q:VK)(u:Value)(s':Shared):Prop:=∃v H',Inv X a6 σ H' s'/\Yl v u/\Q v H'
def TP(X:Cx)(a6:List (Addr×Obj))(σ:St)(Q:Bool->Hp->Prop)(b:Bool)(s':Shared):Prop:=∃H',Inv X a6 σ H' s'/\Q b H'
def AP(X:Cx)(a6:List (Addr×Obj))(σ:St)(Q:List V->Hp->Prop)(us:List Value)(s':Shared):Prop:=∃vs H',Inv X a6 σ H' s'/\Yh vs us/\Q vs H'
def SP(X:Cx)(a6:List (Addr×Obj))(D:Zgg)(f:Flow)(s':Shared):Prop :=
 match f with
 | .next=>∃σ' H',Inv X a6 σ' H' s'/\D.nx σ' H'
 | .brk=>∃σ' H',Inv X a6 σ' H' s'/\D.bk σ' H'
 | .cont=>∃σ' H',Inv X a6 σ' H' s'/\D.ct σ' H'
 | .ret u=>∃v σ' H',Inv X a6 σ' H' s'/\Yl v u/\D.rt v H'
def PE(X:Cx)(e:Expr)(t:TE):Prop :=
 ∀(a6:List (Addr×Obj)) (s:Shared) (σ:St) (H:Hp) (Q:VK),Inv X a6 σ H s->t σ H Q->wpAny (model X.prog X.w) X.A (eval e X.env) (EP X a6 σ Q) X.xe s
def PT(X:Cx)(e:Expr)(t:TT):Prop :=
 ∀(a6:List (Addr×Obj)) (s:Shared) (σ:St) (H:Hp) (Q:Bool->Hp->Prop),Inv X a6 σ H s->t σ H Q->wpAny (model X.prog X.w) X.A (isTrue e X.env (eval e X.env)) (TP X a6 σ Q) X.xe s
def PW(X:Cx)(e:Expr)(t:TT):Prop :=
 ∀(L4:Sem Value) (a6:List (Addr×Obj)) (s:Shared) (σ:St) (H:Hp) (Q:Bool->Hp->Prop),Inv X a6 σ H s->t σ H Q->wpAny (model X.prog X.w) X.A (isTrue e X.env L4) (TP X a6 σ Q) X.xe s
theorem PW.pt{X:Cx}{e:Expr}{t:TT}(h:PW X e t):PT X e t:=h _
def PA(X:Cx)(es:List Expr)(t:TA):Prop :=
 ∀(pos:Pos) (a6:List (Addr×Obj)) (s:Shared) (σ:St) (H:Hp) (Q:List V->Hp->Prop),Inv X a6 σ H s->t σ H Q->wpAny (model X.prog X.w) X.A (spliced (backTo pos (starEach es X.env))) (AP X a6 σ Q) X.xe s
def PS(X:Cx)(st:Stmt)(t:TS):Prop :=
 ∀(a6:List (Addr×Obj)) (s:Shared) (σ:St) (H:Hp) (D:Zgg),Inv X a6 σ H s->t D σ H->wpAny (model X.prog X.w) X.A (exec st X.env) (SP X a6 D) X.xe s
def PSs(X:Cx)(st:List Stmt)(t:TS):Prop :=
 ∀(a6:List (Addr×Obj)) (s:Shared) (σ:St) (H:Hp) (D:Zgg),Inv X a6 σ H s->t D σ H->wpAny (model X.prog X.w) X.A (execs st X.env) (SP X a6 D) X.xe s
theorem thn{α:Type}{t:Sem α}{Q Q':α->Shared->Prop}{M:Model}{A:Around}{E:Value->Shared->Prop}{s:Shared}(h:wpAny M A t Q E s)(hQ:∀a s,Q a s->Q' a s):wpAny M A t Q' E s:=wpAny_mono h hQ fun _ _ x=>x
end L2
namespace L2
open PySem PySem.Spec PyProof.Rows
section
variable {X:Cx}
theorem bin{a b:Expr}{ta tb:TE}(ha:PE X a ta)(hb:PE X b tb){a6:List (Addr×Obj)}{s:Shared}{σ:St}{H:Hp}{R:V->V->Hp->Prop}(I:Inv X a6 σ H s)(h:ta σ H fun x H1=>tb σ H1 fun y H2=>R x y H2)
  {α:Type} {Q:α->Shared->Prop} {f:Value->Value->Sem α}
  (hf:∀v u s2 x y H2,Inv X a6 σ H2 s2->Yl x v->Yl y u->R x y H2->wpAny (model X.prog X.w) X.A (f v u) Q X.xe s2) :
  wpAny (model X.prog X.w) X.A (eval a X.env) (fun v s₁=>wpAny (model X.prog X.w) X.A (eval b X.env) (fun u s₂=>wpAny (model X.prog X.w) X.A (f v u) Q X.xe s₂) X.xe s₁) X.xe s:=by
 refine thn (ha a6 s σ H _ I h) fun v s1 ⟨x,H1,I1,r1,q1⟩=>?_
 refine thn (hb a6 s1 σ H1 _ I1 q1) fun u s2 ⟨y,H2,I2,r2,q2⟩=>?_
 exact hf v u s2 x y H2 I2 r1 r2 q2
def Zjh(i:Nat):TE:=fun σ H Q=>∃v,σ[i]? =some (some v)/\Q v H
def tC(v:V):TE:=fun _ H Q=>Q v H
theorem Zwl{i:Nat}{x:Str}{pos:Pos}(hN:X.N[i]? =some x)(hv:Vis X.env.scope x) (hd:(x ==("__debug__" :Str))=false:=by decide) (E9:(x ==("__classdict__" :Str))=false:=by decide):PE X (.Name x pos) (Zjh i):=by
 intro a6 s σ H Q I h;obtain ⟨v,e,h⟩:=h;obtain ⟨m,hn,hl⟩:=I.loc;obtain ⟨u,r,l⟩:=hl i x v hN e hv;have fin:EP X a6 σ Q u s:=⟨v,H,I,r,h⟩
 rcases l with ⟨hk,hm⟩|⟨hk,c,hc,hcell⟩
 ·exact wpAny_Name (wpAny_loadName_local I.ok.kind hk hn hm fin) hd
 ·rcases hk with hk|hk
  ·exact wpAny_Name (wpAny_loadName_cell I.ok.kind hk hc hcell fin) hd
  ·exact wpAny_Name (wpAny_loadName_free I.ok.kind hk hc hcell fin E9) hd
theorem Zg{i j pos}:PE X (.Constant (.int i) j pos) (tC (.int i)):=fun _ _ _ H _ I h=>wpAny_Constant_int ⟨.int i,H,I.tok _,⟨_,rfl⟩,h⟩
theorem Zq4{b j pos}:PE X (.Constant (.bool b) j pos) (tC (.bl b)):=fun _ _ _ H _ I h=>Constant_bool ⟨.bl b,H,I,rfl,h⟩
theorem Zsg{j pos}:PE X (.Constant .none j pos) (tC .non):=fun _ _ _ H _ I h=>Constant_none ⟨.non,H,I,rfl,h⟩
theorem Zd{x j pos}:PE X (.Constant (.str x) j pos) (tC (.str x)):=fun _ _ _ H _ I h=>Calls.Constant_str ⟨.str x,H,I.tok _,⟨_,rfl⟩,h⟩
def Gl(X:Cx)(x:Str):Prop:=X.env.kindOf x=some .globalImplicit
theorem Zo2{E:Value->Shared->Prop}{a6:List (Addr×Obj)}{s:Shared}{σ:St}{H:Hp}{x:Str}{u:Value}{pos:Pos}{Q:Value->Shared->Prop}(I:Inv X a6 σ H s)(hg:Gl X x)(hm:X.mg x=some u)(h:Q u s)
  (hd:(x ==("__debug__" :Str))=false:=by decide):wpAny (model X.prog X.w) X.A (eval (.Name x pos) X.env) Q E s :=
 Calls.Name_function_global I.ok.kind hg (Calls.loadGlobal_global (by rw [I.ok.glob];exact I.mod.glob.keeps I.bk) hm h) hd
theorem Zfj{E:Value->Shared->Prop}{a6:List (Addr×Obj)}{s:Shared}{σ:St}{H:Hp}{x:Str}{u:Value}{pos:Pos}{Q:Value->Shared->Prop}(I:Inv X a6 σ H s)(hg:Gl X x)(hm:X.mg x=none)(hv:bootBuiltins x=some u)(h:Q u s)
  (hn:x ≠ "__name__" :=by decide) (hd:(x ==("__debug__" :Str))=false:=by decide):wpAny (model X.prog X.w) X.A (eval (.Name x pos) X.env) Q E s:=by
 obtain ⟨mb,h1,h2⟩:=I.mod.blt;exact Calls.Name_function_global I.ok.kind hg (Calls.loadGlobal_builtin (by rw [I.ok.glob];exact I.mod.glob.keeps I.bk) hm (by rw [I.ok.blt];exact h1.keeps I.bk) ((h2 x hn).trans hv) h) hd
theorem Wb{x:Str}{v:V}{u:Value}{pos:Pos}(hg:Gl X x)(hm:X.mg x=some u)(r:Yl v u) (hd:(x ==("__debug__" :Str))=false:=by decide):PE X (.Name x pos) (tC v) :=
 fun _ _ _ H _ I h=>Zo2 I hg hm ⟨v,H,I,r,h⟩ hd
theorem Zfv{x:Str}{v:V}{u:Value}{pos:Pos}(hg:Gl X x)(hm:X.mg x=none)(hv:bootBuiltins x=some u)(r:Yl v u) (hn:x ≠ "__name__" :=by decide) (hd:(x ==("__debug__" :Str))=false:=by decide):PE X (.Name x pos) (tC v) :=
 fun _ _ _ H _ I h=>Zfj I hg hm hv ⟨v,H,I,r,h⟩ hn hd
variable {a b:Expr} {ta tb:TE} {pos:Pos}
def PC(X:Cx)(op:CmpOp)(a b:Expr)(t:TE):Prop :=
 ∀(a6:List (Addr×Obj)) (s:Shared) (σ:St) (H:Hp) (Q:VK),Inv X a6 σ H s->t σ H Q ->
  wpAny (model X.prog X.w) X.A (eval a X.env) (fun v s₁=>wpAny (model X.prog X.w) X.A (eval b X.env) (fun u s₂=>wpAny (model X.prog X.w) X.A (compareOp op v u) (EP X a6 σ Q) X.xe s₂) X.xe s₁) X.xe s
def tB(t:TE):TT:=fun σ H Q=>t σ H fun x H1=>∃c,x=.bl c/\Q c H1
theorem Yc1{op:CmpOp}{t:TE}(h:PC X op a b t)(h1:behindInMarks op b=false:=by first | exact nobehind _ (by decide) (by decide) | rfl):PT X (.Compare a [op] [b] pos) (tB t):=by
 intro a6 s σ H Q I hw;refine wpAny_isTrue_Compare1 (thn (h a6 s σ H _ I hw) fun v s1 h1=>thn h1 fun u s2 h2=>thn h2 fun c s3 ⟨x,H1,I1,r1,q1⟩=>?_) h1;obtain ⟨d,rfl,q⟩:=q1;cases r1;exact wpAny_truthy_bool ⟨H1,I1,q⟩
theorem Xh{e:Expr}{t:TE}(h:PE X e t)(he:∀L4,isTrue e X.env L4=(do let v <-L4;standAt e.pos;holding [v] (truthy v)):=by intro _;rfl):PT X e (tB t):=by
 intro a6 s σ H Q I hw;refine isTrue_plain (thn (h a6 s σ H _ I hw) fun v s1 ⟨x,H1,I1,r1,q1⟩=>?_) (he _);obtain ⟨d,rfl,q⟩:=q1;cases r1;exact wpAny_truthy_bool ⟨H1,I1,q⟩
variable {tA tB':TT} {Yo:List Expr}
def Yc4(t u:TT):TT:=fun σ H Q=>t σ H fun c H1=>if c=true then u σ H1 Q else Q false H1
def tOr(t u:TT):TT:=fun σ H Q=>t σ H fun c H1=>if c=true then Q true H1 else u σ H1 Q
def Yc3(t:TT):TT:=fun σ H Q=>t σ H fun c H1=>Q (!c) H1
theorem Zcp(ha:PT X a tA):PW X (.BoolOp .And [a] pos) tA:=by
 intro wh a6 s σ H Q I h;refine isTrue_and (thn (ha a6 s σ H Q I h) fun c s1 e=>?_);cases c with
 | true=>exact isTrue_and_nil e
 | false=>exact e
theorem Zeh(ha:PT X a tA):PW X (.BoolOp .Or [a] pos) tA:=by
 intro wh a6 s σ H Q I h;refine isTrue_or (thn (ha a6 s σ H Q I h) fun c s1 e=>?_);cases c with
 | false=>exact isTrue_or_nil e
 | true=>exact e
theorem Zfk(ha:PT X a tA)(hb:PW X (.BoolOp .And (b ::Yo) pos) tB'):PW X (.BoolOp .And (a ::b ::Yo) pos) (Yc4 tA tB'):=by
 intro wh a6 s σ H Q I h;refine isTrue_and (thn (ha a6 s σ H _ I h) fun c s1 ⟨H1,I1,q1⟩=>?_);cases c with
 | true=>exact hb wh a6 s1 σ H1 Q I1 q1
 | false=>exact ⟨H1,I1,q1⟩
theorem Zf7(ha:PT X a tA)(hb:PW X (.BoolOp .Or (b ::Yo) pos) tB'):PW X (.BoolOp .Or (a ::b ::Yo) pos) (tOr tA tB'):=by
 intro wh a6 s σ H Q I h;refine isTrue_or (thn (ha a6 s σ H _ I h) fun c s1 ⟨H1,I1,q1⟩=>?_);cases c with
 | true=>exact ⟨H1,I1,q1⟩
 | false=>exact hb wh a6 s1 σ H1 Q I1 q1
theorem Wo(ha:PT X a tA):PT X (.UnaryOp .Not a pos) (Yc3 tA):=by
 intro a6 s σ H Q I h;exact isTrue_not (ha a6 s σ H (fun c H1=>Q (!c) H1) I h)
def Yb2(ta tb:TE):TE:=fun σ H Q=>ta σ H fun x H1=>∃c,x=.bl c/\if c=true then tb σ H1 Q else Q (.bl false) H1
theorem Zgl{op}{t:TE}(h:PE X a t):PE X (.BoolOp op [a] pos) t:=fun a6 s σ H Q I hw=>BoolOp_one (h a6 s σ H Q I hw)
theorem Zdz(ha:PE X a ta)(hb:PE X (.BoolOp .And (b ::Yo) pos) tb):PE X (.BoolOp .And (a ::b ::Yo) pos) (Yb2 ta tb):=by
 intro a6 s σ H Q I h;refine BoolOp_and (thn (ha a6 s σ H _ I h) fun v s1 ⟨x,H1,I1,r1,q1⟩=>?_);obtain ⟨c,rfl,q1⟩:=q1;cases r1;refine wpAny_truthy_bool ?_;cases c with
 | true=>exact hb a6 s1 σ H1 Q I1 q1
 | false=>exact ⟨.bl false,H1,I1,rfl,q1⟩
def tIf(t:TT)(ta tb:TE):TE:=fun σ H Q=>t σ H fun c H1=>if c=true then ta σ H1 Q else tb σ H1 Q
theorem Zew{c:Expr}(hc:PT X c tA)(ha:PE X a ta)(hb:PE X b tb):PE X (.IfExp c a b pos) (tIf tA ta tb):=by
 intro a6 s σ H Q I h;refine wpAny_IfExp (thn (hc a6 s σ H _ I h) fun d s1 ⟨H1,I1,q1⟩=>?_);cases d with
 | true=>exact ha a6 s1 σ H1 Q I1 q1
 | false=>exact hb a6 s1 σ H1 Q I1 q1
end
end L2
namespace L2
open PySem PySem.Spec PyProof.Rows
def SqL(K:Frag)(H:Hp)(a:Addr)(xs:List V):Prop :=
 Rd H a (.lst xs) \/
  ∃(o:Obj) (a7:Array Value) (n:Nat),K.lookup a=some o/\o.cls=.type "list" /\o.dict=none/\o.data=.seq a7 n/\a7.size<=sizeLine/\Yh xs a7.toList
def SqT(K:Frag)(H:Hp)(a:Addr)(xs:List V):Prop :=
 Rd H a (.tup xs) \/
  ∃(o:Obj) (a7:Array Value) (n:Nat),K.lookup a=some o/\o.cls=.type "tuple" /\o.data=.seq a7 n/\a7.size<=sizeLine/\Yh xs a7.toList
def Ycr:Value->Option V
 | .none=>some .non
 | .bool b=>some (.bl b)
 | .int i _=>some (.int i)
 | .str x _=>some (.str x)
 | .bytes b _=>some (.byt b)
 | .float b _=>some (.flt b)
 | .ref a=>some (.ref a)
 | .type n=>some (.ty n)
 | _=>none
theorem Yl.abs{x:V}{u:Value}(r:Yl x u):Ycr u=some x:=by
 cases x with
 | non=>cases r;rfl
 | bl _=>cases r;rfl
 | int _=>obtain ⟨t,rfl⟩:=r;rfl
 | str _=>obtain ⟨t,rfl⟩:=r;rfl
 | byt _=>obtain ⟨t,rfl⟩:=r;rfl
 | flt _=>obtain ⟨t,rfl⟩:=r;rfl
 | ref _=>cases r;rfl
 | ty _=>cases r;rfl
theorem Yl.inj{x y:V}{u:Value}(r:Yl x u)(q:Yl y u):x=y:=Option.some.inj (r.abs.symm.trans q.abs)
theorem Yh.inj{xs ys:List V}{us:List Value}(h:Yh xs us)(h':Yh ys us):xs=ys:=by
 induction h generalizing ys with
 | nil=>cases h';rfl
 | cons r t ih=>cases h' with
  | cons r' t'=>rw [r.inj r',ih t']
section
variable {X:Cx} {a6:List (Addr×Obj)} {σ:St} {H:Hp} {s:Shared} {a:Addr} {xs ys:List V}
theorem SqL.of{K:Frag}(h:H a=some (.lst xs)):SqL K H a xs:=.inl (.inl h)
theorem SqT.of{K:Frag}(h:H a=some (.tup xs)):SqT K H a xs:=.inl (.inl h)
theorem Inv.list(I:Inv X a6 σ H s)(h:SqL X.K H a xs):∃a7:List Value,Yh xs a7/\PlainL s.heap a a7.toArray/\xs.length<=sizeLine:=by
 rcases h with h|⟨o,a7,n,hk,hc,hd,hs,hz,r⟩
 ·obtain ⟨z,a7,n,r,e⟩:=h.ok I.hok;exact ⟨a7,r,⟨_,n,e,rfl,rfl,rfl⟩,z⟩
 ·refine ⟨a7.toList,r,⟨o,n,I.kIn a o hk,hc,hd,by simpa using hs⟩,?_⟩;have e:=r.length;simp only [Array.length_toList] at e;lia
theorem Inv.tuple(I:Inv X a6 σ H s)(h:SqT X.K H a xs):∃a7:List Value,Yh xs a7/\IsTup s.heap a a7.toArray/\xs.length<=sizeLine:=by
 rcases h with h|⟨o,a7,n,hk,hc,hs,hz,r⟩
 ·obtain ⟨z,a7,r,p⟩:=h.ok I.hok;exact ⟨a7,r,p,z⟩
 ·refine ⟨a7.toList,r,⟨o,I.kIn a o hk,hc,n,by simpa using hs⟩,?_⟩;have e:=r.length;simp only [Array.length_toList] at e;lia
theorem Inv.list_inj(I:Inv X a6 σ H s)(h:SqL X.K H a xs)(h':SqL X.K H a ys):xs=ys:=by
 obtain ⟨a7,r,⟨o,n,e,_,_,d⟩,_⟩:=I.list h;obtain ⟨its',r',⟨o',n',e',_,_,d'⟩,_⟩:=I.list h';rw [e] at e';cases e';rw [d] at d'
 injection d' with d1 _
 have:a7=its':=by simpa using congrArg Array.toList d1
 subst this;exact r.inj r'
theorem Inv.tuple_inj(I:Inv X a6 σ H s)(h:SqT X.K H a xs)(h':SqT X.K H a ys):xs=ys:=by
 obtain ⟨a7,r,⟨o,e,_,n,d⟩,_⟩:=I.tuple h;obtain ⟨its',r',⟨o',e',_,n',d'⟩,_⟩:=I.tuple h';rw [e] at e';cases e';rw [d] at d'
 injection d' with d1 _
 have:a7=its':=by simpa using congrArg Array.toList d1
 subst this;exact r.inj r'
end
abbrev Cx.wish(X:Cx)(E:Value->Shared->Prop):Cx:={ X with xe:=E }
abbrev Cx.nox(X:Cx):Cx:=X.wish fun _ _=>False
theorem Cx.Ok.wish{X:Cx}(ok:X.Ok)(E:Value->Shared->Prop):(X.wish E).Ok :=
 ⟨ok.mod,ok.kind,ok.glob,ok.blt,ok.above,ok.inj,ok.has,ok.cab,ok.hd,ok.frames,ok.stk,ok.exf,ok.bs,ok.bsz,ok.noex,ok.exfs,ok.funs,ok.frf⟩
theorem Cx.Ok.unwish{X:Cx}{E:Value->Shared->Prop}(ok:(X.wish E).Ok):X.Ok :=
 ⟨ok.mod,ok.kind,ok.glob,ok.blt,ok.above,ok.inj,ok.has,ok.cab,ok.hd,ok.frames,ok.stk,ok.exf,ok.bs,ok.bsz,ok.noex,ok.exfs,ok.funs,ok.frf⟩
section
variable {X:Cx} {a6:List (Addr×Obj)} {σ:St} {H:Hp} {s:Shared} {E:Value->Shared->Prop}
theorem Inv.wish(I:Inv X a6 σ H s)(E:Value->Shared->Prop):Inv (X.wish E) a6 σ H s:=⟨I.ok.wish E,I.os,I.bare,I.base,I.loc,I.cell,I.free,I.freeC,I.pin,I.hok,I.len⟩
theorem Inv.unwish(I:Inv (X.wish E) a6 σ H s):Inv X a6 σ H s:=⟨I.ok.unwish,I.os,I.bare,I.base,I.loc,I.cell,I.free,I.freeC,I.pin,I.hok,I.len⟩
theorem SP.unwish{D:Zgg}{f:Flow}{s':Shared}(h:SP (X.wish E) a6 D f s'):SP X a6 D f s':=by
 cases f with
 | next=>obtain ⟨σ',H',I,q⟩:=h;exact ⟨σ',H',I.unwish,q⟩
 | brk=>obtain ⟨σ',H',I,q⟩:=h;exact ⟨σ',H',I.unwish,q⟩
 | cont=>obtain ⟨σ',H',I,q⟩:=h;exact ⟨σ',H',I.unwish,q⟩
 | ret u=>obtain ⟨v,σ',H',I,r,q⟩:=h;exact ⟨v,σ',H',I.unwish,r,q⟩
theorem PSs.nox{st:List Stmt}{t:TS}(h:PSs X.nox st t):PSs X st t:=fun a6 s σ H D I hw =>
 wpAny_mono (h a6 s σ H D (I.wish _) hw) (fun _ _ q=>q.unwish) fun _ _ z=>False.elim z
end
section
variable {X:Cx} {st:Stmt} {Yo:List Stmt} {t u:TS} {e:Expr} {te:TE} {pos:Pos}
def Yby:TS:=fun D σ H=>D.nx σ H
def Yc8(t u:TS):TS:=fun D σ H=>t { D with nx:=u D } σ H
theorem Zr:PSs X [] Yby:=fun _ _ σ H _ I h=>wpAny_execs_nil ⟨σ,H,I,h⟩
theorem Zvy(h1:PS X st t)(h2:PSs X Yo u):PSs X (st ::Yo) (Yc8 t u):=by
 intro a6 s σ H D I h;refine wpAny_execs_cons (thn (h1 a6 s σ H { D with nx:=u D } I h) fun f s1 q=>?_);cases f with
 | next =>
  obtain ⟨σ',H',I',q⟩:=q;exact h2 a6 s1 σ' H' D I' q
 | ret v=>exact q
 | brk=>exact q
 | cont=>exact q
theorem Zxy(h1:PS X st t):PSs X [st] t:=by
 intro a6 s σ H D I h;refine wpAny_execs_cons (thn (h1 a6 s σ H D I h) fun f s1 q=>?_);cases f with
 | next=>exact wpAny_execs_nil q
 | ret v=>exact q
 | brk=>exact q
 | cont=>exact q
def Ya2:TS:=fun D σ H=>D.ct σ H
theorem Zq1:PS X (.Continue pos) Ya2:=fun _ _ σ H _ I h=>wpAny_Continue ⟨σ,H,I,h⟩
theorem Inv.quiet{a6:List (Addr×Obj)}{σ:St}{H:Hp}{s:Shared}(I:Inv X a6 σ H s):interactive X.env=false:=by simp [interactive,I.ok.kind]
def Ycg(te:TE):TS:=fun D σ H=>te σ H fun _ H1=>D.nx σ H1
theorem Yj(he:PE X e te)(hs:swapsWith e none pos.line X.env=pure false:=by rfl):PS X (.Expr e pos) (Ycg te):=by
 intro a6 s σ H D I h;exact wpAny_Expr_any (thn (he a6 s σ H _ I h) fun v s1 ⟨x,H1,I1,r1,q1⟩=>⟨σ,H1,I1,q1⟩) I.quiet hs
def Ycp(te:TE):TS:=fun D σ H=>te σ H D.rt
theorem Zp(he:PE X e te):PS X (.Return (some e) pos) (Ycp te):=by
 intro a6 s σ H D I h;exact wpAny_Return_some (thn (he a6 s σ H _ I h) fun v s1 ⟨x,H1,I1,r1,q1⟩=>⟨x,σ,H1,I1,r1,q1⟩)
def Yct(c:TT)(t u:TS):TS:=fun D σ H=>c σ H fun b H1=>if b=true then t D σ H1 else u D σ H1
theorem Z9{c:Expr}{a b:List Stmt}{tc:TT}(hc:PT X c tc)(ha:PSs X a t)(hb:PSs X b u):PS X (.If c a b pos) (Yct tc t u):=by
 intro a6 s σ H D I h;refine wpAny_If (thn (hc a6 s σ H _ I h) fun d s1 ⟨H1,I1,q1⟩=>?_);cases d with
 | true=>exact ha a6 s1 σ H1 D I1 q1
 | false=>exact hb a6 s1 σ H1 D I1 q1
end
abbrev TG:=V->St->Hp->(St->Hp->Prop)->Prop
abbrev TGs:=List V->St->Hp->(St->Hp->Prop)->Prop
def PG(X:Cx)(w6:Expr)(t:TG):Prop :=
 ∀(a6:List (Addr×Obj)) (s:Shared) (σ:St) (H:Hp) (v:V) (u:Value) (Q:St->Hp->Prop),Inv X a6 σ H s->Yl v u->t v σ H Q ->
  wpAny (model X.prog X.w) X.A (assign w6 X.env u) (fun _ s'=>∃σ' H',Inv X a6 σ' H' s'/\Q σ' H') X.xe s
def PGs(X:Cx)(ts:List Expr)(t:TGs):Prop :=
 ∀(a6:List (Addr×Obj)) (s:Shared) (σ:St) (H:Hp) (vs:List V) (us:List Value) (Q:St->Hp->Prop),Inv X a6 σ H s->Yh vs us->t vs σ H Q ->
  wpAny (model X.prog X.w) X.A (assignInOrder ((assignEach ts X.env).map (·.2)) us) (fun _ s'=>∃σ' H',Inv X a6 σ' H' s'/\Q σ' H') X.xe s
section
variable {X:Cx} {pos:Pos}
def Zeq(i:Nat):TG:=fun v σ H Q=>Q (σ.set i (some v)) H
theorem Zo7{i:Nat}{x:Str}(hN:X.N.Nodup)(hi:X.N[i]? =some x)(hx:Loc X.env.scope x)(hf:X.fn x=true\/X.env.scope.names.lookup x=some .local:=by first | exact .inl rfl | exact .inr rfl | assumption):PG X (.Name x pos) (Zeq i):=by
 intro a6 s σ H v u Q I r h;exact wpAny_assign_Name (Zks I hN hi hx r (fun s' I'=>⟨_,H,I',h⟩) hf)
def Ybu:TGs:=fun vs σ H Q=>vs=[]/\Q σ H
def Zwk(t:TG)(u:TGs):TGs:=fun vs σ H Q=>∃v r,vs=v ::r/\t v σ H fun σ' H'=>u r σ' H' Q
theorem Xe:PGs X [] Ybu:=by
 intro a6 s σ H vs us Q I r h;obtain ⟨e,h⟩:=h;subst e;cases r;exact assignInOrder_nil ⟨σ,H,I,h⟩
theorem Zz{e:Expr}{es:List Expr}{t:TG}{u:TGs}(h1:PG X e t)(h2:PGs X es u)
  (hs:(assignEach (e ::es) X.env).map (·.2)=assign e X.env ::(assignEach es X.env).map (·.2):=by rfl):PGs X (e ::es) (Zwk t u):=by
 intro a6 s σ H vs us Q I r h;obtain ⟨v,vr,e1,h⟩:=h;subst e1;cases r with
 | cons r rr =>
  rw [hs];refine assignInOrder_cons (thn (h1 a6 s σ H _ _ _ I r h) fun _ s1 ⟨σ1,H1,I1,q1⟩=>?_);exact h2 a6 s1 σ1 H1 _ _ Q I1 rr q1
def Zzr(K:Frag)(n:Nat)(t:TGs):TG:=fun v σ H Q=>∃a xs,v=.ref a/\SqT K H a xs/\xs.length=n/\t xs σ H Q
theorem W8{es:List Expr}{k:Nat}{t:TGs}{n:Nat}(hc:X.calm=true)(h:PGs X es t)
  (hn:(assignEach es X.env).length=n:=by rfl) (y7:(assignEach es X.env).findIdx? (·.1)=none:=by rfl):PG X (.Tuple es k pos) (Zzr X.K n t):=by
 intro a6 s σ H v u Q I r hw;obtain ⟨a,xs,e1,hq,hl,hw⟩:=hw;subst e1;cases r;obtain ⟨a7,rv,ht,hz⟩:=I.tuple hq;refine assign_Tuple_tuple (I.ok.hd hc) ht (by simp [hn,<-hl,rv.length]) y7 fun h' hx=>?_
 have I1:Inv X a6 σ H { s with heap:=h' }:=I.kept (t':=s.toks) fun b o e=>hx b o (Nat.ne_of_lt (Heap.lt_size e)) e
 exact h a6 _ σ H xs _ Q I1 (by simpa using rv) hw
def Zx4(te:TE)(g:TG):TS:=fun D σ H=>te σ H fun x H1=>g x σ H1 D.nx
theorem Zpr{tg e:Expr}{te:TE}{g:TG}(he:PE X e te)(hg:PG X tg g)(hs:swapsWithSole [tg] e pos.line X.env=pure false:=by rfl)(hw:swappedStores [tg] e X.env=pure none:=by rfl)
  (h1:(assignEach [tg] X.env).map (·.2)=[assign tg X.env]:=by rfl):PS X (.Assign [tg] e pos) (Zx4 te g):=by
 intro a6 s σ H D I h;refine wpAny_Assign_stores (thn (he a6 s σ H _ I h) fun v s1 ⟨x,H1,I1,r1,q1⟩=>?_) hs hw;rw [h1];exact thn (hg a6 s1 σ H1 x v _ I1 r1 q1) fun _ s2 q=>q
theorem Yan{i:Nat}{x:Str}{e:Expr}{te:TE}{w9:Pos}(hN:X.N.Nodup)(hi:X.N[i]? =some x)(hx:Loc X.env.scope x)(he:PE X e te)(hs:swapsWith e (some (.Name x w9)) pos.line X.env=pure false:=by rfl)(hf:X.fn x=true\/X.env.scope.names.lookup x=some .local:=by first | exact .inl rfl | exact .inr rfl | assumption) :
  PS X (.Assign [.Name x w9] e pos) (Zx4 te (Zeq i)):=by
 intro a6 s σ H D I h;refine wpAny_Assign_Name (thn (he a6 s σ H _ I h) fun v s1 ⟨y,H1,I1,r1,q1⟩=>?_) hs;exact Zks I1 hN hi hx r1 (fun s2 I2=>⟨_,H1,I2,q1⟩) hf
theorem Z0{i:Nat}{x:Str}{e:Expr}{te:TE}{w9:Pos}(hN:X.N.Nodup)(he:PE X e te)(hi:X.N[i]? =some x:=by rfl)(hx:Loc X.env.scope x:=by first | exact Or.inl rfl | exact Or.inr rfl)(hs:swapsWith e (some (.Name x w9)) pos.line X.env=pure false:=by rfl)(hf:X.fn x=true\/X.env.scope.names.lookup x=some .local:=by first | exact .inl rfl | exact .inr rfl | assumption):PS X (.Assign [.Name x w9] e pos) (Zx4 te (Zeq i)):=Yan hN hi hx he hs hf
theorem Y1{i:Nat}{x:Str}(hN:X.N.Nodup)(hi:X.N[i]? =some x:=by rfl)(hx:Loc X.env.scope x:=by first | exact Or.inl rfl | exact Or.inr rfl)(hf:X.fn x=true\/X.env.scope.names.lookup x=some .local:=by first | exact .inl rfl | exact .inr rfl | assumption):PG X (.Name x pos) (Zeq i):=Zo7 hN hi hx hf
theorem Za4{i:Nat}{x:Str}(hN:X.N.Nodup)(hi:X.N[i]? =some x:=by rfl)(hx:Loc X.env.scope x:=by exact Or.inl (lookup_relabel_local rfl))(hf:X.fn x=true\/X.env.scope.names.lookup x=some .local:=by exact Or.inr (lookup_relabel_local rfl)):PG X (.Name x pos) (Zeq i):=Zo7 hN hi hx hf
end
section
variable {X:Cx} {pos:Pos}
end
structure It where
 go:Nat->Hp->Prop
 yld:Nat->Hp->V->Hp->Prop
 stop:Nat->Hp->Prop
def Zjv(X:Cx)(a6:List (Addr×Obj))(H:Hp)(b:Addr):Prop :=
 H b=none/\b≠X.env.locals/\b∉X.fs/\(b∈X.ex\/X.s₀.heap.objs.size<=b)/\(∀x c,X.env.cells.lookup x=some c->c≠b)/\∀p∈X.pn++a6,p.1≠b
theorem Inv.fpOk{X:Cx}{a6:List (Addr×Obj)}{σ:St}{H H':Hp}{s:Shared}{b:Addr}(I:Inv X a6 σ H s)(hb:s.heap.objs.size<=b)(hn:H' b=none):Zjv X a6 H' b:=by
 refine ⟨hn,Nat.ne_of_gt (Nat.lt_of_lt_of_le I.lt hb),I.nofs hb,.inr (Nat.le_trans I.sz hb),fun x c e z=>?_,fun p hp z=>?_⟩
 ·obtain ⟨v,q⟩:=I.cell x c e;exact absurd (Nat.lt_of_lt_of_le q.lt (by rw [z];exact hb)) (Nat.lt_irrefl _)
 ·exact absurd (Nat.lt_of_lt_of_le (Heap.lt_size (I.pin p hp).1) (by rw [z];exact hb)) (Nat.lt_irrefl _)
structure Zmq(P:Program)(w:World)(K:Frag)(tg:Expr)(J:It)(fp:List Addr)(it:Addr)(tn:Nat->Heap->Prop):Prop where
 mem:it∈fp
 obj:∀i h,tn i h->∀b∈fp,∃o,h.get? b=some o/\∀v,o.data ≠ .cell v
 keep:∀i h h',tn i h->(∀b∈fp,∀o,h.get? b=some o->h'.get? b=some o)->tn i h'
 item:∀(X:Cx),X.prog=P->X.w=w->X.K=K->X.calm=true->∀(i:Nat) (a6:List (Addr×Obj)) (s:Shared) (σ:St) (H:Hp) (E:Value->Shared->Prop),Inv X a6 σ H s->(∀b∈fp,Zjv X a6 H b)->tn i s.heap->J.go i H ->
  wpAny (model P w) X.A (pyNext (.ref it)) (fun r s1=>∃u,r=some u /\
   wpAny (model P w) X.A (letOwnedTupleGo tg (.ref it) u) (fun _ s2=>∃x H',Inv X a6 σ H' s2/\Yl x u/\J.yld i H x H'/\tn (i+1) s2.heap/\∀b∈fp,H' b=none) E s1) E s
 done:∀(X:Cx),X.prog=P->X.w=w->X.K=K->X.calm=true->∀(i:Nat) (a6:List (Addr×Obj)) (s:Shared) (σ:St) (H:Hp) (E:Value->Shared->Prop),Inv X a6 σ H s->(∀b∈fp,Zjv X a6 H b)->tn i s.heap->J.stop i H ->
  wpAny (model P w) X.A (pyNext (.ref it)) (fun r s1=>r=none/\Inv X a6 σ H s1) E s
 self:∀(A:Around) (i:Nat) (s:Shared) (Q:Value->Shared->Prop) (E:Value->Shared->Prop),tn i s.heap->Q (.ref it) s->wpAny (model P w) A (pyIter (.ref it)) Q E s
abbrev TI:=St->Hp->(It->Hp->Prop)->Prop
def PIE(X:Cx)(a6:List (Addr×Obj))(σ:St)(tg:Expr)(R:It->Hp->Prop)(itv:Value)(s2:Shared):Prop :=
 ∃(it:Addr) (fp:List Addr) (tn:Nat->Heap->Prop) (J:It) (H':Hp),itv=.ref it/\Inv X a6 σ H' s2/\Zmq X.prog X.w X.K tg J fp it tn/\tn 0 s2.heap/\(∀b∈fp,Zjv X a6 H' b)/\R J H'
def PI(X:Cx)(tg k7:Expr)(wi:TI):Prop :=
 ∀(a6:List (Addr×Obj)) (s:Shared) (σ:St) (H:Hp) (R:It->Hp->Prop),Inv X a6 σ H s->wi σ H R ->
  wpAny (model X.prog X.w) X.A (eval k7 X.env) (fun v s1=>wpAny (model X.prog X.w) X.A (pyIter v) (PIE X a6 σ tg R) X.xe s1) X.xe s
theorem Zls{M:Model}{A:Around}{E:Value->Shared->Prop}{s:Shared}{tg:Expr}{it:Addr}{u:Value}{o:Obj}{n:String}{vs:Array Value}{Q:Unit->Shared->Prop}(ho:s.heap.get? it=some o)(hc:o.cls=.type n)(hd:o.data=.fields vs)
    (hn:["enumerate", "zip", "dict_itemiterator", "dict_reverseitemiterator", "odict_iterator", "itertools.zip_longest", "itertools.pairwise"].contains n=false) (hQ:Q () s):wpAny M A (letOwnedTupleGo tg (.ref it) u) Q E s:=by
  unfold letOwnedTupleGo;cases tg <;>first
    | exact wpAny_pure hQ
    | (cases u <;>first
        | exact wpAny_pure hQ
        | (refine wpAny_bind (wpAny_load ho ?_)
           rw [hc,hd];show wpAny M A (if (["enumerate", "zip", "dict_itemiterator", "dict_reverseitemiterator", "odict_iterator", "itertools.zip_longest", "itertools.pairwise"].contains n && vs[0]? ==some (rawInt _))=true then _ else _) Q E s;rw [if_neg (by intro h;rw [hn,Bool.false_and] at h;cases h)];exact wpAny_pure hQ))
def Itl(K:Frag)(a:Addr):It :=
 ⟨fun i H=>∃xs x,SqL K H a xs/\xs[i]? =some x,fun i H x H'=>H'=H/\∀xs,SqL K H a xs->xs[i]? =some x,fun i H=>∃xs,SqL K H a xs/\xs.length<=i⟩
def Itt(K:Frag)(a:Addr):It :=
 ⟨fun i H=>∃xs x,SqT K H a xs/\xs[i]? =some x,fun i H x H'=>H'=H/\∀xs,SqT K H a xs->xs[i]? =some x,fun i H=>∃xs,SqT K H a xs/\xs.length<=i⟩
def Itr(lo:Int)(n:Nat):It:=⟨fun i _=>i<n,fun i H x H'=>H'=H/\x=.int (lo+i),fun i _=>n<=i⟩
theorem Zt0{P:Program}{w:World}{K:Frag}{tg:Expr}(a it:Addr):Zmq P w K tg (Itl K a) [it] it (fun i h=>h.IsListIter it a i) where
 mem:=by simp
 obj:=fun i h st b hb=>by
  have e:b=it:=by simpa using hb
  subst e;obtain ⟨o,e,c,d⟩:=st;exact ⟨o,e,fun v z=>by rw [d] at z;cases z⟩
 keep:=fun i h h' st k=>st.at fun o e=>k it (by simp) o e
 item:=by
  intro X hP hw hK hc i a6 s σ H E I hf st hg;subst hP hw hK;obtain ⟨xs,x,hq,hx⟩:=hg;obtain ⟨a7,rv,p,hz⟩:=I.list hq;obtain ⟨u,hu,ru⟩:=rv.get hx;obtain ⟨f0,f1,f2,f3,f4,f5⟩:=hf it (by simp);refine wpAny_pyNext_list_item st p.isList (x:=u) (by simpa using hu) fun h' i9 sb=>?_
  have I1:Inv X a6 σ H { s with heap:=h' }:=I.turned (t':=s.toks) (fun b o hb e=>(sb.2 b hb).trans e) f0 f1 f3 f4 f5;obtain ⟨o,e,c,d⟩:=id i9;exact ⟨u,rfl,Zls (s:={ s with heap:=h' }) e c d (by decide) ⟨x,H,I1,ru,⟨rfl,fun ys hy=>by rw [I.list_inj hy hq];exact hx⟩,i9,fun b hb=>(hf b hb).1⟩⟩
 done:=by
  intro X hP hw hK hc i a6 s σ H E I hf st hg;subst hP hw hK;obtain ⟨xs,hq,hx⟩:=hg;obtain ⟨a7,rv,p,hz⟩:=I.list hq;obtain ⟨f0,f1,f2,f3,f4,f5⟩:=hf it (by simp);have hl:=rv.length;exact wpAny_pyNext_list_end (I.ok.hd hc) st p.isList (by simp;lia) fun h' eb=>⟨rfl,I.turned (t':=s.toks) (fun b o hb e=>eb b o hb e) f0 f1 f3 f4 f5⟩
 self:=fun _ _ _ _ _ st h=>wpAny_pyIter_listiter st h
theorem Zsn{P:Program}{w:World}{K:Frag}{tg:Expr}(a it:Addr):Zmq P w K tg (Itt K a) [it] it (fun i h=>h.IsTupleIter it a i) where
 mem:=by simp
 obj:=fun i h st b hb=>by
  have e:b=it:=by simpa using hb
  subst e;obtain ⟨o,e,c,d⟩:=st;exact ⟨o,e,fun v z=>by rw [d] at z;cases z⟩
 keep:=fun i h h' st k=>st.at fun o e=>k it (by simp) o e
 item:=by
  intro X hP hw hK hc i a6 s σ H E I hf st hg;subst hP hw hK;obtain ⟨xs,x,hq,hx⟩:=hg;obtain ⟨a7,rv,p,hz⟩:=I.tuple hq;obtain ⟨u,hu,ru⟩:=rv.get hx;obtain ⟨f0,f1,f2,f3,f4,f5⟩:=hf it (by simp);refine wpAny_pyNext_tuple_item st (show s.heap.IsTuple a a7.toArray from p) (x:=u) (by simpa using hu) fun h' i9 sb=>?_
  have I1:Inv X a6 σ H { s with heap:=h' }:=I.turned (t':=s.toks) (fun b o hb e=>(sb.2 b hb).trans e) f0 f1 f3 f4 f5;obtain ⟨o,e,c,d⟩:=id i9;exact ⟨u,rfl,Zls (s:={ s with heap:=h' }) e c d (by decide) ⟨x,H,I1,ru,⟨rfl,fun ys hy=>by rw [I.tuple_inj hy hq];exact hx⟩,i9,fun b hb=>(hf b hb).1⟩⟩
 done:=by
  intro X hP hw hK hc i a6 s σ H E I hf st hg;subst hP hw hK;obtain ⟨xs,hq,hx⟩:=hg;obtain ⟨a7,rv,p,hz⟩:=I.tuple hq;obtain ⟨f0,f1,f2,f3,f4,f5⟩:=hf it (by simp);have hl:=rv.length;exact wpAny_pyNext_tuple_end (I.ok.hd hc) st (show s.heap.IsTuple a a7.toArray from p) (by simp;lia) fun h' eb=>⟨rfl,I.turned (t':=s.toks) (fun b o hb e=>eb b o hb e) f0 f1 f3 f4 f5⟩
 self:=fun _ _ _ _ _ st h=>wpAny_pyIter_tupleiter st h
theorem Zrs{P:Program}{w:World}{K:Frag}{tg:Expr}(it:Addr)(lo:Int)(n:Nat):Zmq P w K tg (Itr lo n) [it] it (fun i h=>IsRangeIter h it (lo+(i:Nat) * 1) ((n:Int)-(i:Nat)) 1) where
 mem:=by simp
 obj:=fun i h st b hb=>by
  have e:b=it:=by simpa using hb
  subst e;exact ⟨_,st,fun v z=>by
   have z':Data.fields _=Data.cell v:=z;cases z'⟩
 keep:=fun i h h' st k=>k it (by simp) _ st
 item:=by
  intro X hP hw hK hc i a6 s σ H E I hf st hg;subst hP hw hK;obtain ⟨f0,f1,f2,f3,f4,f5⟩:=hf it (by simp);have W:=Walks.range (prog:=X.prog) (w:=X.w) (I.ok.hd hc) it lo 1 n;refine W.item i s _ _ hg st fun v h' tk hv i9 kk=>?_
  obtain ⟨t,rfl⟩:=hv;have I1:Inv X a6 σ H { s with heap:=h',toks:=tk }:=I.turned (fun b o hb e=>kk b o (by simpa using hb) e) f0 f1 f3 f4 f5;refine ⟨_,rfl,Zls (s:={ s with heap:=h',toks:=tk }) (n := "range_iterator") i9 rfl rfl (by decide) ⟨.int (lo+i),H,I1,⟨t,?_⟩,⟨rfl,rfl⟩,i9,fun b hb=>(hf b hb).1⟩⟩;rw [Int.mul_one]
 done:=by
  intro X hP hw hK hc i a6 s σ H E I hf st hg;subst hP hw hK;obtain ⟨f0,f1,f2,f3,f4,f5⟩:=hf it (by simp);exact wpAny_pyNext_range_end (I.ok.hd hc) st (by have:n<=i:=hg;lia) fun h' eb=>⟨rfl,I.turned (t':=s.toks) (fun b o hb e=>eb b o hb e) f0 f1 f3 f4 f5⟩
 self:=fun _ _ _ _ _ st h=>wpAny_pyIter_rangeiter st h
end L2
namespace L2
open PySem PySem.Spec PyProof.Rows
section
variable {X:Cx} {tg:Expr}
def Ybv(K:Frag)(tl:TE):TI:=fun σ H R=>tl σ H fun x H1=>∃a,x=.ref a/\(∃xs,SqL K H1 a xs)/\R (Itl K a) H1
def Ycz(K:Frag)(tl:TE):TI:=fun σ H R=>tl σ H fun x H1=>∃a,x=.ref a/\(∃xs,SqT K H1 a xs)/\R (Itt K a) H1
theorem Y5{l:Expr}{tl:TE}(hl:PE X l tl):PI X tg l (Ybv X.K tl):=by
 intro a6 s σ H R I h;refine thn (hl a6 s σ H _ I h) fun v s1 ⟨x,H1,I1,r1,q1⟩=>?_
 obtain ⟨a,e,⟨xs,hq⟩,q⟩:=q1;subst e;cases r1;obtain ⟨a7,rv,p,hz⟩:=I1.list hq;refine wpAny_pyIter_list p.isList ?_;refine ⟨s1.heap.objs.size,[s1.heap.objs.size],_,_,H1,rfl,I1.kept (t':=s1.toks) fun b o e=>Heap.get?_push_of_some _ e,Zt0 a _,⟨_,Heap.get?_push_size _ rfl,rfl,rfl⟩,fun b hb=>?_,q⟩;have e:b=s1.heap.objs.size:=by simpa using hb
 subst e;exact I1.fpOk (Nat.le_refl _) (I1.hok.fresh (Nat.le_refl _))
theorem Zzx{l:Expr}{tl:TE}(hl:PE X l tl):PI X tg l (Ycz X.K tl):=by
 intro a6 s σ H R I h;refine thn (hl a6 s σ H _ I h) fun v s1 ⟨x,H1,I1,r1,q1⟩=>?_
 obtain ⟨a,e,⟨xs,hq⟩,q⟩:=q1;subst e;cases r1;obtain ⟨a7,rv,p,hz⟩:=I1.tuple hq;refine wpAny_pyIter_tuple (show s1.heap.IsTuple a a7.toArray from p) ?_;refine ⟨s1.heap.objs.size,[s1.heap.objs.size],_,_,H1,rfl,I1.kept (t':=s1.toks) fun b o e=>Heap.get?_push_of_some _ e,Zsn a _,⟨_,Heap.get?_push_size _ rfl,rfl,rfl⟩,fun b hb=>?_,q⟩;have e:b=s1.heap.objs.size:=by simpa using hb
 subst e;exact I1.fpOk (Nat.le_refl _) (I1.hok.fresh (Nat.le_refl _))
theorem Zqd{a6:List (Addr×Obj)}{σ:St}{H:Hp}{s:Shared}{R:It->Hp->Prop}{E:Value->Shared->Prop}{lo hi:Int}{t u v:Tok}{tk:Nat}(I:Inv X a6 σ H s)(h1:-(2 ^ 62)<=lo)(h2:lo<2 ^ 62)(h3:-(2 ^ 62)<=hi)(h4:hi<2 ^ 62)
  (q:R (Itr lo (hi-lo).toNat) H):wpAny (model X.prog X.w) X.A (pyIter (.ref s.heap.objs.size)) (PIE X a6 σ tg R) E { s with heap:=s.heap.push { cls:=.type "range",data:=.fields #[.int lo t,.int hi u,.int 1 v] },toks:=tk }:=by
 refine wpAny_pyIter_range (IsRange.new ..) (small_one h1 h2 h3 h4) ?_;have I1:Inv X a6 σ H { s with heap:=s.heap.push { cls:=.type "range",data:=.fields #[.int lo t,.int hi u,.int 1 v] },toks:=tk }:=I.kept fun b o e=>Heap.get?_push_of_some _ e
 refine ⟨(s.heap.push { cls:=.type "range",data:=.fields #[.int lo t,.int hi u,.int 1 v] }).objs.size,[(s.heap.push { cls:=.type "range",data:=.fields #[.int lo t,.int hi u,.int 1 v] }).objs.size],_,_,H,rfl,
  I1.kept (t':=tk) fun b o e=>Heap.get?_push_of_some _ e,Zrs _ lo (hi-lo).toNat,?_,fun b hb=>?_,q⟩
 ·have e1:lo+((0:Nat):Int) * 1=lo:=by simp
  have e2:(((hi-lo).toNat:Nat):Int)-((0:Nat):Int)=Builtin.Range.rangeSize lo hi 1:=by rw [rangeSize_one];split <;>lia
  show IsRangeIter _ _ (lo+((0:Nat):Int) * 1) ((((hi-lo).toNat:Nat):Int)-((0:Nat):Int)) 1;rw [e1,e2];exact Heap.get?_push_size _ rfl
 ·have e:b=(s.heap.push { cls:=.type "range",data:=.fields #[.int lo t,.int hi u,.int 1 v] }).objs.size:=by simpa using hb
  subst e;exact I1.fpOk (Nat.le_refl _) (I1.hok.fresh (Nat.le_refl _))
def Yba(ta:TA):TI:=fun σ H R=>ta σ H fun vs H1=>∃j:Int,vs=[.int j]/\-(2 ^ 62)<=j/\j<2 ^ 62/\R (Itr 0 j.toNat) H1
def Ya7(ta:TA):TI:=fun σ H R=>ta σ H fun vs H1=>∃i j:Int,vs=[.int i,.int j]/\(-(2 ^ 62)<=i/\i<2 ^ 62/\-(2 ^ 62)<=j/\j<2 ^ 62)/\R (Itr i (j-i).toNat) H1
theorem Zio{a:Expr}{ta:TA}{p pos:Pos} (hg:Gl X "range") (hm:X.mg "range" =none) (ha:PA X [a] ta) (hs:starEach [a] X.env=[(false,eval a X.env)]:=by rfl):PI X tg (.Call (.Name "range" p) [a] [] pos) (Yba ta):=by
 intro a6 s σ H R I h;refine Call_ (Zfj I hg hm boot_range (PyProof.Rows.callWith_type1 (thn (ha pos a6 s σ H _ I h) fun us s1 ⟨vs,H1,I1,r1,q1⟩=>?_) hs rfl));obtain ⟨j,e,q1,q2,q⟩:=q1;subst e;cases r1 with
 | cons r rr =>
  cases rr;obtain ⟨t,rfl⟩:=r;exact call_range_1 (Zqd I1 (by lia) (by lia) q1 q2 (by simpa using q))
theorem Znc{a b:Expr}{ta:TA}{p pos:Pos} (hg:Gl X "range") (hm:X.mg "range" =none) (ha:PA X [a,b] ta) (hs:starEach [a,b] X.env=[(false,eval a X.env),(false,eval b X.env)]:=by rfl) (hs2:starEach [b] X.env=[(false,eval b X.env)]:=by rfl) :
  PI X tg (.Call (.Name "range" p) [a,b] [] pos) (Ya7 ta):=by
 intro a6 s σ H R I h;refine Call_ (Zfj I hg hm boot_range (PyProof.Rows.callWith_type1 (thn (ha pos a6 s σ H _ I h) fun us s1 ⟨vs,H1,I1,r1,q1⟩=>?_) (by rw [hs,hs2]) (by rw [hs2];rfl)));obtain ⟨i,j,e,⟨q1,q2,q3,q4⟩,q⟩:=q1;subst e;cases r1 with
 | cons r rr =>
  cases rr with
  | cons r' rr =>
   cases rr;obtain ⟨t,rfl⟩:=r;obtain ⟨t',rfl⟩:=r';exact call_range_2 (Zqd I1 q1 q2 q3 q4 q)
def Ycm(wi:TI)(g:TG)(tb:TS):TS:=fun D σ H=>wi σ H fun J H1=>∃W:Nat->Nat->St->Hp->Prop,(∃m,W 0 m σ H1)/\∀i m σ H,W i m σ H ->
 (J.stop i H/\D.nx σ H)\/(J.go i H/\∃N:St->Hp->Prop,(∀σ' H',N σ' H'->∃m',m'<m/\W (i+1) m' σ' H')/\∀x H',J.yld i H x H'->g x σ H' fun σ2 H2=>tb { D with nx:=N,ct:=N,bk:=D.nx } σ2 H2)
def Zia(fp:List Addr)(h:Heap):List (Addr×Obj):=fp.filterMap fun b=>(h.get? b).map fun o=>(b,o)
theorem Za1{fp:List Addr}{h:Heap}{b:Addr}{o:Obj}(hb:b∈fp)(e:h.get? b=some o):(b,o)∈Zia fp h:=List.mem_filterMap.mpr ⟨b,hb,by rw [e];rfl⟩
theorem Zue{fp:List Addr}{h:Heap}{p:Addr×Obj}(hp:p∈Zia fp h):p.1∈fp/\h.get? p.1=some p.2:=by
 obtain ⟨b,hb,e⟩:=List.mem_filterMap.mp hp;cases q:h.get? b with
 | none=>rw [q] at e;cases e
 | some o =>
  rw [q] at e;have e':(b,o)=p:=Option.some.inj e;subst e';exact ⟨hb,q⟩
theorem Inv.pinned{a6:List (Addr×Obj)}{σ:St}{H:Hp}{s:Shared}{fp:List Addr}(I:Inv X a6 σ H s)(hf:∀b∈fp,Zjv X a6 H b)(ho:∀b∈fp,∃o,s.heap.get? b=some o/\∀v,o.data ≠ .cell v):Inv X (a6++Zia fp s.heap) σ H s :=
 I.pins_of fun p hp=>(List.mem_append.mp hp).elim (fun z=>I.pin p (List.mem_append_right _ z)) fun z=>by
  obtain ⟨hb,e⟩:=Zue z;obtain ⟨f0,f1,f2,_⟩:=hf p.1 hb;obtain ⟨o,e',d⟩:=ho p.1 hb;rw [e] at e';cases e';exact ⟨e,f0,f1,f2,d⟩
theorem Inv.unpinned{a6 pl:List (Addr×Obj)}{σ:St}{H:Hp}{s:Shared}(I:Inv X (a6++pl) σ H s):Inv X a6 σ H s:=I.pins_of fun p hp=>I.pin p (List.mem_append_right _ (List.mem_append_left _ hp))
theorem Xy{k7:Expr}{body:List Stmt}{wi:TI}{g:TG}{tb:TS}{pos:Pos}(hp:PassesOwn (model X.prog X.w) X.A X.env X.xe)(hc:X.calm=true)(hi:PI X tg k7 wi)(hg:PG X tg g)(hb:PSs X body tb)
  (hs:∀x,foldedSetIterable k7 X.env x=pure x:=by intro _;rfl):PS X (.For tg k7 body [] pos) (Ycm wi g tb):=by
 intro a6 s σ H D I h;refine wpAny_For (thn (hi a6 s σ H _ I h) fun v s1 h1=>thn h1 fun itv s2 h2=>?_) hs;obtain ⟨it,fp,tn,J,H2,e,I2,T,O1,f2,W,⟨m0,w0⟩,F4⟩:=h2;subst e;have A4:∀{H':Hp},(∀b∈fp,H' b=none)->∀b∈fp,Zjv X a6 H' b:=fun hn b hb=>⟨hn b hb,(f2 b hb).2⟩
 refine codeAny_forLoop_any (fun n s'=>∃i σ' H',Inv X a6 σ' H' s'/\tn i s'.heap/\(∀b∈fp,H' b=none)/\W i n σ' H') ?_ m0 ⟨0,σ,H2,I2,O1,fun b hb=>(f2 b hb).1,w0⟩;rintro n s3 ⟨i,σ3,H3,I3,N5,fr3,w3⟩;rcases F4 i n σ3 H3 w3 with ⟨stop,qn⟩|⟨go,N,hN,step⟩
 ·refine wpAny_passesOwn hp (thn (T.done X rfl rfl rfl hc i a6 s3 σ3 H3 X.xe I3 (A4 fr3) N5 stop) fun r s4 ⟨hr,I4⟩=>?_);subst hr;exact wpAny_execs_nil ⟨σ3,H3,I4,qn⟩
 ·refine wpAny_passesOwn hp (thn (T.item X rfl rfl rfl hc i a6 s3 σ3 H3 X.xe I3 (A4 fr3) N5 go) fun r s4 ⟨u,hr,h4⟩=>?_);subst hr;refine wpAny_passesOwn hp (thn h4 fun _ s5 ⟨x,H5,I5,r5,y5,N9,fr5⟩=>?_);have I5':=I5.pinned (A4 fr5) (T.obj _ _ N9);refine wpAny_passesOwn hp (thn (hg _ s5 σ3 H5 x u _ I5' r5 (step x H5 y5)) fun _ s6 ⟨σ6,H6,I6,q6⟩=>?_);refine wpAny_passesOwn hp (thn (hb _ s6 σ6 H6 _ I6 q6) fun f s7 q7=>?_);have x9:∀{σ7:St} {H7:Hp},Inv X (a6++Zia fp s5.heap) σ7 H7 s7->N σ7 H7->∃m,m<n/\∃i σ' H',Inv X a6 σ' H' s7/\tn i s7.heap/\(∀b∈fp,H' b=none)/\W i m σ' H':=fun {σ7 H7} I7 n7=>by
   obtain ⟨m',hm,w7⟩:=hN σ7 H7 n7;refine ⟨m',hm,i+1,σ7,H7,I7.unpinned,T.keep _ _ _ N9 fun b hb o e=>(I7.pin (b,o) (List.mem_append_right _ (List.mem_append_right _ (Za1 hb e)))).1,fun b hb=>?_,w7⟩;obtain ⟨o,e,d⟩:=T.obj _ _ N9 b hb;exact (I7.pin (b,o) (List.mem_append_right _ (List.mem_append_right _ (Za1 hb e)))).2.1
  cases f with
  | next=>obtain ⟨σ7,H7,I7,n7⟩:=q7;exact x9 I7 n7
  | cont=>obtain ⟨σ7,H7,I7,n7⟩:=q7;exact x9 I7 n7
  | brk=>obtain ⟨σ7,H7,I7,q7⟩:=q7;exact ⟨σ7,H7,I7.unpinned,q7⟩
  | ret v=>obtain ⟨x7,σ7,H7,I7,r7,q7⟩:=q7;exact ⟨x7,σ7,H7,I7.unpinned,r7,q7⟩
end
theorem W2{K:Frag}{a:Addr}{xs:List V}{g:TG}{tb:TS}{D:Zgg}{σ:St}{H:Hp}(Pv:Nat->St->Hp->Prop)(h0:Pv 0 σ H)(hl:∀i σ H,i<=xs.length->Pv i σ H->SqL K H a xs)
  (hs:∀i x σ H,xs[i]? =some x->Pv i σ H->g x σ H fun σ2 H2=>tb { D with nx:=Pv (i+1),ct:=Pv (i+1),bk:=D.nx } σ2 H2) (hd:∀σ H,Pv xs.length σ H->D.nx σ H) :
  ∃W:Nat->Nat->St->Hp->Prop,(∃m,W 0 m σ H)/\∀i m σ H,W i m σ H ->
   ((Itl K a).stop i H/\D.nx σ H)\/((Itl K a).go i H/\∃N:St->Hp->Prop,(∀σ' H',N σ' H'->∃m',m'<m/\W (i+1) m' σ' H')/\∀x H',(Itl K a).yld i H x H'->g x σ H' fun σ2 H2=>tb { D with nx:=N,ct:=N,bk:=D.nx } σ2 H2):=by
 refine ⟨fun i m σ H=>m=xs.length-i/\i<=xs.length/\Pv i σ H,⟨xs.length,by simp,Nat.zero_le _,h0⟩,?_⟩;rintro i m σ H ⟨rfl,hi,p⟩;have q:=hl i σ H hi p
 by_cases c7:i<xs.length
 ·refine .inr ⟨⟨xs,xs[i],q,by simp [c7]⟩,Pv (i+1),fun σ' H' p'=>⟨xs.length-(i+1),by lia,rfl,c7,p'⟩,fun x H' y=>?_⟩;obtain ⟨e,y⟩:=y;subst e;exact hs i x σ _ (y xs q) p
 ·have e:i=xs.length:=by lia
  subst e;exact .inl ⟨⟨xs,q,Nat.le_refl _⟩,hd σ H p⟩
theorem Zyh{K:Frag}{a:Addr}{xs:List V}{g:TG}{tb:TS}{D:Zgg}{σ:St}{H:Hp}(Pv:Nat->St->Hp->Prop)(h0:Pv 0 σ H)(hl:∀i σ H,i<=xs.length->Pv i σ H->SqT K H a xs)
  (hs:∀i x σ H,xs[i]? =some x->Pv i σ H->g x σ H fun σ2 H2=>tb { D with nx:=Pv (i+1),ct:=Pv (i+1),bk:=D.nx } σ2 H2) (hd:∀σ H,Pv xs.length σ H->D.nx σ H) :
  ∃W:Nat->Nat->St->Hp->Prop,(∃m,W 0 m σ H)/\∀i m σ H,W i m σ H ->
   ((Itt K a).stop i H/\D.nx σ H)\/((Itt K a).go i H/\∃N:St->Hp->Prop,(∀σ' H',N σ' H'->∃m',m'<m/\W (i+1) m' σ' H')/\∀x H',(Itt K a).yld i H x H'->g x σ H' fun σ2 H2=>tb { D with nx:=N,ct:=N,bk:=D.nx } σ2 H2):=by
 refine ⟨fun i m σ H=>m=xs.length-i/\i<=xs.length/\Pv i σ H,⟨xs.length,by simp,Nat.zero_le _,h0⟩,?_⟩;rintro i m σ H ⟨rfl,hi,p⟩;have q:=hl i σ H hi p
 by_cases c7:i<xs.length
 ·refine .inr ⟨⟨xs,xs[i],q,by simp [c7]⟩,Pv (i+1),fun σ' H' p'=>⟨xs.length-(i+1),by lia,rfl,c7,p'⟩,fun x H' y=>?_⟩;obtain ⟨e,y⟩:=y;subst e;exact hs i x σ _ (y xs q) p
 ·have e:i=xs.length:=by lia
  subst e;exact .inl ⟨⟨xs,q,Nat.le_refl _⟩,hd σ H p⟩
theorem Zob{lo:Int}{n:Nat}{g:TG}{tb:TS}{D:Zgg}{σ:St}{H:Hp}(Pv:Nat->St->Hp->Prop)(h0:Pv 0 σ H)
  (hs:∀i σ H,i<n->Pv i σ H->g (.int (lo+i)) σ H fun σ2 H2=>tb { D with nx:=Pv (i+1),ct:=Pv (i+1),bk:=D.nx } σ2 H2) (hd:∀σ H,Pv n σ H->D.nx σ H) :
  ∃W:Nat->Nat->St->Hp->Prop,(∃m,W 0 m σ H)/\∀i m σ H,W i m σ H ->
   ((Itr lo n).stop i H/\D.nx σ H)\/((Itr lo n).go i H/\∃N:St->Hp->Prop,(∀σ' H',N σ' H'->∃m',m'<m/\W (i+1) m' σ' H')/\∀x H',(Itr lo n).yld i H x H'->g x σ H' fun σ2 H2=>tb { D with nx:=N,ct:=N,bk:=D.nx } σ2 H2):=by
 refine ⟨fun i m σ H=>m=n-i/\i<=n/\Pv i σ H,⟨n,by simp,Nat.zero_le _,h0⟩,?_⟩;rintro i m σ H ⟨rfl,hi,p⟩
 by_cases c7:i<n
 ·refine .inr ⟨c7,Pv (i+1),fun σ' H' p'=>⟨n-(i+1),by lia,rfl,c7,p'⟩,fun x H' y=>?_⟩;obtain ⟨e,y⟩:=y;subst e y;exact hs i σ _ c7 p
 ·have e:i=n:=by lia
  subst e;exact .inl ⟨Nat.le_refl _,hd σ H p⟩
end L2
namespace L2
open PySem PySem.Spec PyProof.Rows
abbrev R2:=V->V->Hp->VK->Prop
def OpR(X:Cx)(f:Value->Value->Sem Value)(r:R2):Prop :=
 ∀(a6:List (Addr×Obj)) (s:Shared) (σ:St) (H:Hp) (x y:V) (v u:Value) (Q:VK),Inv X a6 σ H s->Yl x v->Yl y u->r x y H Q ->
  wpAny (model X.prog X.w) X.A (f v u) (EP X a6 σ Q) X.xe s
def UnR(X:Cx)(f:Value->Sem Value)(r:V->Hp->VK->Prop):Prop :=
 ∀(a6:List (Addr×Obj)) (s:Shared) (σ:St) (H:Hp) (x:V) (v:Value) (Q:VK),Inv X a6 σ H s->Yl x v->r x H Q ->
  wpAny (model X.prog X.w) X.A (f v) (EP X a6 σ Q) X.xe s
def X0(X:Cx)(f:Value)(r:List V->Hp->VK->Prop):Prop :=
 ∀(a6:List (Addr×Obj)) (s:Shared) (σ:St) (H:Hp) (xs:List V) (us:List Value) (Q:VK),Inv X a6 σ H s->Yh xs us->r xs H Q ->
  wpAny (model X.prog X.w) X.A (call f us) (EP X a6 σ Q) X.xe s
def tOp(r:R2)(ta tb:TE):TE:=fun σ H Q=>ta σ H fun x H1=>tb σ H1 fun y H2=>r x y H2 Q
def tUn(r:V->Hp->VK->Prop)(ta:TE):TE:=fun σ H Q=>ta σ H fun x H1=>r x H1 Q
def rI(C:Int->Int->Prop)(g:Int->Int->V):R2:=fun x y H Q=>∃i j,x=.int i/\y=.int j/\C i j/\Q (g i j) H
def rI0(g:Int->Int->V):R2:=fun x y H Q=>∃i j,x=.int i/\y=.int j/\Q (g i j) H
def rU(g:Int->V):V->Hp->VK->Prop:=fun x H Q=>∃i,x=.int i/\Q (g i) H
section
variable {X:Cx} {a b c:Expr} {ta tb tc:TE} {pos:Pos}
theorem Zzw(ha:PE X a ta)(hb:PE X b tb){a6:List (Addr×Obj)}{s:Shared}{σ:St}{H:Hp}{R:V->V->Hp->Prop}(I:Inv X a6 σ H s)
  (h:ta σ H fun x H1=>tb σ H1 fun y H2=>R x y H2) {Q:Value->Shared->Prop} {f:Value->Value->Sem Value}
  (hf:∀v u s2 x y H2,Inv X a6 σ H2 s2->Yl x v->Yl y u->R x y H2->wpAny (model X.prog X.w) X.A (f v u) Q X.xe s2) :
  wpAny (model X.prog X.w) X.A (eval a X.env) (fun v s₁=>wpAny (model X.prog X.w) X.A (eval b X.env) (fun u s₂=>wpAny (model X.prog X.w) X.A (f v u) Q X.xe s₂) X.xe s₁) X.xe s:=by
 refine thn (ha a6 s σ H _ I h) fun v s1 ⟨x,H1,I1,r1,q1⟩=>?_
 refine thn (hb a6 s1 σ H1 _ I1 q1) fun u s2 ⟨y,H2,I2,r2,q2⟩=>?_
 exact hf v u s2 x y H2 I2 r1 r2 q2
theorem Zt{op:Operator}{r:R2}(ho:OpR X (binaryOp op) r)(ha:PE X a ta)(hb:PE X b tb):PE X (.BinOp a op b pos) (tOp r ta tb):=by
 intro a6 s σ H Q I h;exact wpAny_BinOp (Zzw ha hb I h fun v u s2 x y H2 I2 rx ry q=>ho a6 s2 σ H2 x y v u Q I2 rx ry q)
theorem Zpu{op:UnaryOp}{r:V->Hp->VK->Prop}(ho:UnR X (unaryOp op) r)(ha:PE X a ta):PE X (.UnaryOp op a pos) (tUn r ta):=by
 intro a6 s σ H Q I h;exact UnaryOp_ (thn (ha a6 s σ H _ I h) fun v s1 ⟨x,H1,I1,r1,q1⟩=>ho a6 s1 σ H1 x v Q I1 r1 q1)
theorem opI{f:Value->Value->Sem Value}{C:Int->Int->Prop}{g:Int->Int->Int}
  (K1:∀(i j:Int) (t u:Tok) (s:Shared) (Q:Value->Shared->Prop) (E:Value->Shared->Prop),C i j->Q (.int (g i j) s.toks) { s with toks:=s.toks+1 }->wpAny (model X.prog X.w) X.A (f (.int i t) (.int j u)) Q E s) :
  OpR X f (rI C fun i j=>.int (g i j)):=by
 intro a6 s σ H x y v u Q I rx ry h;obtain ⟨i,j,rfl,rfl,hc,q⟩:=h;obtain ⟨t,rfl⟩:=rx;obtain ⟨t',rfl⟩:=ry;exact K1 i j t t' s _ _ hc ⟨.int (g i j),H,I.tok _,⟨_,rfl⟩,q⟩
theorem Ybl{f:Value->Value->Sem Value}{g:Int->Int->Int}
  (K1:∀(i j:Int) (t u:Tok) (s:Shared) (Q:Value->Shared->Prop) (E:Value->Shared->Prop),Q (.int (g i j) s.toks) { s with toks:=s.toks+1 }->wpAny (model X.prog X.w) X.A (f (.int i t) (.int j u)) Q E s) :
  OpR X f (rI0 fun i j=>.int (g i j)):=by
 intro a6 s σ H x y v u Q I rx ry h;obtain ⟨i,j,rfl,rfl,q⟩:=h;obtain ⟨t,rfl⟩:=rx;obtain ⟨t',rfl⟩:=ry;exact K1 i j t t' s _ _ ⟨.int (g i j),H,I.tok _,⟨_,rfl⟩,q⟩
theorem Yaj{f:Value->Value->Sem Value}{g:Int->Int->Bool}
  (K1:∀(i j:Int) (t u:Tok) (s:Shared) (Q:Value->Shared->Prop) (E:Value->Shared->Prop),Q (.bool (g i j)) s->wpAny (model X.prog X.w) X.A (f (.int i t) (.int j u)) Q E s) :
  OpR X f (rI0 fun i j=>.bl (g i j)):=by
 intro a6 s σ H x y v u Q I rx ry h;obtain ⟨i,j,rfl,rfl,q⟩:=h;obtain ⟨t,rfl⟩:=rx;obtain ⟨t',rfl⟩:=ry;exact K1 i j t t' s _ _ ⟨.bl (g i j),H,I,rfl,q⟩
def Ycy(i j:Int):Prop:=0<j/\j<1073741824
def Yap(i j:Int):Prop:=(-(2 ^ 64)<i/\i<2 ^ 64)\/(-(2 ^ 64)<j/\j<2 ^ 64)
theorem Yap.ok{i j:Int}(h:Yap i j):IntMulOk i j:=by
 rcases h with ⟨h1,h2⟩|⟨h1,h2⟩
 ·exact .of_left (intBits_le_64 h1 h2)
 ·exact .of_right (intBits_le_64 h1 h2)
theorem Yac:OpR X (binaryOp .Add) (rI0 fun i j=>.int (i+j)):=Ybl fun _ _ _ _ _ _ _ q=>add_int q
theorem Zvk:OpR X (binaryOp .Sub) (rI0 fun i j=>.int (i-j)):=Ybl fun _ _ _ _ _ _ _ q=>sub_int q
theorem Zh5:OpR X (binaryOp .Mult) (rI Yap fun i j=>.int (i * j)):=opI fun _ _ _ _ _ _ _ hc q=>mul_int q hc.ok
theorem Yt:OpR X (binaryOp .FloorDiv) (rI Ycy fun i j=>.int (i / j)):=opI fun i j _ _ _ _ _ hc q=>by
 have h1:(0:Int)<j:=hc.1;have h2:j<1073741824:=hc.2;exact floordiv_int (by lia) (by rw [Int.fdiv_eq_ediv_of_nonneg i (by lia)];exact q) (.inl (PyProof.noPylong_small (by lia)))
theorem Yv:OpR X (binaryOp .Mod) (rI (fun _ j=>0<j) fun i j=>.int (i%j)):=opI fun i j _ _ _ _ _ hc q=>by
 have h1:(0:Int)<j:=hc;exact mod_int' (by lia) (by rw [Int.fmod_eq_emod_of_nonneg i (by lia)];exact q)
theorem unI{f:Value->Sem Value}{g:Int->Int}
  (K1:∀(i:Int) (t:Tok) (s:Shared) (Q:Value->Shared->Prop) (E:Value->Shared->Prop),Q (.int (g i) s.toks) { s with toks:=s.toks+1 }->wpAny (model X.prog X.w) X.A (f (.int i t)) Q E s) :
  UnR X f (rU fun i=>.int (g i)):=by
 intro a6 s σ H x v Q I rx h;obtain ⟨i,rfl,q⟩:=h;obtain ⟨t,rfl⟩:=rx;exact K1 i t s _ _ ⟨.int (g i),H,I.tok _,⟨_,rfl⟩,q⟩
theorem Zkn:UnR X (unaryOp .USub) (rU fun i=>.int (-i)):=unI fun _ _ _ _ _ q=>neg_int q
end
def Yb1:V->V->Bool
 | .non,.non=>true | .non,.int _=>true | .int _,.non=>true | .non,.bl _=>true | .bl _,.non=>true | .non,.str _=>true | .str _,.non=>true
 | .int _,.int _=>true | .bl _,.bl _=>true | .str _,.str _=>true | .byt _,.byt _=>true
 | .int _,.str _=>true | .str _,.int _=>true | .bl _,.str _=>true | .str _,.bl _=>true
 | _,_=>false
def rEq:R2:=fun x y H Q=>Yb1 x y=true/\Q (.bl (decide (x=y))) H
def rNe:R2:=fun x y H Q=>Yb1 x y=true/\Q (.bl (!decide (x=y))) H
theorem Zs4{i j:Int}:decide (V.int i=V.int j)=(i ==j):=by
 rw [Bool.eq_iff_iff];simp
theorem Zu8{i j:Bool}:decide (V.bl i=V.bl j)=(i ==j):=by
 rw [Bool.eq_iff_iff];simp
theorem Ztq{i j:Str}:decide (V.str i=V.str j)=(i ==j):=by
 rw [Bool.eq_iff_iff];simp
theorem Zs9{i j:Array UInt8}:decide (V.byt i=V.byt j)=(i.toList ==j.toList):=by
 rw [Bool.eq_iff_iff];cases i;cases j;simp
section
variable {X:Cx} {a b c:Expr} {ta tb tc:TE} {pos:Pos}
theorem Y4{a6:List (Addr×Obj)}{σ:St}{H:Hp}{s:Shared}{Q:VK}{k k':Bool}(I:Inv X a6 σ H s)(q:Q (.bl k) H)(e:k=k'):EP X a6 σ Q (.bool k') s:=by
 subst e;exact ⟨.bl k,H,I,rfl,q⟩
theorem Yaz:OpR X (compareOp .Eq) rEq:=by
 intro a6 s σ H x y v u Q I rx ry h;obtain ⟨hs,q⟩:=h;cases x with
 | non =>
  cases rx;cases y with
  | non=>cases ry;exact PySem.EqNone.eq_none_none (Y4 I q (by simp))
  | bl j=>cases ry;exact PySem.EqNone.eq_none_bool (Y4 I q (by simp))
  | int j=>obtain ⟨t',rfl⟩:=ry;exact PySem.EqNone.eq_none_int (Y4 I q (by simp))
  | str j=>obtain ⟨t',rfl⟩:=ry;exact PySem.EqNone.eq_none_str (Y4 I q (by simp))
  | _=>exact absurd (show false=true from hs) Bool.false_ne_true
 | bl i =>
  cases rx;cases y with
  | non=>cases ry;exact PySem.EqNone.eq_bool_none (Y4 I q (by simp))
  | bl j=>cases ry;exact eq_bool (Y4 I q Zu8)
  | str j=>obtain ⟨t',rfl⟩:=ry;exact PySem.EqMixed.eq_bool_str (Y4 I q (by simp))
  | _=>exact absurd (show false=true from hs) Bool.false_ne_true
 | int i =>
  obtain ⟨t,rfl⟩:=rx;cases y with
  | non=>cases ry;exact PySem.EqNone.eq_int_none (Y4 I q (by simp))
  | int j=>obtain ⟨t',rfl⟩:=ry;exact eq_int (Y4 I q Zs4)
  | str j=>obtain ⟨t',rfl⟩:=ry;exact PySem.EqMixed.eq_int_str (Y4 I q (by simp))
  | _=>exact absurd (show false=true from hs) Bool.false_ne_true
 | str i =>
  obtain ⟨t,rfl⟩:=rx;cases y with
  | non=>cases ry;exact PySem.EqNone.eq_str_none (Y4 I q (by simp))
  | bl j=>cases ry;exact PySem.EqMixed.eq_str_bool (Y4 I q (by simp))
  | int j=>obtain ⟨t',rfl⟩:=ry;exact PySem.EqMixed.eq_str_int (Y4 I q (by simp))
  | str j=>obtain ⟨t',rfl⟩:=ry;exact eq_str (Y4 I q Ztq)
  | _=>exact absurd (show false=true from hs) Bool.false_ne_true
 | byt i =>
  obtain ⟨t,rfl⟩:=rx;cases y with
  | byt j=>obtain ⟨t',rfl⟩:=ry;exact PySem.W.eq_bytes (Y4 I q Zs9)
  | _=>exact absurd (show false=true from hs) Bool.false_ne_true
 | _=>cases y <;>exact absurd (show false=true from hs) Bool.false_ne_true
theorem Ybz:OpR X (compareOp .NotEq) rNe:=by
 intro a6 s σ H x y v u Q I rx ry h;obtain ⟨hs,q⟩:=h;cases x with
 | non =>
  cases rx;cases y with
  | non=>cases ry;exact PySem.EqNone.ne_none_none (Y4 I q (by simp))
  | bl j=>cases ry;exact PySem.EqNone.ne_none_bool (Y4 I q (by simp))
  | int j=>obtain ⟨t',rfl⟩:=ry;exact PySem.EqNone.ne_none_int (Y4 I q (by simp))
  | str j=>obtain ⟨t',rfl⟩:=ry;exact PySem.EqNone.ne_none_str (Y4 I q (by simp))
  | _=>exact absurd (show false=true from hs) Bool.false_ne_true
 | bl i =>
  cases rx;cases y with
  | non=>cases ry;exact PySem.EqNone.ne_bool_none (Y4 I q (by simp))
  | bl j=>cases ry;exact ne_bool (Y4 I q (congrArg not Zu8))
  | str j=>obtain ⟨t',rfl⟩:=ry;exact PySem.EqMixed.ne_bool_str (Y4 I q (by simp))
  | _=>exact absurd (show false=true from hs) Bool.false_ne_true
 | int i =>
  obtain ⟨t,rfl⟩:=rx;cases y with
  | non=>cases ry;exact PySem.EqNone.ne_int_none (Y4 I q (by simp))
  | int j=>obtain ⟨t',rfl⟩:=ry;exact ne_int (Y4 I q (congrArg not Zs4))
  | str j=>obtain ⟨t',rfl⟩:=ry;exact PySem.EqMixed.ne_int_str (Y4 I q (by simp))
  | _=>exact absurd (show false=true from hs) Bool.false_ne_true
 | str i =>
  obtain ⟨t,rfl⟩:=rx;cases y with
  | non=>cases ry;exact PySem.EqNone.ne_str_none (Y4 I q (by simp))
  | bl j=>cases ry;exact PySem.EqMixed.ne_str_bool (Y4 I q (by simp))
  | int j=>obtain ⟨t',rfl⟩:=ry;exact PySem.EqMixed.ne_str_int (Y4 I q (by simp))
  | str j=>obtain ⟨t',rfl⟩:=ry;exact ne_str (Y4 I q (congrArg not Ztq))
  | _=>exact absurd (show false=true from hs) Bool.false_ne_true
 | byt i =>
  obtain ⟨t,rfl⟩:=rx;cases y with
  | byt j=>obtain ⟨t',rfl⟩:=ry;exact PySem.W.ne_bytes (Y4 I q (congrArg not Zs9))
  | _=>exact absurd (show false=true from hs) Bool.false_ne_true
 | _=>cases y <;>exact absurd (show false=true from hs) Bool.false_ne_true
theorem Zn6:OpR X (compareOp .Lt) (rI0 fun i j=>.bl (decide (i<j))):=Yaj fun _ _ _ _ _ _ _ q=>lt_int q
theorem Zy4:OpR X (compareOp .LtE) (rI0 fun i j=>.bl (decide (i<=j))):=Yaj fun _ _ _ _ _ _ _ q=>le_int q
theorem Zkz:OpR X (compareOp .Gt) (rI0 fun i j=>.bl (decide (j<i))):=Yaj fun _ _ _ _ _ _ _ q=>gt_int q
theorem Zuh:OpR X (compareOp .In) (fun x y H Q=>∃i j,x=.str i/\y=.str j/\Q (.bl (!(Builtin.Str.occurrences j i 0 j.length 1).isEmpty)) H):=by
 intro a6 s σ H x y v u Q I rx ry h;obtain ⟨i,j,rfl,rfl,q⟩:=h;obtain ⟨t,rfl⟩:=rx;obtain ⟨t',rfl⟩:=ry;exact in_str (Y4 I q rfl)
theorem Zzn:OpR X (compareOp .Is) (fun x y H Q=>y=.non/\Q (.bl (decide (x=.non))) H):=by
 intro a6 s σ H x y v u Q I rx ry h;obtain ⟨rfl,q⟩:=h;cases ry;refine is_none_gen (Y4 I q ?_);cases x <;>first
  | (cases rx;rfl)
  | (obtain ⟨t,rfl⟩:=rx;rfl)
theorem OpR.or{f:Value->Value->Sem Value}{r r':R2}(h:OpR X f r)(h':OpR X f r'):OpR X f (fun x y H Q=>r x y H Q\/r' x y H Q):=by
 intro a6 s σ H x y v u Q I rx ry q;rcases q with q|q
 ·exact h a6 s σ H x y v u Q I rx ry q
 ·exact h' a6 s σ H x y v u Q I rx ry q
theorem Zw(b:Expr){op:CmpOp}(h:op ≠ .In:=by decide)(h2:op ≠ .NotIn:=by decide):behindInMarks op b=false:=by
 have e1:(op ==CmpOp.In)=false:=by cases op <;>first | rfl | exact absurd rfl h
 have e2:(op ==CmpOp.NotIn)=false:=by cases op <;>first | rfl | exact absurd rfl h2
 cases b <;>simp [behindInMarks,e1,e2]
theorem Wc{op:CmpOp}{r:R2}(ho:OpR X (compareOp op) r)(ha:PE X a ta)(hb:PE X b tb)(hm:behindInMarks op b=false):PE X (.Compare a [op] [b] pos) (tOp r ta tb):=by
 intro a6 s σ H Q I h;exact wpAny_Compare1 (Zzw ha hb I h fun v u s2 x y H2 I2 rx ry q=>ho a6 s2 σ H2 x y v u Q I2 rx ry q) hm
def Zwz(t:TE):TT:=fun σ H Q=>t σ H fun x H'=>∃k,x=.bl k/\Q k H'
theorem Zq{op:CmpOp}{r:R2}(ho:OpR X (compareOp op) r)(ha:PE X a ta)(hb:PE X b tb)(hm:behindInMarks op b=false):PT X (.Compare a [op] [b] pos) (Zwz (tOp r ta tb)):=by
 intro a6 s σ H Q I h;refine wpAny_isTrue_Compare1 (thn (ha a6 s σ H _ I h) fun v s1 ⟨x,H1,I1,r1,q1⟩=>thn (hb a6 s1 σ H1 _ I1 q1) fun u s2 ⟨y,H2,I2,r2,q2⟩ =>
  thn (ho a6 s2 σ H2 x y v u _ I2 r1 r2 q2) fun c s3 ⟨z,H3,I3,r3,k,e,q3⟩=>?_) hm
 subst e;cases r3;exact wpAny_truthy_bool ⟨H3,I3,q3⟩
def Yas(r r':R2)(ta tb tc:TE):TE:=fun σ H Q=>ta σ H fun x H1=>tb σ H1 fun y H2=>r x y H2 fun z H3=>∃k,z=.bl k /\
 (if k=true then tc σ H3 fun w' H4=>r' y w' H4 Q else Q (.bl false) H3)
theorem Zvx{op op':CmpOp}{r r':R2}(ho:OpR X (compareOp op) r)(S4:OpR X (compareOp op') r')(ha:PE X a ta)(hb:PE X b tb)(hc:PE X c tc)
  (hm:lastMarks [op,op'] [b,c]=false:=by with_unfolding_all rfl):PT X (.Compare a [op,op'] [b,c] pos) (Zwz (Yas r r' ta tb tc)):=by
 intro a6 s σ H Q I h;refine isTrue_chain (thn (ha a6 s σ H _ I h) fun v s1 ⟨x,H1,I1,r1,q1⟩=>test_link (thn (hb a6 s1 σ H1 _ I1 q1) fun u s2 ⟨y,H2,I2,r2,q2⟩ =>
  thn (ho a6 s2 σ H2 x y v u _ I2 r1 r2 q2) fun d s3 ⟨z,H3,I3,r3,k,e,q3⟩=>?_)) hm
 subst e;cases r3;refine wpAny_truthy_bool ?_;cases k with
 | false =>
  obtain ⟨k',e',q'⟩:=q3;cases e';exact ite_ff ⟨H3,I3,q'⟩
 | true =>
  refine ite_tt (test_last (thn (hc a6 s3 σ H3 _ I3 q3) fun w' s4 ⟨z',H4,I4,r4,q4⟩=>thn (S4 a6 s4 σ H4 y z' u w' _ I4 r2 r4 q4) fun d' s5 ⟨z2,H5,I5,r5,k2,e2,q5⟩=>?_));subst e2;cases r5;exact wpAny_truthy_bool ⟨H5,I5,q5⟩
theorem Zlz:(sizeLine:Nat)<2 ^ 63:=by rw [sizeLine_eq];decide
theorem Zso:OpR X (binaryOp .Add) (fun x y H Q=>∃i j,x=.str i/\y=.str j/\i.length+j.length<=sizeLine/\Q (.str (i++j)) H):=by
 intro a6 s σ H x y v u Q I rx ry h;obtain ⟨i,j,rfl,rfl,hz,q⟩:=h;obtain ⟨t,rfl⟩:=rx;obtain ⟨t',rfl⟩:=ry;exact add_str (fun t' tk=>⟨.str (i++j),H,I.tok _,⟨_,rfl⟩,q⟩) hz
theorem Zci{x:V}{us:List Value}(r:Yh [x] us):∃u,us=[u]/\Yl x u:=by
 cases r with
 | cons r1 r2=>cases r2;exact ⟨_,rfl,r1⟩
theorem Zql{x y:V}{us:List Value}(r:Yh [x,y] us):∃u w',us=[u,w']/\Yl x u/\Yl y w':=by
 cases r with
 | cons r1 r2 =>
  cases r2 with
  | cons r3 r4=>cases r4;exact ⟨_,_,rfl,r1,r3⟩
theorem Zul(hc:X.calm=true):X0 X (.builtin "max") (fun xs H Q=>∃i j,xs=[.int i,.int j]/\Q (.int (if j >i then j else i)) H):=by
 intro a6 s σ H xs us Q I r h;obtain ⟨i,j,rfl,q⟩:=h;obtain ⟨u,w',rfl,⟨t,rfl⟩,⟨t',rfl⟩⟩:=Zql r;refine max_two_ints (I.ok.hd hc) fun h' tk k=>⟨_,H,I.kept k,?_,q⟩
 by_cases hj:j >i
 ·rw [if_pos hj,if_pos hj];exact ⟨_,rfl⟩
 ·rw [if_neg hj,if_neg hj];exact ⟨_,rfl⟩
theorem Zum(hc:X.calm=true):X0 X (.builtin "min") (fun xs H Q=>∃i j,xs=[.int i,.int j]/\Q (.int (if j<i then j else i)) H):=by
 intro a6 s σ H xs us Q I r h;obtain ⟨i,j,rfl,q⟩:=h;obtain ⟨u,w',rfl,⟨t,rfl⟩,⟨t',rfl⟩⟩:=Zql r;refine min_two_ints (I.ok.hd hc) fun h' tk k=>⟨_,H,I.kept k,?_,q⟩
 by_cases hj:j<i
 ·rw [if_pos hj,if_pos hj];exact ⟨_,rfl⟩
 ·rw [if_neg hj,if_neg hj];exact ⟨_,rfl⟩
theorem Zbx:X0 X (.type "str") (fun xs H Q=>∃i,xs=[.int i]/\i.natAbs.log2<1920/\Q (.str (toString i)) H):=by
 intro a6 s σ H xs us Q I r h;obtain ⟨i,rfl,hz,q⟩:=h;obtain ⟨u,rfl,t,rfl⟩:=Zci r;exact PySem.P.str_of_int hz ⟨.str _,H,I.tok _,⟨_,rfl⟩,q⟩
theorem Zvu:X0 X (.builtin "ord") (fun xs H Q=>∃x,xs=[.str x]/\x.length=1/\Q (.int (x.cps.getD 0 0:Nat)) H):=by
 intro a6 s σ H xs us Q I r h;obtain ⟨x,rfl,hz,q⟩:=h;obtain ⟨u,rfl,t,rfl⟩:=Zci r;exact ord_of_one hz ⟨.int _,H,I.tok _,⟨_,rfl⟩,q⟩
end
end L2
namespace L2
open PySem PySem.Spec PyProof.Rows
structure Zry(h:Heap)(x dx C:Addr)(mA:Str->Option Value):Prop where
 obj:h.get? x=some (PySem.W.instObj C dx)
 ns:h.Ns1 dx mA
 ne:dx≠x
theorem Zt2{h:Heap}{dx:Addr}{mA:Str->Option Value}(n:h.Ns1 dx mA):∃od,h.get? dx=some od/\∀name,PySem.W.lookIn name od=some (mA name):=by
 obtain ⟨o,es,ep,ho,hd,hk,_,hm⟩:=n;refine ⟨o,ho,fun name=>?_⟩;have e:=hm name;unfold nsFind findBy at e;rw [<-Array.find?_toList] at e;unfold PySem.W.lookIn;rw [hd];dsimp only;split
 ·rename_i y q;rw [q] at e;exact congrArg some e
 ·rename_i q;rw [q] at e;have a:es.toList.any (·.refKey)=false:=by
   rw [List.any_eq_false];intro y hy;obtain ⟨z,t,E8⟩:=hk y (Array.mem_toList_iff.mp hy);simp [DictEntry.refKey,E8]
  have a':¬es.toList.any (·.refKey)=true:=by rw [a];exact Bool.false_ne_true
  rw [if_neg a'];exact congrArg some e
theorem Zry.look{h:Heap}{x dx C:Addr}{mA:Str->Option Value}(I:Zry h x dx C mA):∃od,PySem.W.InstAt h x (PySem.W.instObj C dx) C (some od)/\∀name,PySem.W.lookIn name od=some (mA name) :=
 let ⟨od,ho,hl⟩:=Zt2 I.ns
 ⟨od,⟨I.obj,rfl,rfl,ho⟩,hl⟩
section
variable {prog:Program} {w:World} {A:Around} {E:Value->Shared->Prop} {s:Shared} {K:Frag} {x dx C f:Addr} {mA:Str->Option Value} {name:Str} {v:Value}
theorem Zxa{expr:Bool}{Q:Value->Shared->Prop}(X:K.In s.heap)(I:Zry s.heap x dx C mA)(hg:PySem.W.plainGet K C name=true)(hh:PySem.W.hasDictIn K C=true)
  (ha:findIn K (.ref C) name=some none) (hv:mA name=some v) (hv':PySem.W.handedIn v=true) (h:Q v { s with toks:=s.toks+1 }) :
  wpAny (model prog w) A (getAttr (.ref x) name expr) Q E s:=by
 obtain ⟨od,J,hl⟩:=I.look;exact PySem.W.get_value X J (PySem.W.plainGet_of hg).1 (PySem.W.findObj_own hh ha rfl (by rw [hl,hv])) hv' h
theorem Zwi{pl:Sem Bool}{Q:Value×List Value->Shared->Prop}(X:K.In s.heap)(I:Zry s.heap x dx C mA)(hg:PySem.W.plainGet K C name=true)
  (hf:findIn K (.ref C) name=some (some (.ref f))) (ht:PySem.W.isFn K (.ref f)=true) (hv:mA name=none) (h:Q (.ref f,[.ref x]) s) :
  wpAny (model prog w) A (getMethod (.ref x) name pl) Q E s:=by
 obtain ⟨od,J,hl⟩:=I.look;exact PySem.W.method_fn X J (PySem.W.plainGet_of hg).1 (PySem.W.plainGet_of hg).2 hf (beq_iff_eq.mp ht) (by show (PySem.W.lookIn name od).map (·.isSome)=some false;rw [hl,hv];rfl) h
theorem Zxv{ns:List Str}{Q:Unit->Shared->Prop}(X:K.In s.heap)(I:Zry s.heap x dx C mA)
  (hs:findIn K (.ref C) "__setattr__" =some (some (.builtin "object.__setattr__"))) (hp:PySem.W.plainOver K C=true) (ht:PySem.W.takerIn K C name=some none) (hh:PySem.W.hasDictIn K C=true)
  (hw:PySem.Within mA ns) (hsz:ns.length<=sizeLine)
  (h:∀h',Zry h' x dx C (fun y=>if y=name then some v else mA y)->Heap.SameBut dx s.heap h'->Q () { s with heap:=h',toks:=s.toks+2 }) :
  wpAny (model prog w) A (setAttr (.ref x) name v) Q E s:=by
 obtain ⟨od,J,hl⟩:=I.look;refine PySem.W.set_plain X J hs (PySem.W.osa_open (s:={ s with toks:=s.toks+1 }) (r:=none) X J hp ht fun b=>?_);obtain ⟨cd,hc,hd'⟩:=PySem.W.any_some hh;have hx:s.heap.get? x=some ⟨.ref C,some dx,.plain,#[]⟩:=I.obj;refine wpAny_bind (wpAny_pure (wpAny_bind (wpAny_bind (wpAny_loadPart hx (wpAny_bind (PySem.W.Looks.here (s:={ s with toks:=s.toks+1 }) (PySem.W.looks_clsIn X hc) ?_))))));rw [hd'];refine wpAny_pure (a:=some dx) (wpAny_bind (wpAny_pure (wpAny_bind ?_)));refine wpAny_nsSet1 (s:={ s with toks:=s.toks+1 }) I.ns fun h' hn2 hs2=>?_
 obtain ⟨oD,esD,epD,hoD,hdD,hcD⟩:=hn2.count (PySem.Within.cons name v hw);refine wpAny_bind (wpAny_lookBehind hoD (by rw [hdD];exact pastItsLine_dict (Nat.le_trans hcD (by rw [List.length_cons];lia))) ?_);exact wpAny_pure (h _ ⟨(hs2.2 _ (Ne.symm I.ne)).trans I.obj,hn2,I.ne⟩ hs2)
theorem Zwn{R:Result->Shared->Prop}{vs:List Value}{kw:List (Str×Value)}(X:K.In s.heap)(hm:PySem.W.makesIn K C=true)
  (hi:findIn K (.ref C) "__init__" =some (some (.ref f))) (hf:PySem.W.typeIn K (.ref f)=some (.type "function"))
  (h:codeAny (model prog w) (A.under (.builtin "type.__call__" ⟨.ref C ::vs,kw⟩)) (.call (.ref f) ⟨.ref (s.heap.objs.size+1) ::vs,kw⟩) (PySem.W.InitBack (s.heap.objs.size+1) R)
   { s with heap:=(s.heap.push PySem.W.emptyDict).push (PySem.W.instObj C s.heap.objs.size) }) :
  codeAny (model prog w) A (.call (.ref C) ⟨vs,kw⟩) R s:=by
 obtain ⟨hh,g,d,t,os⟩:=s;exact PySem.W.make_core (PySem.W.makes_of X hm) (PySem.W.looks_findIn X hi) (fun self=>PySem.W.bind_fn X self hf) (.inl rfl) h
end
def Zf3(f:Str)(v:V):List (Str×V)->List (Str×V)
 | []=>[(f,v)]
 | (g,x) ::r=>if g=f then (g,v) ::r else (g,x) ::Zf3 f v r
theorem Zi8(f g:Str)(v:V):∀fs:List (Str×V),(Zf3 f v fs).lookup g=if g=f then some v else fs.lookup g
 | []=>by
  show List.lookup g [(f,v)]=_
  by_cases h:g=f
  ·have hb:(g ==f)=true:=beq_iff_eq.mpr h;simp only [List.lookup,hb,if_pos h]
  ·have hb:(g ==f)=false:=beq_eq_false_iff_ne.mpr h;simp only [List.lookup,hb,if_neg h]
 | (k,x) ::r=>by
  have ih:=Zi8 f g v r;rw [show Zf3 f v ((k,x) ::r)=(if k=f then (k,v) ::r else (k,x) ::Zf3 f v r) from rfl]
  by_cases hk:k=f
  ·rw [if_pos hk]
   by_cases h:g=k
   ·have hb:(g ==k)=true:=beq_iff_eq.mpr h;simp only [List.lookup,hb,if_pos (h.trans hk)]
   ·have hb:(g ==k)=false:=beq_eq_false_iff_ne.mpr h;simp only [List.lookup,hb,if_neg (fun e:g=f=>h (e.trans hk.symm))]
  ·rw [if_neg hk]
   by_cases h:g=k
   ·have hb:(g ==k)=true:=beq_iff_eq.mpr h;simp only [List.lookup,hb,if_neg (fun e:g=f=>hk (h.symm.trans e))]
   ·have hb:(g ==k)=false:=beq_eq_false_iff_ne.mpr h;simp only [List.lookup,hb];exact ih
theorem Ziz(f:Str)(v:V):∀fs:List (Str×V),f∈(Zf3 f v fs).map (·.1)/\∀g,g∈fs.map (·.1)->g∈(Zf3 f v fs).map (·.1)
 | []=>⟨by simp [Zf3],fun g h=>by simp at h⟩
 | (k,x) ::r=>by
  obtain ⟨i1,i2⟩:=Ziz f v r;rw [show Zf3 f v ((k,x) ::r)=(if k=f then (k,v) ::r else (k,x) ::Zf3 f v r) from rfl]
  by_cases hk:k=f
  ·rw [if_pos hk];subst hk;exact ⟨by simp,fun g h=>by simpa using h⟩
  ·rw [if_neg hk];refine ⟨?_,fun g h=>?_⟩
   ·rw [List.map_cons];exact List.mem_cons_of_mem _ i1
   ·rw [List.map_cons] at h ⊢;rcases List.mem_cons.mp h with e|e
    ·exact List.mem_cons.mpr (.inl e)
    ·exact List.mem_cons_of_mem _ (i2 g e)
theorem Zi2(f:Str)(v:V):∀fs:List (Str×V),(Zf3 f v fs).length<=fs.length+1
 | []=>by simp [Zf3]
 | (k,x) ::r=>by
  have ih:=Zi2 f v r;rw [show Zf3 f v ((k,x) ::r)=(if k=f then (k,v) ::r else (k,x) ::Zf3 f v r) from rfl]
  by_cases hk:k=f
  ·rw [if_pos hk,List.length_cons,List.length_cons];lia
  ·rw [if_neg hk,List.length_cons,List.length_cons];lia
theorem Zdk.some_of{v:V}{o:Option Value}(r:Zdk (some v) o):∃u,o=some u/\Yl v u:=by
 cases o with
 | none=>exact (show False from r).elim
 | some u=>exact ⟨u,rfl,r⟩
theorem Zdk.none_of{o:Option Value}(r:Zdk none o):o=none:=by
 cases o with
 | none=>rfl
 | some u=>exact (show False from r).elim
theorem Zux{v:V}{u:Value}(r:Yl v u):PySem.W.handedIn u=true:=by
 cases v with
 | non=>cases (show u=Value.none from r);rfl
 | bl b=>cases (show u=Value.bool b from r);rfl
 | int i=>obtain ⟨t,e⟩:=(show ∃t,u=Value.int i t from r);cases e;rfl
 | str x=>obtain ⟨t,e⟩:=(show ∃t,u=Value.str x t from r);cases e;rfl
 | byt b=>obtain ⟨t,e⟩:=(show ∃t,u=Value.bytes b t from r);cases e;rfl
 | flt b=>obtain ⟨t,e⟩:=(show ∃t,u=Value.float b t from r);cases e;rfl
 | ref a=>cases (show u=Value.ref a from r);rfl
 | ty n=>cases (show u=Value.type n from r);rfl
section
variable {P:Program} {w:World} {H H':Hp} {h h':Heap} {a C dx:Addr} {fs fs':List (Str×V)}
theorem Zj7(hok:HOk P w H h)(e:H a=some (.ins C dx fs)):∃mA,Zry h a dx C mA/\(∀f,Zdk (fs.lookup f) (mA f))/\PySem.Within mA (fs.map (·.1))/\fs.length<=1000/\H dx=some (.own a):=by
 obtain ⟨d,z,ne,ob,mA,n,r,q⟩:=(show Yy P w H h a (.ins C dx fs) from hok a _ e)
 exact ⟨mA,⟨ob,n,ne⟩,r,q,z,d⟩
end
structure Cls(K:Frag)(C:Addr):Prop where
 pg:PySem.W.plainGet K C Str.empty=true
 hd:PySem.W.hasDictIn K C=true
 po:PySem.W.plainOver K C=true
 sa:findIn K (.ref C) "__setattr__" =some (some (.builtin "object.__setattr__"))
theorem Cls.get{K:Frag}{C:Addr}(c:Cls K C)(f:Str):PySem.W.plainGet K C f=true:=c.pg
def Xg(K:Frag)(C:Addr)(f:Str):Prop:=findIn K (.ref C) f=some none
theorem Xg.taker{K:Frag}{C:Addr}{f:Str}(n:Xg K C f):PySem.W.takerIn K C f=some none:=by
 unfold PySem.W.takerIn;rw [show findIn K (.ref C) f=some none from n]
 rfl
structure Yb(K:Frag)(C:Addr)(m:Str)(f:Addr):Prop where
 at_:findIn K (.ref C) m=some (some (.ref f))
 fn:PySem.W.isFn K (.ref f)=true
 kp:keepIn K (.ref f)=true
section
variable {X:Cx} {a6:List (Addr×Obj)} {σ:St} {H:Hp} {s:Shared} {a C dx:Addr} {fs:List (Str×V)} {f:Str} {v:V} {A:Around} {E:Value->Shared->Prop}
theorem Zri{b:Bool}{Q:Value->Shared->Prop}(I:Inv X a6 σ H s)(e:H a=some (.ins C dx fs))(c:Cls X.K C)(n:Xg X.K C f)(l:fs.lookup f=some v)
  (h:∀u s',Inv X a6 σ H s'->Yl v u->Q u s'):wpAny (model X.prog X.w) A (getAttr (.ref a) f b) Q E s:=by
 obtain ⟨mA,O,r,_,_,_⟩:=Zj7 I.hok e;obtain ⟨u,hu,ru⟩:=Zdk.some_of (v:=v) (o:=mA f) (by rw [<-l];exact r f);exact Zxa I.kIn O (c.get f) c.hd n hu (Zux ru) (h u _ (I.tok _) ru)
theorem Zgt{m:Str}{g:Addr}{pl:Sem Bool}{Q:Value×List Value->Shared->Prop}(I:Inv X a6 σ H s)(e:H a=some (.ins C dx fs))(c:Cls X.K C)(k:Yb X.K C m g)(l:fs.lookup m=none)
  (h:Q (.ref g,[.ref a]) s):wpAny (model X.prog X.w) A (getMethod (.ref a) m pl) Q E s:=by
 obtain ⟨mA,O,r,_,_,_⟩:=Zj7 I.hok e;have hn:mA m=none:=Zdk.none_of (by rw [<-l];exact r m);exact Zwi I.kIn O (c.get m) k.at_ k.fn hn h
theorem Zrr{y:V}{u:Value}{Q:Unit->Shared->Prop}(I:Inv X a6 σ H s)(e:H a=some (.ins C dx fs))(c:Cls X.K C)(n:Xg X.K C f)(hl:fs.length<1000)(ry:Yl y u)
  (h:∀s',Inv X a6 σ (upd H a (.ins C dx (Zf3 f y fs))) s'->Q () s'):wpAny (model X.prog X.w) A (setAttr (.ref a) f u) Q E s:=by
 obtain ⟨mA,O,r,wi,_,ho⟩:=Zj7 I.hok e;have hz:(fs.map (·.1)).length<=sizeLine:=by rw [List.length_map,sizeLine_eq];lia
 refine Zxv I.kIn O c.sa c.po n.taker c.hd wi hz fun h' O' sb=>h _ ?_
 have hd:∃o,h'.get? dx=some o:=let ⟨o,_,_,e',_⟩:=O'.ns;⟨o,e'⟩;refine I.write (x:=a) (e:=dx) (by rw [e];exact True.intro) (.inr ho) (fun b q hb z=>(sb.2 b hb).trans z) hd ?_;refine ⟨by rw [Ze O.ne];exact ho,?_,O.ne,O'.obj,_,O'.ns,fun g=>?_,fun g hg=>?_⟩
 ·have:=Zi2 f y fs;lia
 ·show Zdk ((Zf3 f y fs).lookup g) (if g=f then some u else mA g);rw [Zi8]
  by_cases q:g=f
  ·rw [if_pos q,if_pos q];exact ry
  ·rw [if_neg q,if_neg q];exact r g
 ·by_cases q:g=f
  ·rw [q];exact (Ziz f y fs).1
  ·refine (Ziz f y fs).2 g (wi g fun z=>hg ?_);show (if g=f then some u else mA g)=none;rw [if_neg q];exact z
theorem Inv.made(I:Inv X a6 σ H s):Inv X a6 σ (upd (upd H s.heap.objs.size (.own (s.heap.objs.size+1))) (s.heap.objs.size+1) (.ins C s.heap.objs.size []))
  { s with heap:=(s.heap.push PySem.W.emptyDict).push (PySem.W.instObj C s.heap.objs.size) }:=by
 have e1:(s.heap.push PySem.W.emptyDict).get? s.heap.objs.size=some PySem.W.emptyDict:=Heap.get?_push_size s.heap rfl;have e2:((s.heap.push PySem.W.emptyDict).push (PySem.W.instObj C s.heap.objs.size)).get? (s.heap.objs.size+1)=some (PySem.W.instObj C s.heap.objs.size):=by
  have:=Heap.get?_push_size (s.heap.push PySem.W.emptyDict) (o:=PySem.W.instObj C s.heap.objs.size) rfl;rwa [Heap.size_push] at this
 have e3:(s.heap.push PySem.W.emptyDict).Ns s.heap.objs.size (fun _=>none):=⟨PySem.W.emptyDict,#[],_,e1,rfl,(fun e he=>absurd he (by simp)),fun _=>rfl⟩
 have I1:=I.laid (a:=s.heap.objs.size) (o:=.own (s.heap.objs.size+1)) (h':=s.heap.push PySem.W.emptyDict) (t':=s.toks) (fun b u q=>Heap.get?_push_of_some _ q) (Nat.le_refl _) ⟨_,e1⟩;refine I1.laid (a:=s.heap.objs.size+1) (o:=.ins C s.heap.objs.size []) (t':=s.toks) (fun b u q=>Heap.get?_push_of_some _ q) (Nat.le_of_eq (Heap.size_push _ _)) ?_;have ne:s.heap.objs.size≠s.heap.objs.size+1:=Nat.ne_of_lt (Nat.lt_succ_self _);refine ⟨by rw [Ze ne,Zf],Nat.zero_le _,ne,e2,fun _=>none,(Heap.Ns1.of_empty e3).at fun o q=>Heap.get?_push_of_some _ q,fun _=>True.intro,fun y hy=>absurd rfl hy⟩
theorem Zx6{prog:Program}{w:World}{env:Env}{e:Expr}{f:Str}{pos:Pos}{s:Shared}{Q:Value->Shared->Prop}(hb:attributeBase e f env (eval e env)=eval e env)
  (h:wpAny (model prog w) A (eval e env) (fun o s₁=>wpAny (model prog w) A (getAttr o f true) Q E s₁) E s):wpAny (model prog w) A (eval (.Attribute e f pos) env) Q E s :=
 Attribute_any_ h (by rw [arm_eval_Attribute,hb])
end
def Ycs(K:Frag)(ta:TE)(f:Str):TE:=fun σ H Q=>ta σ H fun x H1=>∃a C dx fs v,x=.ref a/\H1 a=some (.ins C dx fs)/\Cls K C/\Xg K C f/\fs.lookup f=some v/\Q v H1
def Yco(K:Frag)(ta tv:TE)(f:Str):TS:=fun D σ H=>tv σ H fun y H1=>ta σ H1 fun x H2=>∃a C dx fs,x=.ref a/\H2 a=some (.ins C dx fs)/\Cls K C/\Xg K C f/\fs.length<1000 /\
 D.nx σ (upd H2 a (.ins C dx (Zf3 f y fs)))
section
variable {X:Cx} {o e value:Expr} {f:Str} {pos w9 Q3:Pos} {ta tv:TE}
theorem Ye(he:PE X e ta)(hb:attributeBase e f X.env (eval e X.env)=eval e X.env):PE X (.Attribute e f pos) (Ycs X.K ta f):=by
 intro a6 s σ H Q I h;refine Zx6 hb (thn (he a6 s σ H _ I h) fun u s1 zz=>?_);obtain ⟨x,H1,I1,rx,a,C,dx,fs,v,ex,ea,c,n,l,q⟩:=zz;subst ex;obtain rfl:u=Value.ref a:=rx;exact Zri I1 ea c n l fun u' s2 I2 ru=>⟨v,H1,I2,ru,q⟩
theorem Zas(ha:PE X o ta)(hv:PE X value tv)(hs:swapsWith value (some (.Attribute o f w9)) pos.line X.env=pure false):PS X (.Assign [.Attribute o f w9] value pos) (Yco X.K ta tv f):=by
 intro a6 s σ H D I h;refine plainObj_wpAny_Assign_Attribute (thn (hv a6 s σ H _ I h) fun u s1 ⟨y,H1,I1,ry,q⟩=>thn (ha a6 s1 σ H1 _ I1 q) fun ov s2 zz=>?_) hs;obtain ⟨x,H2,I2,rx,a,C,dx,fs,ex,ea,c,n,l,q2⟩:=zz;subst ex;obtain rfl:ov=Value.ref a:=rx;exact Zrr I2 ea c n l ry fun s3 I3=>⟨σ,_,I3,q2⟩
theorem Zy3{pl:Sem Bool}{m:Str}{i4:Pos}{args:List Expr}{a6:List (Addr×Obj)}{s:Shared}{σ:St}{H:Hp}{Q:Value->Shared->Prop}{te:TE}(he:PE X e te)(I:Inv X a6 σ H s)
  (h:te σ H fun x H1=>∃a C dx fs g,x=.ref a/\H1 a=some (.ins C dx fs)/\Cls X.K C/\Yb X.K C m g/\fs.lookup m=none /\
   ∀s1,Inv X a6 σ H1 s1->wpAny (model X.prog X.w) X.A (callWith pos (.ref g) [.ref a] (backTo pos (starEach args X.env)) (backToKw pos (keywordEach [] X.env))) Q X.xe s1)
  (ht:eval (.Call (.Attribute e m i4) args [] pos) X.env=(do
   let ov <-eval e X.env
   standAt i4.atName
   let (f,first) <-holding [ov] (getMethod ov m pl)
   callWith pos f first (backTo pos (starEach args X.env)) (backToKw pos (keywordEach [] X.env)))) :
  wpAny (model X.prog X.w) X.A (eval (.Call (.Attribute e m i4) args [] pos) X.env) Q X.xe s:=by
 refine PySem.W.methodCall_KW (pl:=pl) (thn (he a6 s σ H _ I h) fun u s1 zz=>?_) ht;obtain ⟨x,H1,I1,rx,a,C,dx,fs,g,ex,ea,c,k,l,q⟩:=zz;subst ex;obtain rfl:u=Value.ref a:=rx;exact Zgt I1 ea c k l (q s1 I1)
end
section
variable {X:Cx} {a6:List (Addr×Obj)} {σ:St} {H:Hp} {s:Shared} {A:Around} {E:Value->Shared->Prop} {Q:Value->Shared->Prop} {c:Value} {b:Bool}
inductive X2(K:Frag)(H:Hp):V->Value->Prop where
 | non:X2 K H .non (.type "NoneType")
 | bl (x:Bool):X2 K H (.bl x) (.type "bool")
 | int (i:Int):X2 K H (.int i) (.type "int")
 | str (x:Str):X2 K H (.str x) (.type "str")
 | flt (x:UInt64):X2 K H (.flt x) (.type "float")
 | lst {a:Addr} {xs:List V} (e:H a=some (.lst xs)):X2 K H (.ref a) (.type "list")
 | frz {a:Addr} {o:Obj} {xs:List V} (e:H a=some (.frz o (.lst xs))):X2 K H (.ref a) (.type "list")
 | tup {a:Addr} {xs:List V} (e:H a=some (.tup xs)):X2 K H (.ref a) (.type "tuple")
 | dK {a:Addr} {kvs:List (Key×V)} (e:H a=some (.dK kvs)):X2 K H (.ref a) (.type "dict")
 | dT {a:Addr} {kvs:List (List Key×V)} (e:H a=some (.dT kvs)):X2 K H (.ref a) (.type "dict")
 | ins {a C dx:Addr} {fs:List (Str×V)} (e:H a=some (.ins C dx fs)) (cl:Cls K C) (ha:findIn K (.ref C) "__class__" =some (some (.builtin "object.__class__")))
   (hn:PySem.W.specialIn K (.builtin "object.__class__") "__get__" =some (some (.builtin "getset_descriptor.__get__"))) (htk:PySem.W.takesIn K (.builtin "object.__class__")=some true)
   (hm:PySem.W.mroIn K C (.type "object")=some true):X2 K H (.ref a) (.ref C)
theorem Zne{x:V}{u t:Value}(I:Inv X a6 σ H s)(rx:Yl x u)(ty:X2 X.K H x t)(e:kitOne X.K t c=some b)(h:∀tk,Q (.bool b) { s with toks:=tk }) :
  wpAny (model X.prog X.w) A (call (.builtin "isinstance") [u,c]) Q E s:=by
 cases ty with
 | non=>cases (show u=Value.none from rx);exact PySem.W.kia_one PySem.W.kitx_none I.kIn True.intro e (fun z=>nomatch z) h
 | bl y=>cases (show u=Value.bool y from rx);exact PySem.W.kia_one PySem.W.kitx_bool I.kIn True.intro e (fun z=>nomatch z) h
 | int i=>obtain ⟨t,q⟩:=(show ∃t,u=Value.int i t from rx);cases q;exact PySem.W.kia_one PySem.W.kitx_int I.kIn True.intro e (fun z=>nomatch z) h
 | str y=>obtain ⟨t,q⟩:=(show ∃t,u=Value.str y t from rx);cases q;exact PySem.W.kia_one PySem.W.kitx_str I.kIn True.intro e (fun z=>nomatch z) h
 | flt y=>obtain ⟨t,q⟩:=(show ∃t,u=Value.float y t from rx);cases q;exact PySem.W.kia_one PySem.W.kitx_float I.kIn True.intro e (fun z=>nomatch z) h
 | @lst a xs ea =>
  cases (show u=Value.ref a from rx);obtain ⟨_,_,n,_,h1⟩:=(show Yy X.prog X.w H s.heap a (.lst xs) from I.hok a _ ea)
  exact PySem.W.kia_one PySem.W.kitx_list I.kIn ⟨_,h1,rfl⟩ e (fun z=>nomatch z) h
 | @frz a ob xs ea =>
  cases (show u=Value.ref a from rx);obtain ⟨_,_,_,n,_,h1⟩:=(show Yy X.prog X.w H s.heap a (.frz ob (.lst xs)) from I.hok a _ ea)
  exact PySem.W.kia_one PySem.W.kitx_list I.kIn ⟨_,h1,rfl⟩ e (fun z=>nomatch z) h
 | @tup a xs ea =>
  cases (show u=Value.ref a from rx);obtain ⟨_,_,_,p⟩:=(show Yy X.prog X.w H s.heap a (.tup xs) from I.hok a _ ea)
  obtain ⟨o,h1,h2,_⟩:=p;exact PySem.W.kia_one PySem.W.kitx_tuple I.kIn ⟨o,h1,h2⟩ e (fun z=>nomatch z) h
 | @dK a kvs ea =>
  cases (show u=Value.ref a from rx);obtain ⟨_,_,vs,_,p⟩:=(show Yy X.prog X.w H s.heap a (.dK kvs) from I.hok a _ ea)
  obtain ⟨o,es,ep,h1,h2,_⟩:=p;exact PySem.W.kia_one PySem.W.kitx_dict I.kIn ⟨o,h1,h2.1⟩ e (fun z=>nomatch z) h
 | @dT a kvs ea =>
  cases (show u=Value.ref a from rx);obtain ⟨_,_,xs,_,o,es,ep,h1,h2,_⟩:=(show Yy X.prog X.w H s.heap a (.dT kvs) from I.hok a _ ea)
  exact PySem.W.kia_one PySem.W.kitx_dict I.kIn ⟨o,h1,h2.1⟩ e (fun z=>nomatch z) h
 | @ins a C dx fs ea cl ha hn htk hm =>
  cases (show u=Value.ref a from rx);obtain ⟨mA,O,_⟩:=Zj7 I.hok ea;obtain ⟨od,J,_⟩:=O.look;exact PySem.W.kia_one (PySem.W.kitx_own (cl.get _) cl.hd ha hn htk hm) I.kIn J e (fun z=>nomatch z) h
end
end L2
namespace L2
open PySem PySem.Spec PyProof.Rows
structure Wq(k:Nat)(A:Around):Prop where
 hd:A.handled=none
 dp:A.depth+3 * k+5<recursionLimit
 un:A.units+16 * k+200<cLine
theorem Wq.mono{j k:Nat}{A:Around}(r:Wq k A)(h:j<=k):Wq j A:=⟨r.hd,by have:=r.dp;lia,by have:=r.un;lia⟩
theorem Wq.deeper{k:Nat}{A:Around}(r:Wq (k+1) A)(env:Env):Wq k (A.deeper env) :=
 ⟨r.hd,by have:=r.dp;show A.depth+1+3 * k+5<_;lia,by have:=r.un;show A.units+3+16 * k+200<_;lia⟩
theorem Zrj{A:Around}{C:Addr}{us:List Value}{kw:List (Str×Value)}:(A.under (.builtin "type.__call__" ⟨.ref C ::us,kw⟩)).depth=A.depth+1:=by
 first | rfl | simp [Around.under,Code.weight,Code.isCreation,Code.isGuard,Code.isCaller,Code.frames,Code.isFrame,guardIds]
theorem Zru{A:Around}{C:Addr}{us:List Value}{kw:List (Str×Value)}:(A.under (.builtin "type.__call__" ⟨.ref C ::us,kw⟩)).units=A.units+1:=by
 first | rfl | simp [Around.under,Code.cUnits,Code.frames,Code.isFrame]
theorem Wq.make{k:Nat}{A:Around}(r:Wq (k+1) A)(C:Addr)(us:List Value)(kw:List (Str×Value)):Wq k (A.under (.builtin "type.__call__" ⟨.ref C ::us,kw⟩)) :=
 ⟨r.hd,by have:=r.dp;rw [Zrj];lia,by have:=r.un;rw [Zru];lia⟩
theorem Wq.depth{k:Nat}{A:Around}(r:Wq k A):A.depth<recursionLimit:=by have:=r.dp;lia
theorem Wq.units{k:Nat}{A:Around}(r:Wq k A):A.units+64<cLine:=by have:=r.un;lia
def Zw2:TA:=fun _ H Q=>Q [] H
def Zlf(ta:TE)(tr:TA):TA:=fun σ H Q=>ta σ H fun x H1=>tr σ H1 fun xs H2=>Q (x ::xs) H2
section
variable {X:Cx} {e:Expr} {es:List Expr} {te:TE} {t:TA} {pos:Pos}
theorem Za:PA X [] Zw2:=fun _ _ _ _ H Q I h=>Calls.spliced_nil ⟨[],H,I,.nil,h⟩
theorem Zxg(ha:PE X e te)(hr:PA X es t)(hs:starEach (e ::es) X.env=(false,eval e X.env) ::starEach es X.env:=by rfl):PA X (e ::es) (Zlf te t):=by
 intro pos a6 s σ H Q I h;rw [hs];show wpAny _ _ (spliced ((false,eval e X.env) ::backTo pos (starEach es X.env))) _ _ s;refine Calls.spliced_cons (thn (ha a6 s σ H _ I h) fun u s1 ⟨x,H1,I1,r1,q1⟩=>?_);exact thn (hr pos a6 s1 σ H1 _ I1 q1) fun us s2 ⟨xs,H2,I2,r2,q2⟩=>⟨x ::xs,H2,I2,.cons r1 r2,q2⟩
end
abbrev Sp:=List V->Hp->VK->XK->Prop
abbrev CXT:=List Env->Hp->Shared->XK->Value->Shared->Prop
structure Zq7(P:Program)(w:World)(K:Frag)(mg:Str->Option Value)(base:Heap)(A:Around)(outer:List Env)(s:Shared)(H:Hp):Prop where
 frames:A.frames=some outer
 mod:Mod K mg base
 bs:∀b o,base.get? b=some o->s.heap.get? b=some o/\H b=none
 bsz:base.objs.size<=s.heap.objs.size
 funs:s.heap.FunFrames base outer
 frf:∀b∈frs outer,H b=none
 hok:HOk P w H s.heap
 bare:AllBare s.gens
def CE(outer:List Env)(P:Program)(w:World)(H:Hp)(s:Shared)(Q:VK)(u:Value)(s':Shared):Prop :=
 ∃v H',s'.os=s.os/\AllBare s'.gens/\Un (frs outer) [] H H' s.heap s'.heap/\HOk P w H' s'.heap/\Yl v u/\Q v H'
def CR(CX:CXT)(outer:List Env)(P:Program)(w:World)(H:Hp)(s:Shared)(Q:VK)(E:XK)(r:Result)(s':Shared):Prop :=
 match r with
 | .ok (.ret u)=>CE outer P w H s Q u s'
 | .ok _=>False
 | .error e=>CX outer H s E e s'
structure Zu(P:Program)(w:World)(K:Frag)(mg:Str->Option Value)(base:Heap)(CX:CXT)(k:Nat)(f:Addr)(fd:FuncData)(ps:List Str)(sp:Sp):Prop where
 len:∀vs H Q E,sp vs H Q E->vs.length=ps.length
 run:∀(A:Around) (outer:List Env) (s:Shared) (H:Hp) (args:Args) (us:List Value) (vs:List V) (Q:VK) (E:XK),Wq k A->Zq7 P w K mg base A outer s H->BindsTo s fd args (ps.zip us)->Yh vs us->sp vs H Q E ->
  codeAny (model P w) A (.call (.ref f) args) (CR CX outer P w H s Q E) s
theorem Zu.mono{P:Program}{w:World}{K:Frag}{mg:Str->Option Value}{base:Heap}{CX:CXT}{j k:Nat}{f:Addr}{fd:FuncData}{ps:List Str}{sp:Sp}(F:Zu P w K mg base CX j f fd ps sp)(h:j<=k) :
  Zu P w K mg base CX k f fd ps sp:=⟨F.len,fun A outer s H args us vs Q E hr=>F.run A outer s H args us vs Q E (hr.mono h)⟩
theorem Zq7.make{P:Program}{w:World}{K:Frag}{mg:Str->Option Value}{base:Heap}{A:Around}{outer:List Env}{s:Shared}{H:Hp}(e:Zq7 P w K mg base A outer s H)(C:Addr)(us:List Value)(kw:List (Str×Value)) :
  Zq7 P w K mg base (A.under (.builtin "type.__call__" ⟨.ref C ::us,kw⟩)) outer s H:=⟨by first | exact e.frames | (simpa [Around.under,Code.envs,Code.isFrame,pushEnvs] using e.frames),e.mod,e.bs,e.bsz,e.funs,e.frf,e.hok,e.bare⟩
section
variable {X:Cx} {a6:List (Addr×Obj)} {σ:St} {H:Hp} {s s':Shared}
theorem Inv.env0(I:Inv X a6 σ H s):Zq7 X.prog X.w X.K X.mg X.base X.A X.stack s H :=
 ⟨I.ok.frames,I.ok.mod,I.bs,Nat.le_trans I.ok.bsz I.sz,I.stack,I.stkFree,I.hok,I.bare⟩
theorem Inv.after{Q:VK}{u:Value}(I:Inv X a6 σ H s)(h:CE X.stack X.prog X.w H s Q u s'):EP X a6 σ Q u s':=by
 obtain ⟨v,H',os,bare,un,hok,r,q⟩:=h;obtain ⟨hh,g,d,t,os'⟩:=s';obtain rfl:os'=s.os:=os;exact ⟨v,H',I.call (h':=hh) (g':=g) (d':=d) (t':=t) (ch:=[]) un hok bare (fun b z=>absurd z (by simp)),r,q⟩
end
def Ybf(sp:Sp)(C0:List V)(E:XK)(t:TA):TE:=fun σ H Q=>t σ H fun vs H1=>sp (vs++C0) H1 Q E
def Zwf(C:Addr)(m:Str)(sp:Sp)(C0:List V)(E:XK)(ta:TE)(t:TA):TE:=fun σ H Q=>ta σ H fun x H1=>∃a dx fs,x=.ref a/\H1 a=some (.ins C dx fs)/\fs.lookup m=none /\
 t σ H1 fun vs H2=>sp (x ::(vs++C0)) H2 Q E
def Zbu(K:Frag)(fd:FuncData)(ps:List Str)(ds:List Value):Prop :=
 ∀(s:Shared) (us:List Value),K.In s.heap->(us++ds).length=ps.length->BindsTo s fd ⟨us,[]⟩ (ps.zip (us++ds))
theorem Zbu.all{K:Frag}{fd:FuncData}{ps:List Str}(h:∀us:List Value,us.length=ps.length->bindArgs fd ⟨us,[]⟩=pure (ps.zip us)):Zbu K fd ps []:=fun s us _ hl=>by
 rw [List.append_nil] at hl ⊢;exact .of_eq (h us hl)
def Zgi(CX:CXT)(X:Cx)(E:XK):Prop:=∀(a6:List (Addr×Obj)) (σ:St) (H:Hp) (s:Shared) (e:Value) (s':Shared),Inv X a6 σ H s->CX X.stack H s E e s'->X.xe e s'
section
variable {X:Cx} {CX:CXT} {k:Nat} {f C:Addr} {fd:FuncData} {ps:List Str} {sp:Sp} {C0:List V} {ds:List Value} {E:XK} {x m:Str} {p pos i4:Pos} {e o:Expr} {es:List Expr} {ta:TE} {t:TA}
theorem Zr8{a6:List (Addr×Obj)}{σ:St}{H:Hp}{s:Shared}{Q:VK}{us:List Value}{vs:List V}(F:Zu X.prog X.w X.K X.mg X.base CX k f fd ps sp)(hr:Wq k X.A)(hb:Zbu X.K fd ps ds)(hd:Yh C0 ds)(hx:Zgi CX X E)
  (I:Inv X a6 σ H s) (r:Yh vs us) (h:sp (vs++C0) H Q E):wpAny (model X.prog X.w) X.A (call (.ref f) us) (EP X a6 σ Q) X.xe s:=by
 have r2:Yh (vs++C0) (us++ds):=r.append hd;have hl:(us++ds).length=ps.length:=by rw [<-r2.length];exact F.len _ _ _ _ h
 refine wpAny_call (codeAny_mono (F.run X.A X.stack s H ⟨us,[]⟩ (us++ds) (vs++C0) Q E hr I.env0 (hb s us I.kIn hl) r2 h) fun r s' hq=>?_);cases r with
 | error e=>exact hx a6 σ H s e s' I hq
 | ok fl =>
  cases fl with
  | ret u=>exact I.after hq
  | next=>exact False.elim hq
  | brk=>exact False.elim hq
  | cont=>exact False.elim hq
theorem Zs(F:Zu X.prog X.w X.K X.mg X.base CX k f fd ps sp)(hr:Wq k X.A)(hg:Gl X x)(hm:X.mg x=some (.ref f))(hk:keepIn X.K (.ref f)=true)(hb:Zbu X.K fd ps ds)(hd:Yh C0 ds)(hx:Zgi CX X E)
  (ha:PA X (e ::es) t) (V3:(x ==("__debug__" :Str))=false:=by decide) (he:starEach (e ::es) X.env=(false,eval e X.env) ::starEach es X.env:=by rfl) (i6:(backTo pos (starEach es X.env)).any (·.1)=false:=by rfl) :
  PE X (.Call (.Name x p) (e ::es) [] pos) (Ybf sp C0 E t):=by
 intro a6 s σ H Q I h;refine wpAny_Call_Name_kw (Zo2 I hg hm ?_ V3);refine PySem.W.callWith_K (h₀:=X.base) I.ok.mod.kin hk (thn (ha pos a6 s σ H _ I h) fun us s1 ⟨vs,H1,I1,r,q⟩=>⟨I1.kIn,?_⟩) he i6;exact Zr8 F hr hb hd hx I1 r q
theorem Z1{pl:Sem Bool}(he:PE X o ta)(c:Cls X.K C)(hm:Yb X.K C m f)(F:Zu X.prog X.w X.K X.mg X.base CX k f fd ps sp)(hr:Wq k X.A)(hb:Zbu X.K fd ps ds)(hd:Yh C0 ds)(hx:Zgi CX X E)(ha:PA X (e ::es) t)
  (y7:starEach (e ::es) X.env=(false,eval e X.env) ::starEach es X.env:=by rfl) (i6:(backTo pos (starEach es X.env)).any (·.1)=false:=by rfl)
  (ht:eval (.Call (.Attribute o m i4) (e ::es) [] pos) X.env=(do
   let ov <-eval o X.env
   standAt i4.atName
   let (f,first) <-holding [ov] (getMethod ov m pl)
   callWith pos f first (backTo pos (starEach (e ::es) X.env)) (backToKw pos (keywordEach [] X.env))):=by rfl) :
  PE X (.Call (.Attribute o m i4) (e ::es) [] pos) (Zwf C m sp C0 E ta t):=by
 intro a6 s σ H Q I h;refine PySem.W.methodCall_KW (pl:=pl) (thn (he a6 s σ H _ I h) fun u s1 ⟨x,H1,I1,rx,a,dx,fs,ex,ea,l,q⟩=>?_) ht;subst ex;obtain rfl:u=Value.ref a:=rx;refine Zgt I1 ea c hm l ?_;refine PySem.W.callWith_K (first:=[.ref a]) (h₀:=X.base) I.ok.mod.kin hm.kp (thn (ha pos a6 s1 σ H1 _ I1 q) fun us s2 ⟨vs,H2,I2,r,q2⟩=>⟨I2.kIn,?_⟩) y7 i6;exact Zr8 (us:=.ref a ::us) (vs:=.ref a ::vs) F hr hb hd hx I2 (.cons rfl r) q2
theorem Xb{pl:Sem Bool}(he:PE X o ta)(c:Cls X.K C)(hm:Yb X.K C m f)(F:Zu X.prog X.w X.K X.mg X.base CX k f fd ps sp)(hr:Wq k X.A)(hb:Zbu X.K fd ps ds)(hd:Yh C0 ds)(hx:Zgi CX X E)
  (ht:eval (.Call (.Attribute o m i4) [] [] pos) X.env=(do
   let ov <-eval o X.env
   standAt i4.atName
   let (f,first) <-holding [ov] (getMethod ov m pl)
   callWith pos f first (backTo pos (starEach [] X.env)) (backToKw pos (keywordEach [] X.env))):=by rfl) :
  PE X (.Call (.Attribute o m i4) [] [] pos) (Zwf C m sp C0 E ta Zw2):=by
 intro a6 s σ H Q I h;refine PySem.W.methodCall_KW (pl:=pl) (thn (he a6 s σ H _ I h) fun u s1 zz=>?_) ht;obtain ⟨x,H1,I1,rx,a,dx,fs,ex,ea,l,q⟩:=zz;subst ex;obtain rfl:u=Value.ref a:=rx;refine Zgt I1 ea c hm l ?_;exact PySem.W.callWith_K0 (first:=[.ref a]) I1.kIn hm.kp (Zr8 (us:=[.ref a]) (vs:=[.ref a]) F hr hb hd hx I1 (.cons rfl .nil) q)
structure Mk(K:Frag)(C f:Addr):Prop where
 makes:PySem.W.makesIn K C=true
 init:findIn K (.ref C) "__init__" =some (some (.ref f))
 fn:PySem.W.isFn K (.ref f)=true
 kp:keepIn K (.ref C)=true
theorem Zwo{a6:List (Addr×Obj)}{σ:St}{H:Hp}{s:Shared}{Q:VK}{us:List Value}{vs:List V}(M:Mk X.K C f)(F:Zu X.prog X.w X.K X.mg X.base CX k f fd ps sp)(hr:Wq (k+1) X.A)(hb:Zbu X.K fd ps ds)(hd:Yh C0 ds)
  (hx:Zgi CX X E) (I:Inv X a6 σ H s) (r:Yh vs us)
  (h:∀x dx,H x=none->H dx=none->dx≠x->sp (.ref x ::(vs++C0)) (upd (upd H dx (.own x)) x (.ins C dx [])) (fun v H2=>v=.non/\Q (.ref x) H2) E) :
  wpAny (model X.prog X.w) X.A (call (.ref C) us) (EP X a6 σ Q) X.xe s:=by
 have hq:=h (s.heap.objs.size+1) s.heap.objs.size (I.hok.fresh (Nat.le_succ _)) (I.hok.fresh (Nat.le_refl _)) (Nat.ne_of_lt (Nat.lt_succ_self _));have I2:=Inv.made (C:=C) I;have r2:Yh (V.ref (s.heap.objs.size+1) ::(vs++C0)) (Value.ref (s.heap.objs.size+1) ::(us++ds)):=.cons rfl (r.append hd);have hl:(Value.ref (s.heap.objs.size+1) ::us++ds).length=ps.length:=by
  have e:=r2.length;rw [F.len _ _ _ _ hq] at e;exact e.symm
 refine wpAny_call (Zwn (f:=f) I.kIn M.makes M.init (beq_iff_eq.mp M.fn) (codeAny_mono (F.run _ X.stack _ _ ⟨Value.ref (s.heap.objs.size+1) ::us,[]⟩ (Value.ref (s.heap.objs.size+1) ::(us++ds)) _ _ E (hr.make C us [])
  (I2.env0.make C us []) (hb _ (Value.ref (s.heap.objs.size+1) ::us) I2.kIn hl) r2 hq) fun r s' hq'=>?_))
 cases r with
 | error e=>exact hx a6 σ _ _ e s' I2 hq'
 | ok fl =>
  cases fl with
  | ret u =>
   obtain ⟨v,H',I3,rv,ev,q3⟩:=I2.after hq';subst ev;exact ⟨rv,⟨V.ref (s.heap.objs.size+1),H',I3,rfl,q3⟩⟩
  | next=>exact False.elim hq'
  | brk=>exact False.elim hq'
  | cont=>exact False.elim hq'
end
section
variable {X:Cx} {CX:CXT} {k:Nat} {f C:Addr} {fd:FuncData} {ps ks:List Str} {sp:Sp} {E:XK} {x m:Str} {p pos i4 kpos:Pos} {e o:Expr} {es:List Expr} {kws:List Keyword} {te ta:TE} {t tk:TA} {nm:Option Str}
variable {g:List Value->List Value->List Value} {gV:List V->List V->List V}
end
structure Zn(N P:List Str)(sc:Scope):Prop where
 kind:sc.kind=.function:=by rfl
 co:sc.isCoroutine=false:=by rfl
 gen:sc.isGenerator=false:=by rfl
 nd:N.Nodup:=by trivial
 pre:N.take P.length=P:=by rfl
 par:∀x∈P,sc.names.lookup x=some .local\/sc.names.lookup x=some .cell:=by trivial
 nofree:∀y∈sc.names,y.2 ≠ .free:=by trivial
theorem Znj{kindOf:Str->Option NameKind}{x:Str}:∀{binds:List (Str×Value)} {m:Str->Option Value},(∀v,(x,v)∉binds)->bindL kindOf binds m x=m x
 | [],_,_=>rfl
 | (n,v) ::r,m,h=>by
  unfold bindL;rw [Znj fun w hw=>h w (List.mem_cons_of_mem _ hw)];split
  ·have:x≠n:=by rintro rfl;exact h v List.mem_cons_self
   simp [this]
  ·rfl
theorem Znd{kindOf:Str->Option NameKind}{x:Str}:∀{binds:List (Str×Value)} {m:Str->Option Value},(∀v,(x,v)∉binds)->bindC kindOf binds m x=m x
 | [],_,_=>rfl
 | (n,v) ::r,m,h=>by
  unfold bindC;rw [Znd fun w hw=>h w (List.mem_cons_of_mem _ hw)];split
  ·rfl
  ·have:x≠n:=by rintro rfl;exact h v List.mem_cons_self
   simp [this]
theorem Znn{kindOf:Str->Option NameKind}{x:Str}{v:Value}:∀{P:List Str} {vs:List Value} {i:Nat} {m:Str->Option Value},P.Nodup->P[i]? =some x->vs[i]? =some v->kindOf x=some .local ->
  bindL kindOf (P.zip vs) m x=some v
 | [],_,_,_,_,h,_,_=>by simp at h
 | _ ::_,[],_,_,_,_,h,_=>by simp at h
 | p ::P,w ::vs,0,m,nd,h1,h2,hk=>by
  simp at h1 h2;subst h1;subst h2;show bindL kindOf ((p,w) ::P.zip vs) m p=_;unfold bindL;rw [Znj fun v hv=>(List.nodup_cons.mp nd).1 (List.of_mem_zip hv).1,if_pos hk];simp
 | p ::P,w ::vs,i+1,m,nd,h1,h2,hk=>by
  show bindL kindOf ((p,w) ::P.zip vs) m x=_;unfold bindL;exact Znn (i:=i) (List.nodup_cons.mp nd).2 (by simpa using h1) (by simpa using h2) hk
theorem Znv{kindOf:Str->Option NameKind}{x:Str}{v:Value}:∀{P:List Str} {vs:List Value} {i:Nat} {m:Str->Option Value},P.Nodup->P[i]? =some x->vs[i]? =some v->kindOf x≠some .local ->
  bindC kindOf (P.zip vs) m x=some v
 | [],_,_,_,_,h,_,_=>by simp at h
 | _ ::_,[],_,_,_,_,h,_=>by simp at h
 | p ::P,w ::vs,0,m,nd,h1,h2,hk=>by
  simp at h1 h2;subst h1;subst h2;show bindC kindOf ((p,w) ::P.zip vs) m p=_;unfold bindC;rw [Znd fun v hv=>(List.nodup_cons.mp nd).1 (List.of_mem_zip hv).1,if_neg hk];simp
 | p ::P,w ::vs,i+1,m,nd,h1,h2,hk=>by
  show bindC kindOf ((p,w) ::P.zip vs) m x=_;unfold bindC;exact Znv (i:=i) (List.nodup_cons.mp nd).2 (by simpa using h1) (by simpa using h2) hk
def start(N:List Str)(vs:List V):St:=vs.map some++List.replicate (N.length-vs.length) none
def Zg9(CX:CXT)(P:Program)(w:World)(K:Frag)(mg:Str->Option Value)(base:Heap)(N:List Str)(a9:Str)(scope:Scope)(f:Addr)(cd:Value)(A:Around)(outer:List Env)(s:Shared)(H:Hp)(E:XK):Cx where
 prog:=P
 w:=w
 K:=K
 mg:=mg
 base:=base
 A:=A.deeper (envOfC a9 scope s.heap.objs.size f cd)
 N:=N
 s₀:=s
 H₀:=H
 env:=envOfC a9 scope s.heap.objs.size f cd
 outer:=outer
 stack:=envOfC a9 scope s.heap.objs.size f cd ::outer
 ex:=[]
 calm:=true
 fn:=fun _=>true
 pn:=[]
 xe:=fun e s'=>wpAny (model P w) (A.deeper (envOfC a9 scope s.heap.objs.size f cd)) (leaving (envOfC a9 scope s.heap.objs.size f cd) e) (fun _ s''=>CX outer H s E e s'') (fun e' s''=>CX outer H s E e' s'') s'
theorem Zqq{sc:Scope}{n:Nat}{x:Str}(h:sc.names.lookup x=some .cell):∃c,(cellsFrom n sc.names []).lookup x=some c:=by
 have q:=PySem.W.cellsFrom_some sc.names n [] (.inl h);exact Option.isSome_iff_exists.mp q
theorem Znl{CX:CXT}{P:Program}{w:World}{K:Frag}{mg:Str->Option Value}{base:Heap}{N ps:List Str}{a9:Str}{scope:Scope}{f:Addr}{cd:Value}{A:Around}{outer:List Env}{s s1:Shared}{H:Hp}{E:XK}{us:List Value}{vs:List V}
  (S:Zn N ps scope) (hd:A.handled=none) (e0:Zq7 P w K mg base A outer s H) (hl:vs.length=ps.length) (r:Yh vs us)
  (x:InCallC s s.heap.objs.size (bindL (envOfC a9 scope s.heap.objs.size f cd).kindOf (ps.zip us) fun _=>none) (cellsFrom (s.heap.objs.size+1) scope.names []) (bindC (envOfC a9 scope s.heap.objs.size f cd).kindOf (ps.zip us) fun _=>none) s1) :
  Inv (Zg9 CX P w K mg base N a9 scope f cd A outer s H E) [] (start N vs) H s1:=by
 have i6:ps.length<=N.length:=by have:=congrArg List.length S.pre;rw [List.length_take] at this;lia
 obtain ⟨h1,tk,rfl,hk⟩:=x.done;have noA:∀b:Addr,b∉(Zg9 CX P w K mg base N a9 scope f cd A outer s H E).ex:=fun b z=>absurd (show b∈([]:List Addr) from z) (by simp)
 refine ⟨⟨e0.mod,S.kind,rfl,rfl,Nat.le_refl _,fun y z c h1 h2=>?_,fun y hy=>?_,fun y c _ h=>?_,fun _=>hd,Around.frames_deeper e0.frames,.inr ⟨rfl,rfl⟩,fun b z=>absurd z (noA b),e0.bs,e0.bsz,fun b _ _=>noA b,fun b z=>absurd z (noA b),e0.funs,e0.frf⟩,
  rfl,e0.bare,Un.kept hk,⟨_,x.toInCall.ns,fun i y v h1 h2 h3=>?_⟩,fun y c h=>⟨_,x.cell y c h⟩,e0.hok.fresh (Nat.le_refl _),fun y c h=>?_,fun p hp=>absurd (show p∈([]:List (Addr×Obj)) from hp) (by simp),e0.hok.kept hk,?_⟩
 ·exact name_of_addr x.apart (PySem.mem_of_lookup h1) (PySem.mem_of_lookup h2)
 ·have hy:scope.names.lookup y=some .cell\/scope.names.lookup y=some .free:=hy;rcases hy with hy|hy
  ·exact Zqq hy
  ·exact absurd rfl (S.nofree _ (PySem.mem_of_lookup hy))
 ·exact Nat.le_of_lt (x.above y c (PySem.mem_of_lookup h))
 ·have hi:i<vs.length:=by
   unfold start at h2
   by_cases hi:i<vs.length
   ·exact hi
   ·rw [List.getElem?_append_right (by simpa using hi)] at h2;rw [List.getElem?_replicate] at h2;split at h2 <;>cases h2
  have ha:vs[i]? =some v:=by
   unfold start at h2;rw [List.getElem?_append_left (by simpa using hi),List.getElem?_map] at h2;cases e:vs[i]? with
   | none=>rw [e] at h2;cases h2
   | some a=>rw [e] at h2;cases h2;rfl
  obtain ⟨u,hu,rv⟩:=r.get ha;have hp:ps[i]? =some y:=by
   rw [<-S.pre,List.getElem?_take_of_lt (by lia)];exact h1
  have ndP:ps.Nodup:=by rw [<-S.pre];exact S.nd.sublist (List.take_sublist _ _)
  refine ⟨u,rv,?_⟩;rcases S.par y (List.mem_of_getElem? hp) with k|k
  ·exact .inl ⟨k,Znn ndP hp hu k⟩
  ·obtain ⟨c,e⟩:=Zqq (n:=s.heap.objs.size+1) k;refine .inr ⟨.inl k,c,e,?_⟩;have q:=x.cell y c e;rw [Znv ndP hp hu (by show scope.names.lookup y≠_;rw [k];decide)] at q;exact q
 ·exact e0.hok.fresh (Nat.le_of_lt (x.above y c (PySem.mem_of_lookup h)))
 ·unfold start;show _=N.length;rw [List.length_append,List.length_map,List.length_replicate];lia
theorem Zy8{CX:CXT}{P:Program}{w:World}{K:Frag}{mg:Str->Option Value}{base:Heap}{k:Nat}{f:Addr}{name a9:Str}{params:Arguments}{body:List Stmt}{scope:Scope}{dV kV i5 pm a8 ct oc:Value}{an od:Option Addr}
  {E5:Array (Option Value)} {N ps:List Str} {sp:Sp} (lk:K.lookup f=some ⟨oc,od,.func (fnOf name a9 params body scope dV kV i5 pm an a8 ct),E5⟩) (E9:codeIn K a8 a9=true) (S:Zn N ps scope)
  (len:∀vs H Q E,sp vs H Q E->vs.length=ps.length)
  (u5:∀(A:Around) (outer:List Env) (s:Shared) (H:Hp) (vs:List V) (Q:VK) (E:XK),Wq k (A.deeper (envOfC a9 scope s.heap.objs.size f a8))->sp vs H Q E ->
   ∃t,PSs (Zg9 CX P w K mg base N a9 scope f a8 A outer s H E) body t/\t { nx:=fun _ H'=>Q .non H',rt:=Q } (start N vs) H) :
  Zu P w K mg base CX (k+1) f (fnOf name a9 params body scope dV kV i5 pm an a8 ct) ps sp:=by
 refine ⟨len,fun A outer s H args us vs Q E hr e0 hb r D3=>?_⟩;have hl:=len _ _ _ _ D3;have KX:K.In s.heap:=e0.mod.kin.keeps fun b o e=>(e0.bs b o e).1
 have lim:s.heap.NoLimit:=e0.mod.nolimit.keeps fun b o e=>(e0.bs b o e).1
 have O2:∀y∈ps.zip us,scope.names.lookup y.1=some .local\/(scope.names.lookup y.1=some .cell/\((cellsFrom (s.heap.objs.size+1) scope.names []).lookup y.1).isSome=true):=fun ⟨n,v⟩ hy=>by
  rcases S.par n (List.of_mem_zip hy).1 with q|q
  ·exact .inl q
  ·exact .inr ⟨q,PySem.W.cellsFrom_some _ _ _ (.inl q)⟩
 refine codeAny_call_function hr.depth (KX _ _ lk) rfl S.co S.gen rfl (PySem.W.codeRec_of KX E9) (hb _ _ _ _ ?_);refine wpAny_newFunctionEnv_cells S.kind O2 fun env he s1 x=>?_
 subst he;refine ⟨lim.keeps x.toInCall.keep,codeAny_func ?_⟩;obtain ⟨t,ht,hq⟩:=u5 A outer s H vs Q E (hr.deeper _) D3;have I:Inv (Zg9 CX P w K mg base N a9 scope f a8 A outer s H E) [] (start N vs) H s1:=Znl S hr.hd e0 hl r x;refine wpAny_mono (ht [] s1 (start N vs) H _ I hq) (fun fl s' hs=>?_) fun e s' hs=>hs
 have fin:∀{σ':St} {H':Hp} {v:V} {u:Value},Inv (Zg9 CX P w K mg base N a9 scope f a8 A outer s H E) [] σ' H' s'->Yl v u->Q v H'->CE outer P w H s Q u s' :=
  fun {σ' H' v u} J rv q=>⟨v,H',J.os,J.bare,J.base,J.hok,rv,q⟩
 cases fl with
 | ret u =>
  obtain ⟨v,σ',H',J,rv,q⟩:=hs;exact fin J rv q
 | next =>
  obtain ⟨σ',H',J,q⟩:=hs;exact fin (v:=V.non) (u:=Value.none) J rfl q
 | brk =>
  obtain ⟨_,_,_,q⟩:=hs;exact False.elim q
 | cont =>
  obtain ⟨_,_,_,q⟩:=hs;exact False.elim q
end L2
namespace L2
open PySem PySem.Spec PyProof.Rows
section
variable {X:Cx} {x:Str} {p pos:Pos} {e:Expr} {es:List Expr} {t:TA} {id T:String} {r:List V->Hp->VK->Prop}
def tCB(r:List V->Hp->VK->Prop)(t:TA):TE:=fun σ H Q=>t σ H fun vs H1=>r vs H1 Q
theorem Z3(hc:X0 X (.builtin id) r)(hg:Gl X x)(hm:X.mg x=none)(hv:bootBuiltins x=some (.builtin id))(ha:PA X (e ::es) t) (hn:x ≠ "__name__" :=by decide) (V3:(x ==("__debug__" :Str))=false:=by decide)
  (he:starEach (e ::es) X.env=(false,eval e X.env) ::starEach es X.env:=by rfl) (i6:(backTo pos (starEach es X.env)).any (·.1)=false:=by rfl):PE X (.Call (.Name x p) (e ::es) [] pos) (tCB r t):=by
 intro a6 s σ H Q I h;refine wpAny_Call_Name_kw (Zfj I hg hm hv ?_ hn V3);exact PyProof.Rows.callWith_builtin1 (thn (ha pos a6 s σ H _ I h) fun us s1 ⟨vs,H1,I1,r1,q1⟩=>hc a6 s1 σ H1 vs us Q I1 r1 q1) he i6
theorem Wk(hc:X0 X (.type T) r)(hg:Gl X x)(hm:X.mg x=none)(hv:bootBuiltins x=some (.type T))(ha:PA X (e ::es) t) (hn:x ≠ "__name__" :=by decide) (V3:(x ==("__debug__" :Str))=false:=by decide)
  (he:starEach (e ::es) X.env=(false,eval e X.env) ::starEach es X.env:=by rfl) (i6:(backTo pos (starEach es X.env)).any (·.1)=false:=by rfl):PE X (.Call (.Name x p) (e ::es) [] pos) (tCB r t):=by
 intro a6 s σ H Q I h;refine wpAny_Call_Name_kw (Zfj I hg hm hv ?_ hn V3);exact PyProof.Rows.callWith_type1 (thn (ha pos a6 s σ H _ I h) fun us s1 ⟨vs,H1,I1,r1,q1⟩=>hc a6 s1 σ H1 vs us Q I1 r1 q1) he i6
end
end L2
namespace HT
open PySem PyProof.Rows
section
open PySem.SeqAt
open PySem.AutoSeq1 (wpAny_loadPart')
open PySem.MeetsSeq PySem.MeetsSeq2 PySem.MeetsSeq3
end
section
variable {prog:Program} {w:World} {A:Around} {E:Value->Shared->Prop} {s:Shared}
def sIx(n d:Nat):Option Int->Nat
 | none=>d
 | some v=>if v<0 then (v+(n:Int)).toNat else min v.toNat n
theorem sIx_none(n d:Nat):sIx n d none=d:=rfl
theorem sIx_nat(n d k:Nat):sIx n d (some (k:Int))=min k n:=by
 show (if (k:Int)<0 then ((k:Int)+(n:Int)).toNat else min (k:Int).toNat n)=min k n;rw [if_neg (by lia),Int.toNat_natCast]
theorem Zzo(n d:Nat)(hd:d<=n)(o:Option Int):sIx n d o<=n:=by
 cases o with
 | none=>exact hd
 | some v =>
  show (if v<0 then (v+(n:Int)).toNat else min v.toNat n)<=n
  by_cases hv:v<0
  ·rw [if_pos hv];lia
  ·rw [if_neg hv];exact Nat.min_le_right _ _
theorem Zts(v:Int)(n d:Nat):(if v<0 then max (v+(n:Int)) 0 else min v (n:Int))=((sIx n d (some v):Nat):Int):=by
 show (if v<0 then max (v+(n:Int)) 0 else min v (n:Int))=(((if v<0 then (v+(n:Int)).toNat else min v.toNat n):Nat):Int)
 by_cases hv:v<0
 ·simp only [if_pos hv];lia
 ·simp only [if_neg hv];lia
theorem Zse(lo hi:Option Int)(n:Nat):Builtin.Slice.sliceAdjust lo hi 1 (n:Int)=(((sIx n 0 lo:Nat):Int),((sIx n n hi:Nat):Int)):=by
 have h1:¬((1:Int)<0):=by lia
 unfold Builtin.Slice.sliceAdjust;simp only [h1,if_false];refine Prod.ext ?_ ?_
 ·cases lo with
  | none=>rfl
  | some v=>exact Zts v n 0
 ·cases hi with
  | none=>rfl
  | some v=>exact Zts v n n
theorem Zsh(i j:Nat):Builtin.Slice.slicePlaces (i:Int) (j:Int) 1=j-i:=by
 unfold Builtin.Slice.slicePlaces;have h1:(1:Int) >0:=by lia
 simp only [h1,if_true,Int.ediv_one];split <;>lia
theorem Zlm{v:Value}{o:Option Int}{Q:Option Int->Shared->Prop}(p:IsPart v o)(h:Q o s):wpAny (model prog w) A (Builtin.Slice.slicePartIndex v) Q E s:=by
 cases p with
 | none=>exact slicePart_none h
 | int i t=>exact slicePart_int h
theorem Zh9{sl:Addr}{vl vu:Value}{lo hi:Option Int}{n:Nat}{Q:Int×Int×Nat->Shared->Prop}(hs:s.heap.IsSliceOf sl vl vu .none)(pl:IsPart vl lo)(pu:IsPart vu hi)
  (h:Q (((sIx n 0 lo:Nat):Int),1,sIx n n hi-sIx n 0 lo) s):wpAny (model prog w) A (Builtin.Slice.sliceApplied (.ref sl) (pure (n:Int))) Q E s:=by
 obtain ⟨os,hos,K6,hds⟩:=id hs;unfold Builtin.Slice.sliceApplied Builtin.Slice.sliceFields;refine wpAny_bind (wpAny_bind (wpAny_field hos hds (x:=vl) rfl (wpAny_bind (wpAny_field hos hds (x:=vu) rfl (wpAny_bind (wpAny_field hos hds (x:=.none) rfl (wpAny_pure ?_)))))));refine wpAny_bind (slicePart_none ?_);show wpAny _ _ (if ((1:Int) ==0)=true then _ else _) _ _ s;rw [if_neg (by decide)];refine wpAny_bind (Zlm pl (wpAny_bind (Zlm pu (wpAny_bind (wpAny_pure ?_)))));show wpAny _ _ (match Builtin.Slice.sliceAdjust lo hi 1 (n:Int) with | (lo,hi)=>pure (lo,(1:Int),Builtin.Slice.slicePlaces lo hi 1)) _ _ s;rw [Zse lo hi n];show wpAny _ _ (pure (((sIx n 0 lo:Nat):Int),(1:Int),Builtin.Slice.slicePlaces ((sIx n 0 lo:Nat):Int) ((sIx n n hi:Nat):Int) 1)) _ _ s;rw [Zsh];exact wpAny_pure h
theorem Zwe(xs:Array Value)(i k:Nat):((List.range k).filterMap fun (m:Nat)=>xs[((i:Int)+(m:Int) * 1).toNat]?).toArray=((xs.toList.drop i).take k).toArray:=by
 have e:(fun (m:Nat)=>xs[((i:Int)+(m:Int) * 1).toNat]?)=fun m=>xs[i+m]? :=by
  funext m
  have:((i:Int)+(m:Int) * 1).toNat=i+m:=by lia
  rw [this]
 rw [e];have:=pick_run xs i k;rw [List.filterMap_map] at this;have e2:((fun x=>xs[x]?) ∘ fun x=>i+x)=fun m=>xs[i+m]? :=rfl
 rw [e2] at this;rw [this]
theorem getItem_tuple_cut{t sl:Addr}{b9:Array Value}{vl vu:Value}{lo hi:Option Int}{Q:Value->Shared->Prop}(ht:IsTup s.heap t b9)(hs:s.heap.IsSliceOf sl vl vu .none)(pl:IsPart vl lo)(pu:IsPart vu hi)
  (hw:¬(sIx b9.size 0 lo=0/\sIx b9.size b9.size hi=b9.size))
  (h:Q (.ref s.heap.objs.size) { s with heap:=s.heap.push { cls:=.type "tuple",data:=.seq ((b9.toList.drop (sIx b9.size 0 lo)).take (sIx b9.size b9.size hi-sIx b9.size 0 lo)).toArray } })
  (hsz:b9.size<=sizeLine):wpAny (model prog w) A (getItem (.ref t) (.ref sl)) Q E s:=by
 have K7:sizeOk (.seq ((b9.toList.drop (sIx b9.size 0 lo)).take (sIx b9.size b9.size hi-sIx b9.size 0 lo)).toArray):=by
  show ((b9.toList.drop (sIx b9.size 0 lo)).take (sIx b9.size b9.size hi-sIx b9.size 0 lo)).toArray.size<=sizeLine;rw [List.size_toArray,List.length_take,List.length_drop,Array.length_toList];lia
 have hj:sIx b9.size b9.size hi<=b9.size:=Zzo _ _ (Nat.le_refl _) hi;obtain ⟨os,hos,K6,hds⟩:=id hs;have hTs:s.TypeIs (.ref sl) "slice" :=⟨os,hos,K6⟩
 unfold getItem
 try with_reducible refine wpAny_holding ?_
 first | refine wpAny_bind (wpAny_pure ?_) | skip
 refine wpAny_bind (wpAny_sequenceKey ht.typeIs (by decide) ?_);refine wpAny_bind (wpAny_callSpecial?_slot (name:=Str.ofString "__getitem__") ht.typeIs PyProof.Rows.slot_tuple_getitem
  (wpAny_call_entry PyProof.Rows.slot_tuple_getitem ht.typeIs entry_tuple_getitem ?_ (args_tuple_getitem _ _)))
 show wpAny _ _ (Builtin.Tuple.tupleItemsOf (.ref t) >>=_) _ _ s;refine wpAny_bind (tupleItemsOf_ ht ?_);refine wpAny_bind (wpAny_typeOf hTs ?_);rw [if_pos (by decide)];refine wpAny_bind (Zh9 hs pl pu ?_);have F5:¬((((sIx b9.size 0 lo:Nat):Int) ==0 && (1:Int) ==1 && (sIx b9.size b9.size hi-sIx b9.size 0 lo) ==b9.size)=true):=by
  intro q;rw [Bool.and_eq_true,Bool.and_eq_true] at q;have q1:((sIx b9.size 0 lo:Nat):Int)=0:=eq_of_beq q.1.1;have q2:sIx b9.size b9.size hi-sIx b9.size 0 lo=b9.size:=eq_of_beq q.2;exact hw ⟨by lia,by lia⟩
 show wpAny _ _ (if (((sIx b9.size 0 lo:Nat):Int) ==0 && (1:Int) ==1 && (sIx b9.size b9.size hi-sIx b9.size 0 lo) ==b9.size)=true then _ else _) _ _ s;rw [if_neg F5,Zwe]
 first
  | exact wpAny_bind (m:=Builtin.Tuple.tupleExact _) (wpAny_newObj_type (wpAny_pure ⟨_,rfl,wpAny_pure h⟩) K7)
  | exact wpAny_bind (m:=Builtin.Tuple.tupleExact _) (wpAny_newObj_type (wpAny_bind (wpAny_pure (wpAny_pure ⟨_,rfl,wpAny_pure h⟩))) K7)
  | exact wpAny_bind (wpAny_bind (m:=Builtin.Tuple.tupleExact _) (wpAny_newObj_type (wpAny_pure (wpAny_pure ⟨_,rfl,wpAny_pure h⟩)) K7))
  | exact wpAny_bind (wpAny_bind (m:=Builtin.Tuple.tupleExact _) (wpAny_newObj_type (wpAny_pure ⟨_,rfl,wpAny_pure h⟩) K7))
end
end HT
namespace L2
open PySem PySem.Spec PyProof.Rows
abbrev TO:=St->Hp->(Option Int->Hp->Prop)->Prop
def PO(X:Cx)(e:Option Expr)(t:TO):Prop :=
 ∀(a6:List (Addr×Obj)) (s:Shared) (σ:St) (H:Hp) (Q:Option Int->Hp->Prop),Inv X a6 σ H s->t σ H Q ->
  wpAny (model X.prog X.w) X.A (evalPart e X.env) (fun u s'=>∃o H',Inv X a6 σ H' s'/\IsPart u o/\Q o H') X.xe s
def Zxp:TO:=fun _ H Q=>Q none H
def Ybe(t:TE):TO:=fun σ H Q=>t σ H fun x H1=>∃i,x=.int i/\Q (some i) H1
section
variable {X:Cx} {e:Expr} {te:TE} {lo hi:Option Expr} {tl th:TO} {pos p2:Pos}
theorem W6:PO X none Zxp:=by
 intro a6 s σ H Q I h;rw [evalPart_none];exact wpAny_pure ⟨none,H,I,.none,h⟩
theorem Wr(h:PE X e te):PO X (some e) (Ybe te):=by
 intro a6 s σ H Q I hw;rw [evalPart_some];refine thn (h a6 s σ H _ I hw) fun u s1 ⟨x,H1,I1,r1,q1⟩=>?_
 obtain ⟨i,rfl,q⟩:=q1;obtain ⟨t,rfl⟩:=r1;exact ⟨some i,H1,I1,.int i t,q⟩
def SlR(X:Cx)(r:V->Option Int->Option Int->Hp->VK->Prop):Prop :=
 ∀(a6:List (Addr×Obj)) (s:Shared) (σ:St) (H:Hp) (x:V) (v vl vu:Value) (lo hi:Option Int) (sl:Addr) (Q:VK),Inv X a6 σ H s->Yl x v->s.heap.IsSliceOf sl vl vu .none->IsPart vl lo->IsPart vu hi->r x lo hi H Q ->
  ∃T id,typeLookup (.type T) "__getitem__" =pure (some (.builtin id))/\s.TypeIs v T/\wpAny (model X.prog X.w) X.A (getItem v (.ref sl)) (EP X a6 σ Q) X.xe s
theorem SlR.or{r r':V->Option Int->Option Int->Hp->VK->Prop}(h:SlR X r)(h':SlR X r'):SlR X (fun x lo hi H Q=>r x lo hi H Q\/r' x lo hi H Q):=by
 intro a6 s σ H x v vl vu lo hi sl Q I rx hs pl pu q;rcases q with q|q
 ·exact h a6 s σ H x v vl vu lo hi sl Q I rx hs pl pu q
 ·exact h' a6 s σ H x v vl vu lo hi sl Q I rx hs pl pu q
def tSl(r:V->Option Int->Option Int->Hp->VK->Prop)(te:TE)(tl th:TO):TE:=fun σ H Q=>te σ H fun x H1=>tl σ H1 fun l H2=>th σ H2 fun u H3=>r x l u H3 Q
theorem Wh{r:V->Option Int->Option Int->Hp->VK->Prop}(hr:SlR X r)(he:PE X e te)(hl:PO X lo tl)(hu:PO X hi th):PE X (.Subscript e (.Slice lo hi none p2) pos) (tSl r te tl th):=by
 intro a6 s σ H Q I h;refine Subscript_ (thn (he a6 s σ H _ I h) fun v s1 ⟨x,H1,I1,r1,q1⟩=>?_);refine wpAny_Slice (thn (hl a6 s1 σ H1 _ I1 q1) fun vl s2 ⟨l,H2,I2,pl,q2⟩=>thn (hu a6 s2 σ H2 _ I2 q2) fun vu s3 ⟨u,H3,I3,pu,q3⟩=>?_);rw [evalPart_none];refine wpAny_pure ?_;have I4:Inv X a6 σ H3 { s3 with heap:=s3.heap.push { cls:=.type "slice",data:=.fields #[vl,vu,.none] } }:=I3.kept (t':=s3.toks) fun b ob q=>Heap.get?_push_of_some _ q
 obtain ⟨T,id,hT,ht,hg⟩:=hr a6 { s3 with heap:=s3.heap.push { cls:=.type "slice",data:=.fields #[vl,vu,.none] } } σ H3 x v vl vu l u s3.heap.objs.size Q I4 r1 (Heap.IsSliceOf.new ..) pl pu q3;show wpAny (model X.prog X.w) X.A (subscriptTail e (.Slice lo hi none p2) v (.ref s3.heap.objs.size)) (EP X a6 σ Q) X.xe { s3 with heap:=s3.heap.push { cls:=.type "slice",data:=.fields #[vl,vu,.none] } };exact tail_any (ops:=[.ref s3.heap.objs.size,v]) ht hT hg (by with_unfolding_all rfl)
def Zgs(xs:List V)(lo hi:Option Int):List V:=(xs.drop (HT.sIx xs.length 0 lo)).take (HT.sIx xs.length xs.length hi-HT.sIx xs.length 0 lo)
theorem Zi7(xs:List V)(lo hi:Option Int):(Zgs xs lo hi).length<=xs.length:=by
 unfold Zgs;rw [List.length_take,List.length_drop];lia
def Yc5(K:Frag):V->Option Int->Option Int->Hp->VK->Prop:=fun x lo hi H Q=>∃a xs,x=.ref a/\SqT K H a xs /\
 ¬(HT.sIx xs.length 0 lo=0/\HT.sIx xs.length xs.length hi=xs.length)/\∀p,H p=none->Q (.ref p) (upd H p (.tup (Zgs xs lo hi)))
theorem Zz4:SlR X (Yc5 X.K):=by
 intro a6 s σ H x v vl vu lo hi sl Q I rx hs pl pu h;obtain ⟨a,xs,rfl,hx,hw,q⟩:=h;cases rx;obtain ⟨a7,r,ht,hz⟩:=I.tuple hx;have d5:a7.toArray.size=xs.length:=by rw [List.size_toArray];exact r.length.symm
 refine ⟨"tuple",_,PyProof.Rows.slot_tuple_getitem.lookup,ht.typeIs,?_⟩;refine HT.getItem_tuple_cut ht hs pl pu (by rw [d5];exact hw) ?_ (by rw [d5];exact hz);rw [d5];refine ⟨.ref s.heap.objs.size,_,I.laid (t':=s.toks) (o:=.tup (Zgs xs lo hi)) (fun b ob q=>Heap.get?_push_of_some _ q) (Nat.le_refl _) ?_,rfl,q _ (I.hok.fresh (Nat.le_refl _))⟩;exact ⟨Nat.le_trans (Zi7 xs lo hi) hz,_,(r.drop (HT.sIx xs.length 0 lo)).take (HT.sIx xs.length xs.length hi-HT.sIx xs.length 0 lo),IsTup.new _ _⟩
end
end L2
namespace L2
open PySem PySem.Spec PyProof.Rows
def ixN(n:Nat)(i:Int):Option Nat:=if 0<=i then (if i<n then some i.toNat else none) else if -(n:Int)<=i then some (i+n).toNat else none
def atI{α:Type}(xs:List α)(i:Int):Option α:=(ixN xs.length i).bind fun j=>xs[j]?
theorem Zxl{n:Nat}{i:Int}{j:Nat}(h:ixN n i=some j):seqIndex? i n=some j/\j<n/\-(n:Int)<=i/\i<n:=by
 unfold ixN at h
 by_cases h0:0<=i
 ·rw [if_pos h0] at h
  by_cases h1:i<n
  ·rw [if_pos h1] at h;have e:i.toNat=j:=Option.some.inj h;exact ⟨by rw [seqIndex_of h0 h1,e],by lia,by lia,h1⟩
  ·rw [if_neg h1] at h;cases h
 ·rw [if_neg h0] at h
  by_cases h1:-(n:Int)<=i
  ·rw [if_pos h1] at h;have e:(i+n).toNat=j:=Option.some.inj h;exact ⟨by rw [seqIndex_neg (by lia) h1,e],by lia,h1,by lia⟩
  ·rw [if_neg h1] at h;cases h
theorem Zoy{α:Type}{xs:List α}{i:Int}{v:α}(h:atI xs i=some v):∃j,seqIndex? i xs.length=some j/\xs[j]? =some v/\j<xs.length/\-(xs.length:Int)<=i/\i<xs.length:=by
 unfold atI at h;cases e:ixN xs.length i with
 | none=>rw [e] at h;cases h
 | some j =>
  rw [e] at h;obtain ⟨h1,h2,h3,h4⟩:=Zxl e;exact ⟨j,h1,h,h2,h3,h4⟩
theorem Yr{α:Type}{xs:List α}{j:Nat}{v:α}(h:xs[j]? =some v):atI xs (j:Int)=some v:=by
 have hj:j<xs.length:=(List.getElem?_eq_some_iff.mp h).1;have e:ixN xs.length (j:Int)=some j:=by
  unfold ixN;rw [if_pos (by lia),if_pos (by lia)];simp
 unfold atI;rw [e];exact h
theorem Zp8{α:Type}(xs:List α)(v:α):atI (xs++[v]) (-1)=some v:=by
 have hl:(xs++[v]).length=xs.length+1:=by simp
 have e:ixN (xs++[v]).length (-1)=some xs.length:=by
  unfold ixN;rw [hl,if_neg (by decide),if_pos (by lia)];congr 1;lia
 unfold atI;rw [e];show (xs++[v])[xs.length]? =some v;simp
def Zsv(b:Expr):Prop:=∀o i,subscripted b false o i=operate [o,i] (getItem o i)
def IxR(X:Cx)(r:R2):Prop :=
 ∀(value slice:Expr) (a6:List (Addr×Obj)) (s:Shared) (σ:St) (H:Hp) (x y:V) (v u:Value) (Q:VK),Inv X a6 σ H s->Yl x v->Yl y u->r x y H Q ->
  subscripted slice false v u=operate [v,u] (getItem v u)->wpAny (model X.prog X.w) X.A (subscriptTail value slice v u) (EP X a6 σ Q) X.xe s
def MtR(X:Cx)(id:String)(r:V->List V->Hp->VK->Prop):Prop :=
 ∀(a6:List (Addr×Obj)) (s:Shared) (σ:St) (H:Hp) (x:V) (xs:List V) (v:Value) (us:List Value) (Q:VK),Inv X a6 σ H s->Yl x v->Yh xs us->r x xs H Q ->
  wpAny (model X.prog X.w) X.A (call (.builtin id) (v ::us)) (EP X a6 σ Q) X.xe s
section
variable {X:Cx} {a b:Expr} {ta tb:TE} {pos:Pos}
theorem IxR.or{r r':R2}(h:IxR X r)(h':IxR X r'):IxR X (fun x y H Q=>r x y H Q\/r' x y H Q):=by
 intro value slice a6 s σ H x y v u Q I rx ry q hs;rcases q with q|q
 ·exact h value slice a6 s σ H x y v u Q I rx ry q hs
 ·exact h' value slice a6 s σ H x y v u Q I rx ry q hs
theorem Ybd{r:R2}(hr:IxR X r)(ha:PE X a ta)(hb:PE X b tb)(hs:Zsv b):PE X (.Subscript a b pos) (tOp r ta tb):=by
 intro a6 s σ H Q I h;exact Subscript_ (Zzw ha hb I h fun v u s2 x y H2 I2 rx ry q=>hr a b a6 s2 σ H2 x y v u Q I2 rx ry q (hs _ _))
def Ybj(K:Frag):R2:=fun x y H Q=>∃p xs i v,x=.ref p/\y=.int i/\SqL K H p xs/\atI xs i=some v/\Q v H
def Yca(K:Frag):R2:=fun x y H Q=>∃p xs i v,x=.ref p/\y=.int i/\SqT K H p xs/\atI xs i=some v/\Q v H
def Ybw:R2:=fun x y H Q=>∃z i c,x=.str z/\y=.int i/\z.length<=sizeLine/\atI z.cps.toList i=some c/\Q (.str ⟨#[c]⟩) H
theorem Zx1:IxR X (Ybj X.K):=by
 intro value slice a6 s σ H x y v u Q I rx ry h hs;obtain ⟨p,xs,i,z,rfl,rfl,hq,he,q⟩:=h;cases rx;obtain ⟨t,rfl⟩:=ry;obtain ⟨a7,r,pl,hz⟩:=I.list hq;obtain ⟨j,h1,h2,h3,h4,h5⟩:=Zoy he;obtain ⟨w,ew,E1⟩:=r.get h2;have hl:=r.length;have hn:=Zlz;have fin:EP X a6 σ Q w s:=⟨z,H,I,E1,q⟩
 by_cases h0:0<=i
 ·have hj:i.toNat=j:=by
   rw [seqIndex_of h0 h5] at h1;exact Option.some.inj h1
  exact item_listR pl.isList h0 (by lia) (by rw [hj];simpa using ew) fin hs
 ·have hj:(i+(a7.toArray.size:Int)).toNat=j:=by
   rw [seqIndex_neg (by lia) h4] at h1;rw [List.size_toArray,<-hl];exact Option.some.inj h1
  exact subscriptTail_builtinR (x:=w) pl.isList.typeIs slot_list_getitem.lookup
   (wpAny_getItem_list_neg (Q:=fun r s'=>r=w/\EP X a6 σ Q r s') pl.isList (by lia) (by rw [List.size_toArray] <;>lia) (by lia) (by rw [hj];simpa using ew) ⟨rfl,fin⟩) hs
theorem Yaf:IxR X (Yca X.K):=by
 intro value slice a6 s σ H x y v u Q I rx ry h hs;obtain ⟨p,xs,i,z,rfl,rfl,hq,he,q⟩:=h;cases rx;obtain ⟨t,rfl⟩:=ry;obtain ⟨a7,r,pl,hz⟩:=I.tuple hq;obtain ⟨j,h1,h2,h3,h4,h5⟩:=Zoy he;obtain ⟨w,ew,E1⟩:=r.get h2;have hl:=r.length;have hn:=Zlz;have fin:EP X a6 σ Q w s:=⟨z,H,I,E1,q⟩
 exact subscriptTail_builtinR (x:=w) pl.typeIs slot_tuple_getitem.lookup
  (getItem_tuple (j:=j) (Q:=fun r s'=>r=w/\EP X a6 σ Q r s') pl (by lia) (by lia) (by rw [List.size_toArray,<-hl];exact h1) (by simpa using ew) ⟨rfl,fin⟩) hs
theorem Yah:IxR X Ybw:=by
 intro value slice a6 s σ H x y v u Q I rx ry h hs;obtain ⟨z,i,c,rfl,rfl,hz,he,q⟩:=h;obtain ⟨t,rfl⟩:=rx;obtain ⟨t',rfl⟩:=ry;obtain ⟨j,h1,h2,h3,h4,h5⟩:=Zoy he;have hl:z.cps.toList.length=z.length:=by simp [Str.length]
 rw [hl] at h1 h4 h5;have hn:=Zlz;exact tail_any (typeIs_str s z t) slot_str_getitem.lookup (getItem_str (c:=c) (by
  have e1:decide (i < -(2 ^ 63:Int))=false:=decide_eq_false (by lia);have e2:decide (i ≥ 2 ^ 63)=false:=decide_eq_false (by lia);rw [e1,e2,Bool.or_false]) (by rw [h1];simpa using h2) ⟨.str ⟨#[c]⟩,H,I.tok _,⟨_,rfl⟩,q⟩) hs
def rIx(K:Frag):R2:=fun x y H Q=>Ybj K x y H Q\/Yca K x y H Q\/Ybw x y H Q
theorem Yae:IxR X (rIx X.K):=Zx1.or (Yaf.or Yah)
theorem Zor(lo hi:Option Int)(n:Nat):(sliceBounds lo hi none n).1=((HT.sIx n 0 lo:Nat):Int)/\(sliceBounds lo hi none n).2.1=((HT.sIx n n hi:Nat):Int)/\(sliceBounds lo hi none n).2.2=1:=by
 refine ⟨?_,?_,rfl⟩
 ·cases lo with
  | none=>simp [sliceBounds,HT.sIx]
  | some i =>
   simp only [sliceBounds,HT.sIx,Option.getD_none,show (1:Int) >0 by decide,if_true]
   by_cases h:i<0
   ·simp only [h,if_true] <;>lia
   ·simp only [h,if_false] <;>lia
 ·cases hi with
  | none=>simp [sliceBounds,HT.sIx]
  | some i =>
   simp only [sliceBounds,HT.sIx,Option.getD_none,show (1:Int) >0 by decide,if_true]
   by_cases h:i<0
   ·simp only [h,if_true] <;>lia
   ·simp only [h,if_false] <;>lia
theorem Zms(a7:List Value)(lo hi:Option Int):slicePick a7.toArray lo hi none=((a7.drop (HT.sIx a7.length 0 lo)).take (HT.sIx a7.length a7.length hi-HT.sIx a7.length 0 lo)).toArray:=by
 obtain ⟨h1,h2,h3⟩:=Zor lo hi a7.toArray.size;unfold slicePick;rw [h1,h2,h3];simp only [sliceRange_one,pick_run,List.size_toArray] <;>rfl
def Ycj(K:Frag):V->Option Int->Option Int->Hp->VK->Prop:=fun x lo hi H Q=>∃a xs,x=.ref a/\SqL K H a xs/\∀p,H p=none->Q (.ref p) (upd H p (.lst (Zgs xs lo hi)))
theorem Zyi:SlR X (Ycj X.K):=by
 intro a6 s σ H x v vl vu lo hi sl Q I rx hs pl pu h;obtain ⟨a,xs,rfl,hx,q⟩:=h;cases rx;obtain ⟨a7,r,ht,hz⟩:=I.list hx;have d5:=r.length;refine ⟨"list",_,slot_list_getitem.lookup,ht.isList.typeIs,?_⟩;refine wpAny_getItem_list_slice ht.isList hs pl pu .none (by simp) ?_ (by rw [List.size_toArray] <;>lia);rw [Zms,<-d5];refine ⟨.ref s.heap.objs.size,_,I.laid (t':=s.toks) (o:=.lst (Zgs xs lo hi)) (fun b ob q=>Heap.get?_push_of_some _ q) (Nat.le_refl _) ?_,rfl,q _ (I.hok.fresh (Nat.le_refl _))⟩;exact ⟨Nat.le_trans (Zi7 xs lo hi) hz,_,0,(r.drop (HT.sIx xs.length 0 lo)).take (HT.sIx xs.length xs.length hi-HT.sIx xs.length 0 lo),Heap.get?_push_size _ rfl⟩
def Ze6:V->Bool
 | .non=>true
 | .bl _=>true
 | .int _=>true
 | .str _=>true
 | _=>false
def eqV:V->V->Bool
 | .non,.non=>true
 | .bl a,.bl b=>a ==b
 | .bl a,.int b=>(if a then 1 else 0) ==b
 | .int a,.bl b=>a ==(if b then 1 else 0)
 | .int a,.int b=>a ==b
 | .str a,.str b=>a ==b
 | _,_=>false
theorem Zk9{A:Around}{s:Shared}{y x:V}{u v:Value}(ry:Yl y u)(rx:Yl x v)(fy:Ze6 y=true)(fx:Ze6 x=true):SeqAt.EqAt A s u v (eqV y x):=by
 cases y with
 | non =>
  cases ry;cases x with
  | non=>cases rx;exact SeqAt.EqAt.same _
  | bl b=>cases rx;exact SeqAt.EqAt.none_bool b
  | int b=>obtain ⟨t,rfl⟩:=rx;exact SeqAt.EqAt.none_int b t
  | str b=>obtain ⟨t,rfl⟩:=rx;exact SeqAt.EqAt.none_str b t
  | _=>exact absurd (show false=true from fx) Bool.false_ne_true
 | bl a =>
  cases ry;cases x with
  | non=>cases rx;exact SeqAt.EqAt.bool_none a
  | bl b=>cases rx;exact SeqAt.EqAt.bool_bool a b
  | int b=>obtain ⟨t,rfl⟩:=rx;exact SeqAt.EqAt.bool_int a b t
  | str b=>obtain ⟨t,rfl⟩:=rx;exact SeqAt.EqAt.bool_str a b t
  | _=>exact absurd (show false=true from fx) Bool.false_ne_true
 | int a =>
  obtain ⟨t',rfl⟩:=ry;cases x with
  | non=>cases rx;exact SeqAt.EqAt.int_none a t'
  | bl b=>cases rx;exact SeqAt.EqAt.int_bool a t' b
  | int b=>obtain ⟨t,rfl⟩:=rx;exact SeqAt.EqAt.int_int a t' b t
  | str b=>obtain ⟨t,rfl⟩:=rx;exact SeqAt.EqAt.int_str a t' b t
  | _=>exact absurd (show false=true from fx) Bool.false_ne_true
 | str a =>
  obtain ⟨t',rfl⟩:=ry;cases x with
  | non=>cases rx;exact SeqAt.EqAt.str_none a t'
  | bl b=>cases rx;exact SeqAt.EqAt.str_bool a t' b
  | int b=>obtain ⟨t,rfl⟩:=rx;exact SeqAt.EqAt.str_int a t' b t
  | str b=>obtain ⟨t,rfl⟩:=rx;exact SeqAt.EqAt.str_str a t' b t
  | _=>exact absurd (show false=true from fx) Bool.false_ne_true
 | _=>exact absurd (show false=true from fy) Bool.false_ne_true
def eqU(x:V)(u:Value):Bool:=match u with
 | .none=>eqV .non x
 | .bool b=>eqV (.bl b) x
 | .int i _=>eqV (.int i) x
 | .str z _=>eqV (.str z) x
 | _=>false
theorem Zvv{x y:V}{u:Value}(r:Yl y u)(f:Ze6 y=true):eqU x u=eqV y x:=by
 cases y with
 | non=>cases r;rfl
 | bl b=>cases r;rfl
 | int i=>obtain ⟨t,rfl⟩:=r;rfl
 | str z=>obtain ⟨t,rfl⟩:=r;rfl
 | _=>exact absurd (show false=true from f) Bool.false_ne_true
theorem Zhu{x:V}:∀{xs:List V} {us:List Value},Yh xs us->xs.all Ze6=true->us.any (eqU x)=xs.any fun y=>eqV y x
 | _,_,.nil,_=>rfl
 | y ::xs,u ::us,.cons r t,f=>by
  rw [List.all_cons,Bool.and_eq_true] at f;rw [List.any_cons,List.any_cons,Zvv r f.1,Zhu t f.2]
theorem Zff{A:Around}{s:Shared}{x:V}{v:Value}(rx:Yl x v)(fx:Ze6 x=true):∀{xs:List V} {us:List Value},Yh xs us->xs.all Ze6=true->∀u∈us,SeqAt.EqAt A s u v (eqU x u)
 | _,_,.nil,_=>fun u hu=>by cases hu
 | y ::xs,u ::us,.cons r t,f=>fun u' hu=>by
  rw [List.all_cons,Bool.and_eq_true] at f;rcases List.mem_cons.mp hu with rfl|hu
  ·rw [Zvv r f.1];exact Zk9 r rx f.1 fx
  ·exact Zff rx fx t f.2 u' hu
def inV(x:V)(xs:List V):Bool:=xs.any fun y=>eqV y x
def rIn(K:Frag)(neg:Bool):R2:=fun x y H Q=>∃p xs,y=.ref p/\(SqL K H p xs\/SqT K H p xs)/\Ze6 x=true/\xs.all Ze6=true/\Q (.bl (if neg then !inV x xs else inV x xs)) H
theorem Zt1:OpR X (compareOp .In) (rIn X.K false):=by
 intro a6 s σ H x y v u Q I rx ry h;obtain ⟨p,xs,rfl,hq,fx,fs,q⟩:=h;cases ry;rcases hq with hq|hq
 ·obtain ⟨a7,r,pl,hz⟩:=I.list hq;refine SeqAt.in_listAt (eqU x) pl.isList (fun w hw=>Zff rx fx r fs w (by simpa using hw)) ⟨.bl _,H,I,rfl,?_⟩;rw [show a7.toArray.any (eqU x)=a7.any (eqU x) by simp,Zhu r fs];exact q
 ·obtain ⟨a7,r,pl,hz⟩:=I.tuple hq;refine SeqAt.in_tupleAt (eqU x) pl (fun w hw=>Zff rx fx r fs w (by simpa using hw)) ⟨.bl _,H,I,rfl,?_⟩;rw [show a7.toArray.any (eqU x)=a7.any (eqU x) by simp,Zhu r fs];exact q
theorem Zox:OpR X (compareOp .NotIn) (rIn X.K true):=by
 intro a6 s σ H x y v u Q I rx ry h;obtain ⟨p,xs,rfl,hq,fx,fs,q⟩:=h;cases ry;rcases hq with hq|hq
 ·obtain ⟨a7,r,pl,hz⟩:=I.list hq;refine SeqAt.notIn_listAt (eqU x) pl.isList (fun w hw=>Zff rx fx r fs w (by simpa using hw)) ⟨.bl _,H,I,rfl,?_⟩;rw [show a7.toArray.any (eqU x)=a7.any (eqU x) by simp,Zhu r fs];exact q
 ·obtain ⟨a7,r,pl,hz⟩:=I.tuple hq;refine SeqAt.notIn_tupleAt (eqU x) pl (fun w hw=>Zff rx fx r fs w (by simpa using hw)) ⟨.bl _,H,I,rfl,?_⟩;rw [show a7.toArray.any (eqU x)=a7.any (eqU x) by simp,Zhu r fs];exact q
theorem Zos:X0 X (.builtin "len") (fun xs H Q=>∃p ys,xs=[.ref p]/\(SqL X.K H p ys\/SqT X.K H p ys)/\Q (.int ys.length) H):=by
 intro a6 s σ H xs us Q I r h;obtain ⟨p,ys,rfl,hq,q⟩:=h;obtain ⟨u,rfl,rx⟩:=Zci r;cases rx;have hn:=Zlz;rcases hq with hq|hq
 ·obtain ⟨a7,r',pl,hz⟩:=I.list hq;have d5:=r'.length;exact Calls.call_len_list pl.isList (by simp only [List.size_toArray] <;>lia) ⟨.int ys.length,H,I.tok _,⟨s.toks+1,by rw [List.size_toArray,d5]⟩,q⟩
 ·obtain ⟨a7,r',pl,hz⟩:=I.tuple hq;have d5:=r'.length;exact len_tuple pl (by simp only [List.size_toArray] <;>lia) ⟨.int ys.length,H,I.tok _,⟨s.toks+1,by rw [List.size_toArray,d5]⟩,q⟩
theorem Zof:X0 X (.builtin "len") (fun xs H Q=>∃z,xs=[.str z]/\z.length<=sizeLine/\Q (.int z.length) H):=by
 intro a6 s σ H xs us Q I r h;obtain ⟨z,rfl,hz,q⟩:=h;obtain ⟨u,rfl,t,rfl⟩:=Zci r;have hn:=Zlz;exact len_str (by lia) ⟨.int z.length,H,I.tok _,⟨_,rfl⟩,q⟩
theorem X0.or{f:Value}{r r':List V->Hp->VK->Prop}(h:X0 X f r)(h':X0 X f r'):X0 X f (fun xs H Q=>r xs H Q\/r' xs H Q):=by
 intro a6 s σ H xs us Q I rs q;rcases q with q|q
 ·exact h a6 s σ H xs us Q I rs q
 ·exact h' a6 s σ H xs us Q I rs q
theorem Zon:X0 X (.type "list") (fun xs H Q=>∃p ys,xs=[.ref p]/\(SqL X.K H p ys\/SqT X.K H p ys)/\∀l,H l=none->Q (.ref l) (upd H l (.lst ys))):=by
 intro a6 s σ H xs us Q I r h;obtain ⟨p,ys,rfl,hq,q⟩:=h;obtain ⟨u,rfl,rx⟩:=Zci r;cases rx;have fin:∀(a7:List Value),Yh ys a7->ys.length<=sizeLine->∀(h':Heap) (c':Nat),(∀b o',s.heap.get? b=some o'->h'.get? b=some o') ->
   h'.get? s.heap.objs.size=some { cls:=.type "list",dict:=none,data:=.seq a7.toArray c',slots:=#[] }->EP X a6 σ Q (.ref s.heap.objs.size) { s with heap:=h' }:=fun a7 r' hz h' c' kp e =>
  ⟨.ref s.heap.objs.size,_,I.laid (t':=s.toks) kp (Nat.le_refl _) (show Yy X.prog X.w _ h' _ (.lst ys) from ⟨hz,a7,c',r',e⟩),rfl,q _ (I.hok.fresh (Nat.le_refl _))⟩
 rcases hq with hq|hq
 ·obtain ⟨a7,r',pl,hz⟩:=I.list hq;have d5:=r'.length;obtain ⟨o,ho,hc,n,hd⟩:=pl.isList;exact call_list_seq p (.inl rfl) ho hc hd (fun h' c' kp e=>fin a7 r' hz h' c' kp e) (by simp only [List.size_toArray] <;>lia)
 ·obtain ⟨a7,r',pl,hz⟩:=I.tuple hq;have d5:=r'.length;obtain ⟨o,ho,hc,n,hd⟩:=pl;exact call_list_seq p (.inr rfl) ho hc hd (fun h' c' kp e=>fin a7 r' hz h' c' kp e) (by simp only [List.size_toArray] <;>lia)
def tyV(K:Frag)(T:String)(x:V)(H:Hp):Prop:=match x with
 | .str _=>T = "str"
 | .int _=>T = "int"
 | .ref p=>(T = "list" /\∃xs,SqL K H p xs)\/(T = "tuple" /\∃o,K.lookup p=some o/\o.cls=.type "tuple" /\o.dict=none) \/
   (T = "dict" /\((∃kvs,H p=some (.dK kvs))\/∃kvs,H p=some (.dT kvs)))\/(T = "set" /\∃S n,H p=some (.set S n))
 | _=>False
theorem Zzh{a6:List (Addr×Obj)}{σ:St}{H:Hp}{s:Shared}{T:String}{x:V}{v:Value}(I:Inv X a6 σ H s)(r:Yl x v)(ty:tyV X.K T x H) :
  s.TypeIs v T/\∀a,v=.ref a->∃ob,s.heap.get? a=some ob/\ob.dict=none:=by
 cases x with
 | str z =>
  obtain ⟨t,rfl⟩:=r;cases (show T = "str" from ty);exact ⟨typeIs_str s z t,fun _ e=>nomatch e⟩
 | int i =>
  obtain ⟨t,rfl⟩:=r;cases (show T = "int" from ty);exact ⟨typeIs_int s i t,fun _ e=>nomatch e⟩
 | ref p =>
  cases r;rcases ty with ⟨rfl,xs,hq⟩|⟨rfl,o,hk,hc,hd⟩|⟨rfl,hk⟩|⟨rfl,S,n,hk⟩
  ·obtain ⟨a7,_,pl,_⟩:=I.list hq;refine ⟨pl.isList.typeIs,fun a e=>?_⟩;cases e;obtain ⟨o,n,e,c,hd,_⟩:=pl;exact ⟨o,e,hd⟩
  ·refine ⟨⟨o,I.kIn p o hk,hc⟩,fun a e=>?_⟩;cases e;exact ⟨o,I.kIn _ o hk,hd⟩
  ·have z:∃o,s.heap.get? p=some o/\o.ExactDict:=by
    rcases hk with ⟨kvs,hk⟩|⟨kvs,hk⟩
    ·obtain ⟨_,_,_,_,o,_,_,e,ex,_⟩:=I.hok p _ hk;exact ⟨o,e,ex⟩
    ·obtain ⟨_,_,_,_,o,_,_,e,ex,_⟩:=I.hok p _ hk;exact ⟨o,e,ex⟩
   obtain ⟨o,e,ex⟩:=z;refine ⟨⟨o,e,ex.1⟩,fun a e2=>?_⟩;cases e2;exact ⟨o,e,ex.2.1⟩
  ·obtain ⟨o,_,_,_,e,ex,_⟩:=I.hok p _ hk;refine ⟨⟨o,e,ex.1⟩,fun a e2=>?_⟩;cases e2;exact ⟨o,e,ex.2.1⟩
 | _=>exact False.elim ty
def tBM(K:Frag)(T:String)(r:V->List V->Hp->VK->Prop)(to:TE)(t:TA):TE:=fun σ H Q=>to σ H fun x H1=>tyV K T x H1/\t σ H1 fun xs H2=>r x xs H2 Q
variable {o e:Expr} {es:List Expr} {to:TE} {t:TA} {name:Str} {i4 i8:Pos} {T id:String} {r:V->List V->Hp->VK->Prop}
theorem Zbw(pa:PlainAttrs T)(slot:Slot T name id) (hty:typeOf (.builtin id)=pure (.type "method_descriptor")) (hm:MtR X id r) (ho:PE X o to) (ha:PA X (e ::es) t)
  (A9:attributeBase o name X.env (eval o X.env)=eval o X.env:=by rfl)
  (hfew:((backTo i8 (starEach (e ::es) X.env)).all (fun x=>!x.1) && (backToKw i8 (keywordEach [] X.env)).all (fun x=>x.1.isSome)
   && decide ((e ::es).length+([]:List Keyword).length+(if ([]:List Keyword).isEmpty then 0 else 1)<30))=true:=by rfl)
  (B0:(i4.endLine ==i8.line)=true:=by rfl) (hs:starEach (e ::es) X.env=(false,eval e X.env) ::starEach es X.env:=by rfl) (hplain:(backTo i8 (starEach es X.env)).any (·.1)=false:=by rfl) :
  PE X (.Call (.Attribute o name i4) (e ::es) [] i8) (tBM X.K T r to t):=by
 intro a6 s σ H Q I h;refine wpAny_Call_method_late A9 hfew B0 rfl (thn (ho a6 s σ H _ I h) fun v s1 ⟨x,H1,I1,r1,ty,q1⟩=>?_);obtain ⟨h1,h2⟩:=Zzh I1 r1 ty;refine ⟨T,id,pa,slot,hty,h1,h2,?_⟩;have hA:=ha i8 a6 s1 σ H1 _ I1 q1;rw [hs] at hA ⊢;refine Calls.callWith_builtin (by show (false || (backTo i8 (starEach es X.env)).any (·.1))=false;rw [hplain] <;>rfl) (Calls.evalArgs_plain ?_);exact thn hA fun us s2 ⟨vs,H2,I2,r2,q2⟩=>hm a6 s2 σ H2 x vs v us Q I2 r1 r2 q2
/- xs.append(e),list.index on a module's tuple .. are MtR facts of 06m -/
end
end L2
namespace L2
open PySem PySem.Spec PyProof.Rows
def MtM(X:Cx)(id:String)(r:V->List V->Hp->VK->Prop):Prop :=
 ∀(a6:List (Addr×Obj)) (s:Shared) (σ:St) (H:Hp) (x:V) (xs:List V) (v:Value) (us:List Value) (Q:VK),Inv X a6 σ H s->Yl x v->Yh xs us->r x xs H Q ->
  wpAny (model X.prog X.w) X.A (call (.builtin id) (v ::us)) (EP X a6 σ Q) X.xe s
theorem Yh.one{x:V}{us:List Value}(h:Yh [x] us):∃u,us=[u]/\Yl x u:=by
 cases h with
 | cons r t=>cases t;exact ⟨_,rfl,r⟩
theorem Yh.dropLast{xs:List V}{us:List Value}(h:Yh xs us):Yh xs.dropLast us.dropLast:=by
 induction h with
 | nil=>exact .nil
 | cons r t ih =>
  cases t with
  | nil=>exact .nil
  | cons q t'=>exact .cons r ih
theorem Yh.eraseIdx:∀{xs:List V} {us:List Value} (i:Nat),Yh xs us->Yh (xs.eraseIdx i) (us.eraseIdx i)
 | _,_,_,.nil=>.nil
 | _,_,0,.cons _ t=>t
 | _,_,i+1,.cons r t=>.cons r (Yh.eraseIdx i t)
theorem Zzf{α:Type}(l:List α):l.eraseIdx (l.length-1)=l.dropLast:=by
 induction l with
 | nil=>rfl
 | cons a r ih =>
  cases r with
  | nil=>rfl
  | cons b r =>
   have e:(a ::b ::r).length-1=((b ::r).length-1)+1:=by
    have h1:(a ::b ::r).length=r.length+2:=rfl;have h2:(b ::r).length=r.length+1:=rfl;lia
   rw [e,List.eraseIdx_cons_succ,ih]
   all_goals rfl
theorem Znw{α:Type}:∀(l:List α) (i:Nat),(l.eraseIdx i).length<=l.length
 | [],_=>Nat.le_refl _
 | _ ::_,0=>Nat.le_succ _
 | _ ::r,i+1=>Nat.succ_le_succ (Znw r i)
section
variable {X:Cx} {a6:List (Addr×Obj)} {σ:St} {H:Hp} {s:Shared} {l b:Addr} {xs ys zs:List V}
theorem Inv.lset{a7 its':List Value}{n:Nat}{f:Array Value->Array Value}{t':Nat}(I:Inv X a6 σ H s)(hH:H l=some (.lst xs))
  (e:s.heap.get? l=some { cls:=.type "list",data:=.seq a7.toArray n }) (hf:f a7.toArray=its'.toArray) (hv:Yh ys its') (hz:ys.length<=sizeLine) :
  Inv X a6 σ (upd H l (.lst ys)) { s with heap:=s.heap.update l (Obj.mapSeq f),toks:=t' }:=by
 have q:=PySem.IsL.update e f;rw [hf] at q;refine I.write (x:=l) (e:=l) (by rw [hH];exact trivial) (.inl rfl) (fun b' u hb hu=>(Heap.get?_update_other s.heap (Obj.mapSeq f) (Ne.symm hb)).trans hu) ⟨_,q⟩ ?_;exact ⟨hz,its',_,hv,q⟩
theorem Inv.lnew{a7:List Value}{t':Nat}(I:Inv X a6 σ H s)(hv:Yh ys a7)(hz:ys.length<=sizeLine) :
  Inv X a6 σ (upd H s.heap.objs.size (.lst ys)) { s with heap:=s.heap.push { cls:=.type "list",data:=.seq a7.toArray },toks:=t' } :=
 I.laid (fun _ _ q=>Heap.get?_push_of_some _ q) (Nat.le_refl _) ⟨hz,a7,0,hv,Heap.get?_push_size _ rfl⟩
theorem Inv.fresh(I:Inv X a6 σ H s):H s.heap.objs.size=none:=I.hok.fresh (Nat.le_refl _)
theorem Inv.lstM(I:Inv X a6 σ H s)(hH:H l=some (.lst xs)):xs.length<=sizeLine/\∃(a7:List Value) (n:Nat),Yh xs a7/\xs.length=a7.length/\s.heap.get? l=some { cls:=.type "list",data:=.seq a7.toArray n }:=by
 obtain ⟨z,a7,n,r,e⟩:=I.hok l _ hH;exact ⟨z,a7,n,r,r.length,e⟩
theorem Zws{n:Nat}(h:n<=sizeLine):Builtin.List.listTooLong n=false:=by
 unfold Builtin.List.listTooLong;exact decide_eq_false (by lia)
end
section
variable {X:Cx}
def Zxi:V->List V->Hp->VK->Prop:=fun x vs H Q=>∃l xs y,x=.ref l/\vs=[y]/\H l=some (.lst xs)/\xs.length<sizeLine/\Q .non (upd H l (.lst (xs++[y])))
theorem Xa:MtM X "list.append" Zxi:=by
 intro a6 s σ H x vs v us Q I rx rv h;obtain ⟨l,xs,y,rfl,rfl,hH,hz,q⟩:=h;cases rx;obtain ⟨u,rfl,ru⟩:=rv.one;obtain ⟨z,a7,n,r,hl,e⟩:=I.lstM hH;refine call_meets F.slot_list_append ⟨_,e,rfl⟩ F.entry_list_append (F.args_list_append_2 _ _) (PySem.list_append l a7.toArray n u (by rw [List.size_toArray];lia)) ⟨e,?_⟩;refine ⟨.non,_,I.lset (its':=a7++[u]) hH e (by simp) (r.append (.cons ru .nil)) ?_,rfl,q⟩;rw [List.length_append,List.length_singleton];lia
def Zyl:V->List V->Hp->VK->Prop:=fun x vs H Q=>∃l b xs zs,x=.ref l/\vs=[.ref b]/\H l=some (.lst xs)/\H b=some (.lst zs)/\xs.length+zs.length<=sizeLine/\Q .non (upd H l (.lst (xs++zs)))
theorem Yau:MtM X "list.extend" Zyl:=by
 intro a6 s σ H x vs v us Q I rx rv h;obtain ⟨l,b,xs,zs,rfl,rfl,hH,hB,hz,q⟩:=h;cases rx;obtain ⟨u,rfl,ru⟩:=rv.one;cases ru;obtain ⟨z,a7,n,r,hl,e⟩:=I.lstM hH;obtain ⟨z2,D5,n2,r2,D4,e2⟩:=I.lstM hB;have hsz:a7.toArray.size+D5.toArray.size<=sizeLine:=by rw [List.size_toArray,List.size_toArray];lia
 have hlong:¬(!a7.toArray.isEmpty && Builtin.List.listTooLong (a7.toArray.size+D5.toArray.size))=true:=by
  rw [Zws hsz,Bool.and_false];exact Bool.false_ne_true
 refine call_meets F.slot_list_extend ⟨_,e,rfl⟩ F.entry_list_extend (F.args_list_extend_2 _ _)
  (AutoSeq1.list_extend_list_list_0 l a7.toArray n b D5.toArray n2 hlong (by rw [List.size_toArray];lia) (by lia)) ⟨e,e2,?_⟩
 refine ⟨.non,_,I.lset (its':=a7++D5) hH e (by simp) (r.append r2) ?_,rfl,q⟩;rw [List.length_append];lia
def Yai:V->List V->Hp->VK->Prop:=fun x vs H Q=>∃l xs i k y,x=.ref l/\vs=[.int i]/\H l=some (.lst xs)/\-(2 ^ 63)<=i/\i<2 ^ 63/\seqIndex? i xs.length=some k/\xs[k]? =some y/\Q y (upd H l (.lst (xs.eraseIdx k)))
theorem Zq2:MtM X "list.pop" Yai:=by
 intro a6 s σ H x vs v us Q I rx rv h;obtain ⟨l,xs,i,k,y,rfl,rfl,hH,h1,h2,hk,hy,q⟩:=h;cases rx;obtain ⟨u,rfl,ru⟩:=rv.one;obtain ⟨t,rfl⟩:=ru;obtain ⟨z,a7,n,r,hl,e⟩:=I.lstM hH;obtain ⟨w,hw,E1⟩:=r.get hy;refine call_meets F.slot_list_pop ⟨_,e,rfl⟩ F.entry_list_pop (F.args_list_pop_2 _ _)
  (MeetsSeq.list_pop_at l a7.toArray n i t k w (fitsIndex_both h1 h2) (by rw [List.size_toArray,<-hl];exact hk) (by rw [<-Array.getElem?_toList];exact hw) (by rw [List.size_toArray];lia)) ⟨e,?_⟩
 refine ⟨y,_,I.lset (its':=a7.eraseIdx k) hH e ?_ (r.eraseIdx k) ?_,E1,q⟩
 ·show a7.toArray.eraseIdxIfInBounds k=(a7.eraseIdx k).toArray;rw [List.eraseIdxIfInBounds_toArray]
 ·have:=Znw xs k;lia
def Ycv:R2:=fun x y H Q=>∃l b xs zs,x=.ref l/\y=.ref b/\H l=some (.lst xs)/\H b=some (.lst zs)/\xs.length+zs.length<=sizeLine/\∀p,H p=none->Q (.ref p) (upd H p (.lst (xs++zs)))
theorem Yao:OpR X (binaryOp .Add) Ycv:=by
 intro a6 s σ H x y v u Q I rx ry h;obtain ⟨l,b,xs,zs,rfl,rfl,hH,hB,hz,q⟩:=h;cases rx;cases ry;obtain ⟨z,a7,n,r,hl,e⟩:=I.lstM hH;obtain ⟨z2,D5,n2,r2,D4,e2⟩:=I.lstM hB;refine PySem.P.add_list e e2 ?_ (by rw [List.size_toArray,List.size_toArray];lia);have ea:a7.toArray++D5.toArray=(a7++D5).toArray:=by simp
 rw [ea];exact ⟨.ref _,_,I.lnew (t':=s.toks) (r.append r2) (by rw [List.length_append];lia),rfl,q _ I.fresh⟩
end
section
variable {prog:Program} {w:World} {A:Around} {E:Value->Shared->Prop} {s:Shared}
end
section
variable {X:Cx}
end
end L2
namespace L2
open PySem PySem.Spec PyProof.Rows
section
variable {κ:Type} [DecidableEq κ]
def Y6(kvs:List (κ×V))(k:κ):Option V:=(kvs.find? fun kv=>decide (kv.1=k)).map (·.2)
def Wg(kvs:List (κ×V))(k:κ)(v:V):List (κ×V) :=
 if (kvs.any fun kv=>decide (kv.1=k))=true then kvs.map (fun kv=>if kv.1=k then (kv.1,v) else kv) else kvs++[(k,v)]
theorem Xu{p:κ×V}{r:List (κ×V)}{k:κ}(e:p.1=k):Y6 (p ::r) k=some p.2:=by simp [Y6,List.find?_cons,e]
theorem Xp{p:κ×V}{r:List (κ×V)}{k:κ}(e:¬p.1=k):Y6 (p ::r) k=Y6 r k:=by simp [Y6,List.find?_cons,e]
theorem Zb3(k:κ):∀kvs:List (κ×V),(kvs.any fun kv=>decide (kv.1=k))=(Y6 kvs k).isSome
 | []=>rfl
 | p ::r=>by
  rw [List.any_cons]
  by_cases e:p.1=k
  ·simp only [Xu e,decide_eq_true e,Bool.true_or,Option.isSome_some]
  ·rw [Xp e,decide_eq_false e,Bool.false_or];exact Zb3 k r
theorem Zrd(k j:κ)(y:V):∀kvs:List (κ×V),Y6 (kvs.map fun kv=>if kv.1=k then (kv.1,y) else kv) j=(Y6 kvs j).map fun x=>if j=k then y else x
 | []=>rfl
 | p ::r=>by
  have ih:=Zrd k j y r;rw [List.map_cons]
  by_cases h:p.1=k
  ·rw [if_pos h]
   by_cases e:p.1=j
   ·rw [Xu (p:=(p.1,y)) e,Xu e,Option.map_some,if_pos (e.symm.trans h)]
   ·rw [Xp (p:=(p.1,y)) e,Xp e,ih]
  ·rw [if_neg h]
   by_cases e:p.1=j
   ·rw [Xu (p:=p) e,Xu e,Option.map_some,if_neg (fun z=>h (e.trans z))]
   ·rw [Xp (p:=p) e,Xp e,ih]
theorem Zns(k j:κ)(y:V):∀kvs:List (κ×V),Y6 kvs k=none->Y6 (kvs++[(k,y)]) j=if j=k then some y else Y6 kvs j
 | [],_=>by
  by_cases e:k=j
  ·rw [if_pos e.symm];exact Xu (p:=(k,y)) e
  ·rw [if_neg (fun z=>e z.symm)];exact Xp (p:=(k,y)) e
 | p ::r,hn=>by
  rw [List.cons_append];have hk:¬p.1=k:=fun z=>by rw [Xu z] at hn;cases hn
  rw [Xp hk] at hn;have ih:=Zns k j y r hn
  by_cases e:p.1=j
  ·rw [Xu e,Xu e,if_neg (fun z=>hk (e.trans z))]
  ·rw [Xp e,Xp e,ih]
theorem Zw5(kvs:List (κ×V))(k j:κ)(y:V):Y6 (Wg kvs k y) j=if j=k then some y else Y6 kvs j:=by
 unfold Wg
 by_cases a:(kvs.any fun kv=>decide (kv.1=k))=true
 ·rw [if_pos a,Zrd];rw [Zb3] at a
  by_cases e:j=k
  ·obtain ⟨x,hx⟩:=Option.isSome_iff_exists.mp a;rw [if_pos e,e,hx,Option.map_some,if_pos rfl]
  ·rw [if_neg e];cases Y6 kvs j with
   | none=>rfl
   | some x=>rw [Option.map_some,if_neg e]
 ·rw [if_neg a];refine Zns k j y kvs ?_;rw [Zb3] at a;cases q:Y6 kvs k with
  | none=>rfl
  | some x=>rw [q] at a;exact (a rfl).elim
theorem Zbi(kvs:List (κ×V))(k:κ)(v:V):(Wg kvs k v).length<=kvs.length+1:=by
 unfold Wg;split
 ·rw [List.length_map];lia
 ·rw [List.length_append,List.length_cons,List.length_nil];lia
theorem Zki{kvs:List (κ×V)}{k:κ}(v:V)(h:Y6 kvs k=none):Wg kvs k v=kvs++[(k,v)]:=by
 unfold Wg;rw [Zb3,h];exact if_neg (by decide)
theorem Zdk.isSome_eq{o:Option V}{u:Option Value}(r:Zdk o u):o.isSome=u.isSome:=by
 cases o with
 | none=>cases u with
  | none=>rfl
  | some _=>exact (show False from r).elim
 | some _=>cases u with
  | none=>exact (show False from r).elim
  | some _=>rfl
theorem Zdk.getD{o:Option V}{u:Option Value}{d:V}{d':Value}(r:Zdk o u)(rd:Yl d d'):Yl (o.getD d) (u.getD d'):=by
 cases o with
 | none=>cases u with
  | none=>exact rd
  | some _=>exact (show False from r).elim
 | some _=>cases u with
  | none=>exact (show False from r).elim
  | some _=>exact r
theorem KV.val{kvs:List (κ×V)}{vs:List (κ×Value)}(r:KV kvs vs)(k:κ):Zdk (Y6 kvs k) (valueAt vs k):=by
 unfold KV at r
 induction r with
 | nil=>exact True.intro
 | @cons p q ps qs h t ih =>
  obtain ⟨h1,h2⟩:=h
  by_cases e:p.1=k
  ·have e':q.1=k:=h1.symm.trans e;have b:valueAt (q ::qs) k=some q.2:=by simp [valueAt,List.find?_cons,e']
   rw [Xu e,b];exact h2
  ·have e':¬q.1=k:=fun z=>e (h1.trans z)
   have b:valueAt (q ::qs) k=valueAt qs k:=by simp [valueAt,List.find?_cons,e']
   rw [Xp e,b];exact ih
theorem KV.any{kvs:List (κ×V)}{vs:List (κ×Value)}(r:KV kvs vs)(k:κ):(kvs.any fun kv=>decide (kv.1=k))=vs.any fun kv=>decide (kv.1=k):=by
 unfold KV at r
 induction r with
 | nil=>rfl
 | cons h t ih=>rw [List.any_cons,List.any_cons,ih,h.1]
theorem KV.repl{kvs:List (κ×V)}{vs:List (κ×Value)}(r:KV kvs vs)(k:κ){y:V}{u:Value}(ry:Yl y u) :
  KV (kvs.map fun kv=>if kv.1=k then (kv.1,y) else kv) (vs.map fun kv=>if kv.1=k then (kv.1,u) else kv):=by
 unfold KV at r ⊢
 induction r with
 | nil=>exact .nil
 | @cons p q ps qs h t ih =>
  rw [List.map_cons,List.map_cons];refine .cons ?_ ih;obtain ⟨h1,h2⟩:=h
  by_cases e:p.1=k
  ·rw [if_pos e,if_pos (h1.symm.trans e)];exact ⟨h1,ry⟩
  ·rw [if_neg e,if_neg (fun z=>e (h1.trans z))];exact ⟨h1,h2⟩
theorem KV.put{kvs:List (κ×V)}{vs:List (κ×Value)}(r:KV kvs vs)(k:κ){y:V}{u:Value}(ry:Yl y u):KV (Wg kvs k y) (stored vs k u):=by
 unfold Wg stored;rw [r.any k]
 by_cases e:(vs.any fun kv=>decide (kv.1=k))=true
 ·rw [if_pos e,if_pos e];exact r.repl k ry
 ·rw [if_neg e,if_neg e];exact Paired.snoc r ⟨rfl,ry⟩
theorem KV.length{kvs:List (κ×V)}{vs:List (κ×Value)}(r:KV kvs vs):kvs.length=vs.length:=Paired.length r
end
theorem Zi4{P:Program}{w:World}{k:Key}{u:Value}(r:Yl (kV k) u):(Z5 P w).is k u=true:=by
 cases k with
 | inl i=>obtain ⟨t,e⟩:=(show ∃t,u=Value.int i t from r);subst e;exact Zqt P w i t
 | inr x=>obtain ⟨t,e⟩:=(show ∃t,u=Value.str x t from r);subst e;exact Zqg P w x t
theorem Ziq{P:Program}{w:World}:∀{ks:List Key} {us:List Value},Yh (ks.map kV) us->ItemsAre (Z5 P w) ks us
 | [],_,r=>by rw [List.map_nil] at r;cases r;exact .nil
 | k ::ks,_,r=>by
  rw [List.map_cons] at r;cases r with
  | cons h t=>exact .cons (Zi4 h) (Ziq t)
abbrev KT(H:Hp):List (List Key×V)->List (List Key×Addr×Value)->Prop:=Paired fun p q=>p.1=q.1/\H q.2.1=some (.tup (p.1.map kV))/\Yl p.2 q.2.2
theorem KT.val{H:Hp}{kvs:List (List Key×V)}{xs:List (List Key×Addr×Value)}(r:KT H kvs xs)(k:List Key):Zdk (Y6 kvs k) ((atKey xs k).map (·.2)):=by
 induction r with
 | nil=>exact True.intro
 | @cons p q ps qs h t ih =>
  obtain ⟨h1,_,h2⟩:=h
  by_cases e:p.1=k
  ·have e':q.1=k:=h1.symm.trans e;have b:atKey (q ::qs) k=some q.2:=by simp [atKey,List.find?_cons,e']
   rw [Xu e,b];exact h2
  ·have e':¬q.1=k:=fun z=>e (h1.trans z)
   have b:atKey (q ::qs) k=atKey qs k:=by simp [atKey,List.find?_cons,e']
   rw [Xp e,b];exact ih
theorem KT.repl{H:Hp}{kvs:List (List Key×V)}{xs:List (List Key×Addr×Value)}(r:KT H kvs xs)(k:List Key){y:V}{u:Value}(ry:Yl y u) :
  KT H (kvs.map fun kv=>if kv.1=k then (kv.1,y) else kv) (xs.map (putAt k u)):=by
 induction r with
 | nil=>exact .nil
 | @cons p q ps qs h t ih =>
  rw [List.map_cons,List.map_cons];refine .cons ?_ ih;obtain ⟨h1,h2,h3⟩:=h;unfold putAt
  by_cases e:p.1=k
  ·rw [if_pos e,if_pos (h1.symm.trans e)];exact ⟨h1,h2,ry⟩
  ·rw [if_neg e,if_neg (fun z=>e (h1.trans z))];exact ⟨h1,h2,h3⟩
theorem KT.put{H:Hp}{kvs:List (List Key×V)}{xs:List (List Key×Addr×Value)}(r:KT H kvs xs)(k:List Key){b:Addr}{y:V}{u:Value}(hb:H b=some (.tup (k.map kV)))(ry:Yl y u) :
  KT H (Wg kvs k y) (storedH xs k b u):=by
 have e:(kvs.any fun kv=>decide (kv.1=k))=(atKey xs k).isSome:=by
  rw [Zb3,(r.val k).isSome_eq,Option.isSome_map]
 unfold Wg storedH;rw [e]
 by_cases q:(atKey xs k).isSome=true
 ·rw [if_pos q,if_pos q];exact r.repl k ry
 ·rw [if_neg q,if_neg q];exact Paired.snoc r ⟨rfl,hb,ry⟩
theorem KT.keeps{H H':Hp}{kvs:List (List Key×V)}{xs:List (List Key×Addr×Value)}(r:KT H kvs xs)(ht:∀b ys,H b=some (.tup ys)->H' b=some (.tup ys)):KT H' kvs xs :=
 Paired.mapP r fun _ _ z=>⟨z.1,ht _ _ z.2.1,z.2.2⟩
section
variable {P:Program} {w:World} {H:Hp} {h:Heap} {a:Addr}
theorem Zyy{u:HO}(ok:HOk P w H h)(e:Rd H a u):Yy P w H h a u:=e.ok ok
theorem Zcw{kvs:List (Key×V)}(ok:HOk P w H h)(e:Rd H a (.dK kvs)):kvs.length<=sizeLine/\(a ==sysModules)=false/\∃vs,KV kvs vs/\h.DictOf (Z5 P w) a vs :=
 show Yy P w H h a (.dK kvs) from Zyy ok e
theorem Zpt{kvs:List (Key×V)}(ok:HOk P w H h)(e:H a=some (.dK kvs)):kvs.length<=sizeLine/\(a ==sysModules)=false/\∃vs,KV kvs vs/\h.DictOf (Z5 P w) a vs:=Zcw ok (.inl e)
theorem Ziy{ks:List Key}(ok:HOk P w H h)(e:H a=some (.tup (ks.map kV))):(tupleKind (Z5 P w)).is h ks a:=by
 obtain ⟨_,a7,r,o,h1,h2,n,h3⟩:=(show Yy P w H h a (.tup (ks.map kV)) from ok a _ e)
 exact ⟨o,a7.toArray,n,h1,h2,h3,by simpa using Ziq r⟩
theorem Zll{kvs:List (List Key×V)}(ok:HOk P w H h)(e:Rd H a (.dT kvs)):kvs.length<=sizeLine/\(a ==sysModules)=false /\
  ∃xs,KT H kvs xs/\h.DictOfH (tupleKind (Z5 P w)) a xs:=by
 obtain ⟨z,y,xs,r,o,es,ep,h1,h2,h3,h4,h5⟩:=(show Yy P w H h a (.dT kvs) from Zyy ok e)
 refine ⟨z,y,xs,r,o,es,ep,h1,h2,h3,h4,fun x hx=>?_,h5⟩;have all:∀{l:List (List Key×V)} {m:List (List Key×Addr×Value)},KT H l m->∀x∈m,(tupleKind (Z5 P w)).is h x.1 x.2.1:=by
  intro l m q
  induction q with
  | nil=>intro x hx;exact nomatch hx
  | @cons p q ps qs hq t ih =>
   intro x hx;rcases List.mem_cons.mp hx with e|hx
   ·subst e;exact Ziy ok (by rw [<-hq.1];exact hq.2.1)
   ·exact ih x hx
 exact all r x hx
theorem Zyo{kvs:List (List Key×V)}(ok:HOk P w H h)(e:H a=some (.dT kvs)):kvs.length<=sizeLine/\(a ==sysModules)=false /\
  ∃xs,KT H kvs xs/\h.DictOfH (tupleKind (Z5 P w)) a xs:=Zll ok (.inl e)
end
def Wa(H:Hp)(a:Addr)(y:V)(r:Option V):Prop :=
 (∃kvs k,Rd H a (.dK kvs)/\y=kV k/\r=Y6 kvs k)\/∃kvs k b,Rd H a (.dT kvs)/\y=.ref b/\H b=some (.tup (k.map kV))/\r=Y6 kvs k
def Zfe(H:Hp)(a:Addr)(y v:V)(H':Hp):Prop :=
 (∃kvs k,H a=some (.dK kvs)/\y=kV k/\kvs.length<sizeLine/\H'=upd H a (.dK (Wg kvs k v))) \/
 ∃kvs k b,H a=some (.dT kvs)/\y=.ref b/\H b=some (.tup (k.map kV))/\kvs.length<sizeLine/\H'=upd H a (.dT (Wg kvs k v))
theorem Wa.k{H:Hp}{a:Addr}{kvs:List (Key×V)}{k:Key}(e:H a=some (.dK kvs)):Wa H a (kV k) (Y6 kvs k):=.inl ⟨kvs,k,.inl e,rfl,rfl⟩
theorem Wa.t{H:Hp}{a b:Addr}{kvs:List (List Key×V)}{k:List Key}(e:H a=some (.dT kvs))(eb:H b=some (.tup (k.map kV))):Wa H a (.ref b) (Y6 kvs k):=.inr ⟨kvs,k,b,.inl e,rfl,eb,rfl⟩
theorem Zfe.k{H:Hp}{a:Addr}{kvs:List (Key×V)}{k:Key}{v:V}(e:H a=some (.dK kvs))(hl:kvs.length<sizeLine):Zfe H a (kV k) v (upd H a (.dK (Wg kvs k v))):=.inl ⟨kvs,k,e,rfl,hl,rfl⟩
theorem Zfe.t{H:Hp}{a b:Addr}{kvs:List (List Key×V)}{k:List Key}{v:V}(e:H a=some (.dT kvs))(eb:H b=some (.tup (k.map kV)))(hl:kvs.length<sizeLine) :
  Zfe H a (.ref b) v (upd H a (.dT (Wg kvs k v))):=.inr ⟨kvs,k,b,e,rfl,eb,hl,rfl⟩
section
variable {X:Cx} {a6:List (Addr×Obj)} {σ:St} {H:Hp} {s:Shared} {a:Addr} {y v:V} {u r:Value} {o:Option V} {A:Around} {E:Value->Shared->Prop}
theorem Inv.big(I:Inv X a6 σ H s):sysModules<s.heap.objs.size:=by
 have h:mainGlobals<s.heap.objs.size:=(I.mod.glob.keeps I.bk).lt;exact Nat.lt_trans (by decide) h
theorem Zut{Q:Value->Shared->Prop}(hu:A.units+1<cLine)(I:Inv X a6 σ H s)(g:Wa H a y (some v))(ry:Yl y u)(h:∀w' s',Inv X a6 σ H s'->Yl v w'->Q w' s') :
  wpAny (model X.prog X.w) A (getItem (.ref a) u) Q E s:=by
 rcases g with ⟨kvs,k,e,ey,l⟩|⟨kvs,k,b,e,ey,eb,l⟩
 ·subst ey;obtain ⟨z,hd,vs,u9,dd⟩:=Zcw I.hok e;obtain ⟨w',hw,E1⟩:=Zdk.some_of (v:=v) (o:=valueAt vs k) (by rw [l];exact u9.val k);exact wpAny_getItem_of (Zi4 ry) dd.mapOf hw (h w' _ (I.tok _) E1)
 ·subst ey;cases (show u=Value.ref b from ry);obtain ⟨z,hd,xs,u9,dd⟩:=Zll I.hok e;obtain ⟨w',hw,E1⟩:=Zdk.some_of (v:=v) (o:=(atKey xs k).map (·.2)) (by rw [l];exact u9.val k);obtain ⟨p,hp,hp2⟩:=Option.map_eq_some_iff.mp hw;refine wpAny_getItem_heap (tupleKind_room_in1 hu) (Ziy I.hok eb) dd hp ?_;rw [hp2];exact h w' _ (I.tok _) E1
theorem Yc0{Q:Value->Shared->Prop}(hu:A.units+1<cLine)(I:Inv X a6 σ H s)(g:Wa H a y o)(ry:Yl y u)(h:∀s',Inv X a6 σ H s'->Q (.bool o.isSome) s') :
  wpAny (model X.prog X.w) A (compareOp .In u (.ref a)) Q E s:=by
 rcases g with ⟨kvs,k,e,ey,l⟩|⟨kvs,k,b,e,ey,eb,l⟩
 ·subst ey;obtain ⟨z,hd,vs,u9,dd⟩:=Zcw I.hok e;refine wpAny_in_of (Zi4 ry) hd dd.mapOf ?_;rw [<-(u9.val k).isSome_eq,<-l];exact h _ (I.tok _)
 ·subst ey;cases (show u=Value.ref b from ry);obtain ⟨z,hd,xs,u9,dd⟩:=Zll I.hok e;refine wpAny_in_heap (tupleKind_room_in1 hu) (Ziy I.hok eb) hd dd ?_;have q:=(u9.val k).isSome_eq;rw [Option.isSome_map] at q;rw [<-q,<-l];exact h _ (I.tok _)
theorem Zyd{Q:Value->Shared->Prop}(hu:A.units+1<cLine)(I:Inv X a6 σ H s)(g:Wa H a y o)(ry:Yl y u)(h:∀s',Inv X a6 σ H s'->Q (.bool (!o.isSome)) s') :
  wpAny (model X.prog X.w) A (compareOp .NotIn u (.ref a)) Q E s:=by
 rcases g with ⟨kvs,k,e,ey,l⟩|⟨kvs,k,b,e,ey,eb,l⟩
 ·subst ey;obtain ⟨z,hd,vs,u9,dd⟩:=Zcw I.hok e;refine wpAny_notIn_of (Zi4 ry) hd dd.mapOf ?_;rw [<-(u9.val k).isSome_eq,<-l];exact h _ (I.tok _)
 ·subst ey;cases (show u=Value.ref b from ry);obtain ⟨z,hd,xs,u9,dd⟩:=Zll I.hok e;refine wpAny_notIn_heap (tupleKind_room_in1 hu) (Ziy I.hok eb) hd dd ?_;have q:=(u9.val k).isSome_eq;rw [Option.isSome_map] at q;rw [<-q,<-l];exact h _ (I.tok _)
theorem Zpf{h':Heap}{t':Nat}{ob:HO}(I:Inv X a6 σ H s)(mu:Mut (H a))(hs:Heap.SameBut a s.heap h')(he:∃q,h'.get? a=some q)(new:Yy X.prog X.w (upd H a ob) h' a ob) :
  Inv X a6 σ (upd H a ob) { s with heap:=h',toks:=t' } :=
 I.write (x:=a) (e:=a) mu (.inl rfl) (fun b q hb z=>(hs.2 b hb).trans z) he new
theorem Zrw{P:Program}{w:World}{H':Hp}{h':Heap}{kvs:List (Key×V)}{vs:List (Key×Value)}(z:kvs.length<=sizeLine)(hd:(a ==sysModules)=false)(u9:KV kvs vs)(dd:h'.DictOf (Z5 P w) a vs) :
  Yy P w H' h' a (.dK kvs):=⟨z,hd,vs,u9,dd⟩
theorem Ztv{H':Hp}{Q:Unit->Shared->Prop}(hu:A.units+1<cLine)(I:Inv X a6 σ H s)(g:Zfe H a y v H')(ry:Yl y u)(rv:Yl v r)(h:∀s',Inv X a6 σ H' s'->Q () s') :
  wpAny (model X.prog X.w) A (setItem (.ref a) u r) Q E s:=by
 rcases g with ⟨kvs,k,e,ey,l,eH⟩|⟨kvs,k,b,e,ey,eb,l,eH⟩
 ·subst ey eH;obtain ⟨z,hd,vs,u9,dd⟩:=Zpt I.hok e;have hz:vs.length<=sizeLine:=by rw [<-u9.length];exact z
  have hl:(Wg kvs k v).length<=sizeLine:=by have:=Zbi kvs k v;lia
  refine wpAny_setItem_pairs (hsz:=hz) (Zi4 ry) dd fun h' dd' hs=>h _ ?_
  have he:∃q,h'.get? a=some q:=let ⟨q,_,_,hq,_⟩:=dd';⟨q,hq⟩;exact Zpf I (by rw [e];exact True.intro) hs he (Zrw hl hd (u9.put k rv) dd')
 ·subst ey eH;cases (show u=Value.ref b from ry);obtain ⟨z,hd,xs,u9,dd⟩:=Zyo I.hok e;have hz:xs.length<=sizeLine:=by rw [<-Paired.length u9];exact z
  have hl:(Wg kvs k v).length<=sizeLine:=by have:=Zbi kvs k v;lia
  refine wpAny_setItem_heap (hsz:=hz) (tupleKind_room_in1 hu) (Ziy I.hok eb) dd fun h' dd' hs=>h _ ?_
  obtain ⟨q,es,ep,hq,h2,h3,h4,_,h5⟩:=dd';refine Zpf I (by rw [e];exact True.intro) hs ⟨q,hq⟩ ⟨hl,hd,_,(u9.put k eb rv).keeps fun c ys ec=>?_,q,es,ep,hq,h2,h3,h4,h5⟩;rw [Ze (Zzd ec e (fun z=>nomatch z))];exact ec
end
section
variable {X:Cx} {a6:List (Addr×Obj)} {σ:St} {H:Hp} {s:Shared} {a:Addr} {kvs:List (Key×V)} {k:Key} {u:Value} {A:Around} {E:Value->Shared->Prop}
theorem Ybm{Q:Value->Shared->Prop}(I:Inv X a6 σ H s)(e:Rd H a (.dK kvs))(h:∀t s',Inv X a6 σ H s'->Q (.int kvs.length t) s'):wpAny (model X.prog X.w) A (call (.builtin "len") [.ref a]) Q E s:=by
 obtain ⟨z,hd,vs,u9,dd⟩:=Zcw I.hok e;refine call_len_dict hd dd (by rw [<-u9.length];rw [sizeLine_eq] at z;lia) ?_;rw [<-u9.length];exact h _ _ (I.tok _)
end
def Yb0(i:Expr):Prop:=∀ov iv,subscripted i false ov iv=operate [ov,iv] (getItem ov iv)
theorem Zyc{prog:Program}{w:World}{A:Around}{E:Value->Shared->Prop}{s:Shared}{env:Env}{value slice:Expr}{pos:Pos}{T id:String}{Q:Value->Shared->Prop}
  (hl:typeLookup (.type T) "__getitem__" =pure (some (.builtin id))) (hs:Yb0 slice)
  (h:wpAny (model prog w) A (eval value env) (fun o s₁=>wpAny (model prog w) A (eval slice env) (fun i s₂=>s₂.TypeIs o T/\wpAny (model prog w) A (getItem o i) Q E s₂) E s₁) E s) :
  wpAny (model prog w) A (eval (.Subscript value slice pos) env) Q E s:=by
 refine Subscript_ (wpAny_mono h (fun o s₁ h₁=>wpAny_mono h₁ (fun i s₂ h₂=>?_) fun _ _ x=>x) fun _ _ x=>x);obtain ⟨hT,h₂⟩:=h₂;unfold subscriptTail;refine wpAny_bind ?_;rw [getitemInPython_of_ne hT.not_modules];refine wpAny_bind (wpAny_specialOf hT hl ?_);have fin:wpAny (model prog w) A (subscripted slice false o i) (fun r s₃=>wpAny (model prog w) A (letTemporaryGo value o r >>=fun _=>pure r) Q E s₃) E s₂:=by
  rw [hs o i];exact wpAny_operating (wpAny_mono h₂ (fun r s₃ h₃=>wpAny_bind (wpAny_letTemporaryGo (wpAny_pure h₃))) fun _ _ x=>x)
 first
  | exact wpAny_pure (wpAny_bind fin)
  | exact wpAny_bind (wpAny_pure (wpAny_bind fin))
  | exact wpAny_bind fin
theorem Zqn{X:Cx}{a6:List (Addr×Obj)}{σ:St}{H:Hp}{s:Shared}{a:Addr}{y:V}{o:Option V}(I:Inv X a6 σ H s)(g:Wa H a y o):s.TypeIs (.ref a) "dict" :=by
 rcases g with ⟨kvs,k,e,_,_⟩|⟨kvs,k,b,e,_,_,_⟩
 ·obtain ⟨_,_,vs,_,dd⟩:=Zcw I.hok e;exact dd.typeIs
 ·obtain ⟨_,_,xs,_,dd⟩:=Zll I.hok e;exact dd.typeIs
def Ybg(td ty:TE):TE:=fun σ H Q=>td σ H fun x H1=>ty σ H1 fun y H2=>∃a v,x=.ref a/\Wa H2 a y (some v)/\Q v H2
def Yb4(td ty tv:TE):TS:=fun D σ H=>tv σ H fun v H1=>td σ H1 fun x H2=>ty σ H2 fun y H3=>∃a H4,x=.ref a/\Zfe H3 a y v H4/\D.nx σ H4
section
variable {X:Cx} {o i e value:Expr} {pos w9 Q3:Pos} {td ty tv:TE}
theorem Xz(hu:X.A.units+1<cLine)(ho:PE X o td)(hi:PE X i ty)(hs:Yb0 i):PE X (.Subscript o i pos) (Ybg td ty):=by
 intro a6 s σ H Q I h;refine Zyc PySem.F.slot_dict_getitem.lookup hs (thn (ho a6 s σ H _ I h) fun u s1 ⟨x,H1,I1,rx,q1⟩=>thn (hi a6 s1 σ H1 _ I1 q1) fun iv s2 ⟨y,H2,I2,ry,a,v,ex,g,q2⟩=>?_);subst ex;obtain rfl:u=Value.ref a:=rx;exact ⟨Zqn I2 g,Zut hu I2 g ry fun w' s3 I3 E1=>⟨v,H2,I3,E1,q2⟩⟩
theorem Zad(hu:X.A.units+1<cLine)(ho:PE X o td)(hi:PE X i ty)(hv:PE X value tv)(hs:swapsWith value (some (.Subscript o i w9)) pos.line X.env=pure false) :
  PS X (.Assign [.Subscript o i w9] value pos) (Yb4 td ty tv):=by
 intro a6 s σ H D I h;refine wpAny_Assign_Subscript (thn (hv a6 s σ H _ I h) fun r s1 ⟨v,H1,I1,rv,q1⟩=>thn (ho a6 s1 σ H1 _ I1 q1) fun u s2 ⟨x,H2,I2,rx,q2⟩=>thn (hi a6 s2 σ H2 _ I2 q2) fun iv s3 ⟨y,H3,I3,ry,a,H4,ex,g,q3⟩=>?_) hs;subst ex;obtain rfl:u=Value.ref a:=rx;exact Ztv hu I3 g ry rv fun s4 I4=>⟨σ,H4,I4,q3⟩
end
theorem Zp1{P:Program}{w:World}{H:Hp}(h:Heap)(hb:sysModules<h.objs.size):Yy P w H (h.push { cls:=.type "dict",data:=.dict #[] }) h.objs.size (.dK []) :=
 ⟨Nat.zero_le _,beq_eq_false_iff_ne.mpr (Ne.symm (Nat.ne_of_lt hb)),[],.nil,Heap.DictOf.new h⟩
theorem Zv4{P:Program}{w:World}{H:Hp}(h:Heap)(hb:sysModules<h.objs.size):Yy P w H (h.push { cls:=.type "dict",data:=.dict #[] }) h.objs.size (.dT []) :=
 ⟨Nat.zero_le _,beq_eq_false_iff_ne.mpr (Ne.symm (Nat.ne_of_lt hb)),[],.nil,_,#[],0,Heap.get?_push_size _ rfl,⟨rfl,rfl,rfl⟩,rfl,rfl,List.nodup_nil⟩
def Yab:TE:=fun _ H Q=>∀p,H p=none->Q (.ref p) (upd H p (.dK []))
def Yad:TE:=fun _ H Q=>∀p,H p=none->Q (.ref p) (upd H p (.dT []))
section
variable {X:Cx} {pos:Pos}
theorem Zu6:PE X (.Dict [] [] pos) Yab:=fun a6 s σ H Q I h =>
 wpAny_Dict_empty ⟨.ref s.heap.objs.size,_,I.laid (a:=s.heap.objs.size) (o:=.dK []) (t':=s.toks) (fun _ _ q=>Heap.get?_push_of_some _ q) (Nat.le_refl _) (Zp1 s.heap I.big),rfl,h _ (I.hok.fresh (Nat.le_refl _))⟩
theorem Zvw:PE X (.Dict [] [] pos) Yad:=fun a6 s σ H Q I h =>
 wpAny_Dict_empty ⟨.ref s.heap.objs.size,_,I.laid (a:=s.heap.objs.size) (o:=.dT []) (t':=s.toks) (fun _ _ q=>Heap.get?_push_of_some _ q) (Nat.le_refl _) (Zv4 s.heap I.big),rfl,h _ (I.hok.fresh (Nat.le_refl _))⟩
end
def Zrp:List (TE×TE)->St->Hp->(List (V×V)->Hp->Prop)->Prop
 | [],_,H,Q=>Q [] H
 | (tk,tv) ::r,σ,H,Q=>tk σ H fun x H1=>tv σ H1 fun y H2=>Zrp r σ H2 fun ps H3=>Q ((x,y) ::ps) H3
abbrev VV:List (V×V)->List (Value×Value)->Prop:=Paired fun p q=>Yl p.1 q.1/\Yl p.2 q.2
def PPs(X:Cx)(pos:Pos)(keys:List (Option Expr))(B1:List Expr)(trs:List (TE×TE)):Prop :=
 ∀(a6:List (Addr×Obj)) (s:Shared) (σ:St) (H:Hp) (Q:List (V×V)->Hp->Prop),Inv X a6 σ H s->Zrp trs σ H Q ->
  wpAny (model X.prog X.w) X.A (evalPairs (pairTrees keys B1 X.env pos)) (fun vs s'=>∃ps H',Inv X a6 σ H' s'/\VV ps vs/\Q ps H') X.xe s
theorem Zkf{X:Cx}{pos:Pos}:PPs X pos [] [] []:=fun a6 s σ H Q I h=>pairTrees_nil_walk ⟨[],H,I,.nil,h⟩
theorem Zap{X:Cx}{pos:Pos}{k v:Expr}{ks:List (Option Expr)}{vs:List Expr}{tk tv:TE}{trs:List (TE×TE)}(hk:PE X k tk)(hv:PE X v tv)(hr:PPs X pos ks vs trs) :
  PPs X pos (some k ::ks) (v ::vs) ((tk,tv) ::trs):=fun a6 s σ H Q I h =>
 pairTrees_cons_walk (thn (hk a6 s σ H _ I h) fun u s1 ⟨x,H1,I1,rx,q1⟩=>thn (hv a6 s1 σ H1 _ I1 q1) fun w2 s2 ⟨y,H2,I2,ry,q2⟩ =>
  thn (hr a6 s2 σ H2 _ I2 q2) fun ws s3 ⟨ps,H3,I3,u9,q3⟩=>⟨(x,y) ::ps,H3,I3,.cons ⟨rx,ry⟩ u9,q3⟩)
def Ze9(kvs more:List (Key×V)):List (Key×V):=more.foldl (fun B5 kv=>Wg B5 kv.1 kv.2) kvs
theorem KV.merge:∀{more:List (Key×V)} {rs:List (Key×Value)} {kvs:List (Key×V)} {vs:List (Key×Value)},KV more rs->KV kvs vs->KV (Ze9 kvs more) (merged vs rs):=by
 intro more rs kvs vs r;unfold KV at r
 induction r generalizing kvs vs with
 | nil=>intro q;exact q
 | @cons p q ps qs h t ih =>
  intro r0;have e:KV (Wg kvs p.1 p.2) (stored vs q.1 q.2):=by
   have:=r0.put p.1 h.2;rw [<-h.1];exact this
  exact ih e
theorem Zf8:∀(more kvs:List (Key×V)),(Ze9 kvs more).length<=kvs.length+more.length
 | [],kvs=>by show kvs.length<=kvs.length+0;lia
 | p ::r,kvs=>by
  have h1:=Zf8 r (Wg kvs p.1 p.2);have h2:=Zbi kvs p.1 p.2;show (Ze9 (Wg kvs p.1 p.2) r).length<=_;rw [List.length_cons];lia
theorem Zlr{P:Program}{w:World}:∀{kvs:List (Key×V)} {ws:List (Value×Value)},VV (kvs.map fun kv=>(kV kv.1,kv.2)) ws->∃rs,Carries (Z5 P w) ws rs/\KV kvs rs
 | [],_,r=>by rw [List.map_nil] at r;cases r;exact ⟨[],True.intro,.nil⟩
 | p ::kvs,_,r=>by
  rw [List.map_cons] at r;cases r with
  | @cons a b as bs h t =>
   obtain ⟨rs,c,q⟩:=Zlr (P:=P) (w:=w) t;obtain ⟨b1,b2⟩:=b;exact ⟨(p.1,b2) ::rs,⟨Zi4 h.1,rfl,c⟩,.cons ⟨rfl,h.2⟩ q⟩
def Zy9(trs:List (TE×TE)):TE:=fun σ H Q=>∀p,H p=none->Zrp trs σ (upd H p (.dK [])) fun ps H2=>H2 p=some (.dK [])/\∃kvs:List (Key×V),ps=kvs.map (fun kv=>(kV kv.1,kv.2))/\kvs.length<=15/\Q (.ref p) (upd H2 p (.dK (Ze9 [] kvs)))
theorem Zkg{X:Cx}{pos:Pos}{keys:List (Option Expr)}{B1:List Expr}{trs:List (TE×TE)}(h:PPs X pos keys B1 trs)(m8:keys.all (·.isSome)=true)(hl:keys.length=B1.length)(h0:keys≠[])
  (h15:keys.length<=15):PE X (.Dict keys B1 pos) (Zy9 trs):=by
 intro a6 s σ H Q I q;have hn:=I.hok.fresh (Nat.le_refl s.heap.objs.size);have I1:=I.laid (a:=s.heap.objs.size) (o:=.dK []) (h':=s.heap.push { cls:=.type "dict",data:=.dict #[] }) (t':=s.toks) (fun _ _ q=>Heap.get?_push_of_some _ q) (Nat.le_refl _) (Zp1 s.heap I.big);refine wpAny_Dict_walk (knd:=Z5 X.prog X.w) m8 hl h0 h15 (thn (h a6 _ σ _ _ I1 (q _ hn)) fun ws s2 ⟨ps,H2,I2,u9,e,kvs,ep,lk,q2⟩=>?_);subst ep;obtain ⟨rs,c,rk⟩:=Zlr (P:=X.prog) (w:=X.w) u9;obtain ⟨z,hd,vs0,r0,dd⟩:=Zpt I2.hok e;cases r0;refine ⟨rs,c,dd,fun h' dd' hs=>⟨.ref s.heap.objs.size,_,?_,rfl,q2⟩⟩;have hz:(Ze9 [] kvs).length<=sizeLine:=by
  have h1:=Zf8 kvs [];rw [List.length_nil] at h1;rw [sizeLine_eq];lia
 have he:∃q,h'.get? s.heap.objs.size=some q:=let ⟨q,_,_,hq,_⟩:=dd';⟨q,hq⟩;exact Zpf I2 (by rw [e];exact True.intro) hs he (Zrw hz hd (rk.merge .nil) dd')
structure M2(X:Cx)(o:Expr)(m:Str)(i4:Pos)(e f:Expr)(i8:Pos):Prop where
 base:attributeBase o m X.env (eval o X.env)=eval o X.env
 few:((backTo i8 (starEach [e,f] X.env)).all (fun x=>!x.1) && (backToKw i8 (keywordEach [] X.env)).all (fun x=>x.1.isSome)
  && decide (([e,f]:List Expr).length+([]:List Keyword).length+(if ([]:List Keyword).isEmpty then 0 else 1)<30))=true
 line:(i4.endLine ==i8.line)=true
 trees:backTo i8 (starEach [e,f] X.env)=[(false,eval e X.env),(false,eval f X.env)]
def IsD(H:Hp)(a:Addr):Prop:=(∃kvs,Rd H a (.dK kvs))\/∃kvs,Rd H a (.dT kvs)
theorem Zzq{X:Cx}{a6:List (Addr×Obj)}{σ:St}{H:Hp}{s:Shared}{a:Addr}(I:Inv X a6 σ H s)(d:IsD H a) :
  s.TypeIs (.ref a) "dict" /\(∀b,Value.ref a=.ref b->∃ob,s.heap.get? b=some ob/\ob.dict=none)/\(a ==sysModules)=false:=by
 rcases d with ⟨kvs,e⟩|⟨kvs,e⟩
 ·obtain ⟨_,hd,vs,_,dd⟩:=Zcw I.hok e;refine ⟨dd.typeIs,fun b q=>?_,hd⟩;cases q;obtain ⟨ob,_,_,h1,h2,_⟩:=dd;exact ⟨ob,h1,h2.2.1⟩
 ·obtain ⟨_,hd,xs,_,dd⟩:=Zll I.hok e;refine ⟨dd.typeIs,fun b q=>?_,hd⟩;cases q;obtain ⟨ob,_,_,h1,h2,_⟩:=dd;exact ⟨ob,h1,h2.2.1⟩
section
variable {X:Cx} {a6:List (Addr×Obj)} {σ:St} {H:Hp} {s:Shared} {a:Addr} {y d:V} {u r:Value} {o:Option V} {A:Around} {E:Value->Shared->Prop}
theorem Zzv{Q:Value->Shared->Prop}(hu:A.units+1<cLine)(I:Inv X a6 σ H s)(g:Wa H a y o)(ry:Yl y u)(rd:Yl d r)(h:∀w' s',Inv X a6 σ H s'->Yl (o.getD d) w'->Q w' s') :
  wpAny (model X.prog X.w) A (call (.builtin "dict.get") [.ref a,u,r]) Q E s:=by
 rcases g with ⟨kvs,k,e,ey,l⟩|⟨kvs,k,b,e,ey,eb,l⟩
 ·subst ey;obtain ⟨z,hd,vs,u9,dd⟩:=Zcw I.hok e;refine call_meetsIn PySem.F.slot_dict_get dd.typeIs PySem.F.entry_dict_get (PySem.F.args_dict_get_3 _ _ _) (meets_dict_get_default (Z5 X.prog X.w) a (Zi4 ry) hd r) ⟨_,dd.mapOf,h _ _ (I.tok _) ?_⟩;rw [l];exact (u9.val k).getD rd
 ·subst ey;cases (show u=Value.ref b from ry);obtain ⟨z,hd,xs,u9,dd⟩:=Zll I.hok e;refine call_meetsIn PySem.F.slot_dict_get dd.typeIs PySem.F.entry_dict_get (PySem.F.args_dict_get_3 _ _ _) (meetsH_dict_get_default (tupleKind (Z5 X.prog X.w)) a b hd r) ⟨tupleKind_room_in1 hu,k,xs,Ziy I.hok eb,dd,h _ _ (I.tok _) ?_⟩;rw [l];exact (u9.val k).getD rd
end
def Zzg(td ty tx:TE):TE:=fun σ H Q=>td σ H fun x H1=>∃a,x=.ref a/\IsD H1 a/\ty σ H1 fun y H2=>tx σ H2 fun z H3=>∃o,Wa H3 a y o/\Q (o.getD z) H3
section
variable {X:Cx} {o e f:Expr} {i4 i8:Pos} {td ty tx:TE}
theorem Zb4(hu:X.A.units+1<cLine)(ho:PE X o td)(he:PE X e ty)(hf:PE X f tx) (m:M2 X o "get" i4 e f i8):PE X (.Call (.Attribute o "get" i4) [e,f] [] i8) (Zzg td ty tx):=by
 intro a6 s σ H Q I h;refine wpAny_Call_method m.base m.few m.line PySem.F.plainAttrs_dict PySem.F.slot_dict_get PySem.F.type_dict_get (thn (ho a6 s σ H _ I h) fun u s1 ⟨x,H1,I1,rx,a,ex,d,q1⟩=>?_);subst ex;obtain rfl:u=Value.ref a:=rx;obtain ⟨t1,t2,_⟩:=Zzq I1 d;refine ⟨t1,t2,?_⟩;rw [m.trees];refine Calls.callWith_builtin rfl (Calls.evalArgs_plain (Calls.spliced_cons (thn (he a6 s1 σ H1 _ I1 q1) fun iv s2 ⟨y,H2,I2,ry,q2⟩ =>
  Calls.spliced_cons (thn (hf a6 s2 σ H2 _ I2 q2) fun fv s3 ⟨z,H3,I3,rz,ov,g,q3⟩=>Calls.spliced_nil ?_))))
 exact Zzv hu I3 g ry rz fun w' s4 I4 E1=>⟨_,H3,I4,E1,q3⟩
end
section
variable {X:Cx} {a6:List (Addr×Obj)} {σ:St} {H:Hp} {s:Shared} {a:Addr} {kvs:List (Key×V)} {A:Around} {E:Value->Shared->Prop}
end
section
variable {X:Cx} {a6:List (Addr×Obj)} {σ:St} {H:Hp} {s:Shared} {a:Addr} {y:V} {u:Value} {A:Around} {E:Value->Shared->Prop}
end
end L2
namespace Att
open PySem PySem.W PySem.Calls PyProof.Rows
theorem Zjg{P:Params}{h:Heap}:∀(ns:List Int) (vs:List Value),WellAll P h vs (ns.map WData.int)->IntsAre vs ns:=by
 intro ns
 induction ns with
 | nil =>
  intro vs w;rw [List.map_nil] at w;cases w;exact .nil
 | cons n ns ih =>
  intro vs w;rw [List.map_cons] at w;cases w with
  | cons a b =>
   cases a;exact .cons _ _ (ih _ b)
theorem Zu5{l:OpenLaw}{n:Nat}(hn:l.most=some n){P:Params}{h:Heap}{args:List WData}{vals:List Value}
  (S5:l.row.toRowW.claim.pre args=true) (hwl:WellAll P h vals args) :
  ∃a vs ns,vals=[Value.ref a]/\args=[WData.list (ns.map WData.int)]/\h.get? a=some { cls:=.type "list",data:=.seq vs.toArray }/\IntsAre vs ns/\ns.length<=n:=by
 have hsh:WShape.hasAll [] args [.list .int]=true:=(pre_splitW S5).1;have hc:l.pre.holds [] { args:=args }=true:=(pre_splitW S5).2;obtain ⟨d,r,rfl,h1,h2⟩:=hasAllW_cons hsh;obtain rfl:=hasAllW_nil h2;obtain ⟨xs,rfl,h3⟩:=hasW_list h1;obtain ⟨ns,rfl⟩:=items_int h3;have d5:ns.length<=n:=by
  unfold OpenLaw.pre at hc;have h4:(WTm.not (.lt (.lit (.int (n:Int))) (.len (.arg 0)))).holds [] { args:=[.list (ns.map .int)] }=true:=by
   have h4:=(holds_andW hc).1;rw [hn] at h4;exact h4
  have h5:=condW_of h4 (w_not (w_lt w_lit (w_len_list (w_arg rfl))));rw [List.length_map] at h5;refine Nat.le_of_not_lt fun q=>?_
  have q':(n:Int)<((ns.length:Nat):Int):=by lia
  first
   | (rw [decide_eq_true q'] at h5;exact absurd h5 (by decide))
   | (simp at h5;lia)
 cases hwl with
 | cons w1 w2 =>
  cases w2;cases w1 with
  | list ho m8=>exact ⟨_,_,ns,rfl,rfl,ho,Zjg ns _ m8,d5⟩
theorem Zt8(l:OpenLaw)(args:List WData):l.row.toRowW.claim.post args (.bool true) args=true :=
 postW_of (r:=l.row.toRowW) (X:=(true ==true))
  (show WShape.has [] (.bool true) .bool=true by first | rfl | decide | simp [WShape.has,WShape.arms,WShape.armsAll])
  (show (WTm.eq .res (.lit (.bool true))).value [] { args:=args,res:=some (.bool true),after:=args }=some (.bool (true ==true)) from w_eq_bool (w_res rfl) w_lit) rfl
theorem attach_call{l:OpenLaw}{n:Nat}{q:Program}{C1:List Str}{XP:(Str->Option Value)->Heap->Prop}{YP:World->Heap->Prop}{d:DefRec}
  (hn:l.most=some n) (hdf:d.params.defaults=[])
  (call:∀(w:World) (s₀ s₁:Shared) (mg mb:Str->Option Value) (fa:Addr) (o:Obj) (pm cd i5:Value) (a:Addr) (vs:List Value) (ns:List Int),
   Ground q C1 [] XP w s₀ mg mb s₁.heap->YP w s₁.heap ->
   s₁.heap.get? fa=some o->o.data=.func (docDef d.name d.params d.body d.scope pm cd i5)->s₁.heap.CodeRec cd d.name->mg d.name=some (.ref fa) ->
   s₁.heap.get? a=some { cls:=.type "list",data:=.seq vs.toArray }->IntsAre vs ns->ns.length<=n->s₁.gens=#[] ->
   codeAny (model l.prog w) callerA (.call (.ref fa) ⟨[.ref a],[]⟩) (fun r s'=>r=.ok (.ret (.bool true))/\OldK s₁.heap s'.heap/\s'.os=s₁.os/\AllBare s'.gens) s₁) :
  WalkO q C1 XP YP l.row.toRowW d [] (fun f vs=>PySem.call f vs):=by
 intro w s₀ s₁ mg mb G Y fa o pm cd i5 dV kV ho hd E9 hD hmg hg args vals as S5 hlay hrd hwl hlo;obtain rfl:dV=.none:=Dflts.none hD hdf;obtain rfl:kV=.none:=Dflts.noKw hD;obtain ⟨a,vs,ns,rfl,rfl,hobj,O0,d5⟩:=Zu5 hn S5 hwl;refine enter_call (codeAny_mono (call w s₀ s₁ mg mb fa o pm cd i5 a vs ns G Y ho (fd_plain hd) E9 hmg hobj O0 d5 hg) fun r s' hq=>?_);obtain ⟨rfl,h2,h3,h4⟩:=hq;exact ⟨.inl ⟨.bool true,.bool true,[],rfl,fun _=>rfl,.bool true,Zt8 l _,fun _=>⟨List.Pairwise.nil,fun _ hm=>(nomatch hm)⟩⟩,h2,h3,h4⟩
section
variable {prog:Program} {w:World} {A:Around} {E:Value->Shared->Prop} {s:Shared} {K:Frag}
def Ycw(h:Heap)(L d:Addr):List (Addr×Obj):=(List.range h.objs.size).filterMap fun a=>if a=L\/a=d then none else (h.get? a).map fun o=>(a,o)
end
end Att
namespace L2
open PySem PySem.Spec PyProof.Rows
theorem Znq:∀{vs:List Value} {ns:List Int},IntsAre vs ns->Yh (ns.map V.int) vs
 | _,_,.nil=>.nil
 | _,_,.cons n t h=>.cons ⟨t,rfl⟩ (Znq h)
end L2
namespace L2
open PySem PySem.Spec PyProof.Rows
end L2
/- THE LAST THEOREM (shape;LID,My.* are yours):
   My.Adr:a structure of the addresses that your layer names (classes,functions);My.Txt K t:a structure (Prop) of the equations over K;
   My.txt_mk:{K} {implicit addresses ..} (e1:nsIn K mainGlobals "law" =some (some (.ref f))) (e2:K.lookup f=some ⟨oc,od,.func (fnOf "law" "law" params body scope dV kV i5 pm an a8 ct),sl⟩) (e3:codeIn K a8 "law" =true) .. :∃t,My.Txt K t
(the tactic k_is has no namespace:write k_is) -/
namespace L2
open PySem PySem.Spec PyProof.Rows
def Yi(s:Stmt)(j:Nat):Stmt:=match s with
 | .ClassDef _ _ _ body _ _ _ _ _ _ _=>body.getD j (.Pass ⟨0,0,0,0⟩)
 | _=>.Pass ⟨0,0,0,0⟩
def Xk(s:Stmt):Arguments:=match s with
 | .FunctionDef _ a _ _ _ _ _ _ _ _=>a
 | _=>{ posonlyargs:=[],args:=[],vararg:=none,kwonlyargs:=[],kw_defaults:=[],kwarg:=none,defaults:=[] }
def Y2(s:Stmt):List Stmt:=match s with
 | .FunctionDef _ _ b _ _ _ _ _ _ _=>b
 | _=>[]
def Zh(s:Stmt):Scope:=match s with
 | .FunctionDef _ _ _ _ _ _ sc _ _ _=>sc
 | _=>{ kind:=.function,names:=[],isGenerator:=false,isCoroutine:=false }
abbrev CX0:CXT:=fun _ _ _ _ _ _=>False
abbrev E0:XK:=fun _ _ _=>False
theorem Zk{X:Cx}:Zgi CX0 X E0:=fun _ _ _ _ _ _ _ h=>h.elim
structure Fun(K:Frag)(x a9:Str)(st:Stmt)(f:Addr)(fd:FuncData):Prop where
 ex:∃(oc:Value) (od:Option Addr) (kV i5 pm:Value) (an:Option Addr) (a8 ct:Value) (E5:Array (Option Value)),
  fd=fnOf x a9 (Xk st) (Y2 st) (Zh st) .none kV i5 pm an a8 ct/\K.lookup f=some ⟨oc,od,.func fd,E5⟩/\codeIn K a8 a9=true
 kp:keepIn K (.ref f)=true
section
variable {P:Program} {w:World} {K:Frag} {mg:Str->Option Value} {base:Heap}
theorem Fun.ok{x a9:Str}{st:Stmt}{f:Addr}{fd:FuncData}{N ps:List Str}{k:Nat}{sp:Sp}(F:Fun K x a9 st f fd)(S:Zn N ps (Zh st))(len:∀vs H Q E,sp vs H Q E->vs.length=ps.length)
  (u5:∀(a8:Value) (A:Around) (outer:List Env) (s:Shared) (H:Hp) (vs:List V) (Q:VK) (E:XK),Wq k (A.deeper (envOfC a9 (Zh st) s.heap.objs.size f a8))->sp vs H Q E ->
   ∃t,PSs (Zg9 CX0 P w K mg base N a9 (Zh st) f a8 A outer s H E).nox (Y2 st) t/\t { nx:=fun _ H'=>Q .non H',rt:=Q } (start N vs) H):Zu P w K mg base CX0 (k+1) f fd ps sp:=by
 obtain ⟨oc,od,kV,i5,pm,an,a8,ct,E5,rfl,lk,E9⟩:=F.ex;refine Zy8 lk E9 S len fun A outer s H vs Q E hr D3=>?_
 obtain ⟨t,h,q⟩:=u5 a8 A outer s H vs Q E hr D3;exact ⟨t,h.nox,q⟩
theorem Fun.binds{x a9:Str}{st:Stmt}{f:Addr}{fd:FuncData}{ps:List Str}(F:Fun K x a9 st f fd)
  (h:∀(kV i5 pm:Value) (an:Option Addr) (a8 ct:Value) (us:List Value),us.length=ps.length->bindArgs (fnOf x a9 (Xk st) (Y2 st) (Zh st) .none kV i5 pm an a8 ct) ⟨us,[]⟩=pure (ps.zip us)):Zbu K fd ps []:=by
 obtain ⟨oc,od,kV,i5,pm,an,a8,ct,E5,rfl,lk,E9⟩:=F.ex;exact .all (h kV i5 pm an a8 ct)
theorem Zlp{x a9:Str}{st:Stmt}{f:Addr}{oc:Value}{od an:Option Addr}{E5:Array (Option Value)}{kV i5 pm a8 ct:Value}(l:K.lookup f=some ⟨oc,od,.func (fnOf x a9 (Xk st) (Y2 st) (Zh st) .none kV i5 pm an a8 ct),E5⟩)
  (c:codeIn K a8 a9=true) (k:keepIn K (.ref f)=true):Fun K x a9 st f (fnOf x a9 (Xk st) (Y2 st) (Zh st) .none kV i5 pm an a8 ct):=⟨⟨oc,od,kV,i5,pm,an,a8,ct,E5,rfl,l,c⟩,k⟩
end
theorem Xc{A:Around}{k:Nat}(hr:Wq k A):A.units+1<cLine:=Nat.lt_of_le_of_lt (Nat.add_le_add_left (by decide:1<=64) _) hr.units
theorem Zx{n:Nat}(h:n<=1000):n<sizeLine:=Nat.lt_of_le_of_lt h (by decide)
section
variable {X:Cx}
theorem pv(i:Nat){x:Str}{pos:Pos}(hN:X.N[i]? =some x:=by rfl)(hv:Vis X.env.scope x:=by first | exact Or.inl rfl | exact Or.inr (Or.inl rfl) | exact Or.inr (Or.inr rfl)) (hd:(x ==("__debug__" :Str))=false:=by decide)
  (E9:(x ==("__classdict__" :Str))=false:=by decide):PE X (.Name x pos) (Zjh i):=Zwl hN hv hd E9
theorem Zui:X0 X (.builtin "len") (fun xs H Q=>∃a kvs,xs=[V.ref a]/\H a=some (.dK kvs)/\Q (.int kvs.length) H):=by
 intro a6 s σ H xs us Q I r h;obtain ⟨a,kvs,rfl,ha,q⟩:=h;obtain ⟨u,rfl,ru⟩:=Zci r;cases ru;exact Ybm I (.inl ha) fun t s' I'=>⟨.int kvs.length,H,I',⟨t,rfl⟩,q⟩
end
theorem Zau{A B:Prop}(h:B):if false=true then A else B:=by
 rw [if_neg Bool.false_ne_true];exact h
theorem Zgn{A B:Prop}(h:A):if true=true then A else B:=by
 rw [if_pos rfl];exact h
theorem Yz{c A B:Prop}[Decidable c](h1:c->A)(h2:¬c->B):if c then A else B:=by
 by_cases h:c
 ·rw [if_pos h];exact h1 h
 ·rw [if_neg h];exact h2 h
def Same(H H':Hp):Prop:=∀b o,H b=some o->H' b=some o
theorem Same.refl(H:Hp):Same H H:=fun _ _ h=>h
theorem Same.trans{H H1 H2:Hp}(a:Same H H1)(b:Same H1 H2):Same H H2:=fun c o h=>b c o (a c o h)
theorem Same.free{H H':Hp}(e:Same H H'){l:Addr}(h:H' l=Option.none):H l=Option.none:=by
 cases q:H l with
 | none=>rfl
 | some o =>
  rw [e l o q] at h;cases h
theorem Same.seq{K:Frag}{H H':Hp}{a:Addr}{xs:List V}(e:Same H H')(h:SqL K H a xs):SqL K H' a xs:=by
 rcases h with (h|⟨o,h⟩)|h
 ·exact .inl (.inl (e _ _ h))
 ·exact .inl (.inr ⟨o,e _ _ h⟩)
 ·exact .inr h
section
variable {κ:Type} [DecidableEq κ]
theorem Zx2{kvs:List (κ×V)}{k:κ}{v:V}(h:Y6 kvs k=some v):k∈kvs.map (·.1):=by
 have q:(kvs.any fun kv=>decide (kv.1=k))=true:=by
  rw [Zb3,h]
  all_goals rfl
 obtain ⟨p,hp,e⟩:=List.any_eq_true.mp q;exact List.mem_map.mpr ⟨p,hp,of_decide_eq_true e⟩
end
end L2
section
namespace L2
open PySem PySem.Spec PyProof.Rows
section
variable {prog:Program} {w:World} {A:Around} {R:Result->Shared->Prop} {s:Shared}
theorem Zbb{L7 w6 k7:Expr}{F6:List Expr}{scope:Scope}{pos:Pos}{it B5:Value}{env:Env}(I:Nat->Shared->Prop)
  (F4:∀n s,I n s->wpAny (model prog w) A (pyNext it) (fun r s₁=>match r with
   | none=>R (.ok .next) s₁
   | some v=>wpAny (model prog w) A (letOwnedTupleGo w6 it v) (fun _ s₁'=>wpAny (model prog w) A (assign w6 env v) (fun _ s₂ =>
     wpAny (model prog w) A (forIn F6 true fun c r=>if r=true then do let ok <-isTrue c env (eval c env);pure (ForInStep.yield ok) else pure (ForInStep.yield r)) (fun ok s₃ =>
      if ok=true then wpAny (model prog w) A (eval L7 env) (fun x s₄ =>
       wpAny (model prog w) A (call (.builtin "list.append") [B5,x]) (fun _ s₅=>∃m,m<n/\I m s₅) (fun _ _=>False) s₄) (fun _ _=>False) s₃
      else ∃m,m<n/\I m s₃) (fun _ _=>False) s₂) (fun _ _=>False) s₁') (fun _ _=>False) s₁) (fun _ _=>False) s)
  (n:Nat) (h:I n s) :
  codeAny (model prog w) A (.compLoop (.ListComp L7 [⟨w6,k7,F6,0⟩] scope pos) 0 it B5 env) R s:=by
 refine codeAny_loop rfl I (fun n s hI=>?_) n h;show wpAny _ A ((compTurn (.ListComp L7 [⟨w6,k7,F6,0⟩] scope pos) 0 it B5 env).onRaise (fun x=>do noteFrame x env;theTreesLotGoes x)) _ _ s;refine wpAny_noted ?_;rw [compTurn_list];refine wpAny_bind (wpAny_standAt (wpAny_bind (wpAny_mono (F4 n s hI) (fun r s₁ h₁=>?_) fun _ _ h'=>h'.elim)));cases r with
 | none=>exact wpAny_pure h₁
 | some v =>
  refine wpAny_bind (wpAny_mono h₁ (fun _ s₁' h₁'=>?_) fun _ _ h'=>h'.elim);refine wpAny_bind (wpAny_mono h₁' (fun _ s₂ h₂=>wpAny_bind (wpAny_mono h₂ (fun ok s₃ h₃=>?_) fun _ _ h'=>h'.elim)) fun _ _ h'=>h'.elim);cases ok with
  | false=>exact wpAny_pure ⟨rfl,h₃⟩
  | true =>
   exact wpAny_bind (wpAny_bind (wpAny_mono h₃ (fun x s₄ h₄=>wpAny_bind (wpAny_mono h₄ (fun _ s₅ h₅=>wpAny_pure (wpAny_pure ⟨rfl,h₅⟩)) fun _ _ h'=>h'.elim)) fun _ _ h'=>h'.elim))
end
def Xo(X:Cx)(scope:Scope)(cl:List (Str×Addr))(N':List Str)(s:Shared)(H:Hp)(C:Addr)(ex:List Addr):Cx where
 prog:=X.prog
 w:=X.w
 K:=X.K
 mg:=X.mg
 base:=X.base
 A:=X.A
 N:=N'
 s₀:=s
 H₀:=H
 env:=compEnvC scope cl C X.env
 outer:=X.stack
 stack:=X.stack
 ex:=ex
 fn:=fun _=>false
 calm:=X.calm
 pn:=[]
 xe:=fun _ _=>False
structure Yc(X:Cx)(scope:Scope)(cl:List (Str×Addr))(N':List Str)(fr:St->St):Prop where
 kind:scope.kind=.function
 cell:∀y∈scope.names,y.2 ≠ .cell
 names:∀y∈scope.names,y.2=.local->scope.names.lookup y.1=some .local
 clos:closureFor scope X.env=pure cl
 sub:∀x c,cl.lookup x=some c->X.env.cells.lookup x=some c
 has:∀x,((relabel scope X.env).names.lookup x=some .cell\/(relabel scope X.env).names.lookup x=some .free)->∃c,cl.lookup x=some c
 len:∀σ:St,σ.length=X.N.length->(fr σ).length=N'.length
 fr:∀(σ:St) (i:Nat) (x:Str) (v:V),N'[i]? =some x->(fr σ)[i]? =some (some v)->Vis (relabel scope X.env) x ->
  ((relabel scope X.env).names.lookup x=some .cell\/(relabel scope X.env).names.lookup x=some .free) /\
  (X.env.kindOf x=some .cell\/X.env.kindOf x=some .free)/\∃j:Nat,X.N[j]? =some x/\σ[j]? =some (some v)
def W3(a b:St):Prop:=∀(i:Nat) (v:V),a[i]? =some (some v)->b[i]? =some (some v)
theorem W3.set{a:St}{i:Nat}{v:V}(h:a[i]? =some none):W3 a (a.set i (some v)):=fun j u e=>by
 by_cases hj:i=j
 ·subst hj;rw [h] at e;cases e
 ·rw [List.getElem?_set_ne hj];exact e
theorem W3.trans{a b c:St}(h:W3 a b)(k:W3 b c):W3 a c:=fun i v e=>k i v (h i v e)
def PF(X:Cx)(F6:List Expr)(t:TT):Prop :=
 ∀(a6:List (Addr×Obj)) (s:Shared) (σ:St) (H:Hp) (Q:Bool->Hp->Prop),Inv X a6 σ H s->t σ H Q ->
  wpAny (model X.prog X.w) X.A (forIn F6 true fun c r=>if r=true then do let ok <-isTrue c X.env (eval c X.env);pure (ForInStep.yield ok) else pure (ForInStep.yield r)) (TP X a6 σ Q) X.xe s
def Ybn:TT:=fun _ H Q=>Q true H
theorem Zbk{X:Cx}:PF X [] Ybn:=fun _ _ _ H _ I h=>wpAny_tests_nil ⟨H,I,h⟩
theorem Zd7{X:Cx}{c:Expr}{t:TT}(h:PT X c t):PF X [c] t:=fun a6 s σ H Q I hq=>wpAny_tests_one (h a6 s σ H Q I hq)
def Zet(J:It)(fr:St->St)(g:TG)(tf:TT)(te:TE)(Q:VK)(σ:St)(H1:Hp)(D:Addr):Prop :=
 ∃W:Nat->Nat->List V->Hp->Prop,(∃m,W 0 m [] (upd H1 D (.lst [])))/\∀i m ys H,W i m ys H ->
  (J.stop i H/\Q (.ref D) H)\/(J.go i H/\∃N:List V->Hp->Prop,(∀ys' H',N ys' H'->∃m',m'<m/\W (i+1) m' ys' H') /\
   ∀x H',J.yld i H x H'->g x (fr σ) H' fun σ2 H2=>W3 (fr σ) σ2/\tf σ2 H2 fun b H3 =>
    if b=true then te σ2 H3 fun y H4=>H4 D=some (.lst ys)/\ys.length<sizeLine/\N (ys++[y]) (upd H4 D (.lst (ys++[y]))) else N ys H3)
def Zza(wi:TI)(fr:St->St)(g:TG)(tf:TT)(te:TE):TE:=fun σ H Q=>wi σ H fun J H1=>∀D,H1 D=none->Zet J fr g tf te Q σ H1 D
section
variable {X:Cx} {a6:List (Addr×Obj)} {σ:St} {H:Hp} {s:Shared} {scope:Scope} {cl:List (Str×Addr)} {N':List Str} {fr:St->St} {C:Addr} {fp:List Addr}
theorem Zxw(I:Inv X a6 σ H s)(S:Yc X scope cl N' fr)(hC:s.heap.objs.size<=C)(hf:∀b∈fp,Zjv X a6 H b)(ho:∀b∈fp,∃o,s.heap.get? b=some o):(Xo X scope cl N' s H C fp).Ok where
 mod:=I.ok.mod
 kind:=S.kind
 glob:=I.ok.glob
 blt:=I.ok.blt
 above:=hC
 inj:=fun x y c h1 h2=>I.ok.inj x y c (S.sub x c h1) (S.sub y c h2)
 has:=fun x h=>S.has x h
 cab:=fun x c h=>absurd (show false=true from h) Bool.false_ne_true
 hd:=I.ok.hd
 frames:=I.ok.frames
 stk:=.inl rfl
 exf:=fun b hb=>by
  obtain ⟨o,e⟩:=ho b hb;refine ⟨Nat.ne_of_lt (Nat.lt_of_lt_of_le (Heap.lt_size e) hC),fun x c h=>(hf b hb).2.2.2.2.1 x c (S.sub x c h)⟩
 bs:=I.bs
 bsz:=Nat.le_trans I.ok.bsz I.sz
 noex:=fun b o e hb=>by
  rcases (hf b hb).2.2.2.1 with z|z
  ·exact I.ok.noex b o e z
  ·exact absurd (Nat.lt_of_lt_of_le (Heap.lt_size e) (Nat.le_trans I.ok.bsz z)) (Nat.lt_irrefl _)
 exfs:=fun b hb z=>by
  rcases List.mem_cons.mp (I.stkSub b z) with q|q
  ·exact (hf b hb).2.1 q
  ·exact (hf b hb).2.2.1 q
 funs:=I.stack
 frf:=I.stkFree
theorem Zk6{h₁:Heap}{m₁:Str->Option Value}{tk:Nat}{D:Addr}(I:Inv X a6 σ H s)(S:Yc X scope cl N' fr)(hC:s.heap.objs.size<C)(hD:D=s.heap.objs.size)(hf:∀b∈fp,Zjv X a6 H b)(ho:∀b∈fp,∃o,s.heap.get? b=some o)
  (A5:∀b o,s.heap.get? b=some o->h₁.get? b=some o) (hl:h₁.get? D=some { cls:=.type "list",data:=.seq ([]:List Value).toArray 0 }) (hn:h₁.Ns C m₁) (hCz:h₁.objs.size<=C+1) :
  Inv (Xo X scope cl N' s H C fp) [] (fr σ) (upd H D (.lst [])) { s with heap:=h₁,toks:=tk }:=by
 have fD:H D=none:=I.hok.fresh (Nat.le_of_eq hD.symm);have fC:H C=none:=I.hok.fresh (Nat.le_of_lt hC);have hDC:D≠C:=by rw [hD];exact Nat.ne_of_lt hC
 refine ⟨Zxw I S (Nat.le_of_lt hC) hf ho,rfl,I.bare,Un.laid A5 (Nat.le_of_eq hD.symm) fD,⟨m₁,hn,fun i x v e1 e2 e3=>?_⟩,fun x c e=>?_,?_,fun x c e=>?_,fun p hp=>absurd (show p∈([]:List (Addr×Obj)) from hp) (by simp),?_,S.len σ I.len⟩
 ·obtain ⟨k1,k2,j,j1,j2⟩:=S.fr σ i x v e1 e2 e3;obtain ⟨c,hc⟩:=S.has x k1;have R7:=S.sub x c hc;obtain ⟨m,_,C5⟩:=I.loc;obtain ⟨u,r,l⟩:=C5 j x v j1 j2 (by rcases k2 with k|k;exact .inr (.inl k);exact .inr (.inr k));refine ⟨u,r,.inr ⟨k1,c,hc,?_⟩⟩;rcases l with ⟨k,_⟩|⟨_,c2,N1,o,z,d⟩
  ·rcases k2 with q|q <;>(rw [k] at q;cases q)
  ·rw [R7] at N1;cases N1;exact ⟨o,A5 _ _ z,d⟩
 ·obtain ⟨v,o,z,d⟩:=I.cell x c (S.sub x c e);exact ⟨v,o,A5 _ _ z,d⟩
 ·show upd H D (.lst []) C=none;rw [Ze hDC.symm];exact fC
 ·show upd H D (.lst []) c=none;rw [Ze (fun z=>?_)]
  ·exact I.freeC x c (S.sub x c e)
  ·obtain ⟨v,o,q,d⟩:=I.cell x c (S.sub x c e);have:=Heap.lt_size q;rw [z,hD] at this;exact Nat.lt_irrefl _ this
 ·exact I.hok.laid A5 (Nat.le_of_eq hD.symm) ⟨Nat.zero_le _,[],0,.nil,hl⟩
theorem Zrh{H':Hp}{s2:Shared}{h':Heap}(I:Inv X a6 σ H s)(hC:s.heap.objs.size<C)(hf:∀b∈fp,Zjv X a6 H b)(J:Inv (Xo X scope cl N' s H C fp) [] (fr σ) H' s2)(hs:Heap.SameBut C s2.heap h') :
  Inv X a6 σ H' { s2 with heap:=h' }:=by
 have fC:H' C=none:=J.free;have u:Un (frs X.stack) fp H H' s.heap s2.heap:=J.base;have ne:∀b o,s.heap.get? b=some o->b≠C:=fun b o e=>Nat.ne_of_lt (Nat.lt_trans (Heap.lt_size e) hC)
 have u2:Un (frs X.stack) fp H H' s.heap h':=by
  refine ⟨fun b o e n hb hx=>?_,fun b o e n hb hx=>?_,u.free,fun b o e hx=>?_,u.tups,u.frzs,u.tbls⟩
  ·rw [hs.2 b (ne b o e)];exact u.keep b o e n hb hx
  ·obtain ⟨sl,q⟩:=u.slot b o e n hb hx;exact ⟨sl,by rw [hs.2 b (ne b o e)];exact q⟩
  ·obtain ⟨o',q⟩:=u.there b o e hx;exact ⟨o',by rw [hs.2 b (ne b o e)];exact q⟩
 have hok:HOk X.prog X.w H' h':=fun b o e=>by
  refine (J.hok b o e).stay (fun c v hc q=>?_) (fun _ q=>q) fun _ _ q=>q
  have nc:c≠C:=by
   rintro rfl;rcases hc with z|z
   ·rw [<-z,fC] at e;cases e
   ·rw [fC] at z;cases z
  rw [hs.2 c nc];exact q
 refine I.call' (s':={ s2 with heap:=h' }) (ch:=fp) J.os u2 hok J.bare fun b hb=>?_
 obtain ⟨_,f1,f2,f3,f4,f5⟩:=hf b hb;exact ⟨f3,f1,f4,f5⟩
end
theorem X4{X:Cx}{L7 tg k7:Expr}{F6:List Expr}{scope:Scope}{pos:Pos}{cl:List (Str×Addr)}{N':List Str}{fr:St->St}{wi:TI}{g:TG}{tf:TT}{te:TE}
  (hc:X.calm=true) (S:Yc X scope cl N' fr) (hi:PI X tg k7 wi) (hg:∀s H C ex,PG (Xo X scope cl N' s H C ex) tg g) (hf:∀s H C ex,PF (Xo X scope cl N' s H C ex) F6 tf)
  (he:∀s H C ex,PE (Xo X scope cl N' s H C ex) L7 te) (hs:∀x,foldedSetIterable k7 X.env x=pure x:=by intro _;rfl):PE X (.ListComp L7 [⟨tg,k7,F6,0⟩] scope pos) (Zza wi fr g tf te):=by
 intro a6 s σ H Q I h;rw [eval_ListComp];refine wpAny_comprehension_free (use:=none) rfl hs S.clos S.kind S.names (thn (hi a6 s σ H _ I h) fun v s1 h1=>thn h1 fun itv s2 h2=>?_);obtain ⟨it,fp,tn,J,H2,e,I2,T,O1,f2,q⟩:=h2;subst e;refine wpAny_newObj_type (wpAny_newFunctionEnv S.cell (by intro y hy;simp at hy) (fun h₁ E7 A2=>?_) S.kind);dsimp only at E7 A2 ⊢;generalize hP:s2.heap.push { cls:=.type "list",dict:=none,data:=.seq ([]:List Value).toArray }=P at E7 A2 ⊢;have hPz:P.objs.size=s2.heap.objs.size+1:=by rw [<-hP,Heap.size_push]
 have Q9:s2.heap.objs.size<P.objs.size:=by rw [hPz];exact Nat.lt_succ_self _
 have S6:∀b∈fp,∃o,s2.heap.get? b=some o:=fun b hb=>let ⟨o,e,_⟩:=T.obj _ _ O1 b hb;⟨o,e⟩
 have D6:∀b,b<s2.heap.objs.size->b≠P.objs.size:=fun b hb=>Nat.ne_of_lt (Nat.lt_trans hb Q9)
 have A5:∀b o,s2.heap.get? b=some o->h₁.get? b=some o:=fun b o e=>A2.extBut b o (D6 b (Heap.lt_size e)) (Heap.get?_push_of_some _ (hP ▸ Heap.get?_push_of_some _ e))
 have C3:h₁.get? s2.heap.objs.size=some { cls:=.type "list",data:=.seq ([]:List Value).toArray 0 }:=A2.extBut _ _ (Nat.ne_of_lt Q9) (Heap.get?_push_of_some _ (hP ▸ Heap.get?_push_size _ rfl));have fD:H2 s2.heap.objs.size=none:=I2.hok.fresh (Nat.le_refl _);obtain ⟨W,⟨m0,w0⟩,F4⟩:=q s2.heap.objs.size fD;have hz:h₁.objs.size<=P.objs.size+1:=by
  have e:=A2.1;rw [Heap.size_push] at e;exact Nat.le_of_eq e
 have st1:tn 0 h₁:=T.keep _ _ _ O1 fun b hb o e=>A5 b o e
 have A4:∀{m9:List (Addr×Obj)} {H':Hp},(∀p∈m9,p.1∉fp)->(∀b∈fp,H' b=none)->∀b∈fp,Zjv (Xo X scope cl N' s2 H2 P.objs.size fp) m9 H' b:=fun {m9 H'} hp hn b hb=>by
  obtain ⟨o,e⟩:=S6 b hb;obtain ⟨_,f1,f2',f3,f4,f5⟩:=f2 b hb;refine ⟨hn b hb,D6 b (Heap.lt_size e),fun z=>?_,.inl hb,fun x c h=>f4 x c (S.sub x c h),fun p hp' z=>?_⟩
  ·rcases List.mem_cons.mp (I2.stkSub b z) with q|q
   ·exact f1 q
   ·exact f2' q
  ·have hp2:p∈m9:=by simpa [Xo] using hp'
   exact hp p hp2 (by rw [z];exact hb)
 have loop:∀s3:Shared,s3={ s2 with heap:=h₁,toks:=s2.toks+([]:List (Str×Value)).length } ->
   codeAny (model X.prog X.w) X.A (.compLoop (.ListComp L7 [⟨tg,k7,F6,0⟩] scope pos) 0 (.ref it) (.ref s2.heap.objs.size) (compEnvC scope cl P.objs.size X.env)) (compPost (model X.prog X.w) X.A X.xe none (EP X a6 σ Q) (.ref s2.heap.objs.size) P.objs.size) s3:=by
  rintro s3 rfl;have I3:Inv (Xo X scope cl N' s2 H2 P.objs.size fp) [] (fr σ) (upd H2 s2.heap.objs.size (.lst [])) { s2 with heap:=h₁,toks:=s2.toks+([]:List (Str×Value)).length }:=Zk6 I2 S Q9 rfl f2 S6 A5 C3 E7 hz;refine Zbb (fun n s'=>∃i ys H',Inv (Xo X scope cl N' s2 H2 P.objs.size fp) [] (fr σ) H' s'/\tn i s'.heap/\(∀b∈fp,H' b=none)/\W i n ys H') ?_ m0 ⟨0,[],_,I3,st1,fun b hb=>?_,w0⟩
  ·rintro n s3 ⟨i,ys,H3,I3,N5,fr3,w3⟩;rcases F4 i n ys H3 w3 with ⟨stop,qn⟩|⟨go,N,hN,step⟩
   ·refine thn (T.done (Xo X scope cl N' s2 H2 P.objs.size fp) rfl rfl rfl hc i [] s3 (fr σ) H3 _ I3 (A4 (by simp) fr3) N5 stop) fun r s4 ⟨hr,I4⟩=>?_
    subst hr;obtain ⟨m4,hn4,_⟩:=I4.loc;exact ⟨m4,hn4,fun h' Q7=>⟨.ref s2.heap.objs.size,H3,Zrh I2 Q9 f2 I4 Q7,rfl,qn⟩⟩
   ·refine thn (T.item (Xo X scope cl N' s2 H2 P.objs.size fp) rfl rfl rfl hc i [] s3 (fr σ) H3 _ I3 (A4 (by simp) fr3) N5 go) fun r s4 ⟨u,hr,h4⟩=>?_
    subst hr;refine thn h4 fun _ s5 ⟨x,H5,I5,r5,y5,N9,fr5⟩=>?_
    have I5':=I5.pinned (A4 (by simp) fr5) (T.obj _ _ N9);refine thn (hg s2 H2 P.objs.size fp _ s5 (fr σ) H5 x u _ I5' r5 (step x H5 y5)) fun _ s6 ⟨σ6,H6,I6,kp,q6⟩=>?_
    refine thn (hf s2 H2 P.objs.size fp _ s6 σ6 H6 _ I6 q6) fun ok s7 ⟨H7,I7,q7⟩=>?_
    have x9:∀{σ8:St} {H8:Hp} {s8:Shared} {V4:List V},W3 (fr σ) σ8->Inv (Xo X scope cl N' s2 H2 P.objs.size fp) ([]++Zia fp s5.heap) σ8 H8 s8->N V4 H8 ->
      ∃m,m<n/\∃i ys H',Inv (Xo X scope cl N' s2 H2 P.objs.size fp) [] (fr σ) H' s8/\tn i s8.heap/\(∀b∈fp,H' b=none)/\W i m ys H':=fun {σ8 H8 s8 V4} kp8 I8 n8=>by
     obtain ⟨m',hm,w8⟩:=hN V4 H8 n8;refine ⟨m',hm,i+1,V4,H8,(I8.unpinned).weak (by rw [I8.len];exact S.len σ I2.len) kp8,T.keep _ _ _ N9 fun b hb o e=>(I8.pin (b,o) (List.mem_append_right _ (List.mem_append_right _ (Za1 hb e)))).1,fun b hb=>?_,w8⟩;obtain ⟨o,e,d⟩:=T.obj _ _ N9 b hb;exact (I8.pin (b,o) (List.mem_append_right _ (List.mem_append_right _ (Za1 hb e)))).2.1
    cases ok with
    | false=>exact x9 kp I7 q7
    | true =>
     refine thn (he s2 H2 P.objs.size fp _ s7 σ6 H7 _ I7 q7) fun uy s8 ⟨y,H8,I8,r8,V5,hz8,q8⟩=>?_
     exact thn (Xa _ s8 σ6 H8 (.ref s2.heap.objs.size) [y] (.ref s2.heap.objs.size) [uy] (fun _ H9=>N (ys++[y]) H9) I8 rfl (.cons r8 .nil) ⟨_,ys,y,rfl,rfl,V5,hz8,q8⟩) fun _ s9 ⟨v9,H9,I9,_,q9⟩=>x9 kp I9 q9
  ·show upd H2 s2.heap.objs.size (.lst []) b=none;obtain ⟨o,e⟩:=S6 b hb;rw [Ze (Nat.ne_of_lt (Heap.lt_size e))];exact (f2 b hb).1
 exact codeAny_compStart_list (loop _ rfl) (T.self X.A 0 _ _ _ st1 (loop _ rfl))
section
variable {K:Frag} {a:Addr} {fr:St->St} {g:TG} {tf:TT} {te:TE} {Q:VK} {σ:St} {H1:Hp} {D:Addr}
def Zb2(fr:St->St)(g:TG)(tf:TT)(te:TE)(σ:St)(D:Addr)(x:V)(ys:List V)(H:Hp)(N:List V->Hp->Prop):Prop :=
 g x (fr σ) H fun σ2 H2=>W3 (fr σ) σ2/\tf σ2 H2 fun b H3=>if b=true then te σ2 H3 fun y H4=>H4 D=some (.lst ys)/\ys.length<sizeLine/\N (ys++[y]) (upd H4 D (.lst (ys++[y]))) else N ys H3
theorem X5{xs:List V}(Pv:Nat->List V->Hp->Prop)(h0:Pv 0 [] (upd H1 D (.lst [])))(hl:∀i ys H,i<=xs.length->Pv i ys H->SqL K H a xs)
  (hs:∀i x ys H,xs[i]? =some x->Pv i ys H->Zb2 fr g tf te σ D x ys H (Pv (i+1))) (hd:∀ys H,Pv xs.length ys H->Q (.ref D) H):Zet (Itl K a) fr g tf te Q σ H1 D:=by
 refine ⟨fun i m ys H=>m=xs.length-i/\i<=xs.length/\Pv i ys H,⟨xs.length,by simp,Nat.zero_le _,h0⟩,?_⟩;rintro i m ys H ⟨rfl,hi,p⟩;have q:=hl i ys H hi p
 by_cases c7:i<xs.length
 ·refine .inr ⟨⟨xs,xs[i],q,by simp [c7]⟩,Pv (i+1),fun ys' H' p'=>⟨xs.length-(i+1),by lia,rfl,c7,p'⟩,fun x H' y=>?_⟩;obtain ⟨e,y⟩:=y;subst e;exact hs i x ys _ (y xs q) p
 ·have e:i=xs.length:=by lia
  subst e;exact .inl ⟨⟨xs,q,Nat.le_refl _⟩,hd ys H p⟩
theorem Zg3{lo:Int}{n:Nat}(Pv:Nat->List V->Hp->Prop)(h0:Pv 0 [] (upd H1 D (.lst [])))
  (hs:∀i ys H,i<n->Pv i ys H->Zb2 fr g tf te σ D (.int (lo+i)) ys H (Pv (i+1))) (hd:∀ys H,Pv n ys H->Q (.ref D) H):Zet (Itr lo n) fr g tf te Q σ H1 D:=by
 refine ⟨fun i m ys H=>m=n-i/\i<=n/\Pv i ys H,⟨n,by simp,Nat.zero_le _,h0⟩,?_⟩;rintro i m ys H ⟨rfl,hi,p⟩
 by_cases c7:i<n
 ·refine .inr ⟨c7,Pv (i+1),fun ys' H' p'=>⟨n-(i+1),by lia,rfl,c7,p'⟩,fun x H' y=>?_⟩;obtain ⟨e,y⟩:=y;subst e y;exact hs i ys _ c7 p
 ·have e:i=n:=by lia
  subst e;exact .inl ⟨Nat.le_refl _,hd ys H p⟩
def Its(x:Str):It:=⟨fun i _=>i<x.cps.size,fun i H v H'=>H'=H/\∃c,x.cps[i]? =some c/\v=.str ⟨#[c]⟩,fun i _=>x.cps.size<=i⟩
theorem Zwc{x:Str}(Pv:Nat->List V->Hp->Prop)(h0:Pv 0 [] (upd H1 D (.lst [])))
  (hs:∀i c ys H,x.cps[i]? =some c->Pv i ys H->Zb2 fr g tf te σ D (.str ⟨#[c]⟩) ys H (Pv (i+1))) (hd:∀ys H,Pv x.cps.size ys H->Q (.ref D) H):Zet (Its x) fr g tf te Q σ H1 D:=by
 refine ⟨fun i m ys H=>m=x.cps.size-i/\i<=x.cps.size/\Pv i ys H,⟨x.cps.size,by simp,Nat.zero_le _,h0⟩,?_⟩;rintro i m ys H ⟨rfl,hi,p⟩
 by_cases c7:i<x.cps.size
 ·refine .inr ⟨c7,Pv (i+1),fun ys' H' p'=>⟨x.cps.size-(i+1),by lia,rfl,c7,p'⟩,fun v H' y=>?_⟩;obtain ⟨e,c,hc,ev⟩:=y;subst e ev;exact hs i c ys _ hc p
 ·have e:i=x.cps.size:=by lia
  subst e;exact .inl ⟨Nat.le_refl _,hd ys H p⟩
end
theorem Zsk{P:Program}{w:World}{K:Frag}{tg:Expr}(it:Addr)(x:Str)(t:Tok):Zmq P w K tg (Its x) [it] it (fun i h=>h.IsStrIter it "str_ascii_iterator" x t i) where
 mem:=by simp
 obj:=fun i h st b hb=>by
  have e:b=it:=by simpa using hb
  subst e;obtain ⟨o,e,c,d⟩:=st;exact ⟨o,e,fun v z=>by rw [d] at z;cases z⟩
 keep:=fun i h h' st k=>by
  obtain ⟨o,e,r⟩:=st;exact ⟨o,k it (by simp) o e,r⟩
 item:=by
  intro X hP hw hK hc i a6 s σ H E I hf st hg;subst hP hw hK;obtain ⟨f0,f1,f2,f3,f4,f5⟩:=hf it (by simp);have c7:i<x.cps.size:=hg;refine wpAny_pyNext_ascii_item st (c:=x.cps[i]) (by simp [c7]) fun h' i9 sb=>?_
  have I1:Inv X a6 σ H { s with heap:=h',toks:=s.toks+1 }:=I.turned (fun b o hb e=>(sb.2 b hb).trans e) f0 f1 f3 f4 f5;obtain ⟨o,e,c,d⟩:=id i9;exact ⟨_,rfl,Zls (s:={ s with heap:=h',toks:=s.toks+1 }) e c d (by decide) ⟨.str ⟨#[x.cps[i]]⟩,H,I1,⟨_,rfl⟩,⟨rfl,_,by simp [c7],rfl⟩,i9,fun b hb=>(hf b hb).1⟩⟩
 done:=by
  intro X hP hw hK hc i a6 s σ H E I hf st hg;subst hP hw hK;obtain ⟨f0,f1,f2,f3,f4,f5⟩:=hf it (by simp);have w4:x.cps.size<=i:=hg;exact wpAny_pyNext_ascii_end (I.ok.hd hc) st (by simp [w4]) fun h' eb=>⟨rfl,I.turned (t':=s.toks) (fun b o hb e=>eb b o hb e) f0 f1 f3 f4 f5⟩
 self:=fun _ _ _ _ _ st h=>wpAny_pyIter_striter_ascii st h
def Yc7(tl:TE):TI:=fun σ H R=>tl σ H fun v H1=>∃x,v=.str x/\x.cps.all (· < 128)=true/\R (Its x) H1
theorem Yar{X:Cx}{tg l:Expr}{tl:TE}(hl:PE X l tl):PI X tg l (Yc7 tl):=by
 intro a6 s σ H R I h;refine thn (hl a6 s σ H _ I h) fun v s1 ⟨y,H1,I1,r1,q1⟩=>?_
 obtain ⟨x,e,ha,q⟩:=q1;subst e;obtain ⟨t,rfl⟩:=r1;refine wpAny_pyIter_ascii ha ?_;refine ⟨s1.heap.objs.size,[s1.heap.objs.size],_,_,H1,rfl,I1.kept (t':=s1.toks) fun b o e=>Heap.get?_push_of_some _ e,Zsk _ x t,⟨_,Heap.get?_push_size _ rfl,rfl,rfl⟩,fun b hb=>?_,q⟩;have e:b=s1.heap.objs.size:=by simpa using hb
 subst e;exact I1.fpOk (Nat.le_refl _) (I1.hok.fresh (Nat.le_refl _))
theorem Yh.at_bool:∀{bs:List Bool} {us:List Value} {i:Nat} {u:Value},Yh (bs.map V.bl) us->us[i]? =some u->∃b,bs[i]? =some b/\u=.bool b
 | [],_,_,_,.nil,e=>by simp at e
 | b ::bs,_,0,u,.cons r _,e=>by
  simp at e;subst e;exact ⟨b,rfl,r⟩
 | b ::bs,_,i+1,u,.cons _ t,e=>by
  obtain ⟨c,h1,h2⟩:=Yh.at_bool (i:=i) t (by simpa using e);exact ⟨c,by simpa using h1,h2⟩
theorem Zup(bs:List Bool):(List.range bs.length).all (fun i=>bs.getD i false)=bs.all id:=by
 have e:(List.range bs.length).map (fun i=>bs.getD i false)=bs:=by
  apply List.ext_getElem
  ·simp
  ·intro i h1 h2;simp at h1;simp [h1]
 calc (List.range bs.length).all (fun i=>bs.getD i false)=((List.range bs.length).map (fun i=>bs.getD i false)).all id:=by rw [List.all_map];rfl
  _=bs.all id:=by rw [e]
theorem Zla{X:Cx}(hc:X.calm=true):X0 X (.builtin "all") (fun xs H Q=>∃(p:Addr) (bs:List Bool),xs=[.ref p]/\SqL X.K H p (bs.map V.bl)/\Q (.bl (bs.all id)) H):=by
 intro a6 s σ H xs us Q I r h;obtain ⟨p,bs,rfl,hq,q⟩:=h;obtain ⟨u,rfl,ru⟩:=Zci r;cases ru;obtain ⟨a7,rv,pl,hz⟩:=I.list hq;have c7:p<s.heap.objs.size:=by obtain ⟨_,_,e,_⟩:=pl;exact Heap.lt_size e
 refine call_all_walk (wpAny_pyIter_list pl.isList ?_);refine ⟨s.heap.objs.size,_,_,a7.toArray.size,_,_,fun i=>bs.getD i false,rfl,Walks.list (A:=X.A.in1) (show X.A.in1.handled=none from I.ok.hd hc) s.heap.objs.size p (Nat.ne_of_lt c7) a7.toArray,⟨⟨_,Heap.get?_push_size _ rfl,rfl,rfl⟩,pl.isList.push _⟩,?_,fun h' tk k=>?_⟩
 ·intro i v s' Q' E' hv hQ;obtain ⟨b,hb,rfl⟩:=Yh.at_bool (i:=i) rv (by simpa using hv);refine wpAny_truthy_bool ?_;have e:bs.getD i false=b:=by rw [List.getD_eq_getElem?_getD,hb];rfl
  have hQ':Q' (bs.getD i false) s':=hQ;rw [e] at hQ';exact hQ'
 ·have hl:=rv.length;rw [List.length_map] at hl;refine ⟨.bl (bs.all id),H,?_,?_,q⟩
  ·refine I.kept (t':=tk) fun b o e=>k b o ?_ (Heap.get?_push_of_some _ e)
   have:=Heap.lt_size e;intro z;have z':b=s.heap.objs.size:=by simpa using z
   rw [z'] at this;exact Nat.lt_irrefl _ this
  ·show Value.bool ((List.range a7.toArray.size).all fun i=>bs.getD i false)=Value.bool (bs.all id);rw [List.size_toArray,<-hl,Zup]
theorem Zqf{X:Cx}:X0 X (.builtin "isinstance") (fun xs H Q=>∃x c b t,xs=[x,c]/\X2 X.K H x t/\((∃n,c=.ty n/\kitOne X.K t (.type n)=some b)\/∃a,c=.ref a/\kitOne X.K t (.ref a)=some b)/\Q (.bl b) H):=by
 intro a6 s σ H xs us Q I r h;obtain ⟨x,c,b,t,rfl,ty,k,q⟩:=h;obtain ⟨u,w',rfl,rx,E1⟩:=Zql r;rcases k with ⟨n,rfl,k⟩|⟨a,rfl,k⟩
 ·cases E1;exact Zne I rx ty k fun tk=>⟨.bl b,H,I.tok tk,rfl,q⟩
 ·cases E1;exact Zne I rx ty k fun tk=>⟨.bl b,H,I.tok tk,rfl,q⟩
def Ycf:V->Option Int->Option Int->Hp->VK->Prop:=fun x lo hi H Q=>∃z,x=.str z/\z.length<=sizeLine/\Q (.str (Txt.slice z lo hi)) H
theorem Zzm{X:Cx}:SlR X Ycf:=by
 intro a6 s σ H x v vl vu lo hi sl Q I rx hs pl pu h;obtain ⟨z,rfl,hz,q⟩:=h;obtain ⟨t,rfl⟩:=rx;refine ⟨"str",_,F.slot_str_getitem.lookup,typeIs_str _ _ _,?_⟩;obtain ⟨o,ho,hc,hd⟩:=hs;cases pl with
 | none =>
  cases pu with
  | none=>exact wpAny_getItem_str_slice (l:=none) (u:=none) (st:=none) ⟨o,ho,hc,hd⟩ rfl (post_val_or_str ⟨Nat.le_trans (Txt.slice_le z none none) hz,fun t' k=>⟨.str (Txt.slice z none none),H,I.tok k,⟨t',rfl⟩,q⟩⟩)
  | int j tj=>exact wpAny_getItem_str_slice (l:=none) (u:=some (j,tj)) (st:=none) ⟨o,ho,hc,hd⟩ rfl (post_val_or_str ⟨Nat.le_trans (Txt.slice_le z none (some j)) hz,fun t' k=>⟨.str (Txt.slice z none (some j)),H,I.tok k,⟨t',rfl⟩,q⟩⟩)
 | int i ti =>
  cases pu with
  | none=>exact wpAny_getItem_str_slice (l:=some (i,ti)) (u:=none) (st:=none) ⟨o,ho,hc,hd⟩ rfl (post_val_or_str ⟨Nat.le_trans (Txt.slice_le z (some i) none) hz,fun t' k=>⟨.str (Txt.slice z (some i) none),H,I.tok k,⟨t',rfl⟩,q⟩⟩)
  | int j tj=>exact wpAny_getItem_str_slice (l:=some (i,ti)) (u:=some (j,tj)) (st:=none) ⟨o,ho,hc,hd⟩ rfl (post_val_or_str ⟨Nat.le_trans (Txt.slice_le z (some i) (some j)) hz,fun t' k=>⟨.str (Txt.slice z (some i) (some j)),H,I.tok k,⟨t',rfl⟩,q⟩⟩)
end L2
namespace L2
open PySem PySem.Spec PyProof.Rows
def Ybp(M:St->Hp->St->Hp->Prop)(t:TS):TS:=fun D σ H=>t { D with nx:=M σ H } σ H/\∀σ' H',M σ H σ' H'->D.nx σ' H'
theorem Zzy{X:Cx}{st:Stmt}{t:TS}(M:St->Hp->St->Hp->Prop)(h:PS X st t):PS X st (Ybp M t):=by
 intro a6 s σ H D I hq;refine thn (h a6 s σ H { D with nx:=M σ H } I hq.1) fun f s' q=>?_
 cases f with
 | next=>obtain ⟨σ',H',I',m⟩:=q;exact ⟨σ',H',I',hq.2 σ' H' m⟩
 | brk=>exact q
 | cont=>exact q
 | ret u=>exact q
end L2
namespace L2
open PySem PySem.Spec PyProof.Rows
def Zvt:Expr->Bool
 | .Starred .. =>false
 | _=>true
theorem Zun{e:Expr}{es:List Expr}{env:Env}(h:Zvt e=true):starEach (e ::es) env=(false,eval e env) ::starEach es env:=by
 cases e <;>first
  | rfl
  | exact absurd h Bool.false_ne_true
theorem Zb{X:Cx}{e:Expr}{es:List Expr}{te:TE}{t:TA}(ha:PE X e te)(hr:PA X es t)(h:Zvt e=true:=by rfl):PA X (e ::es) (Zlf te t):=Zxg ha hr (Zun h)
end L2
namespace L2
open PySem PySem.Spec PyProof.Rows
structure WSs(X:Cx)(b:List Stmt)(D:Zgg)(σ:St)(H:Hp):Prop where
 run:∀(a6:List (Addr×Obj)) (s:Shared),Inv X a6 σ H s->wpAny (model X.prog X.w) X.A (execs b X.env) (SP X a6 D) X.xe s
structure WS(X:Cx)(st:Stmt)(D:Zgg)(σ:St)(H:Hp):Prop where
 run:∀(a6:List (Addr×Obj)) (s:Shared),Inv X a6 σ H s->wpAny (model X.prog X.w) X.A (exec st X.env) (SP X a6 D) X.xe s
structure WE(X:Cx)(e:Expr)(σ:St)(H:Hp)(Q:VK):Prop where
 run:∀(a6:List (Addr×Obj)) (s:Shared),Inv X a6 σ H s->wpAny (model X.prog X.w) X.A (eval e X.env) (EP X a6 σ Q) X.xe s
section
variable {X:Cx} {b Yo:List Stmt} {st:Stmt} {e:Expr} {D:Zgg} {σ:St} {H:Hp} {t:TS} {te:TE} {Q:VK}
theorem Zy:PSs X b (WSs X b):=fun a6 s _ _ _ I h=>h.run a6 s I
theorem Ycx:PS X st (WS X st):=fun a6 s _ _ _ I h=>h.run a6 s I
theorem Zve:PE X e (WE X e):=fun a6 s _ _ _ I h=>h.run a6 s I
theorem WSs.of(h:PSs X b t)(q:t D σ H):WSs X b D σ H:=⟨fun a6 s I=>h a6 s σ H D I q⟩
theorem WS.of(h:PS X st t)(q:t D σ H):WS X st D σ H:=⟨fun a6 s I=>h a6 s σ H D I q⟩
theorem WE.of(h:PE X e te)(q:te σ H Q):WE X e σ H Q:=⟨fun a6 s I=>h a6 s σ H Q I q⟩
theorem WSs.step(h:PS X st t)(q:t { D with nx:=WSs X Yo D } σ H):WSs X (st ::Yo) D σ H:=WSs.of (Zvy h Zy) q
theorem WSs.last(h:PS X st t)(q:t D σ H):WSs X [st] D σ H:=WSs.of (Zxy h) q
theorem WSs.cut(M:St->Hp->Prop)(h:WS X st { D with nx:=M } σ H)(k:∀σ' H',M σ' H'->WSs X Yo D σ' H'):WSs X (st ::Yo) D σ H:=by
 refine WSs.step (t:=Ybp (fun _ _=>M) (WS X st)) (Zzy (fun _ _=>M) Ycx) ⟨h,fun σ' H' m=>k σ' H' m⟩
end
end L2
namespace L2
open PySem PySem.Spec PyProof.Rows
theorem Zvn{X:Cx}{pos:Pos}{k v:Expr}{tk tv:TE}(hk:PE X k tk)(hv:PE X v tv):PE X (.Dict [some k] [v] pos) (Zy9 [(tk,tv)]):=Zkg (Zap hk hv Zkf) rfl rfl (by simp) (by show 1<=15;decide)
end L2
namespace L2
open PySem PySem.Spec PyProof.Rows
end L2
end
section
namespace L2
open PySem PySem.Spec PyProof.Rows
def Zqk{α:Type}(P:α->Prop):List α->Prop
 | []=>True
 | a ::l=>P a/\Zqk P l
theorem Zqk.mem{α:Type}{P:α->Prop}:∀{l:List α} {a:α},Zqk P l->a∈l->P a
 | _ ::_,a,h,m=>by
  rcases List.mem_cons.mp m with rfl|m
  ·exact h.1
  ·exact Zqk.mem h.2 m
theorem Zbv{env:Env}:∀{names:List (Str×NameKind)} {x:Str},names.lookup x=some .free ->
  (names.map fun (n,k)=>if (k ==NameKind.free && env.scope.kind ==.function && env.kindOf n ==some .cell) then (n,NameKind.cell) else (n,k)).lookup x=some .cell \/
  (names.map fun (n,k)=>if (k ==NameKind.free && env.scope.kind ==.function && env.kindOf n ==some .cell) then (n,NameKind.cell) else (n,k)).lookup x=some .free
 | [],_,h=>by simp at h
 | (n,k) ::r,x,h=>by
  have ih:=@Zbv env r x
  by_cases hx:x ==n
  ·have hk:k=.free:=by
    rw [List.lookup_cons,hx] at h;exact Option.some.inj h
   subst hk
   by_cases hc:(NameKind.free ==NameKind.free && env.scope.kind ==.function && env.kindOf n ==some .cell)=true
   ·left
    rw [List.map_cons];show List.lookup x ((if _ then (n,NameKind.cell) else (n,NameKind.free)) ::_)=_;rw [if_pos hc,List.lookup_cons,hx]
   ·right
    rw [List.map_cons];show List.lookup x ((if _ then (n,NameKind.cell) else (n,NameKind.free)) ::_)=_;rw [if_neg hc,List.lookup_cons,hx]
  ·have hx:(x ==n)=false:=by simpa using hx
   rw [List.lookup_cons,hx] at h;have q:=ih h;rw [List.map_cons];have e:∀(b:Bool) (l:List (Str×NameKind)),List.lookup x ((if b=true then (n,NameKind.cell) else (n,k)) ::l)=l.lookup x:=fun b l=>by
    cases b <;>simp [List.lookup_cons,hx]
   rcases q with q|q
   ·exact .inl ((e _ _).trans q)
   ·exact .inr ((e _ _).trans q)
theorem Zcj{env:Env}:∀{names:List (Str×NameKind)} {x:Str},
    ((names.map fun (n,k)=>if (k ==NameKind.free && env.scope.kind ==.function && env.kindOf n ==some .cell) then (n,NameKind.cell) else (n,k)).lookup x=some .cell \/
     (names.map fun (n,k)=>if (k ==NameKind.free && env.scope.kind ==.function && env.kindOf n ==some .cell) then (n,NameKind.cell) else (n,k)).lookup x=some .free) ->
    names.lookup x=some .cell\/names.lookup x=some .free
  | [],_,h=>by simp at h
  | (n,k) ::r,x,h=>by
    have ih:=@Zcj env r x;rw [List.map_cons] at h
    by_cases hx:x ==n
    · rw [List.lookup_cons,hx];have e:∀(c:Prop) [Decidable c] (l:List (Str×NameKind)),List.lookup x ((if c then (n,NameKind.cell) else (n,k)) ::l)=some (if c then .cell else k):=fun c _ l=>by
        split <;>rw [List.lookup_cons,hx]
      rcases h with h|h
      · have h:=(e _ _).symm.trans h;have h:=Option.some.inj h;split at h
        · rename_i c
          right
          have:k=.free:=by
            rw [Bool.and_eq_true,Bool.and_eq_true] at c;simpa using c.1.1
          rw [this]
        · left;rw [h]
      · have h:=(e _ _).symm.trans h;have h:=Option.some.inj h;split at h
        · cases h
        · right;rw [h]
    · have hx:(x ==n)=false:=by simpa using hx
      have e:∀(c:Prop) [Decidable c] (l:List (Str×NameKind)),List.lookup x ((if c then (n,NameKind.cell) else (n,k)) ::l)=l.lookup x:=fun c _ l=>by
        split <;>rw [List.lookup_cons,hx]
      rw [List.lookup_cons,hx];exact ih (h.imp (fun z=>(e _ _).symm.trans z) fun z=>(e _ _).symm.trans z)
theorem Yc.std{X:Cx}{scope:Scope}{cl:List (Str×Addr)}{N':List Str}(n:Nat)(js:List Nat)(kind:scope.kind=.function)(cell:∀y∈scope.names,y.2 ≠ .cell)
  (names:∀y∈scope.names,y.2=.local->scope.names.lookup y.1=some .local) (clos:closureFor scope X.env=pure cl) (v6:Zqk (fun p=>X.env.cells.lookup p.1=some p.2) cl)
  (A3:(scope.names.all fun y=>y.2 !=.free || ((cl.lookup y.1).isSome && (X.env.kindOf y.1 ==some .cell || X.env.kindOf y.1 ==some .free)))=true)
  (hN:N'.length=n+js.length) (hj:Zqk (fun p:Nat×Nat=>∃x,N'[n+p.1]? =some x/\X.N[p.2]? =some x/\scope.names.lookup x=some .free) ((List.range js.length).zip js)) :
  Yc X scope cl N' (fun σ=>List.replicate n none++js.map fun j=>(σ[j]?).join) where
 kind:=kind
 cell:=cell
 names:=names
 clos:=clos
 sub:=fun x c h=>Zqk.mem (P:=fun p=>X.env.cells.lookup p.1=some p.2) (a:=(x,c)) v6 (PySem.mem_of_lookup h)
 has:=fun x h=>by
  rcases Zcj (env:=X.env) h with h|h
  ·exact absurd rfl (cell _ (PySem.mem_of_lookup h))
  ·have q:=List.all_eq_true.mp A3 _ (PySem.mem_of_lookup h);simp only [bne_self_eq_false,Bool.false_or,Bool.and_eq_true] at q;exact Option.isSome_iff_exists.mp q.1
 len:=fun σ _=>by simp [hN]
 fr:=fun σ i x v h1 h2 _=>by
  have hi:n<=i:=by
   rcases Nat.lt_or_ge i n with c7|V6
   ·rw [List.getElem?_append_left (by simpa using c7),List.getElem?_replicate,if_pos c7] at h2;cases h2
   ·exact V6
  rw [List.getElem?_append_right (by simpa using hi),List.length_replicate,List.getElem?_map] at h2;cases hjs:js[i-n]? with
  | none=>rw [hjs] at h2;cases h2
  | some j =>
   rw [hjs] at h2;have h2:(σ[j]?).join=some v:=Option.some.inj h2;have c7:i-n<js.length:=by
    rcases Nat.lt_or_ge (i-n) js.length with z|z
    ·exact z
    ·rw [List.getElem?_eq_none z] at hjs;cases hjs
   have hm:(i-n,j)∈(List.range js.length).zip js:=by
    rw [List.mem_iff_getElem?];refine ⟨i-n,?_⟩;rw [List.getElem?_zip_eq_some];exact ⟨by simp [c7],hjs⟩
   obtain ⟨x',e1,e2,e3⟩:=Zqk.mem hj hm;have e:n+(i-n)=i:=by lia
   simp only [e] at e1;rw [h1] at e1;cases e1;have q:=List.all_eq_true.mp A3 _ (PySem.mem_of_lookup e3);simp only [bne_self_eq_false,Bool.false_or,Bool.and_eq_true,Bool.or_eq_true,beq_iff_eq] at q;refine ⟨Zbv e3,q.2,j,e2,?_⟩;cases hs:σ[j]? with
   | none=>rw [hs] at h2;cases h2
   | some o=>rw [hs] at h2;exact congrArg some h2
end L2
namespace L2
open PySem PySem.Spec PyProof.Rows
inductive Tr where
 | non | int (i:Int) | str (x:Str) | tup (ts:List Tr) | lst (ts:List Tr)
noncomputable instance:DecidableEq Tr:=fun _ _=>Classical.propDecidable _
mutual
inductive Im(K:Frag)(H:Hp):Nat->Tr->V->Prop where
 | non {n:Nat}:Im K H n .non .non
 | int {n:Nat} (i:Int):Im K H n (.int i) (.int i)
 | str {n:Nat} (x:Str):Im K H n (.str x) (.str x)
 | tupI {n:Nat} {a:Addr} {xs:List V} {ts:List Tr}:SqT K H a xs->Ims K H n ts xs->Im K H (n+1) (.tup ts) (.ref a)
 | lstI {n:Nat} {a:Addr} {xs:List V} {ts:List Tr}:SqL K H a xs->Ims K H n ts xs->Im K H (n+1) (.lst ts) (.ref a)
inductive Ims(K:Frag)(H:Hp):Nat->List Tr->List V->Prop where
 | nil {n:Nat}:Ims K H n [] []
 | cons {n:Nat} {t:Tr} {v:V} {ts:List Tr} {vs:List V}:Im K H n t v->Ims K H n ts vs->Ims K H n (t ::ts) (v ::vs)
end
theorem Ims.toP{K:Frag}{H:Hp}{n:Nat}:∀{ts:List Tr} {xs:List V},Ims K H n ts xs->Paired (Im K H n) ts xs
 | [],_,h=>by cases h;exact .nil
 | _ ::_,_,h=>by
  cases h with
  | cons r t=>exact .cons r t.toP
theorem Ims.ofP{K:Frag}{H:Hp}{n:Nat}:∀{ts:List Tr} {xs:List V},Paired (Im K H n) ts xs->Ims K H n ts xs
 | _,_,.nil=>.nil
 | _,_,.cons r t=>.cons r (Ims.ofP t)
theorem Im.tup{K:Frag}{H:Hp}{n:Nat}{a:Addr}{xs:List V}{ts:List Tr}(sq:SqT K H a xs)(ps:Paired (Im K H n) ts xs):Im K H (n+1) (.tup ts) (.ref a):=.tupI sq (.ofP ps)
theorem Im.lst{K:Frag}{H:Hp}{n:Nat}{a:Addr}{xs:List V}{ts:List Tr}(sq:SqL K H a xs)(ps:Paired (Im K H n) ts xs):Im K H (n+1) (.lst ts) (.ref a):=.lstI sq (.ofP ps)
theorem Paired.get{α β:Type}{R:α->β->Prop}:∀{l₁:List α} {l₂:List β} {i:Nat} {a:α},Paired R l₁ l₂->l₁[i]? =some a->∃b,l₂[i]? =some b/\R a b
 | _,_,_,_,.nil,e=>by simp at e
 | _,_,0,_,.cons r _,e=>by simp at e;subst e;exact ⟨_,rfl,r⟩
 | _,_,i+1,a,.cons _ t,e=>by
  obtain ⟨u,h1,h2⟩:=Paired.get (i:=i) (a:=a) t (by simpa using e);exact ⟨u,by simpa using h1,h2⟩
theorem Paired.get'{α β:Type}{R:α->β->Prop}:∀{l₁:List α} {l₂:List β} {i:Nat} {b:β},Paired R l₁ l₂->l₂[i]? =some b->∃a,l₁[i]? =some a/\R a b
 | _,_,_,_,.nil,e=>by simp at e
 | _,_,0,_,.cons r _,e=>by simp at e;subst e;exact ⟨_,rfl,r⟩
 | _,_,i+1,a,.cons _ t,e=>by
  obtain ⟨u,h1,h2⟩:=Paired.get' (i:=i) (b:=a) t (by simpa using e);exact ⟨u,by simpa using h1,h2⟩
theorem Paired.append{α β:Type}{R:α->β->Prop}{a₁:List α}{b₁:List β}{a₂:List α}{b₂:List β}(h:Paired R a₁ b₁)(s:Paired R a₂ b₂):Paired R (a₁++a₂) (b₁++b₂):=by
 induction h with
 | nil=>exact s
 | cons r t ih=>exact .cons r ih
theorem Paired.strs{K:Frag}{H:Hp}{n:Nat}:∀xs:List Str,Paired (Im K H n) (xs.map Tr.str) (xs.map V.str)
 | []=>.nil
 | x ::xs=>.cons (.str x) (Paired.strs (K:=K) (H:=H) (n:=n) xs)
theorem Same.at{H H':Hp}{b:Addr}{o:HO}(e:Same H H')(h:H b=some o):H' b=some o:=e b o h
theorem Same.new{H:Hp}{p:Addr}{o:HO}(h:H p=none):Same H (upd H p o):=fun b u e=>by rw [Ze (Zi e h)];exact e
theorem Paired.uniq{α β:Type}{R:α->β->Prop}(f:∀a a' b,R a b->R a' b->a=a'){l l':List α}{m:List β}(h:Paired R l m)(h':Paired R l' m):l=l':=by
 induction h generalizing l' with
 | nil=>cases h';rfl
 | cons r t ih=>cases h' with
  | cons r' t'=>rw [f _ _ _ r r',ih t']
section
variable {X:Cx} {a6:List (Addr×Obj)} {σ:St} {H:Hp} {s:Shared}
theorem Inv.lt_excl(I:Inv X a6 σ H s){a:Addr}{xs ys:List V}(h:SqL X.K H a xs)(h':SqT X.K H a ys):False:=by
 obtain ⟨a7,_,pl,_⟩:=I.list h;obtain ⟨its',_,tp,_⟩:=I.tuple h';exact SeqAt.ne_of_list_tuple pl.isList (show s.heap.IsTuple a its'.toArray from tp) rfl
theorem Im.inj(I:Inv X a6 σ H s):∀{n:Nat} {t u:Tr} {v:V},Im X.K H n t v->Im X.K H n u v->t=u:=by
 intro n
 induction n with
 | zero=>intro t u v h h';cases h <;>cases h' <;>rfl
 | succ n ih =>
  intro t u v h h';cases h with
  | non=>cases h';rfl
  | int i=>cases h';rfl
  | str x=>cases h';rfl
  | tupI sq pm =>
   cases h' with
   | tupI o0 pm' =>
    have e:=I.tuple_inj sq o0;subst e;rw [Paired.uniq (R:=Im X.K H n) (fun _ _ _ z z'=>ih z z') pm.toP pm'.toP]
   | lstI o0 pm'=>exact (I.lt_excl o0 sq).elim
  | lstI sq pm =>
   cases h' with
   | tupI o0 pm'=>exact (I.lt_excl sq o0).elim
   | lstI o0 pm' =>
    have e:=I.list_inj sq o0;subst e;rw [Paired.uniq (R:=Im X.K H n) (fun _ _ _ z z'=>ih z z') pm.toP pm'.toP]
theorem Yk{A:Around}{s:Shared}{u v:Value}{b b':Bool}(h:SeqAt.EqAt A s u v b)(e:b=b'):SeqAt.EqAt A s u v b':=e ▸ h
theorem Zi6(ts us:List Tr):(((List.range (min ts.length us.length)).all fun j=>decide (ts[j]? =us[j]?)) && ts.length ==us.length)=decide (ts=us):=by
 rw [Bool.eq_iff_iff];simp only [Bool.and_eq_true,List.all_eq_true,List.mem_range,decide_eq_true_eq,beq_iff_eq]
 constructor
 ·rintro ⟨h,e⟩;refine List.ext_getElem? fun i=>?_
  by_cases hi:i<ts.length
  ·exact h i (by lia)
  ·rw [List.getElem?_eq_none (by lia),List.getElem?_eq_none (by lia)]
 ·rintro rfl;exact ⟨fun _ _=>rfl,rfl⟩
theorem Zod{ts us:List Tr}(h:ts.length=us.length):((List.range ts.length).all fun j=>decide (ts[j]? =us[j]?))=decide (ts=us):=by
 have q:=Zi6 ts us;rw [h,Nat.min_self,beq_self_eq_true,Bool.and_true] at q;rw [h];exact q
theorem Wx(A:Around):A.in1.units=A.units+1:=rfl
theorem Zef{n:Nat}{A:Around}{ts us:List Tr}{xs ys:List V}{a7 its':List Value}
  (ih:∀{t u:Tr} {x y:V} {vx vy:Value},Im X.K H n t x->Im X.K H n u y->Yl x vx->Yl y vy->SeqAt.EqAt A s vx vy (decide (t=u)))
  (ps:Paired (Im X.K H n) ts xs) (B9:Paired (Im X.K H n) us ys) (rv:Yh xs a7) (K8:Yh ys its') :
  ∀j (h1:j<a7.toArray.size) (h2:j<its'.toArray.size),SeqAt.EqAt A s a7.toArray[j] its'.toArray[j] (decide (ts[j]? =us[j]?)):=by
 intro j h1 h2;have l1:=rv.length;have l2:=K8.length;have h1':j<xs.length:=by simpa [l1] using h1
 have h2':j<ys.length:=by simpa [l2] using h2
 obtain ⟨t,e1,r1⟩:=Paired.get' ps (i:=j) (b:=xs[j]) (by simp [h1']);obtain ⟨u,e2,r2⟩:=Paired.get' B9 (i:=j) (b:=ys[j]) (by simp [h2']);obtain ⟨v1,f1,g1⟩:=rv.get (i:=j) (x:=xs[j]) (by simp [h1']);obtain ⟨v2,f2,g2⟩:=K8.get (i:=j) (x:=ys[j]) (by simp [h2']);have k1:a7.toArray[j]=v1:=by
  have:a7[j]? =some a7.toArray[j]:=by simp [show j<a7.length by simpa using h1]
  rw [f1] at this;exact (Option.some.inj this).symm
 have k2:its'.toArray[j]=v2:=by
  have:its'[j]? =some its'.toArray[j]:=by simp [show j<its'.length by simpa using h2]
  rw [f2] at this;exact (Option.some.inj this).symm
 rw [k1,k2,e1,e2];refine Yk (ih r1 r2 g1 g2) ?_;rw [Bool.eq_iff_iff];simp
theorem Im.tuple_rc(I:Inv X a6 σ H s){n:Nat}{A:Around}{a b:Addr}{ts us:List Tr}{xs ys:List V}
  (ih:∀{t u:Tr} {x y:V} {vx vy:Value},Im X.K H n t x->Im X.K H n u y->Yl x vx->Yl y vy->SeqAt.EqAt A.in1 s vx vy (decide (t=u))) (hu:A.units<cLine)
  (sq:SqT X.K H a xs) (ps:Paired (Im X.K H n) ts xs) (o0:SqT X.K H b ys) (B9:Paired (Im X.K H n) us ys) :
  SeqAt.RcAt A s (.ref a) (.ref b) (decide (Tr.tup ts=Tr.tup us))/\SeqAt.RcNeAt A s (.ref a) (.ref b) (!decide (Tr.tup ts=Tr.tup us)):=by
 obtain ⟨a7,rv,tp,_⟩:=I.tuple sq;obtain ⟨its',K8,A6,_⟩:=I.tuple o0;have l1:=rv.length;have l2:=K8.length;have m1:=Paired.length ps;have m2:=Paired.length B9;have e:((List.range (min a7.toArray.size its'.toArray.size)).all (fun j=>decide (ts[j]? =us[j]?)) && a7.toArray.size ==its'.toArray.size)=decide (Tr.tup ts=Tr.tup us):=by
  rw [List.size_toArray,List.size_toArray,<-l1,<-l2,<-m1,<-m2,Zi6,Bool.eq_iff_iff];simp
 constructor
 ·rw [<-e];exact SeqAt.RcAt.tuples (show s.heap.IsTuple a a7.toArray from tp) (show s.heap.IsTuple b its'.toArray from A6) hu (Zef ih ps B9 rv K8)
 ·rw [<-e];exact SeqAt.RcNeAt.tuples (show s.heap.IsTuple a a7.toArray from tp) (show s.heap.IsTuple b its'.toArray from A6) hu (Zef ih ps B9 rv K8)
theorem Im.list_rc(I:Inv X a6 σ H s){n:Nat}{A:Around}{a b:Addr}{ts us:List Tr}{xs ys:List V}
  (ih:∀{t u:Tr} {x y:V} {vx vy:Value},Im X.K H n t x->Im X.K H n u y->Yl x vx->Yl y vy->SeqAt.EqAt A.in1 s vx vy (decide (t=u))) (hu:A.units<cLine)
  (sq:SqL X.K H a xs) (ps:Paired (Im X.K H n) ts xs) (o0:SqL X.K H b ys) (B9:Paired (Im X.K H n) us ys) :
  SeqAt.RcAt A s (.ref a) (.ref b) (decide (Tr.lst ts=Tr.lst us))/\SeqAt.RcNeAt A s (.ref a) (.ref b) (!decide (Tr.lst ts=Tr.lst us)):=by
 obtain ⟨a7,rv,tp,_⟩:=I.list sq;obtain ⟨its',K8,A6,_⟩:=I.list o0;have l1:=rv.length;have l2:=K8.length;have m1:=Paired.length ps;have m2:=Paired.length B9
 by_cases hl:ts.length=us.length
 ·have e:((List.range a7.toArray.size).all fun j=>decide (ts[j]? =us[j]?))=decide (Tr.lst ts=Tr.lst us):=by
   rw [List.size_toArray,<-l1,<-m1,Zod hl,Bool.eq_iff_iff];simp
  have hs:a7.toArray.size=its'.toArray.size:=by rw [List.size_toArray,List.size_toArray];lia
  constructor
  ·rw [<-e];exact SeqAt.RcAt.lists tp.isList A6.isList hs hu (Zef ih ps B9 rv K8)
  ·rw [<-e];exact SeqAt.RcNeAt.lists tp.isList A6.isList hs hu (Zef ih ps B9 rv K8)
 ·have e:decide (Tr.lst ts=Tr.lst us)=false:=decide_eq_false fun z=>hl (by injection z with z;rw [z])
  have hs:(a7.toArray.size !=its'.toArray.size)=true:=by rw [List.size_toArray,List.size_toArray];simp;lia
  rw [e];exact ⟨SeqAt.RcAt.lists_lengths tp.isList A6.isList hs hu,SeqAt.RcNeAt.lists_lengths tp.isList A6.isList hs hu⟩
theorem Im.eqAt(I:Inv X a6 σ H s):∀(n:Nat) (A:Around) {t u:Tr} {x y:V} {vx vy:Value},Im X.K H n t x->Im X.K H n u y->Yl x vx->Yl y vy->A.units+n<cLine->SeqAt.EqAt A s vx vy (decide (t=u)):=by
 intro n
 induction n with
 | zero =>
  intro A t u x y vx vy h h' rx ry hu;cases h <;>cases h' <;>exact Yk (Zk9 rx ry rfl rfl) (by rw [Bool.eq_iff_iff];simp [eqV])
 | succ n ih =>
  intro A t u x y vx vy h h' rx ry hu;have E6:A.units<cLine:=by lia
  have hu1:A.in1.units+n<cLine:=by rw [Wx];lia
  have ih1:∀{t u:Tr} {x y:V} {vx vy:Value},Im X.K H n t x->Im X.K H n u y->Yl x vx->Yl y vy->SeqAt.EqAt A.in1 s vx vy (decide (t=u)):=fun z z' r r'=>ih A.in1 z z' r r' hu1
  cases h with
  | @tupI _ a xs ts sq pm =>
   cases rx;obtain ⟨a7,rv,tp,_⟩:=I.tuple sq;cases h' with
   | non=>cases ry;exact Yk (SeqAt.EqAt.tuple_none (show s.heap.IsTuple _ a7.toArray from tp) E6) (decide_eq_false fun z=>nomatch z).symm
   | int i=>obtain ⟨t',rfl⟩:=ry;exact Yk (SeqAt.EqAt.tuple_int i t' (show s.heap.IsTuple _ a7.toArray from tp) E6) (decide_eq_false fun z=>nomatch z).symm
   | str i=>obtain ⟨t',rfl⟩:=ry;exact Yk (SeqAt.EqAt.tuple_str i t' (show s.heap.IsTuple _ a7.toArray from tp) E6) (decide_eq_false fun z=>nomatch z).symm
   | @tupI _ b ys us o0 pm' =>
    cases ry
    by_cases M3:a=b
    ·subst M3;rw [Im.inj I (Im.tupI sq pm) (Im.tupI o0 pm'),decide_eq_true rfl];exact SeqAt.EqAt.same _
    ·exact SeqAt.EqAt.of_refs M3 (Im.tuple_rc I ih1 E6 sq pm.toP o0 pm'.toP).1
   | lstI o0 pm' =>
    cases ry;obtain ⟨its',K8,A6,_⟩:=I.list o0;exact Yk (SeqAt.EqAt.tuple_list (show s.heap.IsTuple _ a7.toArray from tp) A6.isList E6) (decide_eq_false fun z=>nomatch z).symm
  | @lstI _ a xs ts sq pm =>
   cases rx;obtain ⟨a7,rv,tp,_⟩:=I.list sq;cases h' with
   | non=>cases ry;exact Yk (SeqAt.EqAt.list_none tp.isList E6) (decide_eq_false fun z=>nomatch z).symm
   | int i=>obtain ⟨t',rfl⟩:=ry;exact Yk (SeqAt.EqAt.list_int i t' tp.isList E6) (decide_eq_false fun z=>nomatch z).symm
   | str i=>obtain ⟨t',rfl⟩:=ry;exact Yk (SeqAt.EqAt.list_str i t' tp.isList E6) (decide_eq_false fun z=>nomatch z).symm
   | tupI o0 pm' =>
    cases ry;obtain ⟨its',K8,A6,_⟩:=I.tuple o0;exact Yk (SeqAt.EqAt.list_tuple tp.isList (show s.heap.IsTuple _ its'.toArray from A6) E6) (decide_eq_false fun z=>nomatch z).symm
   | @lstI _ b ys us o0 pm' =>
    cases ry
    by_cases M3:a=b
    ·subst M3;rw [Im.inj I (Im.lstI sq pm) (Im.lstI o0 pm'),decide_eq_true rfl];exact SeqAt.EqAt.same _
    ·exact SeqAt.EqAt.of_refs M3 (Im.list_rc I ih1 E6 sq pm.toP o0 pm'.toP).1
  | non =>
   cases rx;cases h' with
   | non=>cases ry;exact Yk (SeqAt.EqAt.same _) (decide_eq_true rfl).symm
   | int i=>obtain ⟨t',rfl⟩:=ry;exact Yk (SeqAt.EqAt.none_int i t') (decide_eq_false fun z=>nomatch z).symm
   | str i=>obtain ⟨t',rfl⟩:=ry;exact Yk (SeqAt.EqAt.none_str i t') (decide_eq_false fun z=>nomatch z).symm
   | tupI o0 pm'=>cases ry;obtain ⟨its',_,A6,_⟩:=I.tuple o0;exact Yk (SeqAt.EqAt.none_tuple (show s.heap.IsTuple _ its'.toArray from A6) E6) (decide_eq_false fun z=>nomatch z).symm
   | lstI o0 pm'=>cases ry;obtain ⟨its',_,A6,_⟩:=I.list o0;exact Yk (SeqAt.EqAt.none_list A6.isList E6) (decide_eq_false fun z=>nomatch z).symm
  | int j =>
   cases h' with
   | tupI o0 pm'=>obtain ⟨t',rfl⟩:=rx;cases ry;obtain ⟨its',_,A6,_⟩:=I.tuple o0;exact Yk (SeqAt.EqAt.int_tuple j t' (show s.heap.IsTuple _ its'.toArray from A6) E6) (decide_eq_false fun z=>nomatch z).symm
   | lstI o0 pm'=>obtain ⟨t',rfl⟩:=rx;cases ry;obtain ⟨its',_,A6,_⟩:=I.list o0;exact Yk (SeqAt.EqAt.int_list j t' A6.isList E6) (decide_eq_false fun z=>nomatch z).symm
   | _=>exact Yk (Zk9 rx ry rfl rfl) (by rw [Bool.eq_iff_iff];simp [eqV])
  | str j =>
   cases h' with
   | tupI o0 pm'=>obtain ⟨t',rfl⟩:=rx;cases ry;obtain ⟨its',_,A6,_⟩:=I.tuple o0;exact Yk (SeqAt.EqAt.str_tuple j t' (show s.heap.IsTuple _ its'.toArray from A6) E6) (decide_eq_false fun z=>nomatch z).symm
   | lstI o0 pm'=>obtain ⟨t',rfl⟩:=rx;cases ry;obtain ⟨its',_,A6,_⟩:=I.list o0;exact Yk (SeqAt.EqAt.str_list j t' A6.isList E6) (decide_eq_false fun z=>nomatch z).symm
   | _=>exact Yk (Zk9 rx ry rfl rfl) (by rw [Bool.eq_iff_iff];simp [eqV])
end
def Zx0(K:Frag)(neg:Bool):R2:=fun x y H Q=>∃n t u,n<=60/\((∃ts us,t=Tr.tup ts/\u=Tr.tup us)\/∃ts us,t=Tr.lst ts/\u=Tr.lst us)/\Im K H n t x/\Im K H n u y/\Q (.bl (if neg then !decide (t=u) else decide (t=u))) H
theorem Zzl{X:Cx}(hu:X.A.units+64<cLine):OpR X (compareOp .Eq) (Zx0 X.K false):=by
 intro a6 s σ H x y v u Q I rx ry h;obtain ⟨n,t,t',hn,hk,h1,h2,q⟩:=h;rcases hk with ⟨ts,us,rfl,rfl⟩|⟨ts,us,rfl,rfl⟩
 ·cases h1 with
  | tupI sq pm =>
   cases h2 with
   | tupI o0 pm' =>
    cases rx;cases ry;exact (Im.tuple_rc (A:=X.A) I (fun z z' r r'=>Im.eqAt I _ _ z z' r r' (by rw [Wx];lia)) (by lia) sq pm.toP o0 pm'.toP).1 _ _ _ _ ⟨.bl _,H,I,rfl,q⟩
 ·cases h1 with
  | lstI sq pm =>
   cases h2 with
   | lstI o0 pm' =>
    cases rx;cases ry;exact (Im.list_rc (A:=X.A) I (fun z z' r r'=>Im.eqAt I _ _ z z' r r' (by rw [Wx];lia)) (by lia) sq pm.toP o0 pm'.toP).1 _ _ _ _ ⟨.bl _,H,I,rfl,q⟩
theorem Zzj{X:Cx}(hu:X.A.units+64<cLine):OpR X (compareOp .NotEq) (Zx0 X.K true):=by
 intro a6 s σ H x y v u Q I rx ry h;obtain ⟨n,t,t',hn,hk,h1,h2,q⟩:=h;rcases hk with ⟨ts,us,rfl,rfl⟩|⟨ts,us,rfl,rfl⟩
 ·cases h1 with
  | tupI sq pm =>
   cases h2 with
   | tupI o0 pm' =>
    cases rx;cases ry;exact (Im.tuple_rc (A:=X.A) I (fun z z' r r'=>Im.eqAt I _ _ z z' r r' (by rw [Wx];lia)) (by lia) sq pm.toP o0 pm'.toP).2 _ _ _ _ ⟨.bl _,H,I,rfl,q⟩
 ·cases h1 with
  | lstI sq pm =>
   cases h2 with
   | lstI o0 pm' =>
    cases rx;cases ry;exact (Im.list_rc (A:=X.A) I (fun z z' r r'=>Im.eqAt I _ _ z z' r r' (by rw [Wx];lia)) (by lia) sq pm.toP o0 pm'.toP).2 _ _ _ _ ⟨.bl _,H,I,rfl,q⟩
def Zyu(t:TA):TE:=fun σ H Q=>t σ H fun xs H1=>xs.length<=sizeLine/\∀p H',Same H1 H'->H1 p=none->H' p=some (.tup xs)->Q (.ref p) H'
def Yb9(t:TA):TE:=fun σ H Q=>t σ H fun xs H1=>xs.length<=sizeLine/\∀p H',Same H1 H'->H1 p=none->H' p=some (.lst xs)->Q (.ref p) H'
theorem Zj{X:Cx}{es:List Expr}{t:TA}{pos:Pos}{x1}(h:PA X es t):PE X (.Tuple es x1 pos) (Zyu t):=by
 intro a6 s σ H Q I hq;refine wpAny_Tuple_spliced (thn (h pos a6 s σ H _ I hq) fun us s1 ⟨xs,H1,I1,r,z,q⟩=>⟨by rw [<-r.length];exact z,?_⟩);have hf:H1 s1.heap.objs.size=none:=I1.hok.fresh (Nat.le_refl _);refine ⟨.ref s1.heap.objs.size,upd H1 s1.heap.objs.size (.tup xs),I1.laid (t':=s1.toks) (fun b u e=>Heap.get?_push_of_some _ e) (Nat.le_refl _) ?_,rfl,q _ _ (Same.new hf) hf Zf⟩;exact ⟨z,us,r,⟨_,Heap.get?_push_size _ rfl,rfl,_,rfl⟩⟩
theorem Zl{X:Cx}{es:List Expr}{t:TA}{pos:Pos}(h:PA X es t):PE X (.List es pos) (Yb9 t):=by
 intro a6 s σ H Q I hq;refine wpAny_List_spliced (thn (h pos a6 s σ H _ I hq) fun us s1 ⟨xs,H1,I1,r,z,q⟩=>⟨by rw [<-r.length];exact z,?_⟩);have hf:H1 s1.heap.objs.size=none:=I1.hok.fresh (Nat.le_refl _);refine ⟨.ref s1.heap.objs.size,upd H1 s1.heap.objs.size (.lst xs),I1.laid (t':=s1.toks) (fun b u e=>Heap.get?_push_of_some _ e) (Nat.le_refl _) ?_,rfl,q _ _ (Same.new hf) hf Zf⟩;exact ⟨z,us,0,r,Heap.get?_push_size _ rfl⟩
theorem OpR.imp{X:Cx}{f:Value->Value->Sem Value}{r r':R2}(h:OpR X f r)(g:∀x y H Q,r' x y H Q->r x y H Q):OpR X f r':=fun a6 s σ H x y v u Q I rx ry q=>h a6 s σ H x y v u Q I rx ry (g _ _ _ _ q)
theorem SlR.imp{X:Cx}{r r':V->Option Int->Option Int->Hp->VK->Prop}(h:SlR X r)(g:∀x l u H Q,r' x l u H Q->r x l u H Q):SlR X r':=fun a6 s σ H x v vl vu lo hi sl Q I rx hs pl pu q=>h a6 s σ H x v vl vu lo hi sl Q I rx hs pl pu (g _ _ _ _ _ q)
theorem X0.imp{X:Cx}{f:Value}{r r':List V->Hp->VK->Prop}(h:X0 X f r)(g:∀xs H Q,r' xs H Q->r xs H Q):X0 X f r':=fun a6 s σ H xs us Q I rs q=>h a6 s σ H xs us Q I rs (g _ _ _ q)
def New(H:Hp)(o:HO)(Q:VK):Prop:=∀p H',Same H H'->H p=none->H' p=some o->Q (.ref p) H'
theorem New.at{H:Hp}{o:HO}{Q:VK}(h:New H o Q)(p:Addr)(hp:H p=none):Q (.ref p) (upd H p o):=h p _ (Same.new hp) hp Zf
def Zy7:R2:=fun x y H Q=>∃l b xs zs,x=.ref l/\y=.ref b/\H l=some (.lst xs)/\H b=some (.lst zs)/\xs.length+zs.length<=sizeLine/\New H (.lst (xs++zs)) Q
theorem Zyf{X:Cx}:OpR X (binaryOp .Add) Zy7:=Yao.imp fun x y H Q ⟨l,b,xs,zs,h1,h2,h3,h4,h5,h6⟩=>⟨l,b,xs,zs,h1,h2,h3,h4,h5,fun p hp=>h6.at p hp⟩
def Zyx(K:Frag):V->Option Int->Option Int->Hp->VK->Prop:=fun x lo hi H Q=>∃a xs,x=.ref a/\SqT K H a xs/\¬(HT.sIx xs.length 0 lo=0/\HT.sIx xs.length xs.length hi=xs.length)/\New H (.tup (Zgs xs lo hi)) Q
theorem Zx8{X:Cx}:SlR X (Zyx X.K):=Zz4.imp fun x l u H Q ⟨a,xs,h1,h2,h3,h4⟩=>⟨a,xs,h1,h2,h3,fun p hp=>h4.at p hp⟩
def Zyz(K:Frag):V->Option Int->Option Int->Hp->VK->Prop:=fun x lo hi H Q=>∃a xs,x=.ref a/\SqL K H a xs/\New H (.lst (Zgs xs lo hi)) Q
theorem Zw1{X:Cx}:SlR X (Zyz X.K):=Zyi.imp fun x l u H Q ⟨a,xs,h1,h2,h4⟩=>⟨a,xs,h1,h2,fun p hp=>h4.at p hp⟩
theorem Y0{X:Cx}{CX:CXT}{k:Nat}{f C:Addr}{fd:FuncData}{ps:List Str}{sp:Sp}{C0:List V}{ds:List Value}{E:XK}{x:Str}{p pos:Pos}{e:Expr}{es:List Expr}{t:TA}(mr:List V->Hp->VK->Prop)(M:Mk X.K C f)
  (F:Zu X.prog X.w X.K X.mg X.base CX k f fd ps sp) (hr:Wq (k+1) X.A) (hg:Gl X x) (hm:X.mg x=some (.ref C)) (hb:Zbu X.K fd ps ds) (hd:Yh C0 ds) (hx:Zgi CX X E)
  (hmr:∀vs H Q,mr vs H Q->∀x dx,H x=none->H dx=none->dx≠x->sp (.ref x ::(vs++C0)) (upd (upd H dx (.own x)) x (.ins C dx [])) (fun v H2=>v=.non/\Q (.ref x) H2) E)
  (ha:PA X (e ::es) t) (V3:(x ==("__debug__" :Str))=false:=by decide) (he:starEach (e ::es) X.env=(false,eval e X.env) ::starEach es X.env:=by rfl) (i6:(backTo pos (starEach es X.env)).any (·.1)=false:=by rfl) :
  PE X (.Call (.Name x p) (e ::es) [] pos) (tCB mr t):=by
 intro a6 s σ H Q I h;refine wpAny_Call_Name_kw (Zo2 I hg hm ?_ V3);refine PySem.W.callWith_K (h₀:=X.base) I.ok.mod.kin M.kp (thn (ha pos a6 s σ H _ I h) fun us s1 ⟨vs,H1,I1,r,q⟩=>⟨I1.kIn,?_⟩) he i6;exact Zwo M F hr hb hd hx I1 r (hmr vs H1 Q q)
section
variable {X:Cx} {k:Nat}
theorem Yaq(hu:X.A.units+1<cLine):OpR X (compareOp .In) (fun y x H Q=>∃a o,x=.ref a/\Wa H a y o/\Q (.bl o.isSome) H):=by
 intro a6 s σ H y x v u Q I ry rx h;obtain ⟨a,ov,rfl,g,q⟩:=h;cases rx;exact Yc0 hu I g ry fun s3 I3=>⟨.bl ov.isSome,H,I3,rfl,q⟩
theorem Zuk(hu:X.A.units+1<cLine):OpR X (compareOp .NotIn) (fun y x H Q=>∃a o,x=.ref a/\Wa H a y o/\Q (.bl (!o.isSome)) H):=by
 intro a6 s σ H y x v u Q I ry rx h;obtain ⟨a,ov,rfl,g,q⟩:=h;cases rx;exact Zyd hu I g ry fun s3 I3=>⟨.bl (!ov.isSome),H,I3,rfl,q⟩
theorem We:OpR X (binaryOp .Add) (fun x y H Q=>rI0 (fun i j=>.int (i+j)) x y H Q\/(∃i j,x=.str i/\y=.str j/\i.length+j.length<=sizeLine/\Q (.str (i++j)) H)\/Zy7 x y H Q):=Yac.or (Zso.or Zyf)
end
theorem sz{n:Nat}(h:n<=1000):n<=sizeLine:=Nat.le_of_lt (Zx h)
structure Zrv(K:Frag)(x a9:Str)(st:Stmt)(dV:Value)(f:Addr)(fd:FuncData):Prop where
 ex:∃(oc:Value) (od:Option Addr) (kV i5 pm:Value) (an:Option Addr) (a8 ct:Value) (E5:Array (Option Value)),
  fd=fnOf x a9 (Xk st) (Y2 st) (Zh st) dV kV i5 pm an a8 ct/\K.lookup f=some ⟨oc,od,.func fd,E5⟩/\codeIn K a8 a9=true
 kp:keepIn K (.ref f)=true
section
variable {P:Program} {w:World} {K:Frag} {mg:Str->Option Value} {base:Heap}
theorem Zrv.ok{x a9:Str}{st:Stmt}{dV:Value}{f:Addr}{fd:FuncData}{N ps:List Str}{k:Nat}{sp:Sp}(F:Zrv K x a9 st dV f fd)(S:Zn N ps (Zh st))(len:∀vs H Q E,sp vs H Q E->vs.length=ps.length)
  (u5:∀(a8:Value) (A:Around) (outer:List Env) (s:Shared) (H:Hp) (vs:List V) (Q:VK) (E:XK),Wq k (A.deeper (envOfC a9 (Zh st) s.heap.objs.size f a8))->sp vs H Q E ->
   WSs (Zg9 CX0 P w K mg base N a9 (Zh st) f a8 A outer s H E).nox (Y2 st) { nx:=fun _ H'=>Q .non H',rt:=Q } (start N vs) H):Zu P w K mg base CX0 (k+1) f fd ps sp:=by
 obtain ⟨oc,od,kV,i5,pm,an,a8,ct,E5,rfl,lk,E9⟩:=F.ex;refine Zy8 lk E9 S len fun A outer s H vs Q E hr D3=>?_
 exact ⟨_,PSs.nox Zy,u5 a8 A outer s H vs Q E hr D3⟩
theorem Fun.okW{x a9:Str}{st:Stmt}{f:Addr}{fd:FuncData}{N ps:List Str}{k:Nat}{sp:Sp}(F:Fun K x a9 st f fd)(S:Zn N ps (Zh st))
  (u5:∀(a8:Value) (A:Around) (outer:List Env) (s:Shared) (H:Hp) (vs:List V) (Q:VK) (E:XK),Wq k (A.deeper (envOfC a9 (Zh st) s.heap.objs.size f a8))->sp vs H Q E ->
   let X:=(Zg9 CX0 P w K mg base N a9 (Zh st) f a8 A outer s H E).nox;WSs X (Y2 st) { nx:=fun _ H'=>Q .non H',rt:=Q } (start N vs) H) (len:∀vs H Q E,sp vs H Q E->vs.length=ps.length:=by rintro _ _ _ _ h;repeat (first|(obtain ⟨e,_⟩:=h;subst e;rfl)|obtain ⟨_,h⟩:=h)):Zu P w K mg base CX0 (k+1) f fd ps sp :=
 F.ok S len fun a8 A outer s H vs Q E hr h=>⟨_,Zy,u5 a8 A outer s H vs Q E hr h⟩
theorem Zte{x a9:Str}{st:Stmt}{f:Addr}{oc dV:Value}{od an:Option Addr}{E5:Array (Option Value)}{kV i5 pm a8 ct:Value}(l:K.lookup f=some ⟨oc,od,.func (fnOf x a9 (Xk st) (Y2 st) (Zh st) dV kV i5 pm an a8 ct),E5⟩)
  (c:codeIn K a8 a9=true) (k:keepIn K (.ref f)=true):Zrv K x a9 st dV f (fnOf x a9 (Xk st) (Y2 st) (Zh st) dV kV i5 pm an a8 ct):=⟨⟨oc,od,kV,i5,pm,an,a8,ct,E5,rfl,l,c⟩,k⟩
end
structure Dn(K:Frag)(x a9:Str)(st:Stmt)(ps:List Str) where
 f:Addr
 fd:FuncData
 F:Fun K x a9 st f fd
 b:Zbu K fd ps []
theorem Zkl{α:Type}{l:List α}{i:Nat}{a:α}(h:l[i]? =some a):l.drop i=a ::l.drop (i+1):=by
 have hi:i<l.length:=by
  rcases Nat.lt_or_ge i l.length with z|z
  ·exact z
  ·rw [List.getElem?_eq_none z] at h;cases h
 rw [List.drop_eq_getElem_cons hi];rw [List.getElem?_eq_getElem hi] at h;rw [Option.some.inj h]
theorem Zax:∀l:List Str,(l.map V.str).all Ze6=true
 | []=>rfl
 | _ ::l=>by rw [List.map_cons,List.all_cons,Zax l];rfl
theorem Wp(x:Str):∀l:List Str,inV (.str x) (l.map V.str)=decide (x∈l)
 | []=>by simp [inV]
 | y ::l=>by
  have ih:=Wp x l;unfold inV at ih ⊢;rw [List.map_cons,List.any_cons,ih,Bool.eq_iff_iff];simp only [eqV,Bool.or_eq_true,beq_iff_eq,decide_eq_true_eq,List.mem_cons]
  constructor
  ·rintro (h|h)
   ·exact .inl h.symm
   ·exact .inr h
  ·rintro (h|h)
   ·exact .inl h.symm
   ·exact .inr h
end L2
end
section
namespace NM
def tA:List Int:=[0,1035609595,1591546621,1776858963,1869515134,207121919,1962171305,454727606,934757567,592286321,1177302783,484597899,2054827476,1896763824,227363803,784868522,1541120607,2082079291,1369884984,958709409,1662393215,867403751,1316040773,418501921,1027413738,1329914572,948381912,913256656,1187423725,1664836201,392434261,1903795744,1844302127,161532633,2114781469,949938980,684942492,1304871617,1553096528,632254608,1904938431,1177567069,1507443699,923030587,1731762210,977450723,1282992784,1986753328,513706869,985311221,664957286,2125682195,474190956,1235096585,456628328,1385409768,1667453686,319569803,1906159924,17552705,1269958954,1073116705,951897872,1004962466]
def tB:List Int:=[0,1073741815,1610612722,1789569691,805306361,214748363,1968526660,766958439,1476394995,2028178983,1181115996,1268967599,984263330,412977621,1457221034,787410664,1811939312,1831677213,2087831306,1412818177,590557998,255652813,1708225614,1820692642,492131665,1331439850,1280230625,676059661,728610517,1369946453,393705332,381005160,905969656,1138817076,1989580421,1871378591,1043915653,1421982403,1780150903,137659207,295278999,1126119464,1201568221,1173624774,854112807,1694125974,910346321,525448122,1319807647,1029915618,665719925,610559071,1713857127,1600483082,1411771645,1971780423,1438047073,1902595145,1758715041,1401324063,196852666,1637016209,190502580,1516873357]
end NM
namespace NM
open PySem L2
def Zer:List Nat:=[97,98,99,100,101,102,103,104,105,106,107,108,109,110,111,112,113,114,115,116,117,118,119,120,121,122]
theorem Zpl:("abcdefghijklmnopqrstuvwxyz" :Str).cps.toList=Zer:=by trivial
theorem Zj6:("abcdefghijklmnopqrstuvwxyz" :Str).length=26:=by trivial
def uniq(f:Nat->Str):Nat->List Str
 | 0=>[]
 | n+1=>if f n∈uniq f n then uniq f n else uniq f n++[f n]
end NM
end
section
namespace L2
open PySem PySem.Spec PyProof.Rows
def Ybb:HO->Bool
 | .dK _=>true
 | .dT _=>true
 | _=>false
section
variable {X:Cx} {a6:List (Addr×Obj)} {σ:St} {H:Hp} {s:Shared} {d:Addr} {o:Obj} {u:HO}
theorem HOk.retold{P:Program}{w:World}{h:Heap}{v v':HO}(x:HOk P w H h)(hd:H d=some v)(no:∀y,v ≠ .own y)(nt:∀xs,v ≠ .tup xs)(nz:∀o y,v ≠ .frz o (.own y))(new:Yy P w (upd H d v') h d v'):HOk P w (upd H d v') h:=fun b q e=>by
 by_cases hb:b=d
 ·subst hb;rw [Zf] at e;cases e;exact new
 ·rw [Ze hb] at e;refine (x b q e).stay (fun _ _ _ z=>z) (fun c z=>?_) (fun c xs z=>?_) (fun c ob z=>?_)
  ·rw [Ze (fun y=>by subst y;rw [hd] at z;exact no _ (Option.some.inj z))];exact z
  ·rw [Ze (fun y=>by subst y;rw [hd] at z;exact nt _ (Option.some.inj z))];exact z
  ·rw [Ze (fun y=>by subst y;rw [hd] at z;exact nz _ _ (Option.some.inj z))];exact z
theorem Zg7{P:Program}{w:World}{h:Heap}{v v' u:HO}(hd:H d=some v)(no:∀y,v ≠ .own y)(nt:∀xs,v ≠ .tup xs)(nz:∀o y,v ≠ .frz o (.own y))(x:Yy P w H h d u):Yy P w (upd H d v') h d u :=
 x.stay (fun _ _ _ z=>z) (fun c z=>by rw [Ze (fun y=>by subst y;rw [hd] at z;exact no _ (Option.some.inj z))];exact z) (fun c xs z=>by rw [Ze (fun y=>by subst y;rw [hd] at z;exact nt _ (Option.some.inj z))];exact z) (fun c ob z=>by rw [Ze (fun y=>by subst y;rw [hd] at z;exact nz _ _ (Option.some.inj z))];exact z)
theorem Inv.retell{v':HO}{v:HO}(I:Inv X a6 σ H s)(hd:H d=some v)(no:∀y,v ≠ .own y)(nt:∀xs,v ≠ .tup xs)(nz:∀o y,v ≠ .frz o (.own y))(nb:∀ps,v ≠ .tbl ps)(nf:∀o u,X.H₀ d≠some (.frz o u))(new:Yy X.prog X.w (upd H d v') s.heap d v') :
  Inv X a6 σ (upd H d v') s:=by
 have nd:∀b,H b=none->b≠d:=fun b n z=>by subst z;rw [n] at hd;cases hd
 refine ⟨I.ok,I.os,I.bare,?_,I.loc,I.cell,?_,fun x c e=>?_,fun p hp=>?_,I.hok.retold hd no nt nz new,I.len⟩
 ·have b:=I.base;refine ⟨b.keep,b.slot,fun c q e n hx=>?_,b.there,fun c xs e=>?_,fun c ob q e=>?_,fun c ps e=>?_⟩
  ·have z:=b.free c q e n hx;rw [Ze (nd c z)];exact z
  ·have z:=b.tups c xs e;rw [Ze (fun y=>by subst y;rw [hd] at z;exact nt _ (Option.some.inj z))];exact z
  ·have z:=b.frzs c ob q e;rw [Ze (fun y=>by subst y;exact nf _ _ e)];exact z
  ·obtain ⟨m,z⟩:=b.tbls c ps e;exact ⟨m,by rw [Ze (fun y=>by subst y;rw [hd] at z;exact nb _ (Option.some.inj z))];exact z⟩
 ·rw [Ze (nd _ I.free)];exact I.free
 ·rw [Ze (nd _ (I.freeC x c e))];exact I.freeC x c e
 ·obtain ⟨p1,p2,p3⟩:=I.pin p hp;exact ⟨p1,by rw [Ze (nd _ p2)];exact p2,p3⟩
theorem Inv.notFrz(I:Inv X a6 σ H s){v:HO}(hd:H d=some v)(n:∀o u,v ≠ .frz o u):∀o u,X.H₀ d≠some (.frz o u):=fun o u z=>by
 have:=I.base.frzs d o u z;rw [hd] at this;exact n _ _ (Option.some.inj this)
theorem Inv.freeze(I:Inv X a6 σ H s)(hd:H d=some u)(hu:Ybb u=true)(ho:s.heap.get? d=some o):Inv X a6 σ (upd H d (.frz o u)) s:=by
 have n1:∀y,u ≠ .own y:=fun y z=>by subst z;cases hu
 have n2:∀xs,u ≠ .tup xs:=fun y z=>by subst z;cases hu
 have n3:∀o y,u ≠ .frz o (.own y):=fun o y z=>by subst z;cases hu
 refine I.retell hd n1 n2 n3 (fun y z=>by subst z;cases hu) (I.notFrz hd fun _ _ z=>by subst z;cases hu) ⟨ho,Zg7 hd n1 n2 n3 (I.hok d u hd)⟩
theorem Inv.thaw(I:Inv X a6 σ H s)(hd:H d=some (.frz o u))(nf:∀o u,X.H₀ d≠some (.frz o u))(nu:∀y,u ≠ .own y:=by exact fun _ z=>nomatch z):Inv X a6 σ (upd H d u) s:=by
 obtain ⟨_,q⟩:=I.hok d _ hd;have n3:∀o' y,HO.frz o u ≠ .frz o' (.own y):=fun o' y z=>nu y (HO.frz.inj z).2
 exact I.retell hd (fun _ z=>nomatch z) (fun _ z=>nomatch z) n3 (fun _ z=>nomatch z) nf (Zg7 hd (fun _ z=>nomatch z) (fun _ z=>nomatch z) n3 q)
end
theorem Same.thaw{H H':Hp}{d:Addr}{o:Obj}{u:HO}(hd:H d=some u)(h:Same (upd H d (.frz o u)) H'):Same H (upd H' d u):=fun b q e=>by
 by_cases hb:b=d
 ·subst hb;rw [hd] at e;cases e;exact Zf
 ·rw [Ze hb];exact h b q (by rw [Ze hb];exact e)
def Itd(d:Addr)(o:Obj)(kvs:List (Key×V)):It :=
 ⟨fun i H=>H d=some (.frz o (.dK kvs))/\i<kvs.length,fun i H x H'=>H'=H/\∃kv,kvs[i]? =some kv/\x=kV kv.1,fun i H=>H d=some (.frz o (.dK kvs))/\kvs.length<=i⟩
theorem Zwr{P:Program}{w:World}{k:Key}{u:Value}(h:(Z5 P w).is k u=true):Yl (kV k) u:=by
 rcases Xs (show Zlc k u=true from h) with ⟨i,t,rfl,rfl⟩|⟨x,t,rfl,rfl⟩
 ·exact ⟨t,rfl⟩
 ·exact ⟨t,rfl⟩
theorem KV.get{kvs:List (Key×V)}{vs:List (Key×Value)}{i:Nat}{kv:Key×V}(r:KV kvs vs)(h:kvs[i]? =some kv):∃u,vs[i]? =some (kv.1,u)/\Yl kv.2 u:=by
 obtain ⟨q,h1,h2,h3⟩:=Paired.get r h;exact ⟨q.2,by rw [h1,h2],h3⟩
theorem Zud{P:Program}{w:World}{K:Frag}{tg:Expr}{d:Addr}{o:Obj}{kvs:List (Key×V)}{vs:List (Key×Value)}{ep:Nat}(it:Addr)(hk:KV kvs vs)
  (hD:∀h:Heap,h.get? d=some o->h.DictAt (Z5 P w) d vs ep):Zmq P w K tg (Itd d o kvs) [it] it (fun i h=>h.IsKeyIter it d i vs.length ep) where
 mem:=by simp
 obj:=fun i h st b hb=>by
  have e:b=it:=by simpa using hb
  subst e;obtain ⟨ob,e,c,dd⟩:=st;exact ⟨ob,e,fun v z=>by rw [dd] at z;cases z⟩
 keep:=fun i h h' st k=>st.at fun ob e=>k it (by simp) ob e
 item:=by
  intro X hP hw hK hc i a6 s σ H E I hf st hg;subst hP hw hK;obtain ⟨hq,c7⟩:=hg;obtain ⟨f0,f1,f2,f3,f4,f5⟩:=hf it (by simp);have O3:s.heap.get? d=some o:=(I.hok d _ hq).1;obtain ⟨u,hu,_⟩:=hk.get (i:=i) (kv:=kvs[i]) (by simp [c7]);refine wpAny_pyNext_dict_item (knd:=Z5 X.prog X.w) st (hD _ O3) hu fun key h' E8 i9 sb=>?_
  have I1:Inv X a6 σ H { s with heap:=h' }:=I.turned (t':=s.toks) (fun b o hb e=>(sb.2 b hb).trans e) f0 f1 f3 f4 f5;obtain ⟨ob,e,c,dd⟩:=id i9;exact ⟨key,rfl,Zls (s:={ s with heap:=h' }) e c dd (by decide) ⟨kV kvs[i].1,H,I1,Zwr E8,⟨rfl,kvs[i],by simp [c7],rfl⟩,i9,fun b hb=>(hf b hb).1⟩⟩
 done:=by
  intro X hP hw hK hc i a6 s σ H E I hf st hg;subst hP hw hK;obtain ⟨hq,w4⟩:=hg;obtain ⟨f0,f1,f2,f3,f4,f5⟩:=hf it (by simp);have O3:s.heap.get? d=some o:=(I.hok d _ hq).1;have hl:=KV.length hk;exact wpAny_pyNext_dict_end (knd:=Z5 X.prog X.w) (I.ok.hd hc) st (hD _ O3) (List.getElem?_eq_none (by lia)) fun h' eb=>⟨rfl,I.turned (t':=s.toks) (fun b o hb e=>eb b o hb e) f0 f1 f3 f4 f5⟩
 self:=fun _ _ _ _ _ st h=>wpAny_pyIter_keyiter st h
def NF(X:Cx)(d:Addr)(u:HO):Prop:=(∀o u,X.H₀ d≠some (.frz o u))/\∀y,u ≠ .own y
def Zgr(X:Cx)(Q:Hp->Prop)(H:Hp):Prop:=∃d o u,H d=some (.frz o u)/\NF X d u/\Q (upd H d u)
theorem Zgr.run{X:Cx}{a6:List (Addr×Obj)}{σ:St}{H:Hp}{s:Shared}{Q:Hp->Prop}(I:Inv X a6 σ H s)(h:Zgr X Q H):∃H',Inv X a6 σ H' s/\Q H':=by
 obtain ⟨d,o,u,hd,nf,q⟩:=h;exact ⟨_,I.thaw hd nf.1 nf.2,q⟩
def Yay(X:Cx)(tl:TE):TI:=fun σ H R=>tl σ H fun x H1=>∃d kvs,x=.ref d/\H1 d=some (.dK kvs)/\∀o,NF X d (.dK kvs)->R (Itd d o kvs) (upd H1 d (.frz o (.dK kvs)))
theorem Zfz{P:Program}{w:World}{h:Heap}{d:Addr}{o:Obj}{vs:List (Key×Value)}(x:h.DictOf (Z5 P w) d vs)(ho:h.get? d=some o):∃ep,∀h':Heap,h'.get? d=some o->h'.DictAt (Z5 P w) d vs ep:=by
 obtain ⟨o',es,ep,e,r⟩:=x;rw [ho] at e;cases e;exact ⟨ep,fun h' e'=>⟨o,es,e',r⟩⟩
theorem Zxb{X:Cx}{tg l:Expr}{tl:TE}(hl:PE X l tl):PI X tg l (Yay X tl):=by
 intro a6 s σ H R I h;refine thn (hl a6 s σ H _ I h) fun v s1 ⟨y,H1,I1,r1,q1⟩=>?_
 obtain ⟨d,kvs,rfl,hd,q⟩:=q1;cases r1;obtain ⟨hz,hs,vs,kv,dd⟩:=Zpt I1.hok hd;obtain ⟨o,_,_,ho,_⟩:=id dd;obtain ⟨ep,hD⟩:=Zfz dd ho;have I2:=I1.freeze hd rfl ho;refine wpAny_pyIter_dict (knd:=Z5 X.prog X.w) hs (hD _ ho) ?_;have I3:Inv X a6 σ (upd H1 d (.frz o (.dK kvs))) { s1 with heap:=s1.heap.push { cls:=.type "dict_keyiterator",data:=.fields #[.ref d,.int 0 0,.int vs.length 0,.int ep 0] } }:=I2.kept (t':=s1.toks) fun b o e=>Heap.get?_push_of_some _ e
 refine ⟨s1.heap.objs.size,[s1.heap.objs.size],_,_,_,rfl,I3,Zud _ kv hD,⟨_,Heap.get?_push_size _ rfl,rfl,rfl⟩,fun b hb=>?_,q o ⟨I1.notFrz hd (fun _ _ z=>nomatch z),fun _ z=>nomatch z⟩⟩;have e:b=s1.heap.objs.size:=by simpa using hb
 subst e;exact I2.fpOk (Nat.le_refl _) (I2.hok.fresh (Nat.le_refl _))
def Ycc(X:Cx)(t:TS):TS:=fun D σ H=>t { nx:=fun σ'=>Zgr X (D.nx σ'),rt:=fun v=>Zgr X (D.rt v),bk:=fun σ'=>Zgr X (D.bk σ'),ct:=fun σ'=>Zgr X (D.ct σ') } σ H
theorem Zpg{X:Cx}{st:Stmt}{t:TS}(h:PS X st t):PS X st (Ycc X t):=by
 intro a6 s σ H D I hq;refine thn (h a6 s σ H _ I hq) fun f s' z=>?_
 cases f with
 | next=>obtain ⟨σ',H',I',q⟩:=z;obtain ⟨H2,I2,q2⟩:=q.run I';exact ⟨σ',H2,I2,q2⟩
 | brk=>obtain ⟨σ',H',I',q⟩:=z;obtain ⟨H2,I2,q2⟩:=q.run I';exact ⟨σ',H2,I2,q2⟩
 | cont=>obtain ⟨σ',H',I',q⟩:=z;obtain ⟨H2,I2,q2⟩:=q.run I';exact ⟨σ',H2,I2,q2⟩
 | ret u=>obtain ⟨v,σ',H',I',r,q⟩:=z;obtain ⟨H2,I2,q2⟩:=q.run I';exact ⟨v,σ',H2,I2,r,q2⟩
def Zz6(X:Cx)(t:TE):TE:=fun σ H Q=>t σ H fun v=>Zgr X (Q v)
theorem Zw9{X:Cx}{e:Expr}{t:TE}(h:PE X e t):PE X e (Zz6 X t):=by
 intro a6 s σ H Q I hq;refine thn (h a6 s σ H _ I hq) fun u s' ⟨v,H',I',r,q⟩=>?_
 obtain ⟨H2,I2,q2⟩:=q.run I';exact ⟨v,H2,I2,r,q2⟩
theorem Zvr{d:Addr}{o:Obj}{kvs:List (Key×V)}{g:TG}{tb:TS}{D:Zgg}{σ:St}{H:Hp}(Pv:Nat->St->Hp->Prop)(h0:Pv 0 σ H)(hl:∀i σ H,i<=kvs.length->Pv i σ H->H d=some (.frz o (.dK kvs)))
  (hs:∀i kv σ H,kvs[i]? =some kv->Pv i σ H->g (kV kv.1) σ H fun σ2 H2=>tb { D with nx:=Pv (i+1),ct:=Pv (i+1),bk:=D.nx } σ2 H2) (hd:∀σ H,Pv kvs.length σ H->D.nx σ H) :
  ∃W:Nat->Nat->St->Hp->Prop,(∃m,W 0 m σ H)/\∀i m σ H,W i m σ H ->
   ((Itd d o kvs).stop i H/\D.nx σ H)\/((Itd d o kvs).go i H/\∃N:St->Hp->Prop,(∀σ' H',N σ' H'->∃m',m'<m/\W (i+1) m' σ' H')/\∀x H',(Itd d o kvs).yld i H x H'->g x σ H' fun σ2 H2=>tb { D with nx:=N,ct:=N,bk:=D.nx } σ2 H2):=by
 refine ⟨fun i m σ H=>m=kvs.length-i/\i<=kvs.length/\Pv i σ H,⟨kvs.length,by simp,Nat.zero_le _,h0⟩,?_⟩;rintro i m σ H ⟨rfl,hi,p⟩;have q:=hl i σ H hi p
 by_cases c7:i<kvs.length
 ·refine .inr ⟨⟨q,c7⟩,Pv (i+1),fun σ' H' p'=>⟨kvs.length-(i+1),by lia,rfl,c7,p'⟩,fun x H' y=>?_⟩;obtain ⟨e,kv,C2,ex⟩:=y;subst e ex;exact hs i kv σ _ C2 p
 ·have e:i=kvs.length:=by lia
  subst e;exact .inl ⟨⟨q,Nat.le_refl _⟩,hd σ H p⟩
section
variable {X:Cx} {a6:List (Addr×Obj)} {σ:St} {H:Hp} {s:Shared}
theorem Inv.turnedNew{ch:List Addr}{o:HO}{h':Heap}{t':Nat}(I:Inv X a6 σ H s)(hf:∀b∈ch,Zjv X a6 H b)(k:∀b u,b∉ch->s.heap.get? b=some u->h'.get? b=some u)
  (new:Yy X.prog X.w (upd H s.heap.objs.size o) h' s.heap.objs.size o):Inv X a6 σ (upd H s.heap.objs.size o) { s with heap:=h',toks:=t' }:=by
 have hn:H s.heap.objs.size=none:=I.fresh;have A5:∀b u,s.heap.get? b=some u->b≠s.heap.objs.size:=fun b u e=>Nat.ne_of_lt (Heap.lt_size e)
 have trk:∀b u,H b=some u->b∉ch:=fun b u e z=>by rw [(hf b z).1] at e;cases e
 refine I.step (g':=s.gens) (d':=s.drawn) (ch:=ch) (fun b hb=>?_) (fun b o _ _ hc e _=>k b o hc e) (fun b o _ _ hc e _=>⟨o.slots,k b o hc e⟩) (fun b o _ e n=>by rw [Ze (A5 b o e)];exact n)
  (fun b o hc e=>⟨o,k b o hc e⟩) (fun b xs e=>by rw [Ze (Zi e hn)];exact e) (fun b ob u e=>by rw [Ze (Zi e hn)];exact e) (fun b ps e=>⟨#[],by rw [Ze (Zi e hn),e];simp⟩) (fun m hm=>?_) (fun b u e=>?_) I.bare
 ·obtain ⟨f0,f1,f2,f3,f4,f5⟩:=hf b hb;exact ⟨f3,f1,f4,f5⟩
 ·obtain ⟨ob,es,ep,ho,r⟩:=hm;exact ⟨ob,es,ep,k _ ob (fun z=>(hf _ z).2.1 rfl) ho,r⟩
 ·by_cases hb:b=s.heap.objs.size
  ·subst hb;rw [Zf] at e;cases e;exact new
  ·rw [Ze hb] at e;refine (I.hok b u e).stay (fun c v hc q=>k c v ?_ q) (fun c q=>by rw [Ze (Zi q hn)];exact q) fun c xs q=>by rw [Ze (Zi q hn)];exact q
   rcases hc with z|z
   ·rw [z];exact trk b u e
   ·exact trk c _ z
end
def Ite(K:Frag)(l:Addr):It :=
 ⟨fun i H=>∃xs x,SqL K H l xs/\xs[i]? =some x,fun i H x H'=>∃p y,x=.ref p/\H p=none/\H'=upd H p (.tup [.int (i:Nat),y])/\∀xs,SqL K H l xs->xs[i]? =some y,fun i H=>∃xs,SqL K H l xs/\xs.length<=i⟩
theorem Zty{P:Program}{w:World}{K:Frag}{K2:List Expr}{x1:Nat}{pos:Pos}{l:Addr}(e it:Addr)(u7:e≠it) :
  Zmq P w K (.Tuple K2 x1 pos) (Ite K l) [e,it] e (fun i h=>(∃A5,IsEnum h e it (i:Nat) A5)/\h.IsListIter it l i) where
 mem:=by simp
 obj:=fun i h st b hb=>by
  obtain ⟨⟨A5,he⟩,hi⟩:=st;rcases List.mem_cons.mp hb with rfl|hb
  ·exact ⟨_,he,fun v z=>nomatch z⟩
  ·have q:b=it:=by simpa using hb
   subst q;obtain ⟨o,e,c,d⟩:=hi;exact ⟨o,e,fun v z=>by rw [d] at z;cases z⟩
 keep:=fun i h h' st k=>by
  obtain ⟨⟨A5,he⟩,hi⟩:=st;exact ⟨⟨A5,k e (by simp) _ he⟩,hi.at fun o q=>k it (by simp) o q⟩
 item:=by
  intro X hP hw hK hc i a6 s σ H E I hf st hg;subst hP hw hK;obtain ⟨⟨A5,he⟩,hi⟩:=st;obtain ⟨xs,x,hq,hx⟩:=hg;obtain ⟨a7,rv,p,hz⟩:=I.list hq;obtain ⟨u,hu,ru⟩:=rv.get hx;refine wpAny_pyNext_enum_item he hi p.isList (x:=u) (by simpa using hu) u7 fun h' ho hi' ht hsz kk=>?_
  refine ⟨_,rfl,wpAny_letOwnedTupleGo_enum ho fun h2 he2 sb=>?_⟩;have hel:e<s.heap.objs.size:=Heap.lt_size he;have O4:it<s.heap.objs.size:=let ⟨o,q,_⟩:=hi;Heap.lt_size q;have k2:∀b v,b∉[e,it]->s.heap.get? b=some v->h2.get? b=some v:=fun b v hb q=>by
   have b1:b≠e:=fun z=>hb (by simp [z])
   have b2:b≠it:=fun z=>hb (by simp [z])
   exact (sb.2 b b1).trans (kk b v b1 b2 q)
  have htup:h2.get? s.heap.objs.size=some { cls:=.type "tuple",data:=.seq #[.int i s.toks,u] }:=(sb.2 _ (Nat.ne_of_gt hel)).trans ht;have new:Yy X.prog X.w (upd H s.heap.objs.size (.tup [.int (i:Nat),x])) h2 s.heap.objs.size (.tup [.int (i:Nat),x]) :=
   ⟨sz (by simp),[.int i s.toks,u],.cons ⟨_,rfl⟩ (.cons ru .nil),⟨_,htup,rfl,_,rfl⟩⟩
  refine ⟨.ref s.heap.objs.size,_,I.turnedNew (t':=s.toks+1) hf k2 new,rfl,⟨_,x,rfl,I.fresh,rfl,fun ys hy=>by rw [I.list_inj hy hq];exact hx⟩,⟨⟨_,he2⟩,?_⟩,fun b hb=>?_⟩
  ·exact hi'.at fun o q=>(sb.2 it u7.symm).trans q
  ·rw [Ze ?_]
   ·exact (hf b hb).1
   ·rcases List.mem_cons.mp hb with rfl|hb
    ·exact Nat.ne_of_lt hel
    ·have q:b=it:=by simpa using hb
     subst q;exact Nat.ne_of_lt O4
 done:=by
  intro X hP hw hK hc i a6 s σ H E I hf st hg;subst hP hw hK;obtain ⟨⟨A5,he⟩,hi⟩:=st;obtain ⟨xs,hq,hx⟩:=hg;obtain ⟨a7,rv,p,hz⟩:=I.list hq;obtain ⟨f0,f1,f2,f3,f4,f5⟩:=hf it (by simp);have hl:=rv.length;exact wpAny_pyNext_enum_end (I.ok.hd hc) he hi p.isList (by simp;lia) fun h' eb=>⟨rfl,I.turned (t':=s.toks) (fun b o hb e=>eb b o hb e) f0 f1 f3 f4 f5⟩
 self:=fun _ _ _ _ _ st h=>by
  obtain ⟨⟨A5,he⟩,_⟩:=st;exact wpAny_pyIter_enum he h
def Yax(K:Frag)(ta:TA):TI:=fun σ H R=>ta σ H fun vs H1=>∃l,vs=[.ref l]/\(∃xs,SqL K H1 l xs)/\R (Ite K l) H1
theorem Zf2{X:Cx}{K2:List Expr}{x1:Nat}{Q3:Pos}{a:Expr}{ta:TA}{p pos:Pos} (hg:Gl X "enumerate") (hm:X.mg "enumerate" =none) (ha:PA X [a] ta) (hs:starEach [a] X.env=[(false,eval a X.env)]:=by rfl) :
  PI X (.Tuple K2 x1 Q3) (.Call (.Name "enumerate" p) [a] [] pos) (Yax X.K ta):=by
 intro a6 s σ H R I h;refine Call_ (Zfj I hg hm boot_enumerate (PyProof.Rows.callWith_type1 (thn (ha pos a6 s σ H _ I h) fun us s1 ⟨vs,H1,I1,r1,q1⟩=>?_) hs rfl));obtain ⟨l,e,⟨xs,hq⟩,q⟩:=q1;subst e;obtain ⟨u,rfl,ru⟩:=Zci r1;cases ru;obtain ⟨a7,rv,pl,hz⟩:=I1.list hq;refine call_enumerate_list pl.isList fun h' he hi hsz kk=>wpAny_pyIter_enum he ?_
 have I2:Inv X a6 σ H1 { s1 with heap:=h' }:=I1.kept (t':=s1.toks) kk;refine ⟨s1.heap.objs.size+1,[s1.heap.objs.size+1,s1.heap.objs.size],_,_,H1,rfl,I2,Zty _ _ (Nat.succ_ne_self _),⟨⟨_,he⟩,hi⟩,fun b hb=>?_,q⟩;rcases List.mem_cons.mp hb with rfl|hb
 ·exact I1.fpOk (Nat.le_succ _) (I1.hok.fresh (Nat.le_succ _))
 ·have e:b=s1.heap.objs.size:=by simpa using hb
  subst e;exact I1.fpOk (Nat.le_refl _) (I1.hok.fresh (Nat.le_refl _))
theorem Zdl{K:Frag}{l:Addr}{xs:List V}{g:TG}{tb:TS}{D:Zgg}{σ:St}{H:Hp}(Pv:Nat->St->Hp->Prop)(h0:Pv 0 σ H)(hl:∀i σ H,i<=xs.length->Pv i σ H->SqL K H l xs)
  (hs:∀i x σ H,xs[i]? =some x->Pv i σ H->∀p H1,Same H H1->H p=none->H1 p=some (.tup [.int (i:Nat),x])->g (.ref p) σ H1 fun σ2 H2=>tb { D with nx:=Pv (i+1),ct:=Pv (i+1),bk:=D.nx } σ2 H2) (hd:∀σ H,Pv xs.length σ H->D.nx σ H) :
  ∃W:Nat->Nat->St->Hp->Prop,(∃m,W 0 m σ H)/\∀i m σ H,W i m σ H ->
   ((Ite K l).stop i H/\D.nx σ H)\/((Ite K l).go i H/\∃N:St->Hp->Prop,(∀σ' H',N σ' H'->∃m',m'<m/\W (i+1) m' σ' H')/\∀x H',(Ite K l).yld i H x H'->g x σ H' fun σ2 H2=>tb { D with nx:=N,ct:=N,bk:=D.nx } σ2 H2):=by
 refine ⟨fun i m σ H=>m=xs.length-i/\i<=xs.length/\Pv i σ H,⟨xs.length,by simp,Nat.zero_le _,h0⟩,?_⟩;rintro i m σ H ⟨rfl,hi,p⟩;have q:=hl i σ H hi p
 by_cases c7:i<xs.length
 ·refine .inr ⟨⟨xs,xs[i],q,by simp [c7]⟩,Pv (i+1),fun σ' H' p'=>⟨xs.length-(i+1),by lia,rfl,c7,p'⟩,fun x H' y=>?_⟩;obtain ⟨a,y,e,hn,e2,hy⟩:=y;subst e e2;exact hs i y σ H (hy xs q) p a _ (Same.new hn) hn Zf
 ·have e:i=xs.length:=by lia
  subst e;exact .inl ⟨⟨xs,q,Nat.le_refl _⟩,hd σ H p⟩
def Iti(d:Addr)(o:Obj)(kvs:List (Key×V)):It :=
 ⟨fun i H=>H d=some (.frz o (.dK kvs))/\i<kvs.length,fun i H x H'=>∃p kv,x=.ref p/\H p=none/\kvs[i]? =some kv/\H'=upd H p (.tup [kV kv.1,kv.2]),fun i H=>H d=some (.frz o (.dK kvs))/\kvs.length<=i⟩
theorem Zrl{P:Program}{w:World}{K:Frag}{K2:List Expr}{x1:Nat}{pos:Pos}{d:Addr}{o:Obj}{kvs:List (Key×V)}{vs:List (Key×Value)}{ep:Nat}(it:Addr)(hk:KV kvs vs)
  (hD:∀h:Heap,h.get? d=some o->h.DictAt (Z5 P w) d vs ep):Zmq P w K (.Tuple K2 x1 pos) (Iti d o kvs) [it] it (fun i h=>∃ok ov,IsItemIter h it d i vs.length ep ok ov) where
 mem:=by simp
 obj:=fun i h st b hb=>by
  have e:b=it:=by simpa using hb
  subst e;obtain ⟨ok,ov,e⟩:=st;exact ⟨_,e,fun v z=>nomatch z⟩
 keep:=fun i h h' st k=>by
  obtain ⟨ok,ov,e⟩:=st;exact ⟨ok,ov,k it (by simp) _ e⟩
 item:=by
  intro X hP hw hK hc i a6 s σ H E I hf st hg;subst hP hw hK;obtain ⟨ok,ov,hi⟩:=st;obtain ⟨hq,c7⟩:=hg;have O3:s.heap.get? d=some o:=(I.hok d _ hq).1;obtain ⟨u,hu,ru⟩:=hk.get (i:=i) (kv:=kvs[i]) (by simp [c7]);refine wpAny_pyNext_items_item (knd:=Z5 X.prog X.w) hi (hD _ O3) hu fun key h' E8 ho ht hsz kk=>?_
  refine ⟨_,rfl,wpAny_letOwnedTupleGo_items ho fun h2 he2 sb=>?_⟩;have hel:it<s.heap.objs.size:=Heap.lt_size hi;have k2:∀b v,b∉[it]->s.heap.get? b=some v->h2.get? b=some v:=fun b v hb q=>by
   have b1:b≠it:=fun z=>hb (by simp [z])
   exact (sb.2 b b1).trans (kk b v b1 q)
  have htup:h2.get? s.heap.objs.size=some { cls:=.type "tuple",data:=.seq #[key,u] }:=(sb.2 _ (Nat.ne_of_gt hel)).trans ht;have new:Yy X.prog X.w (upd H s.heap.objs.size (.tup [kV kvs[i].1,kvs[i].2])) h2 s.heap.objs.size (.tup [kV kvs[i].1,kvs[i].2]) :=
   ⟨sz (by simp),[key,u],.cons (Zwr E8) (.cons ru .nil),⟨_,htup,rfl,_,rfl⟩⟩
  refine ⟨.ref s.heap.objs.size,_,I.turnedNew (t':=s.toks) hf k2 new,rfl,⟨_,kvs[i],rfl,I.fresh,by simp [c7],rfl⟩,⟨_,_,he2⟩,fun b hb=>?_⟩;have e:b=it:=by simpa using hb
  subst e;rw [Ze (Nat.ne_of_lt hel)];exact (hf _ hb).1
 done:=by
  intro X hP hw hK hc i a6 s σ H E I hf st hg;subst hP hw hK;obtain ⟨ok,ov,hi⟩:=st;obtain ⟨hq,w4⟩:=hg;obtain ⟨f0,f1,f2,f3,f4,f5⟩:=hf it (by simp);have O3:s.heap.get? d=some o:=(I.hok d _ hq).1;have hl:=KV.length hk;exact wpAny_pyNext_items_end (knd:=Z5 X.prog X.w) (I.ok.hd hc) hi (hD _ O3) (List.getElem?_eq_none (by lia)) fun h' eb=>⟨rfl,I.turned (t':=s.toks) (fun b o hb e=>eb b o hb e) f0 f1 f3 f4 f5⟩
 self:=fun _ _ _ _ _ st h=>by
  obtain ⟨ok,ov,hi⟩:=st;exact PySem.W.kcp_self hi h
def Zz7(X:Cx)(tl:TE):TI:=fun σ H R=>tl σ H fun x H1=>∃d kvs,x=.ref d/\H1 d=some (.dK kvs)/\∀o,NF X d (.dK kvs)->R (Iti d o kvs) (upd H1 d (.frz o (.dK kvs)))
theorem Zqv{X:Cx}{K2:List Expr}{x1:Nat}{Q3 i4 i8:Pos}{o:Expr}{to:TE}(ho:PE X o to) (A9:attributeBase o "items" X.env (eval o X.env)=eval o X.env:=by rfl) (B0:(i4.endLine ==i8.line)=true:=by rfl) :
  PI X (.Tuple K2 x1 Q3) (.Call (.Attribute o "items" i4) [] [] i8) (Zz7 X to):=by
 intro a6 s σ H R I h;refine wpAny_Call_method0_late A9 B0 (thn (ho a6 s σ H _ I h) fun v s1 ⟨y,H1,I1,r1,q1⟩=>?_);obtain ⟨d,kvs,rfl,hd,q⟩:=q1;cases r1;obtain ⟨hz,hs,vs,kv,dd⟩:=Zpt I1.hok hd;obtain ⟨ob,_,_,C9,R0,_⟩:=id dd;obtain ⟨ep,hD⟩:=Zfz dd C9;refine ⟨"dict", "dict.items",PySem.F.plainAttrs_dict,PySem.F.slot_dict_items,PySem.F.type_dict_items,dd.typeIs,fun a e=>?_,Calls.callWith_builtin rfl (PySem.evalArgs_none ?_)⟩
 ·cases e;exact ⟨ob,C9,R0.2.1⟩
 refine call_meetsIn PySem.F.slot_dict_items dd.typeIs PySem.F.entry_dict_items (PySem.F.args_dict_items_1 _) (meets_dict_items (Z5 X.prog X.w) d hs) ⟨⟨vs,dd⟩,?_⟩;have I2:=I1.freeze hd rfl C9;have I3:Inv X a6 σ (upd H1 d (.frz ob (.dK kvs))) { s1 with heap:=s1.heap.push { cls:=.type "dict_items",data:=.fields #[.ref d] } }:=I2.kept (t':=s1.toks) fun b o e=>Heap.get?_push_of_some _ e
 refine wpAny_pyIter_items (knd:=Z5 X.prog X.w) (d:=d) ⟨_,Heap.get?_push_size _ rfl,rfl,rfl⟩ (hD _ (Heap.get?_push_of_some _ C9)) ?_;refine ⟨_,[_],_,_,_,rfl,I3.kept (t':=s1.toks) fun b o e=>Heap.get?_push_of_some _ e,Zrl _ kv hD,⟨_,_,Heap.get?_push_size _ rfl⟩,fun b hb=>?_,q ob ⟨I1.notFrz hd (fun _ _ z=>nomatch z),fun _ z=>nomatch z⟩⟩;have e:=List.mem_singleton.mp hb;subst e;exact I3.fpOk (Nat.le_refl _) (I3.hok.fresh (Nat.le_refl _))
theorem Zuj{d:Addr}{o:Obj}{kvs:List (Key×V)}{g:TG}{tb:TS}{D:Zgg}{σ:St}{H:Hp}(Pv:Nat->St->Hp->Prop)(h0:Pv 0 σ H)(hl:∀i σ H,i<=kvs.length->Pv i σ H->H d=some (.frz o (.dK kvs)))
  (hs:∀i kv σ H,kvs[i]? =some kv->Pv i σ H->∀p H1,Same H H1->H p=none->H1 p=some (.tup [kV kv.1,kv.2])->g (.ref p) σ H1 fun σ2 H2=>tb { D with nx:=Pv (i+1),ct:=Pv (i+1),bk:=D.nx } σ2 H2) (hd:∀σ H,Pv kvs.length σ H->D.nx σ H) :
  ∃W:Nat->Nat->St->Hp->Prop,(∃m,W 0 m σ H)/\∀i m σ H,W i m σ H ->
   ((Iti d o kvs).stop i H/\D.nx σ H)\/((Iti d o kvs).go i H/\∃N:St->Hp->Prop,(∀σ' H',N σ' H'->∃m',m'<m/\W (i+1) m' σ' H')/\∀x H',(Iti d o kvs).yld i H x H'->g x σ H' fun σ2 H2=>tb { D with nx:=N,ct:=N,bk:=D.nx } σ2 H2):=by
 refine ⟨fun i m σ H=>m=kvs.length-i/\i<=kvs.length/\Pv i σ H,⟨kvs.length,by simp,Nat.zero_le _,h0⟩,?_⟩;rintro i m σ H ⟨rfl,hi,p⟩;have q:=hl i σ H hi p
 by_cases c7:i<kvs.length
 ·refine .inr ⟨⟨q,c7⟩,Pv (i+1),fun σ' H' p'=>⟨kvs.length-(i+1),by lia,rfl,c7,p'⟩,fun x H' y=>?_⟩;obtain ⟨a,kv,e,hn,C2,e2⟩:=y;subst e e2;exact hs i kv σ H C2 p a _ (Same.new hn) hn Zf
 ·have e:i=kvs.length:=by lia
  subst e;exact .inl ⟨⟨q,Nat.le_refl _⟩,hd σ H p⟩
def Znt(K:Frag)(H:Hp)(x y:V):Prop:=(Ze6 x=true/\Ze6 y=true/\eqV x y=true)\/∃n t,n<=60/\Im K H n t x/\Im K H n t y
theorem Znt.eqAt{X:Cx}{a6:List (Addr×Obj)}{σ:St}{H:Hp}{s:Shared}{A:Around}{x y:V}{u v:Value}(I:Inv X a6 σ H s)(h:Znt X.K H x y)(rx:Yl x u)(ry:Yl y v)(hu:A.units+60<cLine):SeqAt.EqAt A s u v true:=by
 rcases h with ⟨f1,f2,e⟩|⟨n,t,hn,i1,i2⟩
 ·exact Yk (Zk9 rx ry f1 f2) e
 ·exact Yk (Im.eqAt I n A i1 i2 rx ry (by lia)) (decide_eq_true rfl)
def Ybc(K:Frag):R2:=fun x y H Q=>∃a b ka kb,x=.ref a/\y=.ref b/\Rd H a (.dK ka)/\Rd H b (.dK kb)/\ka.length=kb.length/\(∀kv∈ka,∃v,Y6 kb kv.1=some v/\Znt K H kv.2 v)/\Q (.bl true) H
theorem Zz8{X:Cx}(hu:X.A.units+64<cLine):OpR X (compareOp .Eq) (Ybc X.K):=by
 intro a6 s σ H x y v u Q I rx ry h;obtain ⟨a,b,ka,kb,rfl,rfl,ha,hb,hl,m8,q⟩:=h;cases rx;cases ry;obtain ⟨_,sa,va,ra,da⟩:=Zcw I.hok ha;obtain ⟨_,sb,vb,rb,db⟩:=Zcw I.hok hb;have la:=KV.length ra;have lb:=KV.length rb;have hits:∀{ka':List (Key×V)} {va':List (Key×Value)},KV ka' va'->(∀kv∈ka',∃v,Y6 kb kv.1=some v/\Znt X.K H kv.2 v)->PySem.W.KeqHits X.A.in1 s vb va' true:=by
  intro ka' va' r
  induction r with
  | nil=>intro _;exact .nil
  | cons r t ih =>
   rename_i p q l m;intro hv;obtain ⟨e1,r2⟩:=r;obtain ⟨v,hv1,hv2⟩:=hv p List.mem_cons_self;have F7:=KV.val rb p.1;rw [hv1] at F7;obtain ⟨y,hy,ry⟩:=Zdk.some_of F7;rw [e1] at hy;have:=PySem.W.KeqHits.hit (k:=q.1) (v:=q.2) hy (hv2.eqAt (A:=X.A.in1) I r2 ry (by rw [Wx];lia)) (ih fun kv C2=>hv kv (List.mem_cons_of_mem _ C2));simpa using this
 refine PySem.W.keq_eq (knd:=Z5 X.prog X.w) sa sb da db (by lia) (fun _=>hits ra m8) ⟨.bl true,H,I,?_,q⟩;rw [show (va.length ==vb.length)=true by rw [<-la,<-lb,hl];simp]
 rfl
def X3(K:Frag):R2:=fun x y H Q=>rEq x y H Q\/Zx0 K false x y H Q\/Ybc K x y H Q
def Zav(K:Frag):List V->Hp->VK->Prop:=fun xs H Q=>(∃p ys,xs=[.ref p]/\(SqL K H p ys\/SqT K H p ys)/\Q (.int ys.length) H)\/(∃z,xs=[.str z]/\z.length<=sizeLine/\Q (.int z.length) H)\/∃a kvs,xs=[V.ref a]/\H a=some (.dK kvs)/\Q (.int kvs.length) H
def Zib(K:Frag):V->Option Int->Option Int->Hp->VK->Prop:=fun x lo hi H Q=>Zyx K x lo hi H Q\/Zyz K x lo hi H Q\/Ycf x lo hi H Q
section
variable {X:Cx} {k:Nat}
theorem X8(hr:Wq k X.A):OpR X (compareOp .Eq) (X3 X.K):=Yaz.or ((Zzl hr.units).or (Zz8 hr.units))
theorem Zbh:X0 X (.builtin "len") (Zav X.K):=Zos.or (Zof.or Zui)
theorem Zjt:SlR X (Zib X.K):=Zx8.or (Zw1.or Zzm)
def Zsx(K:Frag):List V->Hp->VK->Prop:=fun xs H Q=>∃p ys,xs=[.ref p]/\(SqL K H p ys\/SqT K H p ys)/\New H (.lst ys) Q
theorem Zg2:X0 X (.type "list") (Zsx X.K):=Zon.imp fun xs H Q ⟨p,ys,h1,h2,h3⟩=>⟨p,ys,h1,h2,fun l hl=>h3.at l hl⟩
def Zxx:TE:=fun _ H Q=>New H (.dK []) Q
theorem Zdr{pos:Pos}:PE X (.Dict [] [] pos) Zxx:=fun a6 s σ H Q I h=>Zu6 a6 s σ H Q I fun p hp=>h.at p hp
def Zyg:TE:=fun _ H Q=>New H (.dT []) Q
theorem Zno{pos:Pos}:PE X (.Dict [] [] pos) Zyg:=fun a6 s σ H Q I h=>Zvw a6 s σ H Q I fun p hp=>h.at p hp
def Ya5(K:Frag):List V->Hp->VK->Prop:=fun xs H Q=>∃(p:Addr) (bs:List Bool),xs=[.ref p]/\SqL K H p (bs.map V.bl)/\Q (.bl (bs.all id)) H
theorem Zt4(hc:X.calm=true):X0 X (.builtin "all") (Ya5 X.K):=Zla hc
def Zl0(K:Frag):List V->Hp->VK->Prop:=fun xs H Q=>∃x c b t,xs=[x,c]/\X2 K H x t/\((∃n,c=.ty n/\kitOne K t (.type n)=some b)\/∃a,c=.ref a/\kitOne K t (.ref a)=some b)/\Q (.bl b) H
theorem Ws:X0 X (.builtin "isinstance") (Zl0 X.K):=Zqf
end
theorem Zb6{X:Cx}{i:Nat}{y:Str}{py spos:Pos}{L7 tg k7:Expr}{F6:List Expr}{scope:Scope}{pos:Pos}{cl:List (Str×Addr)}{N':List Str}{fr:St->St}{wi:TI}{g:TG}{tf:TT}{te:TE}
  (hN:X.N.Nodup) (hi':X.N[i]? =some y) (hy:Loc X.env.scope y) (hc:X.calm=true) (S:Yc X scope cl N' fr) (hi:PI X tg k7 wi) (hg:∀s H C ex,PG (Xo X scope cl N' s H C ex) tg g) (hf:∀s H C ex,PF (Xo X scope cl N' s H C ex) F6 tf)
  (he:∀s H C ex,PE (Xo X scope cl N' s H C ex) L7 te) (hs:∀x,foldedSetIterable k7 X.env x=pure x:=by intro _;rfl)
  (hsw:swapsWith (.ListComp L7 [⟨tg,k7,F6,0⟩] scope pos) (some (.Name y py)) spos.line X.env=pure true:=by rfl) (hfn:X.fn y=true\/X.env.scope.names.lookup y=some .local:=by first | exact .inl rfl | exact .inr rfl | assumption) :
  PS X (.Assign [.Name y py] (.ListComp L7 [⟨tg,k7,F6,0⟩] scope pos) spos) (Zx4 (Zza wi fr g tf te) (Zeq i)):=by
 intro a6 s σ H D I h;rw [exec_Assign_Name_used _ _ _ _ hsw];refine wpAny_bind (wpAny_standAt (wpAny_bind ?_));show wpAny _ X.A (do let _ <-comprehension (.ListComp L7 [⟨tg,k7,F6,0⟩] scope pos) scope X.env _ (newList []) false (eval k7 X.env) (some (assign (.Name y py) X.env))) _ _ s;refine wpAny_bind (wpAny_mono (wpAny_comprehension_free (use:=some (assign (.Name y py) X.env)) (Q:=fun _ s'=>∃σ' H',Inv X a6 σ' H' s'/\D.nx σ' H') rfl hs S.clos S.kind S.names (thn (hi a6 s σ H _ I h) fun v s1 h1=>thn h1 fun itv s2 h2=>?_)) (fun _ s' hq=>wpAny_pure (wpAny_pure hq)) fun _ _ e=>e);obtain ⟨it,fp,tn,J,H2,e,I2,T,O1,f2,q⟩:=h2;subst e;refine wpAny_newObj_type (wpAny_newFunctionEnv S.cell (by intro y hy;simp at hy) (fun h₁ E7 A2=>?_) S.kind);dsimp only at E7 A2 ⊢;generalize hP:s2.heap.push { cls:=.type "list",dict:=none,data:=.seq ([]:List Value).toArray }=P at E7 A2 ⊢;have hPz:P.objs.size=s2.heap.objs.size+1:=by rw [<-hP,Heap.size_push]
 have Q9:s2.heap.objs.size<P.objs.size:=by rw [hPz];exact Nat.lt_succ_self _
 have S6:∀b∈fp,∃o,s2.heap.get? b=some o:=fun b hb=>let ⟨o,e,_⟩:=T.obj _ _ O1 b hb;⟨o,e⟩
 have D6:∀b,b<s2.heap.objs.size->b≠P.objs.size:=fun b hb=>Nat.ne_of_lt (Nat.lt_trans hb Q9)
 have A5:∀b o,s2.heap.get? b=some o->h₁.get? b=some o:=fun b o e=>A2.extBut b o (D6 b (Heap.lt_size e)) (Heap.get?_push_of_some _ (hP ▸ Heap.get?_push_of_some _ e))
 have C3:h₁.get? s2.heap.objs.size=some { cls:=.type "list",data:=.seq ([]:List Value).toArray 0 }:=A2.extBut _ _ (Nat.ne_of_lt Q9) (Heap.get?_push_of_some _ (hP ▸ Heap.get?_push_size _ rfl));have fD:H2 s2.heap.objs.size=none:=I2.hok.fresh (Nat.le_refl _);obtain ⟨W,⟨m0,w0⟩,F4⟩:=q s2.heap.objs.size fD;have hz:h₁.objs.size<=P.objs.size+1:=by
  have e:=A2.1;rw [Heap.size_push] at e;exact Nat.le_of_eq e
 have st1:tn 0 h₁:=T.keep _ _ _ O1 fun b hb o e=>A5 b o e
 have A4:∀{m9:List (Addr×Obj)} {H':Hp},(∀p∈m9,p.1∉fp)->(∀b∈fp,H' b=none)->∀b∈fp,Zjv (Xo X scope cl N' s2 H2 P.objs.size fp) m9 H' b:=fun {m9 H'} hp hn b hb=>by
  obtain ⟨o,e⟩:=S6 b hb;obtain ⟨_,f1,f2',f3,f4,f5⟩:=f2 b hb;refine ⟨hn b hb,D6 b (Heap.lt_size e),fun z=>?_,.inl hb,fun x c h=>f4 x c (S.sub x c h),fun p hp' z=>?_⟩
  ·rcases List.mem_cons.mp (I2.stkSub b z) with q|q
   ·exact f1 q
   ·exact f2' q
  ·have hp2:p∈m9:=by simpa [Xo] using hp'
   exact hp p hp2 (by rw [z];exact hb)
 have loop:∀s3:Shared,s3={ s2 with heap:=h₁,toks:=s2.toks+([]:List (Str×Value)).length } ->
   codeAny (model X.prog X.w) X.A (.compLoop (.ListComp L7 [⟨tg,k7,F6,0⟩] scope pos) 0 (.ref it) (.ref s2.heap.objs.size) (compEnvC scope cl P.objs.size X.env)) (compPost (model X.prog X.w) X.A X.xe (some (assign (.Name y py) X.env)) (fun _ s'=>∃σ' H',Inv X a6 σ' H' s'/\D.nx σ' H') (.ref s2.heap.objs.size) P.objs.size) s3:=by
  rintro s3 rfl;have I3:Inv (Xo X scope cl N' s2 H2 P.objs.size fp) [] (fr σ) (upd H2 s2.heap.objs.size (.lst [])) { s2 with heap:=h₁,toks:=s2.toks+([]:List (Str×Value)).length }:=Zk6 I2 S Q9 rfl f2 S6 A5 C3 E7 hz;refine Zbb (fun n s'=>∃i ys H',Inv (Xo X scope cl N' s2 H2 P.objs.size fp) [] (fr σ) H' s'/\tn i s'.heap/\(∀b∈fp,H' b=none)/\W i n ys H') ?_ m0 ⟨0,[],_,I3,st1,fun b hb=>?_,w0⟩
  ·rintro n s3 ⟨i,ys,H3,I3,N5,fr3,w3⟩;rcases F4 i n ys H3 w3 with ⟨stop,qn⟩|⟨go,N,hN,step⟩
   ·refine thn (T.done (Xo X scope cl N' s2 H2 P.objs.size fp) rfl rfl rfl hc i [] s3 (fr σ) H3 _ I3 (A4 (by simp) fr3) N5 stop) fun r s4 ⟨hr,I4⟩=>?_
    subst hr;obtain ⟨m4,hn4,_⟩:=I4.loc;obtain ⟨oC,esC,epC,hoC,hrC⟩:=id hn4;have J0:Inv X a6 σ H3 s4:=Zrh I2 Q9 f2 I4 (h':=s4.heap) ⟨rfl,fun _ _=>rfl⟩;have big:s2.heap.objs.size<=P.objs.size:=Nat.le_of_lt Q9;have fC:H3 P.objs.size=none:=I4.free;have okC:=I2.fpOk big fC;have J1:Inv X (a6++[(P.objs.size,oC)]) σ H3 s4:=J0.pins_of fun p hp=>by
     rcases List.mem_append.mp hp with hp|hp
     ·exact J0.pin p (List.mem_append_right _ hp)
     ·have e:p=(P.objs.size,oC):=by simpa using hp
      subst e;exact ⟨hoC,fC,okC.2.1,okC.2.2.1,fun v z=>by rw [hrC.1] at z;cases z⟩
    refine thn (Zo7 hN hi' hy hfn (X:=X) (pos:=py) _ s4 σ H3 (.ref s2.heap.objs.size) (.ref s2.heap.objs.size) _ J1 rfl qn) fun _ s5 ⟨σ5,H5,I5,q5⟩=>?_
    obtain ⟨p1,p2,p3,p4,p5⟩:=I5.pin (P.objs.size,oC) (List.mem_append_right _ (List.mem_append_right _ (by simp)));exact ⟨m4,⟨oC,esC,epC,p1,hrC⟩,fun h' Q7=>⟨σ5,H5,(I5.unpinned).turned (t':=s5.toks) (it:=P.objs.size) (fun b o hb e=>(Q7.2 b hb).trans e) p2 p3 okC.2.2.2.1 okC.2.2.2.2.1 okC.2.2.2.2.2,q5⟩⟩
   ·refine thn (T.item (Xo X scope cl N' s2 H2 P.objs.size fp) rfl rfl rfl hc i [] s3 (fr σ) H3 _ I3 (A4 (by simp) fr3) N5 go) fun r s4 ⟨u,hr,h4⟩=>?_
    subst hr;refine thn h4 fun _ s5 ⟨x,H5,I5,r5,y5,N9,fr5⟩=>?_
    have I5':=I5.pinned (A4 (by simp) fr5) (T.obj _ _ N9);refine thn (hg s2 H2 P.objs.size fp _ s5 (fr σ) H5 x u _ I5' r5 (step x H5 y5)) fun _ s6 ⟨σ6,H6,I6,kp,q6⟩=>?_
    refine thn (hf s2 H2 P.objs.size fp _ s6 σ6 H6 _ I6 q6) fun ok s7 ⟨H7,I7,q7⟩=>?_
    have x9:∀{σ8:St} {H8:Hp} {s8:Shared} {V4:List V},W3 (fr σ) σ8->Inv (Xo X scope cl N' s2 H2 P.objs.size fp) ([]++Zia fp s5.heap) σ8 H8 s8->N V4 H8 ->
      ∃m,m<n/\∃i ys H',Inv (Xo X scope cl N' s2 H2 P.objs.size fp) [] (fr σ) H' s8/\tn i s8.heap/\(∀b∈fp,H' b=none)/\W i m ys H':=fun {σ8 H8 s8 V4} kp8 I8 n8=>by
     obtain ⟨m',hm,w8⟩:=hN V4 H8 n8;refine ⟨m',hm,i+1,V4,H8,(I8.unpinned).weak (by rw [I8.len];exact S.len σ I2.len) kp8,T.keep _ _ _ N9 fun b hb o e=>(I8.pin (b,o) (List.mem_append_right _ (List.mem_append_right _ (Za1 hb e)))).1,fun b hb=>?_,w8⟩;obtain ⟨o,e,d⟩:=T.obj _ _ N9 b hb;exact (I8.pin (b,o) (List.mem_append_right _ (List.mem_append_right _ (Za1 hb e)))).2.1
    cases ok with
    | false=>exact x9 kp I7 q7
    | true =>
     refine thn (he s2 H2 P.objs.size fp _ s7 σ6 H7 _ I7 q7) fun uy s8 ⟨y,H8,I8,r8,V5,hz8,q8⟩=>?_
     exact thn (Xa _ s8 σ6 H8 (.ref s2.heap.objs.size) [y] (.ref s2.heap.objs.size) [uy] (fun _ H9=>N (ys++[y]) H9) I8 rfl (.cons r8 .nil) ⟨_,ys,y,rfl,rfl,V5,hz8,q8⟩) fun _ s9 ⟨v9,H9,I9,_,q9⟩=>x9 kp I9 q9
  ·show upd H2 s2.heap.objs.size (.lst []) b=none;obtain ⟨o,e⟩:=S6 b hb;rw [Ze (Nat.ne_of_lt (Heap.lt_size e))];exact (f2 b hb).1
 exact codeAny_compStart_list (loop _ rfl) (T.self X.A 0 _ _ _ st1 (loop _ rfl))
theorem Zfs{X:Cx}{K:Frag}{es:List Expr}{k:Nat}{pos:Pos}{t:TGs}{n:Nat}(hK:X.K=K)(hc:X.calm=true)(h:PGs X es t)
  (hn:(assignEach es X.env).length=n:=by rfl) (y7:(assignEach es X.env).findIdx? (·.1)=none:=by rfl):PG X (.Tuple es k pos) (Zzr K n t):=hK ▸ W8 hc h hn y7
end L2
end
section
namespace L2
open PySem PySem.Spec PyProof.Rows
theorem Zn8{P:Program}{w:World}:∀{kvs:List (Key×V)} {va:List (Key×Value)} {vs:List Value},KV kvs va->vs.length=va.length->(∀(j:Nat) (v:Value),vs[j]? =some v->∃(k:Key) (x:Value),va[j]? =some (k,x)/\(Z5 P w).is k v=true)->Yh (kvs.map fun kv=>kV kv.1) vs
 | [],_,[],.nil,_,_=>.nil
 | [],_,_ ::_,.nil,h,_=>by simp at h
 | p ::kvs,q ::va,[],.cons r t,h,_=>by simp at h
 | p ::kvs,q ::va,v ::vs,.cons r t,h,hv=>by
  obtain ⟨k,x,e,hk⟩:=hv 0 v rfl;simp only [List.getElem?_cons_zero,Option.some.injEq] at e;subst e;rw [List.map_cons];refine .cons ?_ (Zn8 (P:=P) (w:=w) t (by simpa using h) fun j u hu=>by simpa using hv (j+1) u (by simpa using hu));rw [r.1];exact Zwr hk
def Ycd(K:Frag):R2:=fun x y H Q=>∃a b ka kb,x=.ref a/\y=.ref b/\Rd H a (.dK ka)/\Rd H b (.dK kb)/\ka.length=kb.length/\(∀kv∈ka,∃v,Y6 kb kv.1=some v/\Znt K H kv.2 v)/\Q (.bl false) H
theorem Zz0{X:Cx}(hu:X.A.units+64<cLine):OpR X (compareOp .NotEq) (Ycd X.K):=by
 intro a6 s σ H x y v u Q I rx ry h;obtain ⟨a,b,ka,kb,rfl,rfl,ha,hb,hl,m8,q⟩:=h;cases rx;cases ry;obtain ⟨_,sa,va,ra,da⟩:=Zcw I.hok ha;obtain ⟨_,sb,vb,rb,db⟩:=Zcw I.hok hb;have la:=KV.length ra;have lb:=KV.length rb;have hits:∀{ka':List (Key×V)} {va':List (Key×Value)},KV ka' va'->(∀kv∈ka',∃v,Y6 kb kv.1=some v/\Znt X.K H kv.2 v)->PySem.W.KeqHits X.A.in1 s vb va' true:=by
  intro ka' va' r
  induction r with
  | nil=>intro _;exact .nil
  | cons r t ih =>
   rename_i p q l m;intro hv;obtain ⟨e1,r2⟩:=r;obtain ⟨v,hv1,hv2⟩:=hv p List.mem_cons_self;have F7:=KV.val rb p.1;rw [hv1] at F7;obtain ⟨y,hy,ry⟩:=Zdk.some_of F7;rw [e1] at hy;have:=PySem.W.KeqHits.hit (k:=q.1) (v:=q.2) hy (hv2.eqAt (A:=X.A.in1) I r2 ry (by rw [Wx];lia)) (ih fun kv C2=>hv kv (List.mem_cons_of_mem _ C2));simpa using this
 refine PySem.W.keq_ne (knd:=Z5 X.prog X.w) sa sb da db (by lia) (fun _=>hits ra m8) ⟨.bl false,H,I,?_,q⟩;rw [show (va.length ==vb.length)=true by rw [<-la,<-lb,hl];simp]
 rfl
def Zxu(K:Frag)(neg:Bool):R2:=fun x y H Q=>∃(p:Addr) (n:Nat) (t:Tr) (ts:List Tr) (as:List Addr),y=.ref p/\SqL K H p (as.map V.ref)/\n<=60/\Im K H n t x/\Paired (Im K H n) ts (as.map V.ref)/\Q (.bl (if neg then !decide (t∈ts) else decide (t∈ts))) H
noncomputable def Zml (K:Frag) (H:Hp) (n:Nat) (t:Tr) (u:Value):Bool:=match u with
 | .ref a=>@decide (Im K H n t (.ref a)) (Classical.propDecidable _)
 | _=>false
theorem Zlg{X:Cx}{a6:List (Addr×Obj)}{σ:St}{H:Hp}{s:Shared}(I:Inv X a6 σ H s){n:Nat}{t:Tr}:∀{ts:List Tr} {as:List Addr} {us:List Value},Paired (Im X.K H n) ts (as.map V.ref)->Yh (as.map V.ref) us->us.any (Zml X.K H n t)=decide (t∈ts)
 | [],[],_,_,v=>by rw [List.map_nil] at v;cases v;simp
 | [],a ::as,_,p,_=>by rw [List.map_cons] at p;cases p
 | t' ::ts,[],_,p,_=>by rw [List.map_nil] at p;cases p
 | t' ::ts,a ::as,us,p,v=>by
  rw [List.map_cons] at p v;cases p with
  | cons i p =>
   cases v with
   | cons r v =>
    cases r;rw [List.any_cons,Zlg I p v,Bool.eq_iff_iff,Bool.or_eq_true];simp only [Zml,decide_eq_true_eq,List.mem_cons]
    constructor
    ·rintro (z|z)
     ·exact .inl (Im.inj I z i)
     ·exact .inr z
    ·rintro (z|z)
     ·exact .inl (z ▸ i)
     ·exact .inr z
theorem Zlu{X:Cx}{a6:List (Addr×Obj)}{σ:St}{H:Hp}{s:Shared}(I:Inv X a6 σ H s){n:Nat}{A:Around}(hu:A.units+n<cLine){t:Tr}{x:V}{vx:Value}(hx:Im X.K H n t x)(rx:Yl x vx) :
  ∀{ts:List Tr} {as:List Addr} {us:List Value},Paired (Im X.K H n) ts (as.map V.ref)->Yh (as.map V.ref) us->∀u∈us,SeqAt.EqAt A s u vx (Zml X.K H n t u)
 | [],[],_,_,v=>by rw [List.map_nil] at v;cases v;simp
 | [],a ::as,_,p,_=>by rw [List.map_cons] at p;cases p
 | t' ::ts,[],_,p,_=>by rw [List.map_nil] at p;cases p
 | t' ::ts,a ::as,us,p,v=>by
  rw [List.map_cons] at p v;cases p with
  | cons i p =>
   cases v with
   | cons r v =>
    cases r;intro u hm;rcases List.mem_cons.mp hm with e|e
    ·subst e;refine Yk (Im.eqAt I n A i hx rfl rx hu) ?_;simp only [Zml,decide_eq_decide];exact ⟨fun z=>z ▸ i,fun z=>(Im.inj I z i).symm⟩
    ·exact Zlu I hu hx rx p v u e
theorem Zz9{X:Cx}(hu:X.A.units+64<cLine):OpR X (compareOp .In) (Zxu X.K false):=by
 intro a6 s σ H x y v u Q I rx ry h;obtain ⟨p,n,t,ts,as,rfl,hq,hn,hx,hp,q⟩:=h;cases ry;obtain ⟨a7,r,pl,hz⟩:=I.list hq;refine SeqAt.in_listAt (Zml X.K H n t) pl.isList (fun w hw=>Zlu I (by rw [Wx];lia) hx rx hp r w (by simpa using hw)) ⟨.bl _,H,I,rfl,?_⟩;rw [show a7.toArray.any (Zml X.K H n t)=a7.any (Zml X.K H n t) by simp,Zlg I hp r];exact q
theorem Zu4{X:Cx}(hu:X.A.units+64<cLine):OpR X (compareOp .NotIn) (Zxu X.K true):=by
 intro a6 s σ H x y v u Q I rx ry h;obtain ⟨p,n,t,ts,as,rfl,hq,hn,hx,hp,q⟩:=h;cases ry;obtain ⟨a7,r,pl,hz⟩:=I.list hq;refine SeqAt.notIn_listAt (Zml X.K H n t) pl.isList (fun w hw=>Zlu I (by rw [Wx];lia) hx rx hp r w (by simpa using hw)) ⟨.bl _,H,I,rfl,?_⟩;rw [show a7.toArray.any (Zml X.K H n t)=a7.any (Zml X.K H n t) by simp,Zlg I hp r];exact q
section
variable {X:Cx} {k:Nat}
def Zcm(K:Frag):R2:=fun x y H Q=>rNe x y H Q\/Zx0 K true x y H Q\/Ycd K x y H Q
theorem Zdp(hr:Wq k X.A):OpR X (compareOp .NotEq) (Zcm X.K):=Ybz.or ((Zzj hr.units).or (Zz0 hr.units))
def Zoc(K:Frag):R2:=fun x y H Q=>rIn K false x y H Q\/(∃a o,y=.ref a/\Wa H a x o/\Q (.bl o.isSome) H)\/(∃i j,x=.str i/\y=.str j/\Q (.bl (!(Builtin.Str.occurrences j i 0 j.length 1).isEmpty)) H)\/Zxu K false x y H Q
theorem Zqs(hr:Wq k X.A):OpR X (compareOp .In) (Zoc X.K):=Zt1.or ((Yaq (Xc hr)).or (Zuh.or (Zz9 hr.units)))
def Zby(K:Frag):R2:=fun x y H Q=>rIn K true x y H Q\/(∃a o,y=.ref a/\Wa H a x o/\Q (.bl (!o.isSome)) H)\/Zxu K true x y H Q
theorem Zcr(hr:Wq k X.A):OpR X (compareOp .NotIn) (Zby X.K):=Zox.or ((Zuk (Xc hr)).or (Zu4 hr.units))
end
end L2
end
section
namespace L2
open PySem
section
variable {M:Model} {A:Around} {E:Value->Shared->Prop} {s:Shared} {base:Heap} {env:Env} {outer l:List Env} {L e:Addr} {oe:Obj} {vs:Array Value} {head a0 cls fl:Value} {dx:Option Addr} {Q:Unit->Shared->Prop}
end
end L2
end
section
namespace L2
open PySem PySem.Spec PyProof.Rows
theorem Yy.there{P:Program}{w:World}{H:Hp}{h:Heap}{a:Addr}{o:HO}(x:Yy P w H h a o):∃ob,h.get? a=some ob:=by
 cases o with
 | lst xs=>obtain ⟨_,_,_,_,e⟩:=x;exact ⟨_,e⟩
 | tup xs=>obtain ⟨_,_,_,_,e,_⟩:=x;exact ⟨_,e⟩
 | dK kvs=>obtain ⟨_,_,_,_,o,_,_,e,_⟩:=x;exact ⟨_,e⟩
 | dT kvs=>obtain ⟨_,_,_,_,o,_,_,e,_⟩:=x;exact ⟨_,e⟩
 | set S n=>obtain ⟨o,_,_,_,e,_⟩:=x;exact ⟨_,e⟩
 | ins C dx fs=>obtain ⟨_,_,_,e,_⟩:=x;exact ⟨_,e⟩
 | own y=>obtain ⟨_,e⟩:=x;exact ⟨_,e⟩
 | xd fs=>obtain ⟨_,⟨_,_,_,e,_⟩,_⟩:=x;exact ⟨_,e⟩
 | rng lo hi=>obtain ⟨_,_,_,e⟩:=x;exact ⟨_,e⟩
 | frz ob u=>obtain ⟨e,_⟩:=x;exact ⟨_,e⟩
 | tbl ps =>
  obtain ⟨_,_,_,_,_,_,_,e | ⟨_,_,_,_,_,_,_,e⟩⟩:=x
  ·exact ⟨_,e⟩
  ·exact ⟨_,e⟩
 | met f y=>exact ⟨_,show h.get? a=some _ from x⟩
 | ext φ=>obtain ⟨_,⟨_,e⟩,_⟩:=x;exact ⟨_,e⟩
section
variable {P:Program} {w:World} {K:Frag} {mg:Str->Option Value} {base:Heap} {N:List Str} {a9:Str} {scope:Scope} {f:Addr} {cd:Value} {A:Around} {outer:List Env} {s₀:Shared} {H₀:Hp} {E:XK}
end
abbrev Cx.caught(X:Cx)(ea:Addr):Cx:={ X with A:=X.A.mark (some (.ref ea)),calm:=false,xe:=fun _ _=>False }
section
variable {X:Cx} {a6 m9:List (Addr×Obj)} {σ:St} {H:Hp} {s:Shared} {E:Value->Shared->Prop}
end
section
variable {P:Program} {w:World} {K:Frag} {mg:Str->Option Value} {base:Heap}
end
end L2
end
section
namespace L2
open PySem PySem.Spec PyProof.Rows
theorem Ztn:∀{ss:List Str} {us:List Value},Yh (ss.map V.str) us->StrsAre us ss
 | [],_,r=>by rw [List.map_nil] at r;cases r;exact .nil
 | x ::ss,_,r=>by
  rw [List.map_cons] at r;cases r with
  | cons r t =>
   obtain ⟨tk,rfl⟩:=r;exact .cons _ _ (Ztn t)
theorem Zs3:∀{ss:List Str} {us:List Value},StrsAre us ss->Yh (ss.map V.str) us
 | [],_,r=>by cases r;exact .nil
 | x ::ss,_,r=>by
  cases r with
  | cons _ _ t=>exact .cons ⟨_,rfl⟩ (Zs3 t)
theorem Inv.laidAt{X:Cx}{a6:List (Addr×Obj)}{σ:St}{H:Hp}{s:Shared}{h':Heap}{t':Nat}{a:Addr}{o:HO}(I:Inv X a6 σ H s)(k:∀b u,s.heap.get? b=some u->h'.get? b=some u)(hn:s.heap.get? a=none)(new:Yy X.prog X.w (upd H a o) h' a o) :
  H a=none/\Inv X a6 σ (upd H a o) { s with heap:=h',toks:=t' }:=by
 have hH:H a=none:=by
  cases e:H a with
  | none=>rfl
  | some u =>
   obtain ⟨ob,z⟩:=(I.hok a u e).there;rw [hn] at z;cases z
 have ne:∀b u,s.heap.get? b=some u->b≠a:=fun b u e z=>by rw [z,hn] at e;cases e
 refine ⟨hH,I.call' (s':={ s with heap:=h',toks:=t' }) rfl ⟨fun b u e _ _ _=>k b u e,fun b u e _ _ _=>⟨u.slots,k b u e⟩,fun b u e n _=>by rw [Ze (ne b u e)];exact n,fun b u e _=>⟨u,k b u e⟩,fun b xs e=>?_,fun b q u e=>?_,fun b ps e=>⟨#[],?_⟩⟩ (fun b u e=>?_) I.bare (fun b z=>absurd z List.not_mem_nil)⟩
 ·rw [Ze (Zi e hH)];exact e
 ·rw [Ze (Zi e hH)];exact e
 ·rw [Ze (Zi e hH)];simpa using e
 ·by_cases z:b=a
  ·rw [z,Zf] at e;cases e;rw [z];exact new
  ·rw [Ze z] at e;exact (I.hok b u e).stay (fun c v _ h=>k c v h) (fun c h=>by rw [Ze (Zi h hH)];exact h) (fun c ys h=>by rw [Ze (Zi h hH)];exact h)
def Zkt:List V->Hp->VK->Prop:=fun xs H Q=>∃(p:Addr) (kvs:List (Key×V)) (ss:List Str),xs=[.ref p]/\Rd H p (.dK kvs)/\kvs.map (fun kv=>kV kv.1)=ss.map V.str/\ss.length<64/\∀ss':List Str,ss'.Perm ss->sortedS ss'=true->New H (.lst (ss'.map V.str)) Q
theorem Zd5{X:Cx}(hc:X.calm=true):X0 X (.builtin "sorted") Zkt:=by
 intro a6 s σ H xs us Q I r h;obtain ⟨p,kvs,ss,rfl,hd,hk,hl,q⟩:=h;obtain ⟨u,rfl,rx⟩:=Zci r;cases rx;obtain ⟨hz,lo,va,kv,da⟩:=Zcw I.hok hd;obtain ⟨ep,B8⟩:=da.dictAt;have hlv:=KV.length kv;refine Calls.call_function_entry kind_sorted plain_sorted entry_sorted (args_sorted1 _) ?_;unfold Builtin.«sorted»;refine wpAny_bind (m:=checkCount "sorted" 1 1 _) (wpAny_pure ?_);refine wpAny_bind (PySem.W.kdu_collect (A:=X.A.in1) (PySem.W.kdl_dict (knd:=Z5 X.prog X.w) (kvs:=va) (ep:=ep) lo) (I.ok.hd hc) B8 (by lia) fun h' tk B5 hkp C3=>?_);have hv:Yh (kvs.map fun kv=>kV kv.1) B5.toList:=Zn8 (P:=X.prog) (w:=X.w) kv (by rw [Array.length_toList];exact C3.1) fun j v e=>C3.2 j v (by rw [<-Array.getElem?_toList];exact e)
 rw [hk] at hv;have hS:=Ztn hv;have d5:B5.toList.length=ss.length:=by have:=hv.length;rw [List.length_map] at this;exact this.symm
 refine wpAny_bind (wpAny_newList ?_ (by rw [d5];exact sz (by lia)));have hoL:(h'.push (seqObj "list" B5.toList.toArray 0)).get? h'.objs.size=some (seqObj "list" B5.toList.toArray 0):=Heap.get?_push_size _ rfl;refine wpAny_bind (wpAny_holding (wpAny_call_entry slot_list_sort ⟨_,hoL,rfl⟩ entry_list_sort (list_sort_treeK strKind_oneLt hoL hS.keysOf (fun v₁ v₂ Yo e=>keyKind_strs (by rw [<-e];exact hS)) (by lia) fun i9 a1 a2=>⟨_,rfl,?_⟩) (args_list_sort _)));obtain ⟨ss',b1,b2,b3⟩:=sorted_out_str hS a1 a2;obtain ⟨e,he⟩:=sortedHeap_at (out:=(arrOf i9).map (·.2)) hoL;have hp:=b2.length_eq;have hnone:s.heap.get? h'.objs.size=none:=by
  cases z:s.heap.get? h'.objs.size with
  | none=>rfl
  | some o=>exact absurd (Heap.lt_size (hkp _ _ z)) (Nat.lt_irrefl _)
 obtain ⟨hn,J⟩:=I.laidAt (h':=sortedHeap (h'.push (seqObj "list" B5.toList.toArray 0)) h'.objs.size B5.toList ((arrOf i9).map (·.2))) (t':=tk) (a:=h'.objs.size) (o:=.lst (ss'.map V.str)) (fun b o hb=>by
  have S7:=hkp b o hb;rw [sortedHeap_old (Nat.ne_of_lt (Heap.lt_size S7)) (Nat.lt_of_lt_of_le (Heap.lt_size S7) (by rw [Heap.size_push];exact Nat.le_succ _))];exact Heap.get?_push_of_some _ S7) hnone (show Yy X.prog X.w _ _ _ (.lst _) from ⟨by rw [List.length_map];exact sz (by lia),((arrOf i9).map (·.2)).toList,e,Zs3 b1,by rw [he]⟩)
 exact wpAny_pure ⟨_,rfl,.ref h'.objs.size,_,J,rfl,(q ss' b2 b3).at _ hn⟩
def Zus(tl:TE):TE:=fun σ H Q=>tl σ H fun x H1=>∃d kvs,x=.ref d/\Rd H1 d (.dK kvs)/\New H1 (.lst (kvs.map fun kv=>kv.2)) Q
theorem Ztu{kvs:List (Key×V)}{va:List (Key×Value)}(h:KV kvs va):Yh (kvs.map fun kv=>kv.2) (va.map fun kv=>kv.2):=by
 induction h with
 | nil=>exact .nil
 | cons r t ih=>exact .cons r.2 ih
theorem Zpw{X:Cx}{i4 i8 p' w9:Pos}{o:Expr}{to:TE}(hc:X.calm=true) (hgl:Gl X "list") (hml:X.mg "list" =none) (ho:PE X o to) (A9:attributeBase o "values" X.env (eval o X.env)=eval o X.env:=by rfl) (B0:(i4.endLine ==i8.line)=true:=by rfl) :
  PE X (.Call (.Name "list" p') [.Call (.Attribute o "values" i4) [] [] i8] [] w9) (Zus to):=by
 intro a6 s σ H Q I h;refine wpAny_Call_Name_kw (Zfj I hgl hml PyProof.Rows.boot_list ?_);refine PyProof.Rows.callWith_type1 ?_ rfl rfl;refine Calls.spliced_cons ?_;refine wpAny_Call_method0_late A9 B0 (thn (ho a6 s σ H _ I h) fun v s1 ⟨y,H1,I1,r1,q1⟩=>?_);obtain ⟨d,kvs,rfl,hd,q⟩:=q1;cases r1;obtain ⟨hz,hs,vs,kv,dd⟩:=Zcw I1.hok hd;obtain ⟨ob,_,_,C9,R0,_⟩:=id dd;obtain ⟨ep,hD⟩:=Zfz dd C9;refine ⟨"dict", "dict.values",PySem.F.plainAttrs_dict,PySem.F.slot_dict_values,PySem.F.type_dict_values,dd.typeIs,fun a e=>?_,Calls.callWith_builtin rfl (PySem.evalArgs_none ?_)⟩
 ·cases e;exact ⟨ob,C9,R0.2.1⟩
 refine call_meetsIn PySem.F.slot_dict_values dd.typeIs PySem.F.entry_dict_values (PySem.F.args_dict_values_1 _) (meets_dict_values (Z5 X.prog X.w) d hs) ⟨⟨vs,dd⟩,?_⟩;refine Calls.spliced_nil ?_;have I2:Inv X a6 σ H1 { s1 with heap:=s1.heap.push { cls:=.type "dict_values",data:=.fields #[.ref d] } }:=I1.kept (t':=s1.toks) fun b o e=>Heap.get?_push_of_some _ e
 have hl:=KV.length kv;refine PySem.W.kdl_call (PySem.W.kdl_values (knd:=Z5 X.prog X.w) (r:=s1.heap.objs.size) (d:=d) (kvs:=vs) (ep:=ep)) (I2.ok.hd hc) ⟨⟨_,Heap.get?_push_size _ rfl,rfl,rfl⟩,hD _ (Heap.get?_push_of_some _ C9)⟩ (by lia) fun h' tk R8 c' hk v0 C3=>?_
 have e1:R8.toList=vs.map (·.2):=PySem.W.kdl_vals_eq R8.toList (by rw [Array.length_toList];exact C3.1) fun j v e=>C3.2 j v (by rw [<-Array.getElem?_toList];exact e)
 have hv:Yh (kvs.map fun kv=>kv.2) R8.toList:=by rw [e1];exact Ztu kv
 exact ⟨.ref _,_,I2.laid (o:=.lst _) (t':=tk) hk (Nat.le_refl _) (show Yy X.prog X.w _ h' _ (.lst _) from ⟨by rw [List.length_map];exact hz,R8.toList,c',hv,by rw [v0]⟩),rfl,q.at _ (I2.hok.fresh (Nat.le_refl _))⟩
end L2
end
section
namespace L2
open PySem PySem.Spec PyProof.Rows Builtin Builtin.ObjectAttr
section
variable {P:Program} {w:World} {H:Hp} {h:Heap} {e C t:Addr} {dx:Option Addr}
end
section
variable {X:Cx} {a6:List (Addr×Obj)} {σ:St} {H:Hp} {s:Shared}
end
section
variable {X:Cx} {a6:List (Addr×Obj)} {σ:St} {H:Hp} {s:Shared} {e C Y t:Addr} {f:Str} {A:Around} {E:Value->Shared->Prop}
end
section
variable {prog:Program} {w:World} {A:Around} {E:Value->Shared->Prop} {s:Shared} {K:Frag} {x C:Addr} {ox:Obj} {od:Option Obj} {name:Str} {tk:Tok}
end
section
variable {X:Cx} {f:Str}
end
end L2
end
section
namespace L2
open PySem PySem.Spec PyProof.Rows
section
variable {prog:Program} {w:World} {A:Around} {E:Value->Shared->Prop} {h:Heap} {g:Array GenState} {d:Drawn} {tk:Nat} {os:OsState} {nm qn:Str} {C N:Addr} {bs bm bmB:List Value} {hdct:Bool} {sn:List Str} {sub:List Value} {ab:Bool} {col:Option Bool} {dd:Option Addr} {k0 k1 k2 k3 k5:Option Value} {B newId initId:String}
 {Yo:List Value} {fI:Addr} {oI:Obj}
end
section
variable {M:Model} {A:Around} {E:Value->Shared->Prop} {s:Shared} {env:Env} {nm qn:Str} {C N:Addr} {bs bm:List Value} {hdct:Bool} {sn:List Str} {sub:List Value} {ab:Bool} {col:Option Bool} {dd:Option Addr} {k0 k1 k2 k3 k5:Option Value} {newId:String}
end
section
variable {P:Program} {w:World} {K:Frag} {mg:Str->Option Value} {base:Heap} {N:List Str} {a9:Str} {scope:Scope} {f:Addr} {cd:Value} {A:Around} {outer:List Env} {s₀:Shared} {H₀:Hp} {E:XK}
end
section
variable {K:Frag} {M:Model} {A:Around} {E:Value->Shared->Prop} {s:Shared} {e C B:Addr} {o:Obj} {r:Bool}
end
section
variable {X:Cx} {σ:St} {H:Hp}
end
theorem Zoh:∀{cs:List Addr} {a7:List Value},Yh (cs.map V.ref) a7->a7=cs.map Value.ref
 | [],_,.nil=>rfl
 | c ::cs,_,.cons r t=>by
  rw [Zoh t];cases r
  rfl
end L2
end
section
namespace L2
open PySem PySem.Spec PyProof.Rows
theorem Zoz:typeLookup (.type "list") "keys" =pure none:=by rw [typeLookup_type,builtinLookup_eq_fast];kernel_rfl
theorem Zjj:typeLookup (.type "list") "__getattr__" =pure none:=by rw [typeLookup_type,builtinLookup_eq_fast];kernel_rfl
theorem Zr1:isSubtype (.type "AttributeError") (.type "AttributeError")=pure true:=by rw [isSubtype_type];kernel_rfl
section
variable {prog:Program} {w:World} {A:Around} {E:Value->Shared->Prop} {h:Heap} {g:Array GenState} {d:Drawn} {t:Nat} {os:OsState} {a:Addr} {vs:Array Value} {n:Nat}
theorem Zxd{β:Type}{msg:Str}{Q:β->Shared->Prop}(hh:A.handled=none)(hm:msg.length<=sizeLine)
  (hq:∀h' e v7,(∀b u,h.get? b=some u->h'.get? b=some u)->(∃oe,h'.get? e=some oe/\oe.cls=.type "AttributeError")->E (.ref e) ⟨h',g,d,v7,os⟩) :
  wpAny (model prog w) A (raiseAttrError (.ref a) "keys" msg:Sem β) Q E ⟨h,g,d,t,os⟩:=by
 have f5:=Zr1;have hm':¬msg.length >sizeLine:=by lia
 unfold raiseAttrError newExc
 repeat (any_goals (first | assumption | rw [if_neg hm'] | wp_step))
 generalize hoX:({ cls:=Value.type "AttributeError",data:=Data.fields (#[Value.ref h.objs.size,Value.none,Value.none,Value.none,Value.bool false,if ((Manifest.find? "AttributeError").elim false fun t=>t.mro.contains "StopIteration" || t.mro.contains "SystemExit")=true then [Value.str msg t].headD Value.none else Value.none]++ownMembersOf (Value.type "AttributeError") [Value.str msg t]) }:Obj)=oX;have hcX:oX.cls=.type "AttributeError" :=by rw [<-hoX]
 have hdX:∃ws,oX.data=.fields ws:=⟨_,by rw [<-hoX]⟩
 obtain ⟨ws,hdX⟩:=hdX;have hX:((h.push { cls:=Value.type "tuple",data:=Data.seq #[Value.str msg t] }).push oX).get? (h.push { cls:=Value.type "tuple",data:=Data.seq #[Value.str msg t] }).objs.size=some oX:=Heap.get?_push_size _ (Obj.isFreed_of_fields hdX);refine wpAny_raiseNew_none hh (hq _ _ _ (fun b u hb=>?_) ⟨_,Heap.get?_update_self _ hX (Obj.isFreed_of_fields (Obj.data_mapFields hdX _)),by rw [Obj.cls_mapFields];exact hcX⟩);rw [Heap.get?_update_other _ _ (by rw [Heap.size_push];exact Nat.ne_of_gt (Nat.lt_succ_of_lt (Heap.lt_size hb)))];exact Heap.get?_push_of_some _ (Heap.get?_push_of_some _ hb)
theorem Zro{tk:Tok}{Q:Fin->Shared->Prop}(hh:A.handled=none) (hx:h.get? a=some { cls:=.type "list",data:=.seq vs n })
  (hq:∀h' e v7,(∀b u,h.get? b=some u->h'.get? b=some u)->(∃oe,h'.get? e=some oe/\oe.cls=.type "AttributeError")->E (.ref e) ⟨h',g,d,v7,os⟩) :
  wpAny (model prog w) A (Builtin.«object.__getattribute__» ⟨[.ref a,.str "keys" tk],[]⟩) Q E ⟨h,g,d,t,os⟩:=by
 have hT:(⟨h,g,d,t,os⟩:Shared).TypeIs (.ref a) "list" :=⟨_,hx,rfl⟩
 have f4:=Zoz;have f5:=Zr1
 repeat (any_goals (first | assumption | wp_step))
 exact Zxd hh (by trivial) hq
theorem Znp{Q:Option Value->Shared->Prop}(hh:A.handled=none) (hx:h.get? a=some { cls:=.type "list",data:=.seq vs n })
  (hq:∀h' v7,(∀b u,h.get? b=some u->h'.get? b=some u)->Q none ⟨h',g,d,v7,os⟩):wpAny (model prog w) A (getAttr? (.ref a) "keys") Q E ⟨h,g,d,t,os⟩:=by
 have hT:(⟨h,g,d,t,os⟩:Shared).TypeIs (.ref a) "list" :=⟨_,hx,rfl⟩
 have f2:=F.slot_list_getattribute.lookup;have f3:=F.slot_list_getattribute.bind (.ref a);have f5:=Zr1;have f6:=Zjj;unfold getAttr? getAttrBy?
 repeat (any_goals (first | assumption | wp_step))
 refine codeAny_call_builtin F.slot_list_getattribute.plain F.entry_list_ga (F.slot_list_getattribute.check _ _ _ _ _ _ _ _ (show (⟨h,g,d,t+1,os⟩:Shared).TypeIs (.ref a) "list" from ⟨_,hx,rfl⟩) (F.args_list_getattribute_2 _ _) (Zro hh hx fun h' e v7 kp ⟨oe,he,hc⟩=>?_));have hTe:(⟨h',g,d,v7,os⟩:Shared).TypeIs (.ref e) "AttributeError" :=⟨_,he,hc⟩
 have hq':=hq h' v7 kp;unfold getattributeRaised
 repeat (any_goals (first | assumption | wp_step))
 all_goals trace_state
end
theorem Zft:entryFor table "dict.update.loop" =some Builtin.«dict.update.loop» :=entryFor_of_tree (by kernel_rfl)
section
variable {prog:Program} {w:World} {KT:Type} [DecidableEq KT] {knd:KeyKind prog w KT} {A:Around} {R:Result->Shared->Prop} {l d it:Addr} {tps:List Addr} {prs D0:List (KT×Value)} {h₀:Heap}
def Zo6(knd:KeyKind prog w KT)(h:Heap)(tps:List Addr)(prs:List (KT×Value)):Prop:=Paired (fun p (q:KT×Value)=>∃key o n,knd.is q.1 key=true/\h.get? p=some o/\o.cls=.type "tuple" /\o.data=.seq #[key,q.2] n) tps prs
theorem Zr2(hh:A.handled=none)(hdi:d≠it)(hl:h₀.IsList l (tps.map Value.ref).toArray)(hld:l≠d)(Q2:l≠it)(hp:Zo6 knd h₀ tps prs)(hsz:D0.length+prs.length<=sizeLine)(hpd:∀p∈tps,p≠d/\p≠it) :
  ∀(n i:Nat) (s:Shared) (j:Int) (tk:Tok),i+n=prs.length->s.heap.IsListIter it l i->s.heap.DictOf knd d (merged D0 (prs.take i))->(∀b o,b≠d->b≠it->h₀.get? b=some o->s.heap.get? b=some o) ->
   (∀h' v7,h'.DictOf knd d (merged D0 prs)->(∀b o,b≠d->b≠it->h₀.get? b=some o->h'.get? b=some o)->R (.ok (.ret .none)) { s with heap:=h',toks:=v7 }) ->
   codeAny (model prog w) A (.builtin "dict.update.loop" ⟨[.ref d,.ref it,.int j tk,.none],[]⟩) R s:=by
 have d5:tps.length=prs.length:=Paired.length hp;intro n
 induction n with
 | zero =>
  intro i s j tk hi hit hD keep hq;have C5:s.heap.IsList l (tps.map Value.ref).toArray:=by
   obtain ⟨o,ho,r⟩:=hl;exact ⟨o,keep _ _ hld Q2 ho,r⟩
  refine codeAny_builtin Zft ?_;unfold Builtin.«dict.update.loop»;dsimp only;refine wpAny_bind (wpAny_pyNext_list_end hh hit C5 (by rw [List.getElem?_toArray,List.getElem?_map,List.getElem?_eq_none (by lia)];rfl) fun h' eb=>?_);dsimp only;refine wpAny_bind (wpAny_pure (wpAny_pure ?_));refine hq h' s.toks ?_ ?_
  ·rw [show prs.take i=prs from List.take_of_length_le (by lia)] at hD;obtain ⟨o,es,ep,ho,r⟩:=hD;exact ⟨o,es,ep,eb d o hdi ho,r⟩
  ·exact fun b o h1 h2 h3=>eb b o h2 (keep b o h1 h2 h3)
 | succ n ih =>
  intro i s j tk hi hit hD keep hq;have C5:s.heap.IsList l (tps.map Value.ref).toArray:=by
   obtain ⟨o,ho,r⟩:=hl;exact ⟨o,keep _ _ hld Q2 ho,r⟩
  have F8:i<tps.length:=by lia
  obtain ⟨q,hqi,key,ot,nt,hk,A7,hct,hdt⟩:=Paired.get hp (i:=i) (a:=tps[i]) (List.getElem?_eq_getElem F8);obtain ⟨nd,ni⟩:=hpd tps[i] (List.getElem_mem F8);refine codeAny_builtin Zft ?_;unfold Builtin.«dict.update.loop»;dsimp only;refine wpAny_bind (wpAny_pyNext_list_item hit C5 (x:=.ref tps[i]) (by rw [List.getElem?_toArray,List.getElem?_map,List.getElem?_eq_getElem F8];rfl) fun h1 it1 sb1=>?_);have O5:h1.get? tps[i]=some ot:=by rw [sb1.2 _ ni];exact keep _ _ nd ni A7
  have hT:({ s with heap:=h1 }:Shared).TypeIs (.ref tps[i]) "tuple" :=⟨_,O5,hct⟩
  have K9:h1.DictOf knd d (merged D0 (prs.take i)):=by
   obtain ⟨o,es,ep,ho,r⟩:=hD;exact ⟨o,es,ep,by rw [sb1.2 _ hdi];exact ho,r⟩
  refine wpAny_bind (wpAny_holding (wpAny_bind (wpAny_tryCatch ?_)));unfold Builtin.Dict.pairItems;refine wpAny_bind (wpAny_typeOf hT ?_);rw [if_pos (by decide)];refine wpAny_bind (wpAny_seqItems (s:={ s with heap:=h1 }) O5 hdt (wpAny_pure ?_));refine wpAny_holding (wpAny_dictSet_pairs hk K9 (fun h2 v5 sb2=>?_) ?_)
  ·refine wpAny_pure ⟨Code.quiet_builtin _ (by trivial),?_⟩;have y7:stored (merged D0 (prs.take i)) q.1 q.2=merged D0 (prs.take (i+1)):=(merged_take_succ D0 prs i q hqi).symm;rw [y7] at v5;refine ih (i+1) { s with heap:=h2,toks:=s.toks+1 } (j+1) _ (by lia) ?_ v5 (fun b o n1 n2 z=>?_) fun h' v7=>hq h' v7
   ·exact it1.at fun o z=>by rw [sb2.2 _ hdi.symm];exact z
   ·rw [sb2.2 _ n1,sb1.2 _ n2];exact keep b o n1 n2 z
  ·have:=merged_length_le (K:=KT) D0 (prs.take i);rw [List.length_take] at this;lia
theorem Zj0{n:Nat}{s:Shared}{Q:Value->Shared->Prop}{E:Value->Shared->Prop}(hh:A.handled=none) (hx:s.heap.get? l=some { cls:=.type "list",data:=.seq (tps.map Value.ref).toArray n }) (hp:Zo6 knd s.heap tps prs) (hsz:prs.length<=sizeLine)
  (h:∀h' v7 dd,h'.DictOf knd dd (merged [] prs)->dd=s.heap.objs.size->s.heap.get? dd=none->(∀b o,s.heap.get? b=some o->h'.get? b=some o)->Q (.ref dd) { s with heap:=h',toks:=v7 }) :
  wpAny (model prog w) A (call (.type "dict") [.ref l]) Q E s:=by
 refine callType_codes (Q₁:=fun obj s₁=>obj=.ref s.heap.objs.size/\s₁={ s with heap:=s.heap.push { cls:=.type "dict",data:=.dict #[] } }) F.kt_called_dict (F.kt_typeCall_dict_1 _) F.entry_dict_init (kt_code_dict_new _ ⟨rfl,rfl⟩) ?_;rintro obj s₁ ⟨rfl,rfl⟩;have i7:(s.heap.push { cls:=.type "dict",data:=.dict #[] }).DictOf knd s.heap.objs.size []:=Heap.DictOf.new s.heap;have hx1:(s.heap.push { cls:=.type "dict",data:=.dict #[] }).get? l=some { cls:=.type "list",data:=.seq (tps.map Value.ref).toArray n }:=Heap.get?_push_of_some _ hx;refine ⟨i7.typeIs,F.args_dict_init_2 _ _,?_⟩;unfold Builtin.«dict.__init__»;refine wpAny_bind ?_;unfold Builtin.Dict.selfAndRest;refine wpAny_bind (wpAny_notOrdered_dict i7.typeIs ?_);show wpAny _ _ (pure (s.heap.objs.size,[Value.ref l])) _ _ _;refine wpAny_pure ?_;show wpAny _ _ (Builtin.Dict.updateFrom "dict.__init__" s.heap.objs.size (.ref l) [] .none) _ _ _;unfold Builtin.Dict.updateFrom;refine wpAny_bind (wpAny_typeOf (T := "list") ⟨_,hx1,rfl⟩ ?_);rw [if_pos (by decide)];obtain ⟨h0,g0,d0,t0,os0⟩:=s;dsimp only at *;refine wpAny_bind (Znp hh hx1 fun h1 tk1 k1=>?_);simp only [Option.isNone_none,if_true];have hx2:=k1 _ _ hx1;have D4:h1.IsList l (tps.map Value.ref).toArray:=⟨_,hx2,rfl,n,rfl⟩
 refine wpAny_bind (wpAny_rule (wpAny_bind (wpAny_pyIter_list (s:=⟨h1,g0,d0,tk1,os0⟩) D4 (wpAny_pure ⟨Code.quiet_builtin _ (by trivial),?_⟩))));have k2:∀b o,h0.get? b=some o->(h1.push { cls:=.type "list_iterator",data:=.fields #[.ref l,.int 0 0] }).get? b=some o:=fun b o z=>Heap.get?_push_of_some _ (k1 _ _ (Heap.get?_push_of_some _ z))
 have hd1:h1.get? h0.objs.size=some { cls:=.type "dict",data:=.dict #[] }:=k1 _ _ (Heap.get?_push_size h0 rfl);have lt1:h0.objs.size<h1.objs.size:=Heap.lt_size hd1;have L8:l<h0.objs.size:=Heap.lt_size hx;refine Zr2 (A:=A.in1) (knd:=knd) (h₀:=h1.push { cls:=.type "list_iterator",data:=.fields #[.ref l,.int 0 0] }) (l:=l) (tps:=tps) (prs:=prs) (D0:=[]) hh (Nat.ne_of_lt lt1) ?_ (Nat.ne_of_lt L8) (Nat.ne_of_lt (Nat.lt_trans L8 lt1)) ?_ (by simpa using hsz) (fun p z=>?_) prs.length 0 ⟨h1.push { cls:=.type "list_iterator",data:=.fields #[.ref l,.int 0 0] },g0,d0,tk1,os0⟩ 0 0 (by lia) ?_ ?_ (fun _ _ _ _ z=>z) fun h' v7 hD kp=>?_
 ·exact ⟨_,k2 _ _ hx,rfl,n,rfl⟩
 ·exact Paired.mapP hp fun p q ⟨key,o,m,z1,z2,z3⟩=>⟨key,o,m,z1,k2 _ _ z2,z3⟩
 ·obtain ⟨i,hi,rfl⟩:=List.getElem_of_mem z;obtain ⟨q,_,key,o,m,_,z2,_⟩:=Paired.get hp (i:=i) (a:=tps[i]) (List.getElem?_eq_getElem hi);have:=Heap.lt_size z2;exact ⟨Nat.ne_of_lt this,Nat.ne_of_lt (Nat.lt_trans this lt1)⟩
 ·exact ⟨_,Heap.get?_push_size h1 rfl,rfl,rfl⟩
 ·obtain ⟨o,es,ep,ho,r⟩:=i7;exact ⟨o,es,ep,Heap.get?_push_of_some _ (k1 _ _ ho),r⟩
 ·refine ⟨rfl,h h' v7 h0.objs.size hD rfl (Heap.get?_none_of_le (Nat.le_refl _)) fun b o z=>kp b o ?_ ?_ (k2 b o z)⟩
  ·exact Nat.ne_of_lt (Heap.lt_size z)
  ·exact Nat.ne_of_lt (Nat.lt_trans (Heap.lt_size z) lt1)
end
def Zrt:List V->Hp->VK->Prop:=fun xs H Q=>∃(l:Addr) (tps:List Addr) (kvs:List (Key×V)),xs=[.ref l]/\H l=some (.lst (tps.map V.ref))/\Paired (fun t (q:Key×V)=>H t=some (.tup [kV q.1,q.2])) tps kvs/\(kvs.map Prod.fst).Nodup/\New H (.dK kvs) Q
theorem Zkv{X:Cx}(hc:X.calm=true):X0 X (.type "dict") Zrt:=by
 intro a6 s σ H xs us Q I r h;obtain ⟨l,tps,kvs,rfl,hl,hp,hn,q⟩:=h;obtain ⟨u,rfl,ru⟩:=Zci r;cases ru;obtain ⟨hz,a7,n,rv,hg⟩:=(show Yy X.prog X.w H s.heap l (.lst (tps.map V.ref)) from I.hok l _ hl)
 rw [Zoh rv] at hg;have key:∀{tps:List Addr} {kvs:List (Key×V)},Paired (fun t (q:Key×V)=>H t=some (.tup [kV q.1,q.2])) tps kvs->∃prs:List (Key×Value),KV kvs prs/\Zo6 (Z5 X.prog X.w) s.heap tps prs:=by
  intro tps kvs hp
  induction hp with
  | nil=>exact ⟨[],.nil,.nil⟩
  | cons r t ih =>
   rename_i p q _ _;obtain ⟨prs,h1,h2⟩:=ih;obtain ⟨_,a7,rv,o,ho,v6,m,hd⟩:=(show Yy X.prog X.w H s.heap p (.tup [kV q.1,q.2]) from I.hok p _ r)
   obtain ⟨k,v,rfl,rk,rv2⟩:=Zql rv;exact ⟨(q.1,v) ::prs,.cons ⟨rfl,rv2⟩ h1,.cons ⟨k,o,m,Zi4 rk,ho,v6,hd⟩ h2⟩
 obtain ⟨prs,C2,hpi⟩:=key hp;have w4:kvs.length<=sizeLine:=by
  have:=Paired.length hp;rw [List.length_map] at hz;lia
 have R1:(prs.map Prod.fst).Nodup:=by
  have:∀{kvs:List (Key×V)} {prs:List (Key×Value)},KV kvs prs->prs.map Prod.fst=kvs.map Prod.fst:=by
   intro kvs prs z
   induction z with
   | nil=>rfl
   | cons r t ih=>rw [List.map_cons,List.map_cons,ih,r.1]
  rw [this C2];exact hn
 refine Zj0 (I.ok.hd hc) hg hpi (by rw [<-KV.length C2];exact w4) fun h' v7 dd hD hdd hn' k=>?_
 rw [merged_nil_of_nodup prs R1] at hD;have hsm:dd≠sysModules:=fun z=>by
  have hb:=I.big;rw [<-hdd,z] at hb;exact Nat.lt_irrefl _ hb
 obtain ⟨hH,J⟩:=I.laidAt (t':=v7) (o:=.dK kvs) k hn' (Zrw w4 (beq_eq_false_iff_ne.mpr hsm) C2 hD);exact ⟨.ref dd,_,J,rfl,q.at dd hH⟩
end L2
namespace L2
open PySem PySem.Spec PyProof.Rows
theorem Zsr{d:Addr}{o:Obj}{kvs:List (Key×V)}{fr:St->St}{g:TG}{tf:TT}{te:TE}{Q:VK}{σ:St}{H1:Hp}{D:Addr}(Pv:Nat->List V->Hp->Prop)(h0:Pv 0 [] (upd H1 D (.lst [])))(hl:∀i ys H,i<=kvs.length->Pv i ys H->H d=some (.frz o (.dK kvs)))
  (hs:∀i kv ys H,kvs[i]? =some kv->Pv i ys H->∀p H2,Same H H2->H p=none->H2 p=some (.tup [kV kv.1,kv.2])->Zb2 fr g tf te σ D (.ref p) ys H2 (Pv (i+1))) (hd:∀ys H,Pv kvs.length ys H->Q (.ref D) H):Zet (Iti d o kvs) fr g tf te Q σ H1 D:=by
 refine ⟨fun i m ys H=>m=kvs.length-i/\i<=kvs.length/\Pv i ys H,⟨kvs.length,by simp,Nat.zero_le _,h0⟩,?_⟩;rintro i m ys H ⟨rfl,hi,p⟩;have q:=hl i ys H hi p
 by_cases c7:i<kvs.length
 ·refine .inr ⟨⟨q,c7⟩,Pv (i+1),fun ys' H' p'=>⟨kvs.length-(i+1),by lia,rfl,c7,p'⟩,fun x H' y=>?_⟩;obtain ⟨a,kv,e,hn,C2,e2⟩:=y;subst e e2;exact hs i kv ys H C2 p a _ (Same.new hn) hn Zf
 ·have e:i=kvs.length:=by lia
  subst e;exact .inl ⟨⟨q,Nat.le_refl _⟩,hd ys H p⟩
end L2
end
section
namespace L2
open PySem
end L2
end
section
namespace L2
open PySem PySem.Spec PyProof.Rows
section
variable {prog:Program} {w:World} {KT:Type} [DecidableEq KT] {knd:KeyKind prog w KT} {A:Around} {l d:Addr} {tps:List Addr} {prs D0:List (KT×Value)} {s:Shared} {Q:Value->Shared->Prop} {E:Value->Shared->Prop} {n:Nat}
end
section
variable {X:Cx} {o e:Expr} {i4 i8:Pos} {td ty:TE}
end
end L2
namespace L2
open PySem PySem.Spec PyProof.Rows
def Zhz(pos:Pos)(q:Str):Array Value:=#[rawInt pos.line,rawInt pos.col,.str q 0]
abbrev Fz(o:Obj):HO:=.frz o (.frz o (.own 0))
def Zd8(H:Hp)(c:Addr)(v:V):Prop:=∃o u,H c=some (Fz o)/\o.data=.cell (some u)/\Yl v u
theorem Zd8.mono{H H':Hp}{c:Addr}{v:V}(e:Same H H')(h:Zd8 H c v):Zd8 H' c v:=by
 obtain ⟨o,u,h1,h2⟩:=h;exact ⟨o,u,e _ _ h1,h2⟩
section
variable {X:Cx} {a6:List (Addr×Obj)} {σ:St} {H:Hp} {s:Shared} {Q:Value->Shared->Prop} {la:Arguments} {lb:Expr} {ls:Scope} {lp:Pos} {c Pt:Addr} {clos:List (Str×Addr)}
end
open Classical in
noncomputable def Zmp (cells:List (Str×Addr)) (H:Hp) (h:Heap):Hp:=fun b=>if ∃x,cells.lookup x=some b then (h.get? b).map Fz else H b
section
variable {X:Cx} {a6:List (Addr×Obj)} {σ:St} {H:Hp} {s:Shared} {Q:VK}
theorem Zbd(I:Inv X a6 σ H s){b:Addr}{o:HO}(e:H b=some o):Zmp X.env.cells H s.heap b=some o:=by
 unfold Zmp;rw [if_neg]
 ·exact e
 ·rintro ⟨x,z⟩;rw [I.freeC x b z] at e;cases e
theorem Zn9{b:Addr}(n:∀x,X.env.cells.lookup x≠some b):Zmp X.env.cells H s.heap b=H b:=by
 unfold Zmp;rw [if_neg];rintro ⟨x,z⟩;exact n x z
theorem Zn5(I:Inv X a6 σ H s){i:Nat}{x:Str}{v:V}{c:Addr}(hi:X.N[i]? =some x)(hs:σ[i]? =some (some v))(hk:X.env.scope.names.lookup x=some .cell)(hc:X.env.cells.lookup x=some c):H c=none/\Zd8 (Zmp X.env.cells H s.heap) c v:=by
 obtain ⟨m,hn,hl⟩:=I.loc;obtain ⟨u,r,l⟩:=hl i x v hi hs (.inr (.inl hk));refine ⟨I.freeC x c hc,?_⟩;rcases l with ⟨k,_⟩|⟨_,c',R7,o,ho,hd⟩
 ·have k:X.env.scope.names.lookup x=some .local:=k;rw [hk] at k;cases k
 ·rw [hc] at R7;cases R7;refine ⟨o,u,?_,hd,r⟩;unfold Zmp;rw [if_pos ⟨x,hc⟩,ho]
  rfl
theorem Inv.shut{v:V}{u:Value}(I:Inv X a6 σ H s)(R0:X.ex=[])(hfn:∀x,X.fn x=true)(rv:Yl v u)(q:Q v (Zmp X.env.cells H s.heap)):CE X.outer X.prog X.w X.H₀ X.s₀ Q u s:=by
 have J:=I.base;have nc:∀b o,X.s₀.heap.get? b=some o->∀x,X.env.cells.lookup x≠some b:=fun b o e x z=>absurd (Nat.lt_of_lt_of_le (Heap.lt_size e) (I.ok.cab x b (hfn x) z)) (Nat.lt_irrefl _)
 refine ⟨v,Zmp X.env.cells H s.heap,I.os,I.bare,⟨fun b o h1 h2 h3 _=>J.keep b o h1 h2 h3 (by rw [R0];simp),fun b o h1 h2 h3 _=>J.slot b o h1 h2 h3 (by rw [R0];simp),fun b o h1 h2 _=>?_,fun b o h1 _=>J.there b o h1 (by rw [R0];simp),fun b xs e=>Zbd I (J.tups b xs e),fun b o x e=>Zbd I (J.frzs b o x e),fun b ps e=>?_⟩,fun b o e=>?_,rv,q⟩
 ·rw [Zn9 (nc b o h1)];exact J.free b o h1 h2 (by rw [R0];simp)
 ·obtain ⟨m,z⟩:=J.tbls b ps e;exact ⟨m,Zbd I z⟩
 ·by_cases hb:∃x,X.env.cells.lookup x=some b
  ·obtain ⟨x,z⟩:=hb;obtain ⟨w,o',ho,hd⟩:=I.cell x b z;unfold Zmp at e;rw [if_pos ⟨x,z⟩,ho] at e;cases e;exact ⟨ho,ho,_,ho⟩
  ·have e':=e;rw [Zn9 fun x z=>hb ⟨x,z⟩] at e';exact (I.hok b o e').stay (fun _ _ _ q=>q) (fun c q=>Zbd I q) (fun c xs q=>Zbd I q) (fun c o q=>Zbd I q)
end
def Yb7(K:Frag)(fd:FuncData)(Pt:Addr):Prop:=∃c,fd.code=.ref c/\PySem.W.codeHdIn K c Pt=true
section
variable {P:Program} {w:World} {K:Frag} {mg:Str->Option Value} {base:Heap}
end
def Zsl(P:Program)(w:World)(K:Frag)(mg:Str->Option Value)(base:Heap)(k:Nat)(f:Addr)(H:Hp)(vs:List V)(Q:VK):Prop :=
 ∀(A:Around) (outer:List Env) (s:Shared) (us:List Value),Wq k A->Zq7 P w K mg base A outer s H->Yh vs us->codeAny (model P w) A (.call (.ref f) ⟨us,[]⟩) (CR CX0 outer P w H s Q E0) s
def FnO(H:Hp)(f:Addr):Prop:=∃oc od fd sl u,H f=some (.frz ⟨oc,od,.func fd,sl⟩ u)
theorem FnO.at{X:Cx}{a6:List (Addr×Obj)}{σ:St}{H:Hp}{s:Shared}{f:Addr}(I:Inv X a6 σ H s)(h:FnO H f):PySem.W.FnAt f s.heap:=by
 obtain ⟨oc,od,fd,sl,u,e⟩:=h;exact ⟨oc,od,fd,sl,(I.hok f _ e).1⟩
def Zvl(P:Program)(w:World)(K:Frag)(mg:Str->Option Value)(base:Heap)(N:List Str)(q:Str)(scope:Scope)(f:Addr)(cd:Value)(cells:List (Str×Addr))(A:Around)(outer:List Env)(s:Shared)(H:Hp):Cx where
 prog:=P
 w:=w
 K:=K
 mg:=mg
 base:=base
 A:=A.deeper (PySem.W.envX q scope s.heap.objs.size f cd cells)
 N:=N
 s₀:=s
 H₀:=H
 env:=PySem.W.envX q scope s.heap.objs.size f cd cells
 outer:=outer
 stack:=PySem.W.envX q scope s.heap.objs.size f cd cells ::outer
 ex:=[]
 calm:=true
 fn:=fun _=>false
 pn:=[]
 xe:=fun _ _=>False
def offL(H:Hp)(cells:List (Str×Addr)):Hp:=fun b=>if b∈cells.map Prod.snd then none else H b
theorem Zfy{H:Hp}{cells:List (Str×Addr)}{b:Addr}(h:b∉cells.map Prod.snd):offL H cells b=H b:=if_neg h
theorem Zj9{H:Hp}{cells:List (Str×Addr)}{b:Addr}(h:b∈cells.map Prod.snd):offL H cells b=none:=if_pos h
theorem Zn0:∀{l:List (Str×Addr)} {x y:Str} {a:Addr},(l.map Prod.snd).Nodup->(x,a)∈l->(y,a)∈l->x=y
 | [],_,_,_,_,h,_=>by cases h
 | p ::r,x,y,a,nd,h1,h2=>by
  have nd:(p.2 ::r.map Prod.snd).Nodup:=nd;obtain ⟨n1,n2⟩:=List.nodup_cons.mp nd;rcases List.mem_cons.mp h1 with e1|e1
  ·rcases List.mem_cons.mp h2 with e2|e2
   ·rw [<-e1] at e2;cases e2;rfl
   ·exact absurd (List.mem_map.mpr ⟨_,e2,by rw [<-e1]⟩) n1
  ·rcases List.mem_cons.mp h2 with e2|e2
   ·exact absurd (List.mem_map.mpr ⟨_,e1,by rw [<-e2]⟩) n1
   ·exact Zn0 n2 e1 e2
def Ycl:HO->Prop
 | .frz _ _=>False
 | _=>True
structure Lit(H:Hp)(ls:Scope)(clos:List (Str×Addr))(fs:List Str)(Q4:List V):Prop where
 cells:Paired (fun x v=>ls.names.lookup x=some .free/\∃c,clos.lookup x=some c/\Zd8 H c v) fs Q4
 all:∀p∈clos,p.1∈fs
 one:(clos.map Prod.fst).Nodup
 apart:(clos.map Prod.snd).Nodup
theorem Zdf{β:Type}:∀{l:List (Str×β)} {p:Str×β},(l.map Prod.fst).Nodup->p∈l->l.lookup p.1=some p.2
 | [],_,_,h=>by cases h
 | q ::r,p,nd,h=>by
  have nd:(q.1 ::r.map Prod.fst).Nodup:=nd;obtain ⟨n1,n2⟩:=List.nodup_cons.mp nd;rw [List.lookup_cons];rcases List.mem_cons.mp h with e|e
  ·rw [e,beq_self_eq_true]
  ·have:(p.1 ==q.1)=false:=by rw [beq_eq_false_iff_ne];exact fun z=>n1 (List.mem_map.mpr ⟨p,e,z⟩)
   rw [this];exact Zdf n2 e
theorem Lit.cell{H:Hp}{ls:Scope}{clos:List (Str×Addr)}{fs:List Str}{Q4:List V}(L:Lit H ls clos fs Q4){p:Str×Addr}(hp:p∈clos):∃v,Zd8 H p.2 v:=by
 obtain ⟨i,hi,e⟩:=List.getElem_of_mem (L.all p hp);obtain ⟨v,_,_,c,h1,h2⟩:=Paired.get L.cells (i:=i) (a:=p.1) (by rw [List.getElem?_eq_getElem hi,e]);rw [Zdf L.one hp] at h1;cases h1;exact ⟨v,h2⟩
theorem Lit.soft{H:Hp}{ls:Scope}{clos:List (Str×Addr)}{fs:List Str}{Q4:List V}(L:Lit H ls clos fs Q4){b:Addr}{o:HO}(h:H b=some o)(n:Ycl o):offL H clos b=some o:=by
 rw [Zfy]
 ·exact h
 ·intro z;obtain ⟨p,hp,e⟩:=List.mem_map.mp z;obtain ⟨v,ob,u,h1,_⟩:=L.cell hp;rw [e,h] at h1;cases h1;exact n
theorem Zuw{H:Hp}{cells:List (Str×Addr)}:Same (offL H cells) H:=fun b o e=>by
 by_cases z:b∈cells.map Prod.snd
 ·rw [Zj9 z] at e;cases e
 ·rw [Zfy z] at e;exact e
open Classical in
noncomputable def Zja (H H':Hp) (cells:List (Str×Addr)):Hp:=fun b=>if b∈cells.map Prod.snd then H b else H' b
section
variable {P:Program} {w:World} {K:Frag} {mg:Str->Option Value} {base:Heap}
end
end L2
namespace L2
open PySem PySem.Spec PyProof.Rows
structure Zk7(K:Frag)(h:Heap)(tabs:List (Addr×Array Value)):Prop where
 cod:∀p∈tabs,∃c,PySem.W.codeHdIn K c p.1=true
 emp:∀p∈tabs,h.get? p.1=some (PySem.W.tabObj #[])
 shape:∀p∈tabs,∃pos q,p.2=Zhz pos q
 nd:(tabs.map Prod.fst).Nodup
 nt:PySem.W.noTabs K=true
def Zk3(K:Frag)(tabs:List (Addr×Array Value)):Sp:=fun vs H Q _=>∃(a:Addr) (ns:List Int),vs=[.ref a]/\SqL K H a (ns.map V.int)/\ns.length<=63/\(∀p∈tabs,H p.1=some (.tbl p.2))/\∀H',Q (.bl true) H'
theorem Zfl{β:Type}:∀{l:List (Addr×β)} {p:Addr×β},(l.map Prod.fst).Nodup->p∈l->l.lookup p.1=some p.2
 | [],_,_,h=>by cases h
 | q ::r,p,nd,h=>by
  have nd:(q.1 ::r.map Prod.fst).Nodup:=nd;obtain ⟨n1,n2⟩:=List.nodup_cons.mp nd;rw [List.lookup_cons];rcases List.mem_cons.mp h with e|e
  ·rw [e,beq_self_eq_true]
  ·have:(p.1 ==q.1)=false:=by rw [beq_eq_false_iff_ne];exact fun z=>n1 (List.mem_map.mpr ⟨p,e,z⟩)
   rw [this];exact Zfl n2 e
theorem Zcq{β:Type}:∀{l:List (Addr×β)} {a:Addr} {v:β},l.lookup a=some v->(a,v)∈l
 | [],_,_,e=>by cases e
 | (b,x) ::r,a,v,e=>by
  rw [List.lookup_cons] at e;cases hb:a ==b with
  | true=>rw [hb] at e;cases e;rw [eq_of_beq hb];exact .head _
  | false=>rw [hb] at e;exact .tail _ (Zcq e)
theorem Zuf{P:Program}{w:World}{K:Frag}{mg mb:Str->Option Value}{k:Nat}{fa a:Addr}{fd:FuncData}{x:Str}{s₁:Shared}{vs:List Value}{ns:List Int}{tabs:List (Addr×Array Value)}
  (KX:K.In s₁.heap) (S0:s₁.heap.Ns mainGlobals mg) (hb:s₁.heap.Ns builtinsNs mb) (hbb:∀x:Str,x ≠ "__name__" ->mb x=bootBuiltins x) (hlim:s₁.heap.NoLimit) (hbm:Zyr mg s₁.heap) (hg:s₁.gens=#[])
  (ha:s₁.heap.get? a=some { cls:=.type "list",data:=.seq vs.toArray }) (hi:IntsAre vs ns) (hl:ns.length<=63) (hr:Wq k callerA) (TO:Zk7 K s₁.heap tabs)
  (F:∀base:Heap,K.In base->base.Ns mainGlobals mg->Zu P w K mg base CX0 k fa fd [x] (Zk3 K tabs)) (hbind:∀(s:Shared) (u:Value),BindsTo s fd ⟨[u],[]⟩ [(x,u)]) :
  codeAny (model P w) callerA (.call (.ref fa) ⟨[.ref a],[]⟩) (fun r s'=>r=.ok (.ret (.bool true))/\OldK s₁.heap s'.heap/\s'.os=s₁.os/\AllBare s'.gens) s₁:=by
 have rv:=Znq hi;have lenV:=hi.length;have C5:ns.length<=sizeLine:=Nat.le_trans hl (by decide);have S8:∀{b:Addr} {ps:Array Value},tabs.lookup b=some ps->s₁.heap.get? b=some (PySem.W.tabObj #[]):=fun e=>TO.emp _ (Zcq e)
 have core:∀H:Hp,SqL K H a (ns.map V.int)->HOk P w H s₁.heap->(∀b u,H b=some u->(b=a/\K.lookup a=none/\∃o xs,u=.frz o (.lst xs))\/∃ps,tabs.lookup b=some ps/\u=.tbl ps)->(∀p∈tabs,H p.1=some (.tbl p.2)) ->
   codeAny (model P w) callerA (.call (.ref fa) ⟨[.ref a],[]⟩) (fun r s'=>r=.ok (.ret (.bool true))/\OldK s₁.heap s'.heap/\s'.os=s₁.os/\AllBare s'.gens) s₁:=by
  intro H hS hok hA hT;have C6:∀{b:Addr} {o:Obj},s₁.heap.get? b=some o->H b=none->(Zow s₁.heap H).get? b=some o:=fun e n=>Zw6 e n
  have noB:∀{b:Addr} {o:Obj},s₁.heap.get? b=some o->(∀vs n,o.data ≠ .seq vs n)->(∀vs,o.data ≠ .fields vs)->H b=none:=fun {b o} e d1 d2=>by
   cases q:H b with
   | none=>rfl
   | some u =>
    rcases hA b u q with ⟨e',_⟩|⟨ps,e',_⟩
    ·subst e';rw [ha] at e;cases e;exact absurd rfl (d1 _ _)
    ·rw [S8 e'] at e;cases e;exact absurd rfl (d2 _)
  have nsK:∀{b:Addr} {m:Str->Option Value},s₁.heap.Ns b m->(Zow s₁.heap H).Ns b m:=fun {b m} ⟨o,es,ep,e,d,r⟩=>⟨o,es,ep,C6 e (noB e (fun _ _ z=>by rw [d] at z;cases z) (fun _ z=>by rw [d] at z;cases z)),d,r⟩
  have hKb:K.In (Zow s₁.heap H):=fun b o e=>C6 (KX b o e) (by
   cases q:H b with
   | none=>rfl
   | some u =>
    rcases hA b u q with ⟨e',hK,_⟩|⟨ps,e',_⟩
    ·subst e';rw [hK] at e;cases e
    ·have h1:=KX b o e;rw [S8 e'] at h1;cases h1;have h2:=List.all_eq_true.mp TO.nt _ (PySem.W.mem_of_lookupK e);exact absurd (show false=true from h2) Bool.false_ne_true)
  have hM:Mod K mg (Zow s₁.heap H):=⟨hKb,nsK S0,⟨mb,nsK hb,hbb⟩,let ⟨mc,h1,h2⟩:=hlim;⟨mc,nsK h1,h2⟩,by
   obtain ⟨bm,ob,b1,b2,b3,b4,b5,b6⟩:=hbm;exact ⟨bm,ob,b1,b2,C6 b3 (noB b3 (fun _ _ z=>by rw [b6] at z;cases z) (fun _ z=>by rw [b6] at z;cases z)),b4,b5,b6⟩⟩
  have e0:Zq7 P w K mg (Zow s₁.heap H) callerA [] s₁ H:=⟨rfl,hM,fun b o e=>Zya e,Nat.le_of_eq (Ztx _ _),trivial,fun b hb=>absurd (show b∈([]:List Addr) from hb) (by simp),hok,.of_eq hg⟩
  refine codeAny_mono ((F _ hKb (nsK S0)).run callerA [] s₁ H ⟨[.ref a],[]⟩ [.ref a] [.ref a] (fun v _=>v=.bl true) E0 hr e0 (hbind s₁ (.ref a)) (.cons rfl .nil) ⟨a,ns,rfl,hS,hl,hT,fun _=>rfl⟩) fun r s' h=>?_
  cases r with
  | error e=>exact False.elim h
  | ok fl =>
   cases fl with
   | next=>exact False.elim h
   | brk=>exact False.elim h
   | cont=>exact False.elim h
   | ret u =>
    obtain ⟨v,H',os,bare,un,D7,r',q⟩:=h;have q':v=.bl true:=q;subst q';obtain rfl:u=Value.bool true:=r';refine ⟨rfl,⟨fun b o e=>?_,fun b o e=>un.there b o e (by simp)⟩,os,bare⟩;cases q:H b with
    | none=>exact .inl (un.keep b o e q (by intro z;exact absurd (show b∈([]:List Addr) from z) (by simp)) (by simp))
    | some u =>
     rcases hA b u q with ⟨_,_,ob,xs,z⟩|⟨ps,z,z2⟩
     ·subst z;have z2:=un.frzs b ob _ q;obtain ⟨e1,_⟩:=hok b _ q;obtain ⟨e2,_⟩:=D7 b _ z2;rw [e] at e1;cases e1;exact .inl e2
     ·subst z2;obtain ⟨more,y⟩:=un.tbls b ps q;have e':=S8 z;rw [e] at e';cases e';obtain ⟨c,hc⟩:=TO.cod _ (Zcq z);obtain ⟨_,_,_,_,_,_,_,y1 | ⟨c',_,_,_,_,_,_,y1⟩⟩:=D7 b _ y
      ·exact .inl y1
      ·exact .inr (.inl ⟨((PySem.W.codeHd_of_K KX hc).tab e).isCodeTable,rfl,#[],_,rfl,by rw [y1];simp;rfl⟩)
 have tabH:∀p∈tabs,p.1≠a:=fun p hp z=>by
  have:=TO.emp p hp;rw [z,ha] at this;cases this
 have tabO:∀{H:Hp} {b:Addr} {ps:Array Value},tabs.lookup b=some ps->Yy P w H s₁.heap b (.tbl ps):=fun {H b ps} e=>by
  obtain ⟨pos,q,hq⟩:=TO.shape _ (Zcq e);have hq:ps=Zhz pos q:=hq;subst hq;exact ⟨_,_,_,_,rfl,rfl,rfl,.inl (S8 e)⟩
 cases hk:K.lookup a with
 | some o =>
  have e:=KX a o hk;rw [ha] at e;cases e;refine core (fun b=>(tabs.lookup b).map HO.tbl) (.inr ⟨_,vs.toArray,_,hk,rfl,rfl,rfl,by rw [List.size_toArray,lenV];exact C5,by simpa using rv⟩) (fun b u z=>?_) (fun b u z=>?_) fun p hp=>?_
  ·obtain ⟨ps,h1,rfl⟩:=Option.map_eq_some_iff.mp z;exact tabO h1
  ·obtain ⟨ps,h1,rfl⟩:=Option.map_eq_some_iff.mp z;exact .inr ⟨ps,h1,rfl⟩
  ·show (tabs.lookup p.1).map HO.tbl=_;rw [Zfl TO.nd hp];rfl
 | none =>
  refine core (fun b=>if b=a then some (.frz { cls:=.type "list",data:=.seq vs.toArray } (.lst (ns.map V.int))) else (tabs.lookup b).map HO.tbl) (.inl (.inr ⟨{ cls:=.type "list",data:=.seq vs.toArray },if_pos rfl⟩)) (fun b u z=>?_) (fun b u z=>?_) fun p hp=>?_
  ·by_cases hb:b=a
   ·have z':=(if_pos hb).symm.trans z;cases z';subst hb;exact ⟨ha,by rw [List.length_map];exact C5,vs,_,rv,ha⟩
   ·have z':=(if_neg hb).symm.trans z;obtain ⟨ps,h1,rfl⟩:=Option.map_eq_some_iff.mp z';exact tabO h1
  ·by_cases hb:b=a
   ·have z':=(if_pos hb).symm.trans z;cases z';exact .inl ⟨hb,hk,_,_,rfl⟩
   ·have z':=(if_neg hb).symm.trans z;obtain ⟨ps,h1,rfl⟩:=Option.map_eq_some_iff.mp z';exact .inr ⟨ps,h1,rfl⟩
  ·show (if p.1=a then _ else _)=_;rw [if_neg (tabH p hp),Zfl TO.nd hp];rfl
theorem walk_ofT{l:PySem.W.OpenLaw}{k:Nat}{q:Program}{C1:List Str}{XP:(Str->Option Value)->Heap->Prop}{YP:World->Heap->Prop}{d:DefRec}{K:Params->Frag}{x:Str}
  (hn:l.most=some 63) (hdf:d.params.defaults=[]) (hr:Wq k callerA) (hY:∀(w:World) (h:Heap),YP w h->(K w.params).In h)
  (F:∀(w:World) (mg:Str->Option Value) (fa:Addr) (h:Heap),YP w h->(K w.params).In h->h.Ns mainGlobals mg->mg d.name=some (.ref fa) ->
   ∃(fd:FuncData) (tabs:List (Addr×Array Value)),Zk7 (K w.params) h tabs/\(∀(s:Shared) (u:Value),BindsTo s fd ⟨[u],[]⟩ [(x,u)]) /\
    ∀base:Heap,(K w.params).In base->base.Ns mainGlobals mg->Zu l.prog w (K w.params) mg base CX0 k fa fd [x] (Zk3 (K w.params) tabs)) :
  PySem.W.WalkO q C1 XP YP l.row.toRowW d [] (fun f vs=>PySem.call f vs):=by
 refine Att.attach_call hn hdf fun w s₀ s₁ mg mb fa o pm cd i5 a vs ns G Y ho hd E9 hmg hobj O0 d5 hg=>?_
 have KX:=hY w _ Y;obtain ⟨fd,tabs,TO,hb,hF⟩:=F w mg fa _ Y KX G.T.g hmg;exact Zuf KX G.T.g G.T.b G.T.builtins G.T.nolimit G.T.bmain hg hobj O0 d5 hr TO hF hb
end L2
end
section
namespace L2
open PySem PySem.Spec PyProof.Rows
section
variable {X:Cx} {a6:List (Addr×Obj)} {σ:St} {H:Hp} {s:Shared}
end
end L2
end
section
namespace L2
open PySem PySem.Spec PyProof.Rows
end L2
end
section
namespace L2
open PySem PySem.Spec PyProof.Rows
section
variable {X:Cx} {σ:St} {H:Hp}
end
theorem Zl5{X:Cx}{x v:Str}{pos:Pos}(hg:Gl X x)(h:∃tk,X.mg x=some (.str v tk)) (hd:(x ==("__debug__" :Str))=false:=by decide):PE X (.Name x pos) (tC (.str v)):=by
 obtain ⟨tk,h⟩:=h;exact Wb hg h ⟨tk,rfl⟩ hd
theorem Zhs:∀{p:Str} {l:List Str},risingS p l=true->(p ::l).Pairwise (fun a b=>ltCps b.cps.toList a.cps.toList=false)
 | p,[],_=>by simp
 | p,x ::r,h=>by
  rw [show risingS p (x ::r)=(!ltCps x.cps.toList p.cps.toList && risingS x r) from rfl,Bool.and_eq_true,Bool.not_eq_true'] at h;have ih:=Zhs h.2;refine List.pairwise_cons.mpr ⟨fun b hb=>?_,ih⟩;rcases List.mem_cons.mp hb with z|z
  ·rw [z];exact h.1
  ·have h2:=List.rel_of_pairwise_cons ih z;have h1:=h.1;rw [ltCps_eq,decide_eq_false_iff_not] at h1 h2 ⊢;exact List.not_lt.mpr (List.le_trans (List.not_lt.mp h1) (List.not_lt.mp h2))
theorem Zr3{l l':List Str}(h:sortedS l=true)(h':sortedS l'=true)(p:l.Perm l'):l=l':=by
 have pw:∀{l:List Str},sortedS l=true->l.Pairwise (fun a b=>ltCps b.cps.toList a.cps.toList=false):=fun {l} h=>by
  cases l with
  | nil=>exact .nil
  | cons x r=>exact Zhs h
 refine p.eq_of_pairwise (fun a b _ _ h1 h2=>?_) (pw h) (pw h');rw [ltCps_eq,decide_eq_false_iff_not] at h1 h2;have e:=List.le_antisymm (List.not_lt.mp h1) (List.not_lt.mp h2);cases a;cases b;simpa using Array.toList_inj.mp e
end L2
end
section
namespace L2
open PySem PyProof.Rows
theorem Zn7{P:Program}{w:World}{A:Around}{E:Value->Shared->Prop}{it l:Addr}{a7:Array Value}(hh:A.handled=none)(u7:l≠it):∀(n i:Nat) (s:Shared) (Q:List Value->Shared->Prop),(s.heap.IsListIter it l i/\s.heap.IsList l a7)->i+n<=a7.size ->
  (∀h' tk,(h'.IsListIter it l (i+n)/\h'.IsList l a7)->(∀b o,b∉[it]->s.heap.get? b=some o->h'.get? b=some o)->Q ((a7.toList.drop i).take n) { s with heap:=h',toks:=tk })->wpAny (model P w) A (draw (.ref it) n) Q E s
 | 0,i,s,Q,y7,_,hQ=>by
  show wpAny _ _ (pure []) Q E s;exact wpAny_pure (by simpa using hQ s.heap s.toks y7 fun _ _ _ e=>e)
 | n+1,i,s,Q,y7,w4,hQ=>by
  have c7:i<a7.size:=by lia
  show wpAny _ _ (pyNext (.ref it) >>=_) Q E s;refine wpAny_bind ((Walks.list (prog:=P) (w:=w) hh it l u7 a7).item i s _ _ c7 y7 fun v h1 tk1 hv R9 hk1=>?_);refine wpAny_bind (wpAny_holding (Zn7 hh u7 n (i+1) _ _ R9 (by lia) fun h2 tk2 hst2 E2=>wpAny_pure ?_));have hd:a7.toList.drop i=a7[i] ::a7.toList.drop (i+1):=by simp [List.drop_eq_getElem_cons,c7]
  have ev:v=a7[i]:=by rw [Array.getElem?_eq_getElem c7] at hv;exact (Option.some.inj hv).symm
  have:=hQ h2 tk2 (by rw [show i+(n+1)=i+1+n by lia];exact hst2) fun b o hb e=>E2 b o hb (hk1 b o hb e)
  rw [hd,List.take_succ_cons,<-ev] at this;exact this
theorem Zqp{P:Program}{w:World}{A:Around}{E:Value->Shared->Prop}{s:Shared}{l:Addr}{a7:Array Value}{A1:List (Bool×(Value->Sem Unit))}{Q:Unit->Shared->Prop}(hh:A.handled=none)(hl:s.heap.IsList l a7)
  (hn:A1.length=a7.size) (hstar:A1.findIdx? (·.1)=none)
  (h:∀h' tk,(∀b o,s.heap.get? b=some o->h'.get? b=some o)->wpAny (model P w) A (assignInOrder (A1.map (·.2)) a7.toList) Q E { s with heap:=h',toks:=tk }) :
  wpAny (model P w) A (unpack (.ref l) A1) Q E s:=by
 have c7:l<s.heap.objs.size:=by obtain ⟨o,ho,_⟩:=hl;exact Heap.lt_size ho
 have ty:s.TypeIs (.ref l) "list" :=by obtain ⟨o,ho,hc,_⟩:=hl;exact ⟨o,ho,hc⟩
 unfold unpack;rw [hn,hstar];refine wpAny_bind (wpAny_holding ?_);unfold unpackItems;refine wpAny_bind ?_;unfold notIterableAtAll;refine wpAny_bind (wpAny_specialOf ty F.slot_list_iter.lookup ?_);refine wpAny_pure ?_;simp only [Bool.false_eq_true,if_false];refine wpAny_bind (wpAny_holding (wpAny_pyIter_list hl ?_));have u7:l≠s.heap.objs.size:=Nat.ne_of_lt c7;refine wpAny_bind (wpAny_holding (Zn7 hh u7 a7.size 0 _ _ ⟨⟨_,Heap.get?_push_size _ rfl,rfl,rfl⟩,hl.push _⟩ (by lia) fun h1 tk1 R9 hk1=>?_));have m8:List.take a7.size (List.drop 0 a7.toList)=a7.toList:=by
  rw [List.drop_zero];exact List.take_of_length_le (by simp)
 rw [m8];rw [if_neg (by simp)];rw [Nat.zero_add] at R9;refine wpAny_bind (wpAny_holding ((Walks.list (prog:=P) (w:=w) hh s.heap.objs.size l u7 a7).done _ _ _ R9 fun h2 tk2 E2=>?_));simp only [Option.isSome_none,Bool.false_eq_true,if_false];refine wpAny_pure (h h2 tk2 fun b o e=>?_);have hb:b∉[s.heap.objs.size]:=fun z=>by
  have z':b=s.heap.objs.size:=by simpa using z
  rw [z'] at e;exact Nat.lt_irrefl _ (Heap.lt_size e)
 exact E2 b o hb (hk1 b o hb (Heap.get?_push_of_some _ e))
def Ych(K:Frag)(n:Nat)(t:TGs):TG:=fun v σ H Q=>∃a xs,v=.ref a/\SqL K H a xs/\xs.length=n/\t xs σ H Q
theorem Zz2{X:Cx}{pos:Pos}{es:List Expr}{k:Nat}{t:TGs}{n:Nat}(hc:X.calm=true)(h:PGs X es t)
  (hn:(assignEach es X.env).length=n:=by rfl) (y7:(assignEach es X.env).findIdx? (·.1)=none:=by rfl):PG X (.Tuple es k pos) (Ych X.K n t):=by
 intro a6 s σ H v u Q I r hw;obtain ⟨a,xs,e1,hq,hl,hw⟩:=hw;subst e1;cases r;obtain ⟨a7,rv,ht,hz⟩:=I.list hq;rw [assign_Tuple];refine wpAny_bind (wpAny_standAt (Zqp (I.ok.hd hc) ht.isList (by simp [hn,<-hl,rv.length]) y7 fun h' tk hx=>?_));have I1:Inv X a6 σ H { s with heap:=h',toks:=tk }:=I.kept (t':=tk) fun b o e=>hx b o e
 exact h a6 _ σ H xs _ Q I1 (by simpa using rv) hw
def Zv6(ns:List Int):Int:=ns.foldl (· + ·) 0
theorem Zjc(ns:List Int):∀j,preSum (fun i=>ns.getD i 0) j=Zv6 (ns.take j)\/ns.length<j
 | 0=>.inl rfl
 | j+1=>by
  by_cases h:ns.length<j+1
  ·exact .inr h
  ·refine .inl ?_;rcases Zjc ns j with e|e
   ·have hj:j<ns.length:=by lia
    rw [preSum,e,List.take_add_one,List.getElem?_eq_getElem hj];unfold Zv6;rw [List.foldl_append,List.getD_eq_getElem?_getD,List.getElem?_eq_getElem hj]
    rfl
   ·lia
theorem Zvb{X:Cx}(hc:X.calm=true):X0 X (.builtin "sum") (fun xs H Q=>∃(p:Addr) (ns:List Int),xs=[.ref p]/\SqL X.K H p (ns.map V.int)/\Q (.int (Zv6 ns)) H):=by
 intro a6 s σ H xs us Q I r h;obtain ⟨p,ns,rfl,hq,q⟩:=h;obtain ⟨u,rfl,ru⟩:=Zci r;cases ru;obtain ⟨a7,rv,pl,hz⟩:=I.list hq;have c7:p<s.heap.objs.size:=by obtain ⟨_,_,e,_⟩:=pl;exact Heap.lt_size e
 refine call_sum_walkG (wpAny_pyIter_list pl.isList ?_);refine ⟨s.heap.objs.size,_,_,a7.toArray.size,_,_,fun i=>ns.getD i 0,rfl,Walks.list (A:=X.A.in1) (show X.A.in1.handled=none from I.ok.hd hc) s.heap.objs.size p (Nat.ne_of_lt c7) a7.toArray,⟨⟨_,Heap.get?_push_size _ rfl,rfl,rfl⟩,pl.isList.push _⟩,?_,?_,fun h' tk t' k=>?_⟩
 ·intro b hb;have:=Heap.size_push s.heap { cls:=.type "list_iterator",data:=.fields #[.ref p,.int 0 0] };have S7:b=s.heap.objs.size\/b=p:=by simpa using hb
  show b<(s.heap.push _).objs.size;rw [this];rcases S7 with rfl|rfl
  ·exact Nat.lt_succ_self _
  ·exact Nat.lt_succ_of_lt c7
 ·intro i v hv;obtain ⟨x,hx,rx⟩:=Paired.get' rv (i:=i) (b:=v) (by simpa using hv);rw [List.getElem?_map] at hx;obtain ⟨n,hn,rfl⟩:=Option.map_eq_some_iff.mp hx;obtain ⟨t,rfl⟩:=rx;exact ⟨t,by show Value.int n t=Value.int (ns.getD i 0) t;rw [List.getD_eq_getElem?_getD,hn];rfl⟩
 ·have hl:=rv.length;rw [List.length_map] at hl;refine ⟨.int (Zv6 ns),H,?_,?_,q⟩
  ·refine I.kept (t':=tk) fun b o e=>k b o ?_ (Heap.get?_push_of_some _ e)
   have:=Heap.lt_size e;intro z;have z':b=s.heap.objs.size:=by simpa using z
   rw [z'] at this;exact Nat.lt_irrefl _ this
  ·refine ⟨t',?_⟩;rw [List.size_toArray,<-hl];rcases Zjc ns ns.length with e|e
   ·rw [e,List.take_length]
   ·lia
def Zim(x:Str)(n:Nat):Str:=⟨(List.replicate n x.cps).foldl (· ++ ·) #[]⟩
def Ybx:R2:=fun x y H Q=>∃(z:Str) (n:Nat),x=.str z/\y=.int n/\z.length * n<=1000/\n<=1000/\Q (.str (Zim z n)) H
theorem Zw8{X:Cx}:OpR X (binaryOp .Mult) Ybx:=by
 intro a6 s σ H x y v u Q I rx ry h;obtain ⟨z,n,rfl,rfl,hz,hn,q⟩:=h;obtain ⟨t,rfl⟩:=rx;obtain ⟨t',rfl⟩:=ry;refine PySem.P.mul_str ?_ ?_ ?_ ?_
 ·rw [decide_eq_false (by lia),decide_eq_false (by lia)];rfl
 ·intro h1 h2 h3;have:((2:Int) ^ 63-1) / (n:Int) ≥ 1000:=by
   rw [ge_iff_le,Int.le_ediv_iff_mul_le (by lia)];lia
  have hz1:z.length<=z.length * n:=Nat.le_mul_of_pos_right _ (by lia);lia
 ·intro h1 h2;show decide (z.length * (n:Int).toNat >sizeLine)=false;rw [decide_eq_false];have:=sz (n:=z.length * n) hz;rw [Int.toNat_natCast];lia
 ·by_cases h0:n=0
  ·subst h0;rw [if_pos (by decide)];exact ⟨by decide,.str (Zim z 0),H,I.kept fun b o e=>e,⟨_,rfl⟩,q⟩
  ·rw [if_neg (by lia)]
   by_cases h1:((n:Int) ==1 || z.length ==0)=true
   ·rw [if_pos h1];refine ⟨.str (Zim z n),H,I,⟨t,?_⟩,q⟩;have:Zim z n=z:=by
     rw [Bool.or_eq_true,beq_iff_eq,beq_iff_eq] at h1;rcases h1 with e|e
     ·have e:n=1:=by lia
      subst e;unfold Zim;simp
     ·have e:z.cps=#[]:=Array.eq_empty_of_size_eq_zero e;have:∀m,(List.replicate m (#[]:Array Nat)).foldl (· ++ ·) #[]=#[]:=fun m=>by
       induction m with
       | zero=>rfl
       | succ m ih=>rw [List.replicate_succ,List.foldl_cons];simpa using ih
      unfold Zim;rw [e,this n];cases z;simp at e;rw [e]
    rw [this]
   ·rw [if_neg h1,Int.toNat_natCast];refine ⟨?_,.str (Zim z n),H,I.kept fun b o e=>e,⟨_,rfl⟩,q⟩;exact fits_reps (by show decide (_ >sizeLine)=false;rw [decide_eq_false];have:=sz (n:=z.length * n) hz;lia)
def Yc2(K:Frag)(te:TE)(ts:TO):TE:=fun σ H Q=>te σ H fun x H1=>ts σ H1 fun k H2=>∃a xs,k=some (-1)/\x=.ref a/\SqL K H2 a xs/\New H2 (.lst xs.reverse) Q
theorem Yh.rev{xs:List V}{us:List Value}(h:Yh xs us):Yh xs.reverse us.reverse:=by
 induction h with
 | nil=>exact .nil
 | cons r _ ih=>rw [List.reverse_cons,List.reverse_cons];exact Paired.append ih (.cons r .nil)
theorem Zzk{X:Cx}{e st:Expr}{te:TE}{ts:TO}{p2 pos:Pos}{ops:Value->Value->List Value}(he:PE X e te)(y7:PO X (some st) ts)(hs:∀l r,subscripted (.Slice none none (some st) p2) false l r=operate (ops l r) (getItem l r)):PE X (.Subscript e (.Slice none none (some st) p2) pos) (Yc2 X.K te ts):=by
 intro a6 s σ H Q I h;refine Subscript_ (thn (he a6 s σ H _ I h) fun v s1 ⟨x,H1,I1,r1,q1⟩=>?_);refine wpAny_Slice ?_;rw [evalPart_none];refine wpAny_pure ?_;refine wpAny_pure ?_;refine thn (y7 a6 s1 σ H1 _ I1 q1) fun vk s3 ⟨k,H3,I3,pk,a,xs,hk,hx,hq,q⟩=>?_
 subst hk hx;cases r1;have I4:Inv X a6 σ H3 { s3 with heap:=s3.heap.push { cls:=.type "slice",data:=.fields #[.none,.none,vk] } }:=I3.kept (t':=s3.toks) fun b ob q=>Heap.get?_push_of_some _ q
 obtain ⟨a7,r,ht,hz⟩:=I4.list hq;show wpAny (model X.prog X.w) X.A (subscriptTail e (.Slice none none (some st) p2) (.ref a) (.ref s3.heap.objs.size)) (EP X a6 σ Q) X.xe { s3 with heap:=s3.heap.push { cls:=.type "slice",data:=.fields #[.none,.none,vk] } };refine tail_any (ops:=ops (.ref a) (.ref s3.heap.objs.size)) ht.isList.typeIs slot_list_getitem.lookup ?_ (hs _ _);refine wpAny_getItem_list_slice ht.isList (Heap.IsSliceOf.new ..) .none .none pk (by simp) ?_ (by rw [List.size_toArray,<-r.length];exact hz);rw [PySem.W.krv_pick];refine ⟨.ref _,_,I4.laid (t':=s3.toks) (o:=.lst xs.reverse) (fun b ob q=>Heap.get?_push_of_some _ q) (Nat.le_refl _) ?_,rfl,q.at _ (I4.hok.fresh (Nat.le_refl _))⟩;exact ⟨by rw [List.length_reverse];exact hz,_,0,Yh.rev r,Heap.get?_push_size _ rfl⟩
end L2
end
section
namespace L2
open PySem PySem.Spec PyProof.Rows
structure DnD(K:Frag)(x a9:Str)(st:Stmt)(ps:List Str)(v:V) where
 f:Addr
 fd:FuncData
 dV:Value
 F:Zrv K x a9 st dV f fd
 b:Zbu K fd ps []
 u:Value
 r:Yl v u
 b1:Zbu K fd ps [u]
theorem Zrv.okW{P:Program}{w:World}{K:Frag}{mg:Str->Option Value}{base:Heap}{x a9:Str}{st:Stmt}{dV:Value}{f:Addr}{fd:FuncData}{N ps:List Str}{k:Nat}{sp:Sp}(F:Zrv K x a9 st dV f fd)(S:Zn N ps (Zh st))
  (u5:∀(a8:Value) (A:Around) (outer:List Env) (s:Shared) (H:Hp) (vs:List V) (Q:VK) (E:XK),Wq k (A.deeper (envOfC a9 (Zh st) s.heap.objs.size f a8))->sp vs H Q E ->
   let X:=(Zg9 CX0 P w K mg base N a9 (Zh st) f a8 A outer s H E).nox;WSs X (Y2 st) { nx:=fun _ H'=>Q .non H',rt:=Q } (start N vs) H) (len:∀vs H Q E,sp vs H Q E->vs.length=ps.length:=by rintro _ _ _ _ h;repeat (first|(obtain ⟨e,_⟩:=h;subst e;rfl)|obtain ⟨_,h⟩:=h)):Zu P w K mg base CX0 (k+1) f fd ps sp:=Zrv.ok F S len u5
theorem Zfr{X:Cx}{x:Str}{v:Int}{pos:Pos}(hg:Gl X x)(h:∃tk,X.mg x=some (.int v tk)) (hd:(x ==("__debug__" :Str))=false:=by decide):PE X (.Name x pos) (tC (.int v)):=by
 obtain ⟨tk,h⟩:=h;exact Wb hg h ⟨tk,rfl⟩ hd
theorem Zfu{α:Type}{l:List α}{i:Nat}{a:α}(nd:l.Nodup)(h:l[i]? =some a):a∉l.take i:=fun m=>by
 have e:l=l.take i++(a ::l.drop (i+1)):=by rw [<-Zkl h,List.take_append_drop]
 rw [e,List.nodup_append] at nd;exact nd.2.2 a m a List.mem_cons_self rfl
section
variable {prog:Program} {w:World} {KT:Type} [DecidableEq KT] {knd:HeapKind prog w KT} {A:Around} {E:Value->Shared->Prop} {s:Shared}
theorem Zrx(c:Addr)(hc:(c ==sysModules)=false):MeetsIn prog w (Builtin.«dict.__len__» ⟨[.ref c],[]⟩) (fun _ R s=>∃ys,s.heap.DictOfH knd c ys/\R (.ok (.ret (.int ys.length s.toks))) { s with toks:=s.toks+1 }) :=
 .of_wp fun A R s ⟨ys,hm,h⟩=>by
  obtain ⟨ob,es,ep,C9,_,hda,hen,_,_⟩:=hm;show wpAny _ _ (dictSize c >>=_) _ _ s;unfold dictSize;refine wpAny_bind (wpAny_bind (wpAny_dictEntries C9 hda (wpAny_pure ?_)));show wpAny _ _ (Builtin.Dict.pendingCount c >>=_) _ _ s;refine wpAny_bind (wpAny_pendingCount_other hc (wpAny_ret_mkInt ?_));rw [Nat.add_zero,size_of_entries hen];exact h
theorem Zu0{c:Addr}{ys:List (KT×Addr×Value)}{Q:Value->Shared->Prop}(hc:(c ==sysModules)=false)(hm:s.heap.DictOfH knd c ys)(hf:(ys.length:Int)<2 ^ 63)
  (h:Q (.int ys.length (s.toks+1)) { s with toks:=s.toks+1+1 }):wpAny (model prog w) A (call (.builtin "len") [.ref c]) Q E s:=by
 refine Calls.call_function_entry kind_len plain_len entry_len (args_len1 _) ?_;unfold Builtin.«len»;refine wpAny_bind (m:=oneArg "len" _) (wpAny_pure (wpAny_bind (m:=callSpecial? (.ref c) (Str.ofString "__len__")) ?_));refine wpAny_callSpecial?_slot (name:=Str.ofString "__len__") hm.typeIs F.slot_dict_len (call_meetsIn F.slot_dict_len hm.typeIs F.entry_dict_len (F.args_dict_len_1 _) (Zrx (knd:=knd) c hc) ⟨ys,hm,?_⟩);show wpAny _ _ _ _ _ { s with toks:=s.toks+1 };refine wpAny_bind (wpAny_holding (wpAny_pure (wpAny_bind (wpAny_letGo ?_))));show wpAny _ _ (if ((ys.length:Nat):Int)<0 then _ else _) _ _ _;rw [if_neg (by lia)];show wpAny _ _ (if ((ys.length:Nat):Int) ≥ 2 ^ 63 then _ else _) _ _ _;rw [if_neg (by lia)];exact wpAny_bind (wpAny_mkInt (wpAny_pure ⟨_,rfl,h⟩))
end
def Zw4:List V->Hp->VK->Prop:=fun xs H Q=>∃a kvs,xs=[V.ref a]/\H a=some (.dT kvs)/\Q (.int kvs.length) H
theorem Zn2{X:Cx}:X0 X (.builtin "len") Zw4:=by
 intro a6 s σ H xs us Q I r h;obtain ⟨a,kvs,rfl,ha,q⟩:=h;obtain ⟨u,rfl,ru⟩:=Zci r;cases ru;obtain ⟨z,hd,ys,u9,dd⟩:=Zyo I.hok ha;have hl:kvs.length=ys.length:=Paired.length u9;refine Zu0 hd dd (by rw [<-hl];rw [sizeLine_eq] at z;lia) ?_;rw [<-hl];exact ⟨.int _,H,I.tok _,⟨_,rfl⟩,q⟩
section
variable {prog:Program} {w:World} {KT:Type} [DecidableEq KT] {knd:HeapKind prog w KT} {A:Around} {R:Result->Shared->Prop} {l d it:Addr} {tps:List Addr} {qs:List (KT×Addr×Value)} {h₀:Heap}
def Zdm(knd:HeapKind prog w KT)(h:Heap)(tps:List Addr)(qs:List (KT×Addr×Value)):Prop :=
 Paired (fun p (q:KT×Addr×Value)=>(∃o n,h.get? p=some o/\o.cls=.type "tuple" /\o.data=.seq #[.ref q.2.1,q.2.2] n)/\∃ok,h.get? q.2.1=some ok/\∀h':Heap,h'.get? q.2.1=some ok->knd.is h' q.1 q.2.1) tps qs
theorem Zdm.key{h:Heap}(hp:Zdm knd h tps qs):∀q∈qs,∃ok,h.get? q.2.1=some ok/\∀h':Heap,h'.get? q.2.1=some ok->knd.is h' q.1 q.2.1:=by
 unfold Zdm at hp
 induction hp with
 | nil=>intro q z;cases z
 | cons r _ ih =>
  intro q z;rcases List.mem_cons.mp z with rfl|z
  ·exact r.2
  ·exact ih q z
theorem Zkm{h h':Heap}{ys:List (KT×Addr×Value)}(hD:h.DictOfH knd d ys)(hd:∀o,h.get? d=some o->h'.get? d=some o)(hk:∀y∈ys,knd.is h' y.1 y.2.1):h'.DictOfH knd d ys:=by
 obtain ⟨o,es,ep,ho,r1,r2,r3,_,r5⟩:=hD;exact ⟨o,es,ep,hd o ho,r1,r2,r3,hk,r5⟩
theorem Zp4(hh:A.handled=none)(hu:knd.room A.in1)(hdi:d≠it)(hl:h₀.IsList l (tps.map Value.ref).toArray)(hld:l≠d)(Q2:l≠it)(hp:Zdm knd h₀ tps qs)(R1:(qs.map (·.1)).Nodup)(hsz:qs.length<=sizeLine)
  (hpd:∀p∈tps,p≠d/\p≠it) (hqd:∀q∈qs,q.2.1≠d/\q.2.1≠it) :
  ∀(n i:Nat) (s:Shared) (j:Int) (tk:Tok),i+n=qs.length->s.heap.IsListIter it l i->s.heap.DictOfH knd d (qs.take i)->(∀b o,b≠d->b≠it->h₀.get? b=some o->s.heap.get? b=some o) ->
   (∀h' v7,h'.DictOfH knd d qs->(∀b o,b≠d->b≠it->h₀.get? b=some o->h'.get? b=some o)->R (.ok (.ret .none)) { s with heap:=h',toks:=v7 }) ->
   codeAny (model prog w) A (.builtin "dict.update.loop" ⟨[.ref d,.ref it,.int j tk,.none],[]⟩) R s:=by
 have d5:tps.length=qs.length:=Paired.length hp;have E8:=hp.key;have hu':∀args:Args,knd.room (A.under (.builtin "dict.update.loop" args)):=fun args=>by rw [Around.under_plainId (by trivial)];exact hu
 have is_:∀h':Heap,(∀b o,b≠d->b≠it->h₀.get? b=some o->h'.get? b=some o)->∀q∈qs,knd.is h' q.1 q.2.1:=fun h' kp q hq=>by
  obtain ⟨ok,h1,h2⟩:=E8 q hq;exact h2 h' (kp _ _ (hqd q hq).1 (hqd q hq).2 h1)
 intro n
 induction n with
 | zero =>
  intro i s j tk hi hit hD keep hq;have C5:s.heap.IsList l (tps.map Value.ref).toArray:=by
   obtain ⟨o,ho,r⟩:=hl;exact ⟨o,keep _ _ hld Q2 ho,r⟩
  refine codeAny_builtin Zft ?_;unfold Builtin.«dict.update.loop»;dsimp only;refine wpAny_bind (wpAny_pyNext_list_end hh hit C5 (by rw [List.getElem?_toArray,List.getElem?_map,List.getElem?_eq_none (by lia)];rfl) fun h' eb=>?_);dsimp only;refine wpAny_bind (wpAny_pure (wpAny_pure ?_));have kp:∀b o,b≠d->b≠it->h₀.get? b=some o->h'.get? b=some o:=fun b o h1 h2 h3=>eb b o h2 (keep b o h1 h2 h3)
  refine hq h' s.toks ?_ kp;rw [show qs.take i=qs from List.take_of_length_le (by lia)] at hD;exact Zkm hD (fun o ho=>eb d o hdi ho) (is_ h' kp)
 | succ n ih =>
  intro i s j tk hi hit hD keep hq;have C5:s.heap.IsList l (tps.map Value.ref).toArray:=by
   obtain ⟨o,ho,r⟩:=hl;exact ⟨o,keep _ _ hld Q2 ho,r⟩
  have F8:i<tps.length:=by lia
  obtain ⟨q,hqi,⟨ot,nt,A7,hct,hdt⟩,_⟩:=Paired.get hp (i:=i) (a:=tps[i]) (List.getElem?_eq_getElem F8);obtain ⟨nd,ni⟩:=hpd tps[i] (List.getElem_mem F8);have hqm:q∈qs:=List.mem_of_getElem? hqi;refine codeAny_builtin Zft ?_;unfold Builtin.«dict.update.loop»;dsimp only;refine wpAny_bind (wpAny_pyNext_list_item hit C5 (x:=.ref tps[i]) (by rw [List.getElem?_toArray,List.getElem?_map,List.getElem?_eq_getElem F8];rfl) fun h1 it1 sb1=>?_);have O5:h1.get? tps[i]=some ot:=by rw [sb1.2 _ ni];exact keep _ _ nd ni A7
  have hT:({ s with heap:=h1 }:Shared).TypeIs (.ref tps[i]) "tuple" :=⟨_,O5,hct⟩
  have kp1:∀b o,b≠d->b≠it->h₀.get? b=some o->h1.get? b=some o:=fun b o z1 z2 z3=>by rw [sb1.2 _ z2];exact keep b o z1 z2 z3
  have K9:h1.DictOfH knd d (qs.take i):=Zkm hD (fun o ho=>by rw [sb1.2 _ hdi];exact ho) fun y hy=>is_ h1 kp1 y (List.mem_of_mem_take hy)
  refine wpAny_bind (wpAny_holding (wpAny_bind (wpAny_tryCatch ?_)));unfold Builtin.Dict.pairItems;refine wpAny_bind (wpAny_typeOf hT ?_);rw [if_pos (by decide)];refine wpAny_bind (wpAny_seqItems (s:={ s with heap:=h1 }) O5 hdt (wpAny_pure ?_));refine wpAny_holding (wpAny_dictSet_heap (s:={ s with heap:=h1 }) (hu' _) (is_ h1 kp1 q hqm) K9 (fun h2 v5 sb2=>?_) ?_)
  ·refine wpAny_pure ⟨Code.quiet_builtin _ (by trivial),?_⟩;have F5:atKey (qs.take i) q.1=none:=by
    cases e:atKey (qs.take i) q.1 with
    | none=>rfl
    | some z =>
     unfold atKey at e;obtain ⟨y,hy,_⟩:=Option.map_eq_some_iff.mp e;have y0:=List.find?_some hy;have y1:y.1=q.1:=of_decide_eq_true y0;have m1:y.1∈(qs.map (·.1)).take i:=by rw [<-List.map_take];exact List.mem_map.mpr ⟨y,List.mem_of_find?_eq_some hy,rfl⟩
     rw [y1] at m1;exact absurd m1 (Zfu R1 (by rw [List.getElem?_map,hqi];rfl))
   have y7:storedH (qs.take i) q.1 q.2.1 q.2.2=qs.take (i+1):=by rw [storedH_new F5,List.take_add_one,hqi];rfl
   rw [y7] at v5;refine ih (i+1) { s with heap:=h2,toks:=_ } (j+1) _ (by lia) ?_ v5 (fun b o n1 n2 z=>?_) fun h' v7=>hq h' v7
   ·exact it1.at fun o z=>by rw [sb2.2 _ hdi.symm];exact z
   ·rw [sb2.2 _ n1];exact kp1 b o n1 n2 z
  ·rw [List.length_take];lia
theorem Zic{n:Nat}{s:Shared}{Q:Value->Shared->Prop}{E:Value->Shared->Prop}(hh:A.handled=none)(hu:knd.room A.in1.in1) (hx:s.heap.get? l=some { cls:=.type "list",data:=.seq (tps.map Value.ref).toArray n }) (hp:Zdm knd s.heap tps qs) (R1:(qs.map (·.1)).Nodup) (hsz:qs.length<=sizeLine)
  (h:∀h' v7 dd,h'.DictOfH knd dd qs->dd=s.heap.objs.size->s.heap.get? dd=none->(∀b o,s.heap.get? b=some o->h'.get? b=some o)->Q (.ref dd) { s with heap:=h',toks:=v7 }) :
  wpAny (model prog w) A (call (.type "dict") [.ref l]) Q E s:=by
 refine callType_codes (Q₁:=fun obj s₁=>obj=.ref s.heap.objs.size/\s₁={ s with heap:=s.heap.push { cls:=.type "dict",data:=.dict #[] } }) F.kt_called_dict (F.kt_typeCall_dict_1 _) F.entry_dict_init (kt_code_dict_new _ ⟨rfl,rfl⟩) ?_;rintro obj s₁ ⟨rfl,rfl⟩;have i7:(s.heap.push { cls:=.type "dict",data:=.dict #[] }).DictOfH knd s.heap.objs.size []:=Heap.DictOfH.new s.heap;have hx1:(s.heap.push { cls:=.type "dict",data:=.dict #[] }).get? l=some { cls:=.type "list",data:=.seq (tps.map Value.ref).toArray n }:=Heap.get?_push_of_some _ hx;refine ⟨i7.typeIs,F.args_dict_init_2 _ _,?_⟩;unfold Builtin.«dict.__init__»;refine wpAny_bind ?_;unfold Builtin.Dict.selfAndRest;refine wpAny_bind (wpAny_notOrdered_dict i7.typeIs ?_);show wpAny _ _ (pure (s.heap.objs.size,[Value.ref l])) _ _ _;refine wpAny_pure ?_;show wpAny _ _ (Builtin.Dict.updateFrom "dict.__init__" s.heap.objs.size (.ref l) [] .none) _ _ _;unfold Builtin.Dict.updateFrom;refine wpAny_bind (wpAny_typeOf (T := "list") ⟨_,hx1,rfl⟩ ?_);rw [if_pos (by decide)];obtain ⟨h0,g0,d0,t0,os0⟩:=s;dsimp only at *;refine wpAny_bind (Znp hh hx1 fun h1 tk1 k1=>?_);simp only [Option.isNone_none,if_true];have hx2:=k1 _ _ hx1;have D4:h1.IsList l (tps.map Value.ref).toArray:=⟨_,hx2,rfl,n,rfl⟩
 refine wpAny_bind (wpAny_rule (wpAny_bind (wpAny_pyIter_list (s:=⟨h1,g0,d0,tk1,os0⟩) D4 (wpAny_pure ⟨Code.quiet_builtin _ (by trivial),?_⟩))));have k2:∀b o,h0.get? b=some o->(h1.push { cls:=.type "list_iterator",data:=.fields #[.ref l,.int 0 0] }).get? b=some o:=fun b o z=>Heap.get?_push_of_some _ (k1 _ _ (Heap.get?_push_of_some _ z))
 have hd1:h1.get? h0.objs.size=some { cls:=.type "dict",data:=.dict #[] }:=k1 _ _ (Heap.get?_push_size h0 rfl);have lt1:h0.objs.size<h1.objs.size:=Heap.lt_size hd1;have L8:l<h0.objs.size:=Heap.lt_size hx;have S9:∀c o,h0.get? c=some o->c≠h0.objs.size/\c≠h1.objs.size:=fun c o z=>by
  have:=Heap.lt_size z;exact ⟨Nat.ne_of_lt this,Nat.ne_of_lt (Nat.lt_trans this lt1)⟩
 refine Zp4 (A:=A.in1) (knd:=knd) (h₀:=h1.push { cls:=.type "list_iterator",data:=.fields #[.ref l,.int 0 0] }) (l:=l) (tps:=tps) (qs:=qs) hh hu (Nat.ne_of_lt lt1) ?_ (Nat.ne_of_lt L8) (Nat.ne_of_lt (Nat.lt_trans L8 lt1)) ?_ R1 hsz (fun p z=>?_) (fun q z=>?_) qs.length 0 ⟨h1.push { cls:=.type "list_iterator",data:=.fields #[.ref l,.int 0 0] },g0,d0,tk1,os0⟩ 0 0 (by lia) ?_ ?_ (fun _ _ _ _ z=>z) fun h' v7 hD kp=>?_
 ·exact ⟨_,k2 _ _ hx,rfl,n,rfl⟩
 ·exact Paired.mapP hp fun p q ⟨⟨o,m,z2,z3⟩,ok,z4,z5⟩=>⟨⟨o,m,k2 _ _ z2,z3⟩,ok,k2 _ _ z4,z5⟩
 ·obtain ⟨i,hi,rfl⟩:=List.getElem_of_mem z;obtain ⟨q,_,⟨o,m,z2,_⟩,_⟩:=Paired.get hp (i:=i) (a:=tps[i]) (List.getElem?_eq_getElem hi);exact S9 _ _ z2
 ·obtain ⟨ok,z4,_⟩:=hp.key q z;exact S9 _ _ z4
 ·exact ⟨_,Heap.get?_push_size h1 rfl,rfl,rfl⟩
 ·exact Zkm i7 (fun o ho=>Heap.get?_push_of_some _ (k1 _ _ ho)) fun y hy=>by cases hy
 ·refine ⟨rfl,h h' v7 h0.objs.size hD rfl (Heap.get?_none_of_le (Nat.le_refl _)) fun b o z=>kp b o ?_ ?_ (k2 b o z)⟩
  ·exact (S9 _ _ z).1
  ·exact (S9 _ _ z).2
end
def Zvo:List V->Hp->VK->Prop:=fun xs H Q=>∃(l:Addr) (tps:List Addr) (kvs:List (List Key×V)),xs=[.ref l]/\H l=some (.lst (tps.map V.ref)) /\
 Paired (fun t (q:List Key×V)=>∃a,H t=some (.tup [.ref a,q.2])/\H a=some (.tup (q.1.map kV))) tps kvs/\(kvs.map Prod.fst).Nodup/\New H (.dT kvs) Q
theorem Zsf{X:Cx}(hc:X.calm=true)(hu:X.A.units+64<cLine):X0 X (.type "dict") Zvo:=by
 intro a6 s σ H xs us Q I r h;obtain ⟨l,tps,kvs,rfl,hl,hp,hn,q⟩:=h;obtain ⟨u,rfl,ru⟩:=Zci r;cases ru;obtain ⟨hz,a7,n,rv,hg⟩:=(show Yy X.prog X.w H s.heap l (.lst (tps.map V.ref)) from I.hok l _ hl)
 rw [Zoh rv] at hg;have key:∀{tps:List Addr} {kvs:List (List Key×V)},Paired (fun t (q:List Key×V)=>∃a,H t=some (.tup [.ref a,q.2])/\H a=some (.tup (q.1.map kV))) tps kvs->∃qs,KT H kvs qs/\Zdm (tupleKind (Z5 X.prog X.w)) s.heap tps qs:=by
  intro tps kvs hp
  induction hp with
  | nil=>exact ⟨[],.nil,.nil⟩
  | cons r t ih =>
   rename_i p q _ _;obtain ⟨qs,h1,h2⟩:=ih;obtain ⟨a,ra,rk⟩:=r;obtain ⟨_,a7,rv,o,ho,v6,m,hd⟩:=(show Yy X.prog X.w H s.heap p (.tup [.ref a,q.2]) from I.hok p _ ra)
   obtain ⟨k,v,rfl,rk1,rv2⟩:=Zql rv;cases (show k=Value.ref a from rk1);obtain ⟨_,D5,r2,o2,S6,hcl2,m2,hd2⟩:=(show Yy X.prog X.w H s.heap a (.tup (q.1.map kV)) from I.hok a _ rk)
   exact ⟨(q.1,a,v) ::qs,.cons ⟨rfl,rk,rv2⟩ h1,.cons ⟨⟨o,m,ho,v6,hd⟩,o2,S6,fun h' e=>⟨o2,_,m2,e,hcl2,hd2,by simpa using Ziq r2⟩⟩ h2⟩
 obtain ⟨qs,C2,hpi⟩:=key hp;have hql:kvs.length=qs.length:=Paired.length C2;have w4:kvs.length<=sizeLine:=by
  have:=Paired.length hp;rw [List.length_map] at hz;lia
 have R1:(qs.map (·.1)).Nodup:=by
  have:∀{kvs:List (List Key×V)} {qs:List (List Key×Addr×Value)},KT H kvs qs->qs.map (·.1)=kvs.map Prod.fst:=by
   intro kvs qs z
   induction z with
   | nil=>rfl
   | cons r t ih=>rw [List.map_cons,List.map_cons,ih,r.1]
  rw [this C2];exact hn
 refine Zic (knd:=tupleKind (Z5 X.prog X.w)) (I.ok.hd hc) (tupleKind_room_in1 (A:=X.A.in1) (by show X.A.units+1+1<cLine;lia)) hg hpi R1 (by rw [<-hql];exact w4) fun h' v7 dd hD hdd hn' k=>?_
 have hsm:dd≠sysModules:=fun z=>by
  have hb:=I.big;rw [<-hdd,z] at hb;exact Nat.lt_irrefl _ hb
 have hH0:H dd=none:=by
  cases e:H dd with
  | none=>rfl
  | some u =>
   obtain ⟨ob,z⟩:=(I.hok dd u e).there;rw [hn'] at z;cases z
 obtain ⟨o,es,ep,e1,e2,e3,e4,_,e5⟩:=hD;obtain ⟨hH,J⟩:=I.laidAt (t':=v7) (o:=.dT kvs) k hn' (show Yy X.prog X.w (upd H dd (.dT kvs)) h' dd (.dT kvs) from ⟨w4,beq_eq_false_iff_ne.mpr hsm,qs,C2.keeps fun b ys e=>by rw [Ze (Zi e hH0)];exact e,o,es,ep,e1,e2,e3,e4,e5⟩);exact ⟨.ref dd,_,J,rfl,q.at dd hH⟩
end L2
end
section
namespace L2
open PySem PySem.Spec PyProof.Rows
section
variable {prog:Program} {w:World} {A:Around} {E:Value->Shared->Prop} {s:Shared}
end
end L2
end
section
namespace L2
open PySem PySem.Spec PyProof.Rows
section
variable {prog:Program} {w:World} {A:Around} {E:Value->Shared->Prop} {s:Shared} {o:Array Keyed} {κ:KeyKind} {kd:SortKind}
def Lts(prog:Program)(w:World)(A:Around)(s:Shared)(κ:KeyKind)(kd:SortKind):Prop :=
 ∀(x y:Value) (a b:κ.α) (E':Value->Shared->Prop) (Q':Bool->Shared->Prop),κ.keyOf x=some a->κ.keyOf y=some b->a≠b->Q' (κ.blt a b) s->wpAny (model prog w) A (keyLt' kd x y) Q' E' s
def Ya6(κ:KeyKind)(o:Array Keyed):Prop:=(o.toList.map fun p=>κ.keyOf p.1).Nodup
variable (hL:Lts prog w A s κ kd) (k:KeysOf κ o) (d:Ya6 κ o)
include hL k d
end
end L2
namespace L2
open PySem PySem.Spec PyProof.Rows
section
variable {prog:Program} {w:World} {A:Around} {E:Value->Shared->Prop} {s:Shared}
theorem Yat:∀{vs:List Value},vs.length<2->(vs.toArray.zip vs.toArray).map (·.2)=vs.toArray
 | [],_=>by simp
 | [_],_=>by simp
 | _ ::_ ::_,h=>absurd h (by simp)
theorem Yaw{α β:Type}{f:α->β}{R:β->β->Prop}:∀{vs:List α},vs.length<2->(vs.map f).Pairwise R
 | [],_=>.nil
 | [_],_=>List.pairwise_singleton _ _
 | _ ::_ ::_,h=>absurd h (by simp)
theorem Yc9{α:Type}:∀{vs:List α},2<=vs.length->∃a b r,vs=a ::b ::r
 | a ::b ::r,_=>⟨a,b,r,rfl⟩
end
end L2
namespace L2
open PySem PySem.Spec PyProof.Rows
end L2
end
section
namespace L2
open PySem PySem.Spec PyProof.Rows
def Itv(K:Frag)(l:Addr)(n:Nat):It :=
 ⟨fun i H=>i<n/\∃xs,SqL K H l xs/\xs.length=n,fun i H x H'=>H'=H/\∀xs,SqL K H l xs->xs.reverse[i]? =some x,fun i _=>i=n⟩
theorem Zvf{P:Program}{w:World}{K:Frag}{tg:Expr}(l it:Addr)(n:Nat):Zmq P w K tg (Itv K l n) [it] it (fun i h=>h.IsRevIter it l ((n:Int)-1-(i:Nat))) where
 mem:=by simp
 obj:=fun i h st b hb=>by
  have e:b=it:=by simpa using hb
  subst e;obtain ⟨o,e,c,d⟩:=st;exact ⟨o,e,fun v z=>by rw [d] at z;cases z⟩
 keep:=fun i h h' st k=>st.at fun o e=>k it (by simp) o e
 item:=by
  intro X hP hw hK hc i a6 s σ H E I hf st hg;subst hP hw hK;obtain ⟨hi,xs,hq,hn⟩:=hg;obtain ⟨a7,rv,p,hz⟩:=I.list hq;have c7:n-1-i<xs.length:=by lia
  have hx:xs[n-1-i]? =some xs[n-1-i]:=List.getElem?_eq_getElem c7;obtain ⟨u,hu,ru⟩:=rv.get hx;obtain ⟨f0,f1,f2,f3,f4,f5⟩:=hf it (by simp);rw [show (n:Int)-1-(i:Nat)=((n-1-i:Nat):Int) by lia] at st;refine wpAny_pyNext_rev_item st p.isList (x:=u) (by simpa using hu) fun h' i9 sb=>?_
  rw [show ((n-1-i:Nat):Int)-1=(n:Int)-1-((i+1:Nat):Nat) by lia] at i9;have I1:Inv X a6 σ H { s with heap:=h' }:=I.turned (t':=s.toks) (fun b o hb e=>(sb.2 b hb).trans e) f0 f1 f3 f4 f5;obtain ⟨o,e,c,d⟩:=id i9;refine ⟨u,rfl,Zls (s:={ s with heap:=h' }) e c d (by decide) ⟨_,H,I1,ru,⟨rfl,fun ys hy=>?_⟩,i9,fun b hb=>(hf b hb).1⟩⟩;rw [I.list_inj hy hq,List.getElem?_reverse (by lia),hn,hx]
 done:=by
  intro X hP hw hK hc i a6 s σ H E I hf st hg;subst hP hw hK;obtain ⟨f0,f1,f2,f3,f4,f5⟩:=hf it (by simp);have hg:i=n:=hg;rw [hg,show (n:Int)-1-(n:Nat)=-1 by lia] at st;exact wpAny_pyNext_rev_end (I.ok.hd hc) st fun h' eb=>⟨rfl,I.turned (t':=s.toks) (fun b o hb e=>eb b o hb e) f0 f1 f3 f4 f5⟩
 self:=fun _ _ _ _ _ st h=>wpAny_pyIter_revIter st h
def Yci(K:Frag)(ta:TA):TI:=fun σ H R=>ta σ H fun vs H1=>∃l xs,vs=[.ref l]/\SqL K H1 l xs/\R (Itv K l xs.length) H1
theorem Yal{X:Cx}{tg a:Expr}{ta:TA}{p pos:Pos} (hg:Gl X "reversed") (hm:X.mg "reversed" =none) (ha:PA X [a] ta) (hs:starEach [a] X.env=[(false,eval a X.env)]:=by rfl) :
  PI X tg (.Call (.Name "reversed" p) [a] [] pos) (Yci X.K ta):=by
 intro a6 s σ H R I h;refine Call_ (Zfj I hg hm boot_reversed (PyProof.Rows.callWith_type1 (thn (ha pos a6 s σ H _ I h) fun us s1 ⟨vs,H1,I1,r1,q1⟩=>?_) hs rfl));obtain ⟨l,xs,e,hq,q⟩:=q1;subst e;obtain ⟨u,rfl,ru⟩:=Zci r1;cases ru;obtain ⟨a7,rv,pl,hz⟩:=I1.list hq;have d5:=rv.length;refine call_reversed_list pl.isList (wpAny_pyIter_revIter ⟨_,Heap.get?_push_size _ rfl,rfl,rfl⟩ ?_);refine ⟨s1.heap.objs.size,[s1.heap.objs.size],_,_,H1,rfl,I1.kept (t':=s1.toks) fun b o e=>Heap.get?_push_of_some _ e,Zvf l _ xs.length,⟨_,Heap.get?_push_size _ rfl,rfl,?_⟩,fun b hb=>?_,q⟩
 ·show Data.fields #[.ref l,rawInt ((a7.toArray.size:Int)-1)]=Data.fields #[.ref l,rawInt ((xs.length:Int)-1-((0:Nat):Int))];rw [show (a7.toArray.size:Int)-1=(xs.length:Int)-1-((0:Nat):Int) by rw [List.size_toArray,<-d5];lia]
 ·have e:b=s1.heap.objs.size:=by simpa using hb
  subst e;exact I1.fpOk (Nat.le_refl _) (I1.hok.fresh (Nat.le_refl _))
theorem Zw0{K:Frag}{l:Addr}{xs:List V}{fr:St->St}{g:TG}{tf:TT}{te:TE}{Q:VK}{σ:St}{H1:Hp}{D:Addr}(Pv:Nat->List V->Hp->Prop)(h0:Pv 0 [] (upd H1 D (.lst [])))(hl:∀i ys H,i<=xs.length->Pv i ys H->SqL K H l xs)
  (hs:∀i x ys H,xs.reverse[i]? =some x->Pv i ys H->Zb2 fr g tf te σ D x ys H (Pv (i+1))) (hd:∀ys H,Pv xs.length ys H->Q (.ref D) H):Zet (Itv K l xs.length) fr g tf te Q σ H1 D:=by
 refine ⟨fun i m ys H=>m=xs.length-i/\i<=xs.length/\Pv i ys H,⟨xs.length,by simp,Nat.zero_le _,h0⟩,?_⟩;rintro i m ys H ⟨rfl,hi,p⟩;have q:=hl i ys H hi p
 by_cases c7:i<xs.length
 ·refine .inr ⟨⟨c7,xs,q,rfl⟩,Pv (i+1),fun ys' H' p'=>⟨xs.length-(i+1),by lia,rfl,c7,p'⟩,fun x H' y=>?_⟩;obtain ⟨e,y⟩:=y;subst e;exact hs i x ys _ (y xs q) p
 ·have e:i=xs.length:=by lia
  subst e;exact .inl ⟨rfl,hd ys H p⟩
end L2
end
section
namespace L2
open PySem PyProof.Rows
section
variable {prog:Program} {w:World} {A:Around} {E:Value->Shared->Prop} {s:Shared} {o:Array Keyed} {kd:SortKind} {p:Array (Nat×Nat×Nat)} {st:SortSt}
def Yb5(prog:Program)(w:World)(A:Around)(s:Shared)(kd:SortKind)(o:Array Keyed):Prop :=
 ∀x∈o,∀y∈o,∀(E':Value->Shared->Prop) (Q':Bool->Shared->Prop),(∀b,Q' b s)->wpAny (model prog w) A (keyLt' kd x.1 y.1) Q' E' s
variable (L:Yb5 prog w A s kd o)
include L
omit L
variable {a b out:Array Keyed} {x y z:List Keyed} {v:Keyed}
omit L in
omit L in
section
variable {C D F:Type} {pd:Array Keyed->Nat->Nat->Prop} {fd:Array Keyed->Nat->Nat->D->C} {ls:List Keyed} {fu:Array Keyed->F->C} {G G1 G2:C->SortSt->Prop}
end
include L
omit L
include L
omit L in
end
end L2
end
section
namespace L2
open PySem PySem.Spec PyProof.Rows
section
variable {prog:Program} {w:World} {A:Around} {E:Value->Shared->Prop} {s:Shared} {d it:Addr} {i ep:Nat} {es:Array DictEntry}
end
end L2
end
section
namespace L2
open PySem PySem.Spec PyProof.Rows
section
variable {prog:Program} {w:World} {A:Around} {E:Value->Shared->Prop} {s:Shared}
end
end L2
end
section
namespace L2
open PySem PySem.Spec PyProof.Rows
end L2
end
section
namespace L2
open PySem PySem.Spec PyProof.Rows
def Itw(d:Addr)(o:Obj)(kvs:List (Key×V)):It :=
 ⟨fun i H=>H d=some (.frz o (.dK kvs))/\i<kvs.length,fun i H x H'=>H'=H/\∃kv,kvs[i]? =some kv/\x=kv.2,fun i H=>H d=some (.frz o (.dK kvs))/\kvs.length<=i⟩
theorem Zur{P:Program}{w:World}{K:Frag}{tg:Expr}{d:Addr}{o:Obj}{kvs:List (Key×V)}{vs:List (Key×Value)}{ep:Nat}(it:Addr)(hk:KV kvs vs)
  (hD:∀h:Heap,h.get? d=some o->h.DictAt (Z5 P w) d vs ep):Zmq P w K tg (Itw d o kvs) [it] it (fun i h=>h.IsValIter it d i vs.length ep) where
 mem:=by simp
 obj:=fun i h st b hb=>by
  have e:b=it:=by simpa using hb
  subst e;obtain ⟨ob,e,c,dd⟩:=st;exact ⟨ob,e,fun v z=>by rw [dd] at z;cases z⟩
 keep:=fun i h h' st k=>st.at fun o e=>k it (by simp) o e
 item:=by
  intro X hP hw hK hc i a6 s σ H E I hf st hg;subst hP hw hK;obtain ⟨hq,c7⟩:=hg;obtain ⟨f0,f1,f2,f3,f4,f5⟩:=hf it (by simp);have O3:s.heap.get? d=some o:=(I.hok d _ hq).1;obtain ⟨u,hu,ru⟩:=hk.get (i:=i) (kv:=kvs[i]) (by simp [c7]);refine wpAny_pyNext_values_item (knd:=Z5 X.prog X.w) st (hD _ O3) hu fun h' i9 sb=>?_
  have I1:Inv X a6 σ H { s with heap:=h' }:=I.turned (t':=s.toks) (fun b o hb e=>(sb.2 b hb).trans e) f0 f1 f3 f4 f5;obtain ⟨ob,e,c,dd⟩:=id i9;exact ⟨u,rfl,Zls (s:={ s with heap:=h' }) e c dd (by decide) ⟨kvs[i].2,H,I1,ru,⟨rfl,kvs[i],by simp [c7],rfl⟩,i9,fun b hb=>(hf b hb).1⟩⟩
 done:=by
  intro X hP hw hK hc i a6 s σ H E I hf st hg;subst hP hw hK;obtain ⟨hq,w4⟩:=hg;obtain ⟨f0,f1,f2,f3,f4,f5⟩:=hf it (by simp);have O3:s.heap.get? d=some o:=(I.hok d _ hq).1;have hl:=KV.length hk;exact wpAny_pyNext_values_end (knd:=Z5 X.prog X.w) (I.ok.hd hc) st (hD _ O3) (List.getElem?_eq_none (by lia)) fun h' eb=>⟨rfl,I.turned (t':=s.toks) (fun b o hb e=>eb b o hb e) f0 f1 f3 f4 f5⟩
 self:=fun _ _ _ _ _ st h=>wpAny_pyIter_valiter st h
def Yav(X:Cx)(tl:TE):TI:=fun σ H R=>tl σ H fun x H1=>∃d kvs,x=.ref d/\H1 d=some (.dK kvs)/\∀o,NF X d (.dK kvs)->R (Itw d o kvs) (upd H1 d (.frz o (.dK kvs)))
theorem Zx5{X:Cx}{tg:Expr}{i4 i8:Pos}{o:Expr}{to:TE}(ho:PE X o to) (A9:attributeBase o "values" X.env (eval o X.env)=eval o X.env:=by rfl) (B0:(i4.endLine ==i8.line)=true:=by rfl) :
  PI X tg (.Call (.Attribute o "values" i4) [] [] i8) (Yav X to):=by
 intro a6 s σ H R I h;refine wpAny_Call_method0_late A9 B0 (thn (ho a6 s σ H _ I h) fun v s1 ⟨y,H1,I1,r1,q1⟩=>?_);obtain ⟨d,kvs,rfl,hd,q⟩:=q1;cases r1;obtain ⟨hz,hs,vs,kv,dd⟩:=Zpt I1.hok hd;obtain ⟨ob,_,_,C9,R0,_⟩:=id dd;obtain ⟨ep,hD⟩:=Zfz dd C9;refine ⟨"dict", "dict.values",PySem.F.plainAttrs_dict,PySem.F.slot_dict_values,PySem.F.type_dict_values,dd.typeIs,fun a e=>?_,Calls.callWith_builtin rfl (PySem.evalArgs_none ?_)⟩
 ·cases e;exact ⟨ob,C9,R0.2.1⟩
 refine call_meetsIn PySem.F.slot_dict_values dd.typeIs PySem.F.entry_dict_values (PySem.F.args_dict_values_1 _) (meets_dict_values (Z5 X.prog X.w) d hs) ⟨⟨vs,dd⟩,?_⟩;have I2:=I1.freeze hd rfl C9;have I3:Inv X a6 σ (upd H1 d (.frz ob (.dK kvs))) { s1 with heap:=s1.heap.push { cls:=.type "dict_values",data:=.fields #[.ref d] } }:=I2.kept (t':=s1.toks) fun b o e=>Heap.get?_push_of_some _ e
 refine wpAny_pyIter_values (knd:=Z5 X.prog X.w) (d:=d) ⟨_,Heap.get?_push_size _ rfl,rfl,rfl⟩ (hD _ (Heap.get?_push_of_some _ C9)) ?_;refine ⟨_,[_],_,_,_,rfl,I3.kept (t':=s1.toks) fun b o e=>Heap.get?_push_of_some _ e,Zur _ kv hD,⟨_,Heap.get?_push_size _ rfl,rfl,rfl⟩,fun b hb=>?_,q ob ⟨I1.notFrz hd (fun _ _ z=>nomatch z),fun _ z=>nomatch z⟩⟩;have e:=List.mem_singleton.mp hb;subst e;exact I3.fpOk (Nat.le_refl _) (I3.hok.fresh (Nat.le_refl _))
theorem Zvi{d:Addr}{o:Obj}{kvs:List (Key×V)}{g:TG}{tb:TS}{D:Zgg}{σ:St}{H:Hp}(Pv:Nat->St->Hp->Prop)(h0:Pv 0 σ H)(hl:∀i σ H,i<=kvs.length->Pv i σ H->H d=some (.frz o (.dK kvs)))
  (hs:∀i kv σ H,kvs[i]? =some kv->Pv i σ H->g kv.2 σ H fun σ2 H2=>tb { D with nx:=Pv (i+1),ct:=Pv (i+1),bk:=D.nx } σ2 H2) (hd:∀σ H,Pv kvs.length σ H->D.nx σ H) :
  ∃W:Nat->Nat->St->Hp->Prop,(∃m,W 0 m σ H)/\∀i m σ H,W i m σ H ->
   ((Itw d o kvs).stop i H/\D.nx σ H)\/((Itw d o kvs).go i H/\∃N:St->Hp->Prop,(∀σ' H',N σ' H'->∃m',m'<m/\W (i+1) m' σ' H')/\∀x H',(Itw d o kvs).yld i H x H'->g x σ H' fun σ2 H2=>tb { D with nx:=N,ct:=N,bk:=D.nx } σ2 H2):=by
 refine ⟨fun i m σ H=>m=kvs.length-i/\i<=kvs.length/\Pv i σ H,⟨kvs.length,by simp,Nat.zero_le _,h0⟩,?_⟩;rintro i m σ H ⟨rfl,hi,p⟩;have q:=hl i σ H hi p
 by_cases c7:i<kvs.length
 ·refine .inr ⟨⟨q,c7⟩,Pv (i+1),fun σ' H' p'=>⟨kvs.length-(i+1),by lia,rfl,c7,p'⟩,fun x H' y=>?_⟩;obtain ⟨e,kv,C2,e2⟩:=y;subst e e2;exact hs i kv σ _ C2 p
 ·have e:i=kvs.length:=by lia
  subst e;exact .inl ⟨⟨q,Nat.le_refl _⟩,hd σ H p⟩
end L2
end
section
namespace L2
open PySem PySem.Spec PyProof.Rows
def FnV(K:Frag)(H:Hp)(f:Addr):Prop:=FnO H f\/∃oc od fd sl,K.lookup f=some ⟨oc,od,.func fd,sl⟩
theorem FnV.mono{K:Frag}{H H':Hp}{f:Addr}(e:Same H H')(h:FnV K H f):FnV K H' f:=by
 rcases h with ⟨oc,od,fd,sl,u,h⟩|h
 ·exact .inl ⟨oc,od,fd,sl,u,e.at h⟩
 ·exact .inr h
theorem FnV.at{X:Cx}{a6:List (Addr×Obj)}{σ:St}{H:Hp}{s:Shared}{f:Addr}(I:Inv X a6 σ H s)(h:FnV X.K H f):PySem.W.FnAt f s.heap:=by
 rcases h with h|⟨oc,od,fd,sl,h⟩
 ·exact h.at I
 ·exact ⟨oc,od,fd,sl,I.kIn _ _ h⟩
def Yak(P:Program)(w:World)(K:Frag)(mg:Str->Option Value)(base:Heap)(k:Nat)(te:TE)(t:TA):TE:=fun σ H Q=>te σ H fun x H1=>∃f,x=.ref f/\FnV K H1 f/\t σ H1 fun vs H2=>FnV K H2 f/\Zsl P w K mg base k f H2 vs Q
theorem Zqr{X:Cx}{k:Nat}{x:Str}{p pos:Pos}{e:Expr}{es:List Expr}{te:TE}{t:TA}(hr:Wq k X.A)(hv:PE X (.Name x p) te)(ha:PA X (e ::es) t)
  (he:starEach (e ::es) X.env=(false,eval e X.env) ::starEach es X.env:=by rfl) (i6:(backTo pos (starEach es X.env)).any (·.1)=false:=by rfl):PE X (.Call (.Name x p) (e ::es) [] pos) (Yak X.prog X.w X.K X.mg X.base k te t):=by
 intro a6 s σ H Q I h;refine wpAny_Call_Name_kw (thn (hv a6 s σ H _ I h) fun u s1 ⟨y,H1,I1,ry,f,ey,hf,q1⟩=>?_);subst ey;obtain rfl:u=Value.ref f:=ry;refine PySem.W.callWith_F (hf.at I1) (thn (ha pos a6 s1 σ H1 _ I1 q1) fun us s2 ⟨vs,H2,I2,r,hf2,q2⟩=>⟨hf2.at I2,?_⟩) he i6;refine wpAny_call (codeAny_mono (q2 X.A X.stack s2 us hr I2.env0 r) fun r s' hq=>?_);cases r with
 | error e=>exact False.elim hq
 | ok fl =>
  cases fl with
  | ret u=>exact I2.after hq
  | next=>exact False.elim hq
  | brk=>exact False.elim hq
  | cont=>exact False.elim hq
end L2
end
section
namespace L2
open PySem PySem.Spec PyProof.Rows
def Zkh(s:Stmt):Stmt:=(Y2 s).getD 0 (.Pass ⟨0,0,0,0⟩)
def Zr5:Stmt->Pos
 | .FunctionDef _ _ _ _ _ _ _ _ _ p=>p
 | _=>⟨0,0,0,0⟩
end L2
end
section
namespace L2
open PySem PySem.Spec PyProof.Rows
def Zm7(H:Hp)(Pt fl:Addr)(n q:Str)(la:Arguments)(lb:List Stmt)(ls:Scope)(clos:List (Str×Addr)):Prop :=
 ∃(i5 pm F1:Value) (c:Addr) (oc:Obj) (vs:Array Value) (tt:Nat),H fl=some (Fz (PySem.W.fnMade n q la lb ls clos i5 pm c F1))/\H c=some (.frz oc (.own Pt))/\oc.data=.fields vs/\vs[1]? =some (.str q tt)
theorem Zm7.mono{H H':Hp}{Pt fl:Addr}{n q:Str}{la:Arguments}{lb:List Stmt}{ls:Scope}{clos:List (Str×Addr)}(e:Same H H')(h:Zm7 H Pt fl n q la lb ls clos):Zm7 H' Pt fl n q la lb ls clos:=by
 obtain ⟨i5,pm,F1,c,oc,vs,tt,h1,h2,h3⟩:=h;exact ⟨i5,pm,F1,c,oc,vs,tt,e _ _ h1,e _ _ h2,h3⟩
theorem Zm7.fn{H:Hp}{Pt fl:Addr}{n q:Str}{la:Arguments}{lb:List Stmt}{ls:Scope}{clos:List (Str×Addr)}(h:Zm7 H Pt fl n q la lb ls clos):FnO H fl:=by
 obtain ⟨i5,pm,F1,c,oc,vs,tt,h1,_⟩:=h;exact ⟨_,_,_,_,_,h1⟩
section
variable {X:Cx} {a6:List (Addr×Obj)} {σ:St} {H:Hp} {s:Shared} {Q:Value->Shared->Prop} {la:Arguments} {lb:List Stmt} {ls:Scope} {lp:Pos} {c Pt:Addr} {clos:List (Str×Addr)}
theorem Zvh{n q:Str}(I:Inv X a6 σ H s)(L5:X.env.code=.ref c)(C:PySem.W.CodeHd X.base c Pt)(hH:H Pt=some (.tbl (Zhz lp q)))(v6:closureFor ls X.env=pure clos)
  (h:∀fl H' s',Inv X a6 σ H' s'->Same H H'->H fl=none->Zm7 H' Pt fl n q la lb ls clos->Q (.ref fl) s'):wpAny (model X.prog X.w) X.A (makeFunction n q la (.stmts lb) ls X.env [] [] [] lp lp.line) Q X.xe s:=by
 obtain ⟨ln,cl,q2,t,e1,e2,e3,hT⟩:=(show Yy X.prog X.w H s.heap Pt (.tbl (Zhz lp q)) from I.hok Pt _ hH)
 have e1:rawInt lp.line=ln:=Option.some.inj e1;have e2:rawInt lp.col=cl:=Option.some.inj e2;have e3:Value.str q 0=Value.str q2 t:=Option.some.inj e3;cases e1;cases e2;cases e3;have hg:s.heap.Ns mainGlobals X.mg:=I.mod.glob.keeps I.bk;have CH:PySem.W.CodeHd s.heap c Pt:=C.keeps I.bk;have nP:∀b,H b=none->b≠Pt:=fun b n z=>by rw [z,hH] at n;cases n
 have hB:s.heap.BuiltinsAt X.mg Pt:=by
  obtain ⟨bm,ob,b1,b2,b3,b4,b5,b6⟩:=I.mod.bm;obtain ⟨b3',hn⟩:=I.bs _ _ b3;refine ⟨bm,ob,b1,b2,fun z=>?_,nP bm hn,b3',b4,b5,b6⟩;obtain ⟨o,es,ep,e,d,_⟩:=hg;rw [<-z,b3'] at e;cases e;rw [b6] at d;cases d
 have hgP:mainGlobals≠Pt:=by
  obtain ⟨o,es,ep,e,d,_⟩:=I.mod.glob;exact nP _ (I.bs _ _ e).2
 rcases hT with hT|⟨c',oc,vs,tt,f1,f2,f3,hT⟩
 ·refine PySem.W.makeFunction_K (ps:=#[]) v6 I.ok.glob hg L5 CH hT trivial rfl hgP hB fun c' F1 i5 h' tk hx V6 c7 hrec htb=>?_
  obtain ⟨c2,oc,vs,tt,e,hoc,hd,hv⟩:=hrec;cases e;generalize C9:PySem.W.fnMade n q la lb ls clos i5 ((X.mg "__name__").getD .none) c' F1=ob;have L9:ob.isFreed=false:=by rw [<-C9];rfl
  have O6:H h'.objs.size=none:=I.hok.fresh (Nat.le_trans V6 (Nat.le_of_lt c7));have hcn:H c'=none:=I.hok.fresh V6;have ncf:c'≠h'.objs.size:=Nat.ne_of_lt c7;have A5:∀b o,s.heap.get? b=some o->b≠c'/\b≠h'.objs.size:=fun b o e=>by
   have:=Heap.lt_size e;exact ⟨Nat.ne_of_lt (Nat.lt_of_lt_of_le this V6),Nat.ne_of_lt (Nat.lt_trans (Nat.lt_of_lt_of_le this V6) c7)⟩
  have kp:∀b o,b≠Pt->s.heap.get? b=some o->(h'.push ob).get? b=some o:=fun b o n e=>Heap.get?_push_of_some _ (hx b o n e)
  have tr:∀b o,H b=some o->b≠c'/\b≠h'.objs.size:=fun b o e=>⟨Zi e hcn,Zi e O6⟩
  have B8:∀{b:Addr},b≠c'->b≠h'.objs.size->upd (upd H c' (.frz oc (.own Pt))) h'.objs.size (Fz ob) b=H b:=fun n1 n2=>by rw [Ze n2,Ze n1]
  have nPc:Pt≠c'/\Pt≠h'.objs.size:=tr _ _ hH;refine h h'.objs.size (upd (upd H c' (.frz oc (.own Pt))) h'.objs.size (Fz ob)) _ (I.step (g':=s.gens) (d':=s.drawn) (ch:=[]) (fun _ z=>nomatch z) (fun b o _ _ _ e n=>kp b o (nP b n) e) (fun b o _ _ _ e n=>⟨o.slots,kp b o (nP b n) e⟩) (fun b o _ e n=>by rw [B8 (A5 b o e).1 (A5 b o e).2];exact n) (fun b o _ e=>?_)
   (fun b xs e=>by rw [B8 (tr _ _ e).1 (tr _ _ e).2];exact e) (fun b o u e=>by rw [B8 (tr _ _ e).1 (tr _ _ e).2];exact e) (fun b ps e=>⟨#[],by rw [B8 (tr _ _ e).1 (tr _ _ e).2,e];simp⟩) (fun m hm=>?_) (fun b u e=>?_) I.bare)
   (fun b o e=>by rw [B8 (tr _ _ e).1 (tr _ _ e).2];exact e) O6 ⟨i5,_,F1,c',oc,vs,tt,by rw [Zf,C9],by rw [Ze ncf,Zf],hd,hv⟩
  ·by_cases hb:b=Pt
   ·exact ⟨_,by rw [hb];exact Heap.get?_push_of_some _ htb⟩
   ·exact ⟨o,kp b o hb e⟩
  ·obtain ⟨o,es,ep,e,r⟩:=hm;exact ⟨o,es,ep,kp _ o (nP _ I.free) e,r⟩
  ·by_cases h1:b=h'.objs.size
   ·subst h1;rw [Zf] at e;cases e;have:=Heap.get?_push_size h' L9;exact ⟨this,this,_,this⟩
   ·rw [Ze h1] at e
    by_cases h2:b=c'
    ·subst h2;rw [Zf] at e;cases e;exact ⟨Heap.get?_push_of_some _ hoc,_,Heap.get?_push_of_some _ hoc⟩
    ·rw [Ze h2] at e
     by_cases h3:b=Pt
     ·subst h3;rw [hH] at e;cases e;exact ⟨_,_,_,0,rfl,rfl,rfl,.inr ⟨c',oc,vs,tt,by rw [Ze ncf,Zf],hd,hv,Heap.get?_push_of_some _ htb⟩⟩
     ·refine (I.hok b u e).stay (fun d v hd q=>kp d v ?_ q) (fun d q=>by rw [B8 (tr _ _ q).1 (tr _ _ q).2];exact q) (fun d xs q=>by rw [B8 (tr _ _ q).1 (tr _ _ q).2];exact q) (fun d o q=>by rw [B8 (tr _ _ q).1 (tr _ _ q).2];exact q);rcases hd with z|z
      ·rw [z];exact h3
      ·exact fun y=>by rw [y,hH] at z;cases z
 ·refine PySem.W.makeFunction_hit (ps:=#[rawInt lp.line,rawInt lp.col,.ref c']) (cv:=.ref c') v6 I.ok.glob hg L5 CH hT trivial ?_ hB fun F1 i5 h' tk hk hsz=>?_
  ·show (if ((lp.line:Int) ==lp.line && (lp.col:Int) ==lp.col)=true then some (Value.ref c') else _)=_;rw [if_pos (by simp)]
  ·have O6:H h'.objs.size=none:=I.hok.fresh hsz;have:=Heap.get?_push_size h' (o:=PySem.W.fnMade n q la lb ls clos i5 ((X.mg "__name__").getD .none) c' F1) rfl;exact h _ _ _ (I.laid (a:=h'.objs.size) (o:=Fz (PySem.W.fnMade n q la lb ls clos i5 ((X.mg "__name__").getD .none) c' F1)) (t':=tk) (fun b u e=>Heap.get?_push_of_some _ (hk b u e)) hsz ⟨this,this,_,this⟩) (Same.new O6) O6
    ⟨i5,_,F1,c',oc,vs,tt,Zf,by rw [Ze (Zi f1 O6)];exact f1,f2,f3⟩
end
section
variable {P:Program} {w:World} {K:Frag} {mg:Str->Option Value} {base:Heap}
theorem Zua{X:Cx}{a6:List (Addr×Obj)}{σ:St}{H:Hp}{s:Shared}{Q:Value->Shared->Prop}{la:Arguments}{lb:List Stmt}{ls:Scope}{lp:Pos}{c Pt:Addr}{clos:List (Str×Addr)}{n q q':Str}(hq:q'=q)(I:Inv X a6 σ H s)(L5:X.env.code=.ref c)(C:PySem.W.CodeHd X.base c Pt)(hH:H Pt=some (.tbl (Zhz lp q)))(v6:closureFor ls X.env=pure clos)
  (h:∀fl H' s',Inv X a6 σ H' s'->Same H H'->H fl=none->Zm7 H' Pt fl n q la lb ls clos->Q (.ref fl) s'):wpAny (model X.prog X.w) X.A (makeFunction n q' la (.stmts lb) ls X.env [] [] [] lp lp.line) Q X.xe s:=by
 subst hq;exact Zvh I L5 C hH v6 h
theorem Fun.okD{x a9 n:Str}{st:Stmt}{f Pt:Addr}{fd:FuncData}{N ps:List Str}{k i:Nat}{sp:Sp}{la:Arguments}{lb:List Stmt}{ls:Scope}{lp np rp:Pos}(F:Fun K x a9 st f fd)(L:Yb7 K fd Pt)(S:Zn N ps (Zh st))(len:∀vs H Q E,sp vs H Q E->vs.length=ps.length)
  (y7:Y2 st=[.FunctionDef n la lb [] none [] ls none n lp,.Return (some (.Name n np)) rp]) (hi:N[i]? =some n) (hn:(Zh st).names.lookup n=some .local) (hd0:la.defaults=[]) (hk0:la.kw_defaults=[]) (ha:∀env,annTrees la none env=[])
  (V3:(n ==("__debug__" :Str))=false) (E9:(n ==("__classdict__" :Str))=false)
  (u5:∀(a8:Value) (A:Around) (outer:List Env) (s:Shared) (H:Hp) (vs:List V) (Q:VK) (E:XK),sp vs H Q E->∃clos,closureFor ls (envOfC a9 (Zh st) s.heap.objs.size f a8)=pure clos/\qualnameIn (envOfC a9 (Zh st) s.heap.objs.size f a8) n n=a9 ++ ".<locals>." ++ n/\H Pt=some (.tbl (Zhz lp (a9 ++ ".<locals>." ++ n))) /\
   ∀fl H',Same H H'->H fl=none->Zm7 H' Pt fl n (a9 ++ ".<locals>." ++ n) la lb ls clos->(∀(j:Nat) (x:Str) (v:V) (c:Addr),N[j]? =some x->((start N vs).set i (some (.ref fl)))[j]? =some (some v)->(Zh st).names.lookup x=some .cell->(envOfC a9 (Zh st) s.heap.objs.size f a8).cells.lookup x=some c->H c=none/\Zd8 H' c v)->Q (.ref fl) H'):Zu P w K mg base CX0 (k+1) f fd ps sp:=by
 obtain ⟨oc,od,kV,i5,pm,an,a8,ct,E5,rfl,lk,hcdv⟩:=F.ex;obtain ⟨c,hc,hL⟩:=L;have hc:a8=.ref c:=hc;subst hc;refine ⟨len,fun A outer s H args us vs Q E hr e0 hb r D3=>?_⟩;have hl:=len _ _ _ _ D3;have KX:K.In s.heap:=e0.mod.kin.keeps fun b o e=>(e0.bs b o e).1
 have lim:s.heap.NoLimit:=e0.mod.nolimit.keeps fun b o e=>(e0.bs b o e).1
 have O2:∀y∈ps.zip us,(Zh st).names.lookup y.1=some .local\/((Zh st).names.lookup y.1=some .cell/\((cellsFrom (s.heap.objs.size+1) (Zh st).names []).lookup y.1).isSome=true):=fun ⟨n,v⟩ hy=>by
  rcases S.par n (List.of_mem_zip hy).1 with q|q
  ·exact .inl q
  ·exact .inr ⟨q,PySem.W.cellsFrom_some _ _ _ (.inl q)⟩
 refine codeAny_call_function hr.depth (KX _ _ lk) rfl S.co S.gen rfl (PySem.W.codeRec_of KX hcdv) (hb _ _ _ _ ?_);refine wpAny_newFunctionEnv_cells S.kind O2 fun env he s1 x=>?_
 subst he;refine ⟨lim.keeps x.toInCall.keep,codeAny_func ?_⟩;have I0:Inv (Zg9 CX0 P w K mg base N a9 (Zh st) f (.ref c) A outer s H E) [] (start N vs) H s1:=Znl S hr.hd e0 hl r x;have I:Inv (Zg9 CX0 P w K mg base N a9 (Zh st) f (.ref c) A outer s H E).nox [] (start N vs) H s1:=⟨⟨I0.ok.mod,I0.ok.kind,I0.ok.glob,I0.ok.blt,I0.ok.above,I0.ok.inj,I0.ok.has,I0.ok.cab,I0.ok.hd,I0.ok.frames,I0.ok.stk,I0.ok.exf,I0.ok.bs,I0.ok.bsz,I0.ok.noex,I0.ok.exfs,I0.ok.funs,I0.ok.frf⟩,I0.os,I0.bare,I0.base,I0.loc,I0.cell,I0.free,I0.freeC,I0.pin,I0.hok,I0.len⟩
 obtain ⟨clos,v6,hq,hH,k⟩:=u5 (.ref c) A outer s H vs Q E D3;rw [y7];refine wpAny_mono (Q:=fun fl s'=>∃v σ' H',fl=.ret (.ref v)/\Inv (Zg9 CX0 P w K mg base N a9 (Zh st) f (.ref c) A outer s H E).nox [] σ' H' s'/\Q (.ref v) (Zmp (envOfC a9 (Zh st) s.heap.objs.size f (.ref c)).cells H' s'.heap)) (E:=fun _ _=>False) ?_ (fun fl s' hs=>?_) fun e s' hs=>hs.elim
 ·refine wpAny_execs_cons (PySem.W.nestDef_K hd0 hk0 (ha _) ?_);refine Zua (X:=(Zg9 CX0 P w K mg base N a9 (Zh st) f (.ref c) A outer s H E).nox) hq I rfl (PySem.W.codeHd_of_K e0.mod.kin hL) hH v6 fun fl H' s' I' sm hnf cl=>?_
  refine Zks (v:=.ref fl) I' S.nd hi (.inl hn) rfl (fun s2 I2=>?_);refine wpAny_execs_cons (wpAny_Return_some (thn (Zwl (X:=(Zg9 CX0 P w K mg base N a9 (Zh st) f (.ref c) A outer s H E).nox) hi (.inl hn) V3 E9 [] s2 _ H' (fun v H2=>v=.ref fl/\H2=H') I2 ⟨.ref fl,?_,rfl,rfl⟩) fun u s3 ⟨v,H3,I3,rv,e1,e2⟩=>?_))
  ·rw [List.getElem?_set_self (by rw [I'.len];exact (List.getElem?_eq_some_iff.mp hi).1)]
  ·subst e1 e2;obtain rfl:u=Value.ref fl:=rv;exact ⟨fl,_,_,rfl,I3,k fl _ (sm.trans fun b o e=>Zbd I3 e) hnf (cl.mono fun b o e=>Zbd I3 e) fun j x v c h1 h2 h3 h4=>⟨sm.free (Zn5 I3 h1 h2 h3 h4).1,(Zn5 I3 h1 h2 h3 h4).2⟩⟩
 obtain ⟨v,σ',H',rfl,J,q⟩:=hs;show CE outer P w H s Q (.ref v) s';exact J.shut (v:=.ref v) rfl (fun _=>rfl) rfl q
theorem Zp9{n:Str}{H:Hp}{Pt fl:Addr}{q:Str}{la:Arguments}{lb:List Stmt}{ls:Scope}{clos:List (Str×Addr)}{fs:List Str}{Q4:List V}{g:Str}{gv:V}{k:Nat}{Q:VK}(C:Zm7 H Pt fl n q la lb ls clos)(L:Lit H ls clos fs Q4)
  (hb:∀(i5 pm a8 F1 u:Value),bindArgs (PySem.W.fnX n q la lb ls clos .none .none i5 pm none a8 F1) ⟨[u],[]⟩=pure [(g,u)]) (hg:ls.names.lookup g=some .local) (hgf:g∉fs) (L9:∀y∈ls.names,y.2=.free->y.1∈fs) (hnc:∀y∈ls.names,y.2 ≠ .cell)
  (hk:ls.kind=.function) (hco:ls.isCoroutine=false) (hgen:ls.isGenerator=false)
  (body:∀(a8:Value) (A:Around) (outer:List Env) (s:Shared),Wq k (A.deeper (PySem.W.envX q ls s.heap.objs.size fl a8 clos)) ->
   WSs (Zvl P w K mg base (g ::fs) q ls fl a8 clos A outer s (offL H clos)) lb { nx:=fun _ _=>False,rt:=fun v H'=>∀H'',Same H' H''->(∀b∈clos.map Prod.snd,H'' b=H b)->Q v H'' } (some gv ::Q4.map some) (offL H clos)):Zsl P w K mg base (k+1) fl H [gv] Q:=by
 intro A outer s us hr e0 rv;obtain ⟨u,rfl,ru⟩:=Zci rv;obtain ⟨i5,pm,F1,c,oc,vs,tt,h1,h2,h3,h4⟩:=C;have o1:s.heap.get? fl=some (PySem.W.fnMade n q la lb ls clos i5 pm c F1):=(e0.hok fl _ h1).1;have o2:s.heap.get? c=some oc:=(e0.hok c _ h2).1;have lim:s.heap.NoLimit:=e0.mod.nolimit.keeps fun b o e=>(e0.bs b o e).1
 refine codeAny_call_function hr.depth o1 rfl hco hgen rfl ⟨c,oc,vs,tt,rfl,o2,h3,h4⟩ ?_;rw [hb];refine wpAny_pure (wpAny_newFunctionEnv hnc (fun y hy=>?_) (fun h₁ S0 hsb=>⟨lim.fresh _ hsb,?_⟩) hk)
 ·obtain rfl:y=(g,u):=List.mem_singleton.mp hy;exact hg
 show codeAny _ _ (.func lb (PySem.W.envX q ls s.heap.objs.size fl (.ref c) clos)) _ _;have hk₁:∀b o,s.heap.get? b=some o->h₁.get? b=some o:=fun b o e=>hsb.extBut b o (Nat.ne_of_lt (Heap.lt_size e)) (Heap.get?_push_of_some _ e)
 have F9:∀{x:Str} {a:Addr},clos.lookup x=some a->(x,a)∈clos:=fun h=>PySem.mem_of_lookup h
 have inC:∀{x:Str} {a:Addr},clos.lookup x=some a->a∈clos.map Prod.snd:=fun h=>List.mem_map.mpr ⟨_,F9 h,rfl⟩
 have isC:∀{b:Addr},b∈clos.map Prod.snd->∃o u,H b=some (Fz o)/\o.data=.cell (some u):=fun {b} z=>by
  obtain ⟨p,hp,e⟩:=List.mem_map.mp z;obtain ⟨v,o,u,z1,z2,_⟩:=L.cell hp;exact ⟨o,u,e ▸ z1,z2⟩
 have hok0:HOk P w (offL H clos) s.heap:=fun b o e=>by
  have e':=Zuw b o e;refine (e0.hok b o e').stay (fun _ _ _ z=>z) (fun d z=>L.soft z trivial) (fun d xs z=>L.soft z trivial) (fun d ob z=>?_);rw [Zfy]
  ·exact z
  ·intro y;obtain ⟨o3,u3,y1,_⟩:=isC y;rw [z] at y1;cases y1
 have M0:∀{b:Addr},H b=none->offL H clos b=none:=fun {b} n=>by
  by_cases z:b∈clos.map Prod.snd
  ·exact Zj9 z
  ·rw [Zfy z];exact n
 have nA:∀b:Addr,b∉(Zvl P w K mg base (g ::fs) q ls fl (.ref c) clos A outer s (offL H clos)).ex:=fun b z=>absurd (show b∈([]:List Addr) from z) (by simp)
 have I:Inv (Zvl P w K mg base (g ::fs) q ls fl (.ref c) clos A outer s (offL H clos)) [] (some gv ::Q4.map some) (offL H clos) { s with heap:=h₁,toks:=s.toks+[(g,u)].length }:=by
  refine ⟨⟨e0.mod,hk,rfl,rfl,Nat.le_refl _,fun y z a h1 h2=>?_,fun y hy=>?_,fun y a z _=>(Bool.false_ne_true z).elim,fun _=>hr.hd,Around.frames_deeper e0.frames,.inr ⟨rfl,rfl⟩,fun b z=>absurd z (nA b),fun b o e=>⟨(e0.bs b o e).1,M0 (e0.bs b o e).2⟩,e0.bsz,fun b _ _=>nA b,fun b z=>absurd z (nA b),e0.funs,fun b z=>M0 (e0.frf b z)⟩,
   rfl,e0.bare,Un.kept hk₁,⟨_,S0,fun i y v h1 h2 h3=>?_⟩,fun y a z=>?_,M0 (e0.hok.fresh (Nat.le_refl _)),fun y a z=>Zj9 (inC z),fun p hp=>absurd (show p∈([]:List (Addr×Obj)) from hp) (by simp),hok0.kept hk₁,?_⟩
  ·exact Zn0 L.apart (F9 h1) (F9 h2)
  ·have hy:ls.names.lookup y=some .cell\/ls.names.lookup y=some .free:=hy;rcases hy with hy|hy
   ·exact absurd rfl (hnc _ (PySem.mem_of_lookup hy))
   ·obtain ⟨i,hi,e⟩:=List.getElem_of_mem (L9 _ (PySem.mem_of_lookup hy) rfl);obtain ⟨v,_,_,a,z1,_⟩:=Paired.get L.cells (i:=i) (a:=y) (by rw [List.getElem?_eq_getElem hi,e]);exact ⟨a,z1⟩
  ·cases i with
   | zero =>
    have h1:g=y:=Option.some.inj h1;have h2:gv=v:=Option.some.inj (Option.some.inj h2);subst h1 h2;exact ⟨u,ru,.inl ⟨hg,by simp⟩⟩
   | succ i =>
    have h1:fs[i]? =some y:=h1;have h2:(Q4.map some)[i]? =some (some v):=h2;rw [List.getElem?_map] at h2;obtain ⟨v',h5,h6⟩:=Option.map_eq_some_iff.mp h2;cases h6;obtain ⟨v2,z0,z1,a,z2,o,uu,z3,z4,z5⟩:=Paired.get L.cells h1;rw [h5] at z0;cases z0;exact ⟨uu,z5,.inr ⟨.inr z1,a,z2,o,hk₁ _ _ (e0.hok a _ z3).1,z4⟩⟩
  ·obtain ⟨o,uu,z1,z2⟩:=isC (inC z);exact ⟨_,o,hk₁ _ _ (e0.hok a _ z1).1,z2⟩
  ·show (some gv ::Q4.map some).length=(g ::fs).length;rw [List.length_cons,List.length_map,List.length_cons,Paired.length L.cells]
 refine codeAny_func (wpAny_mono ((body (.ref c) A outer s (hr.deeper _)).run [] _ I) (fun f s' hs=>?_) fun _ _ z=>z.elim);cases f with
 | next=>obtain ⟨_,_,_,z⟩:=hs;exact z.elim
 | brk=>obtain ⟨_,_,_,z⟩:=hs;exact z.elim
 | cont=>obtain ⟨_,_,_,z⟩:=hs;exact z.elim
 | ret v =>
 obtain ⟨v',σ',H',J,K8,qq⟩:=hs;have JB:Un (frs outer) [] (offL H clos) H' s.heap s'.heap:=J.base;have cellH:∀{b:Addr},b∈clos.map Prod.snd->H' b=none:=fun {b} z=>by
  obtain ⟨p,hp,e⟩:=List.mem_map.mp z;exact J.freeC p.1 b (by rw [<-e];exact Zdf L.one hp)
 have nin:∀{b:Addr} {o:HO},H' b=some o->b∉clos.map Prod.snd:=fun {b o} e z=>by rw [cellH z] at e;cases e
 have bk:∀{b:Addr} {o:HO},H' b=some o->Zja H H' clos b=some o:=fun {b o} e=>by unfold Zja;rw [if_neg (nin e)];exact e
 have nofs:∀{b:Addr},b∈clos.map Prod.snd->b∉frs outer:=fun {b} z y=>by
  obtain ⟨o,uu,z1,_⟩:=isC z;rw [e0.frf b y] at z1;cases z1
 refine ⟨v',Zja H H' clos,J.os,J.bare,⟨fun b o h1 n hb _=>JB.keep b o h1 (M0 n) hb (by simp),fun b o h1 n hb _=>JB.slot b o h1 (M0 n) hb (by simp),fun b o h1 n _=>?_,fun b o h1 _=>JB.there b o h1 (by simp),fun b xs e=>bk (JB.tups b xs (L.soft e trivial)),fun b ob x e=>?_,fun b ps e=>?_⟩,fun b o e=>?_,K8,qq _ (fun b o e=>bk e) fun b z=>by unfold Zja;rw [if_pos z]⟩
 ·unfold Zja;rw [if_neg fun z=>by obtain ⟨o,uu,z1,_⟩:=isC z;rw [n] at z1;cases z1];exact JB.free b o h1 (M0 n) (by simp)
 ·by_cases z:b∈clos.map Prod.snd
  ·unfold Zja;rw [if_pos z];exact e
  ·exact bk (JB.frzs b ob x (by rw [Zfy z];exact e))
 ·obtain ⟨m,z⟩:=JB.tbls b ps (L.soft e trivial);exact ⟨m,bk z⟩
 ·by_cases z:b∈clos.map Prod.snd
  ·unfold Zja at e;rw [if_pos z] at e;obtain ⟨o3,uu,z1,z2⟩:=isC z;rw [e] at z1;cases z1;have z3:=(e0.hok b _ e).1;have z4:=JB.keep b o3 z3 (Zj9 z) (nofs z) (by simp);exact ⟨z4,z4,_,z4⟩
  ·have e':=e;unfold Zja at e';rw [if_neg z] at e';exact (J.hok b o e').stay (fun _ _ _ y=>y) (fun d y=>bk y) (fun d xs y=>bk y) (fun d ob y=>bk y)
end
end L2
end
section
namespace YM
open PySem L2 NM
def Zdq(c k:Int):Int:=((c+7919 * k) * 48271%2147483647) * ((c+7919 * k) * 48271%2147483647+2 * k+1)%2147483629
theorem Zwj(c k:Int):0<=Zdq c k:=Int.emod_nonneg _ (by decide)
theorem Zvd(c k:Int):Zdq c k<2147483629:=Int.emod_lt_of_pos _ (by decide)
def Xd(ns:List Int)(k:Nat):Int:=match ns[k]? with
 | some c=>Zdq c k
 | none=>0
abbrev Zc:=Str×Str
def Yw(k:Str):List Str:=if k = "points" then ["stem", "left", "right"] else if k = "cross" then ["a", "b", "c", "d"] else if k = "plain" then ["a", "b"] else ["a"]
def Zdn(i:Int):Nat:=Zer.getD i.toNat 0
def Zix(k:Nat):Str:=toString (k:Int)
def Yx(kind:Str)(c:Int)(k:Nat):Str:=if c%3=0 then ⟨#[kind.cps.toList.getD 0 0]⟩++Zix k else (⟨#[Zdn (c / 3%26)]⟩++⟨#[Zdn (c / 78%26)]⟩)++Zim "0" (c / 2028%3).toNat++Zix k
theorem Zh0:∀k,k<100->(Zix k).length<=2:=by trivial
theorem Zol{k:Nat}(h:k<100):(k:Int).natAbs.log2<1920:=by
 rw [Int.natAbs_natCast];refine Nat.lt_of_le_of_lt (Nat.log2_le_self k) (by lia)
def Zgb(a c:Nat):Nat:=if 48<=c/\c<=57 then a * 10+(c-48) else 0
def Zjq(s:Str):Nat:=s.cps.toList.foldl Zgb 0
theorem Zph:∀k,k<100->Zjq (Zix k)=k:=by trivial
theorem Zhp:∀k,k<100->0<(Zix k).length:=by trivial
theorem Zwp:∀m,m<3->(Zim "0" m).cps.toList.foldl Zgb 0=0:=by trivial
theorem Zu7:∀m,m<3->(Zim "0" m).length=m:=by trivial
theorem Zxs:∀i,i<26->97<=Zer.getD i 0/\Zer.getD i 0<=122:=by trivial
theorem Zn1{i:Int}(h0:0<=i)(h1:i<26):97<=Zdn i/\Zdn i<=122:=Zxs i.toNat (by lia)
theorem Za8(x y:Str):(x++y).cps.toList=x.cps.toList++y.cps.toList:=PySem.W.KT.app_list x y
theorem Zb8{kind:Str}{c:Int}{k:Nat}(hk:57<kind.cps.toList.getD 0 0)(h:k<100):Zjq (Yx kind c k)=k:=by
 have hbig:∀a c,57<c->Zgb a c=0:=fun a c h=>by unfold Zgb;rw [if_neg (by lia)]
 unfold Yx;split
 ·unfold Zjq;rw [Za8,List.foldl_append];show List.foldl Zgb (Zgb 0 (kind.cps.toList.getD 0 0)) _=k;rw [hbig _ _ hk];exact Zph k h
 ·have a0:=Int.emod_nonneg (c / 3) (show (26:Int)≠0 by decide);have a1:=Int.emod_lt_of_pos (c / 3) (show (0:Int)<26 by decide);have b0:=Int.emod_nonneg (c / 78) (show (26:Int)≠0 by decide);have b1:=Int.emod_lt_of_pos (c / 78) (show (0:Int)<26 by decide);have z0:=Int.emod_nonneg (c / 2028) (show (3:Int)≠0 by decide);have z1:=Int.emod_lt_of_pos (c / 2028) (show (0:Int)<3 by decide);unfold Zjq;rw [Za8,Za8,Za8,List.foldl_append,List.foldl_append,List.foldl_append];show List.foldl Zgb (List.foldl Zgb (Zgb (Zgb 0 (Zdn (c / 3%26))) (Zdn (c / 78%26))) _) _=k;rw [hbig _ (Zdn (c / 78%26)) (by have:=Zn1 b0 b1;lia),Zwp _ (by lia)];exact Zph k h
theorem Zb0{kind:Str}{c:Int}{k:Nat}(h:k<100):2<=(Yx kind c k).length:=by
 have:=Zhp k h;unfold Yx;split
 ·rw [PySem.Str.length_append];show 2<=1+_;lia
 ·rw [PySem.Str.length_append,PySem.Str.length_append,PySem.Str.length_append];show 2<=1+1+_+_;lia
theorem Zt6{kind:Str}{c:Int}{k:Nat}(h:k<100):(Yx kind c k).length<=6:=by
 have:=Zh0 k h;unfold Yx;split
 ·rw [PySem.Str.length_append];show 1+_<=6;lia
 ·have z0:=Int.emod_nonneg (c / 2028) (show (3:Int)≠0 by decide);have z1:=Int.emod_lt_of_pos (c / 2028) (show (0:Int)<3 by decide);rw [PySem.Str.length_append,PySem.Str.length_append,PySem.Str.length_append,Zu7 _ (by lia)];show 1+1+_+_<=6;lia
def Y9(ps:List Zc):List Zc:=ps.flatMap fun p=>(Yw p.1).map fun e=>(p.2,e)
def Xm(js:List (Zc×Zc)):List Zc:=js.flatMap fun j=>[j.1,j.2]
theorem Zgk(a b:List Zc):Y9 (a++b)=Y9 a++Y9 b:=List.flatMap_append ..
theorem Zdt(a b:List (Zc×Zc)):Xm (a++b)=Xm a++Xm b:=List.flatMap_append ..
def Zak:List Str:=["plain", "points", "cross", "gate", "stop"]
structure Net(ps:List Zc)(js:List (Zc×Zc))(opn:List Zc):Prop where
 perm:(Xm js++opn).Perm (Y9 ps)
 nd:(ps.map Prod.snd).Nodup
 apart:∀j∈js,j.1.1≠j.2.1
 kind:∀p∈ps,p.1∈Zak
inductive Zam(n1 n2 n3 n4:Str):List Zc->List (Zc×Zc)->Zc->Zc->Prop
 | plain (a b:Str) (h:(a,b)∈[(("a" :Str),("b" :Str)),("b", "a")]):Zam n1 n2 n3 n4 [("plain",n1)] [] (n1,a) (n1,b)
 | loop (a b:Str) (h:(a,b)∈[(("left" :Str),("right" :Str)),("right", "left")]):Zam n1 n2 n3 n4 [("points",n1),("plain",n2),("plain",n3),("points",n4)] [((n1, "left"),(n2, "a")),((n1, "right"),(n3, "a")),((n2, "b"),(n4,a)),((n4,b),(n3, "b"))] (n1, "stem") (n4, "stem")
 | siding (x a b k:Str) (h:[x,a,b].Perm ["stem", "left", "right"]) (hk:k∈[("stop" :Str), "gate"]):Zam n1 n2 n3 n4 [("points",n1),("plain",n2),(k,n3)] [((n1,x),(n2, "b")),((n2, "a"),(n3, "a"))] (n1,a) (n1,b)
 | cross (k:Str) (hk:k∈[("gate" :Str), "stop"]):Zam n1 n2 n3 n4 [("cross",n1),("gate",n2),(k,n3)] [((n1, "c"),(n2, "a")),((n3, "a"),(n1, "d"))] (n1, "a") (n1, "b")
theorem Zkb{α:Type}{d:α}{l m:List α}(is:List Nat)(h:is.Perm (List.range m.length))(e:l=is.map fun i=>m.getD i d):l.Perm m:=by
 have h2:((List.range m.length).map fun i=>m.getD i d)=m:=by
  apply List.ext_getElem
  ·simp
  ·intro i h1 h3;simp [List.getD_eq_getElem?_getD,h3]
 rw [e];exact (h.map _).trans (by rw [h2])
theorem Zam.sub{n1 n2 n3 n4:Str}{ps:List Zc}{js:List (Zc×Zc)}{a b:Zc}(h:Zam n1 n2 n3 n4 ps js a b):(ps.map Prod.snd).Sublist [n1,n2,n3,n4]:=by
 cases h with
 | plain=>exact .cons_cons _ (List.nil_sublist _)
 | loop=>exact List.Sublist.refl _
 | siding=>exact .cons_cons _ (.cons_cons _ (.cons_cons _ (List.nil_sublist _)))
 | cross=>exact .cons_cons _ (.cons_cons _ (.cons_cons _ (List.nil_sublist _)))
theorem Zf0{k:Str} (hk:k = "gate" \/k = "stop"):Yw k=[("a" :Str)]:=by rcases hk with rfl|rfl <;>decide +kernel
theorem Zjb:Yw "points" =[("stem" :Str), "left", "right"]:=by trivial
theorem Zej:Yw "plain" =[("a" :Str), "b"]:=by trivial
theorem Zsi:Yw "cross" =[("a" :Str), "b", "c", "d"]:=by trivial
theorem Zam.perm{n1 n2 n3 n4:Str}{ps:List Zc}{js:List (Zc×Zc)}{a b:Zc}(h:Zam n1 n2 n3 n4 ps js a b):(Xm js++[a,b]).Perm (Y9 ps):=by
 cases h with
 | plain a b h =>
  simp only [List.mem_cons,List.mem_nil_iff,or_false,Prod.mk.injEq] at h;rcases h with ⟨rfl,rfl⟩|⟨rfl,rfl⟩
  ·simp [Xm,Y9,Zej]
  ·simp only [Xm,Y9,Zej,List.flatMap_nil,List.flatMap_cons,List.map_cons,List.map_nil,List.nil_append,List.append_nil];exact List.Perm.swap _ _ _
 | loop a b h =>
  have he:Y9 [("points",n1),("plain",n2),("plain",n3),("points",n4)]=([(n1, "stem"),(n1, "left"),(n1, "right"),(n2, "a"),(n2, "b"),(n3, "a"),(n3, "b"),(n4, "stem"),(n4, "left"),(n4, "right")]:List Zc):=by simp [Y9,Zjb,Zej]
  rw [he];simp only [List.mem_cons,List.mem_nil_iff,or_false,Prod.mk.injEq] at h;rcases h with ⟨rfl,rfl⟩|⟨rfl,rfl⟩
  ·exact Zkb (d:=(n1,n1)) [1,3,2,5,4,8,9,6,0,7] (show List.Perm _ (List.range 10) by decide) rfl
  ·exact Zkb (d:=(n1,n1)) [1,3,2,5,4,9,8,6,0,7] (show List.Perm _ (List.range 10) by decide) rfl
 | siding x a b k h hk =>
  have hk':k = "gate" \/k = "stop" :=by
   simp only [List.mem_cons,List.mem_nil_iff,or_false] at hk;exact hk.symm
  have he:Y9 [("points",n1),("plain",n2),(k,n3)]=([("stem" :Str), "left", "right"].map fun e=>(n1,e))++([(n2, "a"),(n2, "b"),(n3, "a")]:List Zc):=by simp [Y9,Zjb,Zej,Zf0 hk']
  rw [he];refine List.Perm.trans ?_ (List.Perm.append_right _ (h.map fun e=>(n1,e)));exact Zkb (d:=(n1,n1)) [0,4,3,5,1,2] (show List.Perm _ (List.range 6) by decide) rfl
 | cross k hk =>
  have hk':k = "gate" \/k = "stop" :=by
   simp only [List.mem_cons,List.mem_nil_iff,or_false] at hk;exact hk
  have he:Y9 [("cross",n1),("gate",n2),(k,n3)]=([(n1, "a"),(n1, "b"),(n1, "c"),(n1, "d"),(n2, "a"),(n3, "a")]:List Zc):=by simp [Y9,Zsi,Zf0 hk',Zf0 (k := "gate") (.inl rfl)]
  rw [he];exact Zkb (d:=(n1,n1)) [2,4,5,3,0,1] (show List.Perm _ (List.range 6) by decide) rfl
theorem Zam.kind{n1 n2 n3 n4:Str}{ps:List Zc}{js:List (Zc×Zc)}{a b:Zc}(h:Zam n1 n2 n3 n4 ps js a b):∀p∈ps,p.1∈Zak:=by
 cases h with
 | plain=>intro p hp;simp at hp;subst hp;simp [Zak]
 | loop=>intro p hp;simp at hp;rcases hp with rfl|rfl|rfl|rfl <;>simp [Zak]
 | siding x a b k h hk=>intro p hp;simp at hp hk;rcases hp with rfl|rfl|rfl <;>rcases hk with rfl|rfl <;>simp [Zak]
 | cross k hk=>intro p hp;simp at hp hk;rcases hp with rfl|rfl|rfl <;>rcases hk with rfl|rfl <;>simp [Zak]
theorem Zam.apart{n1 n2 n3 n4:Str}{ps:List Zc}{js:List (Zc×Zc)}{a b:Zc}(h:Zam n1 n2 n3 n4 ps js a b)(nd:[n1,n2,n3,n4].Nodup):∀j∈js,j.1.1≠j.2.1:=by
 simp only [List.nodup_cons,List.mem_cons,List.mem_nil_iff,or_false,not_or,List.not_mem_nil,not_false_eq_true,List.nodup_nil,and_true] at nd;obtain ⟨⟨a1,a2,a3⟩,⟨b1,b2⟩,c1⟩:=nd;cases h with
 | plain=>intro j hj;cases hj
 | loop=>intro j hj;simp at hj;rcases hj with rfl|rfl|rfl|rfl <;>first|assumption|exact Ne.symm (by assumption)
 | siding x a b k h hk=>intro j hj;simp at hj;rcases hj with rfl|rfl <;>first|assumption|exact Ne.symm (by assumption)
 | cross k hk=>intro j hj;simp at hj;rcases hj with rfl|rfl <;>first|assumption|exact Ne.symm (by assumption)
theorem Zam.opens{n1 n2 n3 n4:Str}{ps:List Zc}{js:List (Zc×Zc)}{a b:Zc}(h:Zam n1 n2 n3 n4 ps js a b):a.1∈ps.map Prod.snd/\b.1∈ps.map Prod.snd:=by
 cases h <;>simp
theorem Ze5{ps:List Zc}{e:Zc}(h:e∈Y9 ps):e.1∈ps.map Prod.snd:=by
 obtain ⟨p,hp,he⟩:=List.mem_flatMap.mp h;obtain ⟨x,_,rfl⟩:=List.mem_map.mp he;exact List.mem_map.mpr ⟨p,hp,rfl⟩
theorem Net.more{ps:List Zc}{js:List (Zc×Zc)}{e:Zc}{n1 n2 n3 n4:Str}{qs:List Zc}{ks:List (Zc×Zc)}{a b:Zc}(h:Net ps js [e])(B:Zam n1 n2 n3 n4 qs ks a b)(nd:[n1,n2,n3,n4].Nodup)(new:∀n∈[n1,n2,n3,n4],n∉ps.map Prod.snd):Net (ps++qs) (js++ks++[(e,a)]) [b]:=by
 have he:e.1∈ps.map Prod.snd:=Ze5 (h.perm.subset (by simp));have ha:a.1∉ps.map Prod.snd:=new _ (B.sub.subset B.opens.1);refine ⟨?_,?_,?_,?_⟩
 ·rw [Zdt,Zdt,Zgk];refine List.Perm.trans ?_ (h.perm.append B.perm);show (Xm js++Xm ks++[e,a]++[b]).Perm ((Xm js++[e])++(Xm ks++[a,b]));rw [List.append_assoc,List.append_assoc,List.append_assoc];refine List.Perm.append_left _ ?_;show (Xm ks++([e]++[a,b])).Perm ([e]++(Xm ks++[a,b]));rw [<-List.append_assoc,<-List.append_assoc];exact List.Perm.append_right _ List.perm_append_comm
 ·rw [List.map_append,List.nodup_append];exact ⟨h.nd,List.Pairwise.sublist B.sub nd,fun x hx y hy z=>new y (B.sub.subset hy) (z ▸ hx)⟩
 ·intro j hj;rw [List.mem_append,List.mem_append] at hj;rcases hj with (z|z)|z
  ·exact h.apart j z
  ·exact B.apart nd j z
  ·simp at z;subst z;exact fun y=>ha (y ▸ he)
 ·intro p hp;rcases List.mem_append.mp hp with z|z
  ·exact h.kind p z
  ·exact B.kind p z
def Zp3(s:Str)(n:Nat):Prop:=∃kd c k,(96<kd.cps.toList.getD 0 0/\kd.cps.toList.getD 0 0<123)/\k<n/\s=Yx kd c k
theorem Zam.len{n1 n2 n3 n4:Str}{ps:List Zc}{js:List (Zc×Zc)}{a b:Zc}(h:Zam n1 n2 n3 n4 ps js a b):ps.length<=4/\js.length<=4:=by
 cases h <;>simp
structure Zea(i:Nat)(ps:List Zc)(js:List (Zc×Zc))(G0:Zc):Prop where
 net:Net ps js [G0]
 pl:ps.length<=1+4 * i
 jl:js.length<=5 * i
 nm:∀p∈ps,p=((("gate" :Str),("g" :Str)):Zc)\/Zp3 p.2 (4 * i)
theorem Zea.start:Zea 0 [("gate", "g")] [] ("g", "a"):=by
 refine ⟨⟨?_,by simp,by simp,by simp [Zak]⟩,by simp,by simp,by simp⟩;simp [Xm,Y9,Zf0 (k := "gate") (.inl rfl)]
theorem Zs7{x s:Str}(hx:x.length=1)(h:2<=s.length):s≠x:=fun z=>by rw [z] at h;lia
theorem Zea.more{i:Nat}{ps:List Zc}{js:List (Zc×Zc)}{G0:Zc}{k1 k2 k3 k4:Str}{c1 c2 c3 c4:Int}{qs:List Zc}{ks:List (Zc×Zc)}{a b:Zc}(h:Zea i ps js G0)(hi:i<20)
  (g1:96<k1.cps.toList.getD 0 0/\k1.cps.toList.getD 0 0<123) (g2:96<k2.cps.toList.getD 0 0/\k2.cps.toList.getD 0 0<123) (g3:96<k3.cps.toList.getD 0 0/\k3.cps.toList.getD 0 0<123) (g4:96<k4.cps.toList.getD 0 0/\k4.cps.toList.getD 0 0<123)
  (B:Zam (Yx k1 c1 (4 * i)) (Yx k2 c2 (4 * i+1)) (Yx k3 c3 (4 * i+2)) (Yx k4 c4 (4 * i+3)) qs ks a b):Zea (i+1) (ps++qs) (js++ks++[(G0,a)]) b:=by
 have v1:=Zb8 (c:=c1) (Nat.lt_trans (by decide) g1.1) (show 4 * i<100 by lia);have v2:=Zb8 (c:=c2) (Nat.lt_trans (by decide) g2.1) (show 4 * i+1<100 by lia);have v3:=Zb8 (c:=c3) (Nat.lt_trans (by decide) g3.1) (show 4 * i+2<100 by lia);have v4:=Zb8 (c:=c4) (Nat.lt_trans (by decide) g4.1) (show 4 * i+3<100 by lia);have ne:∀{x y:Str} {m n:Nat},Zjq x=m->Zjq y=n->m≠n->x≠y:=fun hx hy hn z=>hn (by rw [<-hx,<-hy,z])
 have nd:[Yx k1 c1 (4 * i),Yx k2 c2 (4 * i+1),Yx k3 c3 (4 * i+2),Yx k4 c4 (4 * i+3)].Nodup:=by
  simp [ne v1 v2 (by lia),ne v1 v3 (by lia),ne v1 v4 (by lia),ne v2 v3 (by lia),ne v2 v4 (by lia),ne v3 v4 (by lia)]
 have all:∀n∈[Yx k1 c1 (4 * i),Yx k2 c2 (4 * i+1),Yx k3 c3 (4 * i+2),Yx k4 c4 (4 * i+3)],4 * i<=Zjq n/\2<=n.length/\Zp3 n (4 * (i+1)):=by
  intro n hn;simp only [List.mem_cons,List.mem_nil_iff,or_false] at hn;rcases hn with rfl|rfl|rfl|rfl
  ·exact ⟨by lia,Zb0 (by lia),_,_,_,g1,by lia,rfl⟩
  ·exact ⟨by lia,Zb0 (by lia),_,_,_,g2,by lia,rfl⟩
  ·exact ⟨by lia,Zb0 (by lia),_,_,_,g3,by lia,rfl⟩
  ·exact ⟨by lia,Zb0 (by lia),_,_,_,g4,by lia,rfl⟩
 refine ⟨h.net.more B nd fun n hn hm=>?_,?_,?_,?_⟩
 ·obtain ⟨p,hp,rfl⟩:=List.mem_map.mp hm;obtain ⟨a1,a2,_⟩:=all _ hn;rcases h.nm p hp with z|⟨kd,c,k,hk,c7,e⟩
  ·exact Zs7 (x := "g") (by trivial) a2 (by rw [z])
  ·rw [e,Zb8 (Nat.lt_trans (by decide) hk.1) (by lia)] at a1;lia
 ·have:=B.len.1;have:=h.pl;rw [List.length_append];lia
 ·have:=B.len.2;have:=h.jl;rw [List.length_append,List.length_append];show _+_+1<=_;lia
 ·intro p hp;rcases List.mem_append.mp hp with z|z
  ·rcases h.nm p z with y|⟨kd,c,k,hk,c7,e⟩
   ·exact .inl y
   ·exact .inr ⟨kd,c,k,hk,by lia,e⟩
  ·exact .inr (all _ (B.sub.subset (List.mem_map.mpr ⟨p,z,rfl⟩))).2.2
theorem Zea.done{i:Nat}{ps:List Zc}{js:List (Zc×Zc)}{G0:Zc}(h:Zea i ps js G0)(hi:i<20):Net (ps++[(("gate" :Str),("h" :Str))]) (js++[(G0,(("h" :Str),("a" :Str)))]) []:=by
 have F5:("h" :Str)∉ps.map Prod.snd:=fun z=>by
  obtain ⟨p,hp,e⟩:=List.mem_map.mp z;rcases h.nm p hp with y|⟨kd,c,k,hk,c7,y⟩
  ·rw [y] at e;exact absurd e (by trivial)
  ·exact Zs7 (x := "h") (by trivial) (Zb0 (kind:=kd) (c:=c) (k:=k) (by lia)) (by rw [<-y];exact e)
 have hc:G0.1∈ps.map Prod.snd:=Ze5 (h.net.perm.subset (by simp));refine ⟨?_,?_,?_,?_⟩
 ·rw [Zdt,Zgk,List.append_nil];have he:Y9 [("gate", "h")]=([("h", "a")]:List Zc):=by simp [Y9,Zf0 (k := "gate") (.inl rfl)]
  rw [he];show (Xm js++([G0]++[(("h" :Str),("a" :Str))])).Perm _;rw [<-List.append_assoc];exact List.Perm.append_right _ h.net.perm
 ·rw [List.map_append,List.nodup_append];exact ⟨h.net.nd,by simp,fun x hx y hy z=>by simp at hy;rw [z,hy] at hx;exact F5 hx⟩
 ·intro j hj;rcases List.mem_append.mp hj with z|z
  ·exact h.net.apart j z
  ·simp at z;subst z;exact fun y=>F5 (by have y:G0.1=("h" :Str):=y;rw [<-y];exact hc)
 ·intro p hp;rcases List.mem_append.mp hp with z|z
  ·exact h.net.kind p z
  ·simp at z;subst z;simp [Zak]
def W1(j:Nat):Str := "e" ++ Zix j
def Zg1(Yo:List Zc)(i:Nat)(A0:List Zc)(B2:List (Zc×Zc)):Prop:=∃ks:List Str,ks.length=i/\(∀k∈ks,k = "gate" \/k = "stop")/\A0=(List.range i).map (fun j=>(ks.getD j "gate",W1 j))/\B2=(List.range i).map (fun j=>(Yo.getD j ("", ""),(W1 j,("a" :Str))))
theorem Zg1.more{Yo:List Zc}{i:Nat}{A0:List Zc}{B2:List (Zc×Zc)}{k:Str}{q:Zc}(h:Zg1 Yo i A0 B2) (hk:k = "gate" \/k = "stop") (hq:Yo[i]? =some q):Zg1 Yo (i+1) (A0++[(k,W1 i)]) (B2++[(q,(W1 i,("a" :Str)))]):=by
 obtain ⟨ks,hl,hks,rfl,rfl⟩:=h;refine ⟨ks++[k],by rw [List.length_append,hl];rfl,?_,?_,?_⟩
 ·intro x hx;rcases List.mem_append.mp hx with z|z
  ·exact hks x z
  ·simp at z;rw [z];exact hk
 ·rw [List.range_succ,List.map_append];congr 1
  ·refine List.map_congr_left fun j hj=>?_
   have hj:=List.mem_range.mp hj;rw [List.getD_eq_getElem?_getD,List.getD_eq_getElem?_getD,List.getElem?_append_left (by lia)]
  ·show [(k,W1 i)]=[((ks++[k]).getD i "gate",W1 i)];rw [List.getD_eq_getElem?_getD,List.getElem?_append_right (by lia),hl,Nat.sub_self]
   rfl
 ·rw [List.range_succ,List.map_append];congr 1;show [(q,(W1 i,("a" :Str)))]=[(Yo.getD i ("", ""),(W1 i,("a" :Str)))];rw [List.getD_eq_getElem?_getD,hq]
  rfl
theorem Zwt(k:Str):(Yw k).Nodup:=by
 unfold Yw;split
 ·decide +kernel
 ·split
  ·decide +kernel
  ·split <;>decide +kernel
theorem Za2:∀{ps:List Zc},(ps.map Prod.snd).Nodup->(Y9 ps).Nodup
 | [],_=>List.nodup_nil
 | p ::ps,h=>by
  rw [List.map_cons,List.nodup_cons] at h;rw [show Y9 (p ::ps)=((Yw p.1).map fun e=>(p.2,e))++Y9 ps from List.flatMap_cons ..,List.nodup_append];refine ⟨?_,Za2 h.2,?_⟩
  ·refine List.Pairwise.map _ (fun a b z y=>z ?_) (Zwt p.1);exact (Prod.mk.inj y).2
  ·intro x hx y hy z;obtain ⟨e,_,rfl⟩:=List.mem_map.mp hx;rw [<-z] at hy;exact h.1 (Ze5 hy)
theorem Net.ond{ps:List Zc}{js:List (Zc×Zc)}{o:List Zc}(h:Net ps js o):o.Nodup:=by
 have:=(h.perm.nodup_iff).mpr (Za2 h.nd);exact (List.nodup_append.mp this).2.1
theorem Net.add{ps:List Zc}{js:List (Zc×Zc)}{o:List Zc}{k n:Str}(h:Net ps js o)(hn:n∉ps.map Prod.snd)(hk:k∈Zak):Net (ps++[(k,n)]) js (o++(Yw k).map fun e=>(n,e)):=by
 refine ⟨?_,?_,h.apart,?_⟩
 ·rw [Zgk,<-List.append_assoc];have:Y9 [(k,n)]=(Yw k).map fun e=>(n,e):=by simp [Y9]
  rw [this];exact List.Perm.append_right _ h.perm
 ·rw [List.map_append,List.nodup_append];exact ⟨h.nd,by simp,fun x hx y hy z=>by simp at hy;rw [z,hy] at hx;exact hn hx⟩
 ·intro p hp;rcases List.mem_append.mp hp with z|z
  ·exact h.kind p z
  ·simp at z;rw [z];exact hk
theorem Net.join{ps:List Zc}{js:List (Zc×Zc)}{o o':List Zc}{a b:Zc}(h:Net ps js o)(hp:(a ::b ::o').Perm o)(ne:a.1≠b.1):Net ps (js++[(a,b)]) o':=by
 refine ⟨?_,h.nd,?_,h.kind⟩
 ·rw [Zdt];refine List.Perm.trans ?_ h.perm;show (Xm js++[a,b]++o').Perm _;rw [List.append_assoc];exact List.Perm.append_left _ hp
 ·intro j hj;rcases List.mem_append.mp hj with z|z
  ·exact h.apart j z
  ·simp at z;rw [z];exact ne
theorem Zgz{α:Type}:∀{l:List α} {i:Nat} {a:α},l[i]? =some a->(a ::l.eraseIdx i).Perm l
 | [],_,_,h=>by cases h
 | x ::l,0,a,h=>by cases h;exact List.Perm.refl _
 | x ::l,i+1,a,h=>by
  rw [List.eraseIdx_cons_succ];exact (List.Perm.swap x a _).trans ((Zgz (l:=l) h).cons x)
theorem Zwq{α:Type}{l m:List α}{i j:Nat}{a b:α}(ha:l[i]? =some a)(hb:m[j]? =some b):(a ::b ::(l.eraseIdx i++m.eraseIdx j)).Perm (l++m):=by
 refine List.Perm.trans ?_ ((Zgz ha).append (Zgz hb));show List.Perm _ (a ::(l.eraseIdx i++(b ::m.eraseIdx j)));exact (List.perm_middle.symm).cons a
theorem Zu1{l:List Zc}{a:Zc}(nd:l.Nodup)(ha:a∈l):(a ::l.filter fun e=>decide (e≠a)).Perm l:=by
 induction l with
 | nil=>cases ha
 | cons x l ih =>
  rw [List.nodup_cons] at nd
  by_cases z:x=a
  ·subst z;rw [List.filter_cons,if_neg (by simp)];have:(l.filter fun e=>decide (e≠x))=l:=List.filter_eq_self.mpr fun e he=>decide_eq_true fun y=>nd.1 (y ▸ he)
   rw [this]
  ·rw [List.filter_cons,if_pos (decide_eq_true z)];have R3:a∈l:=by
    rcases List.mem_cons.mp ha with y|y
    ·exact absurd y.symm z
    ·exact y
   exact (List.Perm.swap x a _).trans ((ih nd.2 R3).cons x)
theorem Zuz{r:Zc}{l:List Zc}{a:Zc}(nd:(r ::l).Nodup)(ha:a∈l):(a ::r ::l.filter fun e=>decide (e≠a)).Perm (r ::l) :=
 (List.Perm.swap r a _).trans ((Zu1 (List.nodup_cons.mp nd).2 ha).cons r)
theorem Zth{j:Nat}(h:j<100):Zjq (W1 j)=j:=by
 unfold W1 Zjq;rw [Za8,List.foldl_append];exact Zph j h
theorem Zub:∀k,k<100->(Zix k).cps.toList.getD 0 0<=57:=by trivial
theorem Zvc{kd:Str}{c:Int}{k j:Nat}(hj:j<100)(hk:kd.cps.toList.getD 0 0≠101):Yx kd c k≠W1 j:=by
 intro z;have z':=congrArg (fun s:Str=>s.cps.toList) z;have he:(W1 j).cps.toList=101 ::(Zix j).cps.toList:=by unfold W1;rw [Za8];rfl
 simp only [he] at z';unfold Yx at z';split at z'
 ·rw [Za8] at z';exact hk (List.cons.inj z').1
 ·rw [Za8,Za8,Za8] at z';have b0:=Int.emod_nonneg (c / 78) (show (26:Int)≠0 by decide);have b1:=Int.emod_lt_of_pos (c / 78) (show (0:Int)<26 by decide);have hb:=Zn1 b0 b1;have z2:=(List.cons.inj z').2;have hf:=Zub j hj;rw [<-z2] at hf;have:Zdn (c / 78%26)<=57:=hf;lia
theorem Net.closed{ps:List Zc}{js:List (Zc×Zc)}{Yo A0:List Zc}{B2:List (Zc×Zc)}(h:Net ps js Yo)(hc:Zg1 Yo Yo.length A0 B2)(hl:Yo.length<=90)(hn:∀j,j<90->W1 j∉ps.map Prod.snd):Net (ps++A0) (js++B2) []:=by
 obtain ⟨ks,hkl,hks,rfl,rfl⟩:=hc;have F5:∀n,n<=Yo.length->Net (ps++(List.range n).map fun j=>(ks.getD j "gate",W1 j)) (js++(List.range n).map fun j=>(Yo.getD j ("", ""),(W1 j,("a" :Str)))) (Yo.drop n):=by
  intro n
  induction n with
  | zero=>intro _;simpa using h
  | succ n ih =>
   intro hn';have h0:=ih (by lia);have c7:n<Yo.length:=by lia
   have M1:ks.getD n "gate" = "gate" \/ks.getD n "gate" = "stop" :=hks _ (by
    rw [List.getD_eq_getElem?_getD,List.getElem?_eq_getElem (by lia)];exact List.getElem_mem _)
   have i7:W1 n∉(ps++(List.range n).map fun j=>(ks.getD j "gate",W1 j)).map Prod.snd:=by
    rw [List.map_append,List.mem_append];rintro (z|z)
    ·exact hn n (by lia) z
    ·rw [List.map_map] at z;obtain ⟨j,hj,e⟩:=List.mem_map.mp z;have hj:=List.mem_range.mp hj;have:=congrArg Zjq e;rw [Zth (by lia)] at this;have h2:Zjq (W1 j)=n:=this;rw [Zth (by lia)] at h2;lia
   have h1:=h0.add i7 (k:=ks.getD n "gate") (by rcases M1 with z|z <;>rw [z] <;>simp [Zak]);rw [Zf0 M1] at h1;have hd:Yo.drop n=Yo.getD n ("", "") ::Yo.drop (n+1):=by
    rw [List.drop_eq_getElem_cons c7,List.getD_eq_getElem?_getD,List.getElem?_eq_getElem c7]
    rfl
   have hin:(Yo.getD n ("", "")).1≠W1 n:=by
    have:Yo.getD n ("", "")∈Yo.drop n:=by rw [hd];simp
    have h3:=Ze5 (h0.perm.subset (List.mem_append_right _ this));exact fun z=>i7 (z ▸ h3)
   have h2:=h1.join (a:=Yo.getD n ("", "")) (b:=(W1 n, "a")) (o':=Yo.drop (n+1)) (by
    rw [hd];show List.Perm _ (Yo.getD n ("", "") ::(Yo.drop (n+1)++[(W1 n,("a" :Str))]));exact (List.perm_append_singleton _ _).symm.cons _) hin
   rw [List.range_succ,List.map_append,List.map_append,<-List.append_assoc,<-List.append_assoc];exact h2
 have:=F5 Yo.length (Nat.le_refl _);rwa [List.drop_length] at this
end YM
end
section
namespace YM
open PySem L2 NM
theorem Zj8:∀k∈Zak,57<k.cps.toList.getD 0 0/\k.cps.toList.getD 0 0≠101/\0<k.length/\k.length<=6/\(Yw k).length<=4/\0<(Yw k).length:=by trivial
def nmD(s:Str)(n:Nat):Prop:=∃kd∈Zak,∃(c:Int) (k:Nat),k<n/\s=Yx kd c k
structure Xx(i m:Nat)(ps:List Zc)(js:List (Zc×Zc))(Yo:List Zc):Prop where
 net:Net ps js Yo
 sum:ps.length+Yo.length<=39
 jl:js.length<=m
 nm:∀p∈ps,nmD p.2 i
theorem Xx.start:Xx 0 0 [] [] []:=⟨⟨List.Perm.refl _,List.nodup_nil,by simp,by simp⟩,by simp,by simp,by simp⟩
theorem Xx.mono{i m i' m':Nat}{ps:List Zc}{js:List (Zc×Zc)}{Yo:List Zc}(h:Xx i m ps js Yo)(hi:i<=i')(hm:m<=m'):Xx i' m' ps js Yo :=
 ⟨h.net,h.sum,Nat.le_trans h.jl hm,fun p hp=>let ⟨kd,h1,c,k,h2,h3⟩:=h.nm p hp;⟨kd,h1,c,k,by lia,h3⟩⟩
theorem Xx.new{i m:Nat}{ps:List Zc}{js:List (Zc×Zc)}{Yo:List Zc}{kd:Str}{c:Int}(h:Xx i m ps js Yo)(hi:i<100)(hk:kd∈Zak):Yx kd c i∉ps.map Prod.snd:=fun z=>by
 obtain ⟨p,hp,e⟩:=List.mem_map.mp z;obtain ⟨kd',h1,c',k,h2,h3⟩:=h.nm p hp;have:=congrArg Zjq (e.symm.trans h3);rw [Zb8 (Zj8 _ hk).1 hi,Zb8 (Zj8 _ h1).1 (by lia)] at this;lia
theorem Xx.add{i m:Nat}{ps:List Zc}{js:List (Zc×Zc)}{Yo:List Zc}{kd:Str}{c:Int}(h:Xx i m ps js Yo)(hi:i<100)(hk:kd∈Zak)(hs:ps.length+Yo.length+(Yw kd).length<=38):Xx (i+1) m (ps++[(kd,Yx kd c i)]) js (Yo++(Yw kd).map fun e=>(Yx kd c i,e)):=by
 refine ⟨h.net.add (h.new hi hk) hk,?_,h.jl,?_⟩
 ·rw [List.length_append,List.length_append,List.length_map];show _+1+_<=39;lia
 ·intro p hp;rcases List.mem_append.mp hp with z|z
  ·exact (h.mono (Nat.le_succ i) (Nat.le_refl m)).nm p z
  ·simp at z;rw [z];exact ⟨kd,hk,c,i,by lia,rfl⟩
theorem Xx.join{i m:Nat}{ps:List Zc}{js:List (Zc×Zc)}{o o':List Zc}{a b:Zc}(h:Xx i m ps js o)(hp:(a ::b ::o').Perm o)(ne:a.1≠b.1):Xx i (m+1) ps (js++[(a,b)]) o':=by
 refine ⟨h.net.join hp ne,?_,?_,h.nm⟩
 ·have:=h.sum;have hl:=hp.length_eq;simp at hl;lia
 ·rw [List.length_append];exact Nat.succ_le_succ h.jl
theorem Xx.done{i m:Nat}{ps:List Zc}{js:List (Zc×Zc)}{Yo A0:List Zc}{B2:List (Zc×Zc)}(h:Xx i m ps js Yo)(hi:i<=100)(hc:Zg1 Yo Yo.length A0 B2):Net (ps++A0) (js++B2) []:=by
 have hs:=h.sum;refine h.net.closed hc (by lia) fun j hj z=>?_
 obtain ⟨p,hp,e⟩:=List.mem_map.mp z;obtain ⟨kd',h1,c',k,h2,h3⟩:=h.nm p hp;exact Zvc (by lia) (Zj8 _ h1).2.1 (h3.symm.trans e)
theorem Zhg{α β:Type}{R:α->β->Prop}:∀{l:List α} {m:List β},Paired R l m->∀i,Paired R (l.eraseIdx i) (m.eraseIdx i)
 | _,_,.nil,_=>.nil
 | _,_,.cons r t,0=>t
 | _,_,.cons r t,i+1=>.cons r (Zhg t i)
theorem Znm{α β:Type}(f:α->β):∀(l:List α) (i:Nat),(l.map f).eraseIdx i=(l.eraseIdx i).map f
 | [],_=>rfl
 | _ ::_,0=>rfl
 | x ::l,i+1=>by rw [List.map_cons,List.eraseIdx_cons_succ,List.eraseIdx_cons_succ,List.map_cons,Znm f l i]
end YM
end
section
namespace L2
open PySem PySem.Spec PyProof.Rows
theorem ixT{K:Frag}{H:Hp}{a:Addr}{xs:List V}{v:V}{Q:VK}(h:H a=some (.tup xs))(j:Nat)(e:xs[j]? =some v)(q:Q v H):rIx K (.ref a) (.int (j:Nat)) H Q:=.inr (.inl ⟨a,xs,j,v,rfl,rfl,SqT.of h,Yr e,q⟩)
theorem ixV{K:Frag}{H:Hp}{a:Addr}{xs:List V}{v:V}{i:Int}{Q:VK}(h:H a=some (.tup xs))(e:atI xs i=some v)(q:Q v H):rIx K (.ref a) (.int i) H Q:=.inr (.inl ⟨a,xs,i,v,rfl,rfl,SqT.of h,e,q⟩)
theorem Zv{X:Cx}{K:Frag}{a b:Expr}{ta tb:TE}{pos:Pos}(hK:X.K=K)(ha:PE X a ta)(hb:PE X b tb)(hs:Zsv b:=by exact fun _ _=>rfl):PE X (.Subscript a b pos) (tOp (rIx K) ta tb):=by subst hK;exact Ybd Yae ha hb hs
theorem szA{n:Nat}(h:n<=1000:=by simp):n<=sizeLine:=sz h
end L2
namespace L2
theorem exR{α:Sort u}{p R:α->Prop}{w:α}(h:p w)(k:R w):∃x,p x/\R x:=⟨w,h,k⟩
theorem exQ{α:Sort u}{β:Sort v}{p R:α->β->Prop}{q:α->β->Prop}{w:α}{z:β}(h:p w z)(g:q w z)(k:R w z):∃x y,p x y/\q x y/\R x y:=⟨w,z,h,g,k⟩
end L2
namespace K53
open PySem L2 NM
def top(i:Nat):Stmt:=PySem.Challenge.pw_yardkeep_k53_going_on.main.body.getD i (.Pass ⟨0,0,0,0⟩)
abbrev Zir:Stmt:=top 11
theorem Zr0:Zn ["thing"] ["thing"] (Zh Zir):={}
abbrev Zbp:Stmt:=Yi (top 12) 0
theorem Zih:Zn ["self", "name"] ["self", "name"] (Zh Zbp):={}
abbrev Zfm:Stmt:=Yi (top 12) 1
theorem Zo0:Zn ["self"] ["self"] (Zh Zfm):={}
abbrev Zfn:Stmt:=Yi (top 12) 2
theorem Zot:Zn ["self"] ["self"] (Zh Zfn):={}
abbrev Zem:Stmt:=Yi (top 12) 3
theorem Zmo:Zn ["self", "lie"] ["self", "lie"] (Zh Zem):={}
abbrev Wu:Stmt:=Yi (top 12) 4
theorem Zc8:Zn ["self", "end", "lie", "one", "two"] ["self", "end", "lie"] (Zh Wu):={}
abbrev Zd4:Stmt:=Yi (top 12) 5
theorem Zmm:Zn ["self"] ["self"] (Zh Zd4):={}
abbrev Ze2:Stmt:=Yi (top 14) 0
theorem Zom:Zn ["self"] ["self"] (Zh Ze2):={}
abbrev Zd0:Stmt:=Yi (top 14) 1
theorem Zmj:Zn ["self", "lie"] ["self", "lie"] (Zh Zd0):={}
abbrev Zcz:Stmt:=Yi (top 16) 0
theorem Zlv:Zn ["self"] ["self"] (Zh Zcz):={}
abbrev Zc0:Stmt:=Yi (top 16) 1
theorem Zl6:Zn ["self"] ["self"] (Zh Zc0):={}
abbrev Zca:Stmt:=Yi (top 16) 2
theorem Zjp:Zn ["self", "lie"] ["self", "lie"] (Zh Zca):={}
abbrev Zcg:Stmt:=Yi (top 16) 3
theorem Zjd:Zn ["self"] ["self"] (Zh Zcg):={}
abbrev Zel:Stmt:=Yi (top 17) 0
theorem Znb:Zn ["self"] ["self"] (Zh Zel):={}
abbrev Zdg:Stmt:=Yi (top 17) 1
theorem Zko:Zn ["self", "lie"] ["self", "lie"] (Zh Zdg):={}
abbrev Zda:Stmt:=Yi (top 17) 2
theorem Zkw:Zn ["self"] ["self"] (Zh Zda):={}
abbrev Zij:Stmt:=top 21
theorem Zrz:Zn ["thing"] ["thing"] (Zh Zij):={}
abbrev Zgj:Stmt:=top 22
theorem Zqz:Zn ["end", "ends"] ["end", "ends"] (Zh Zgj):={}
abbrev Zdd:Stmt:=top 23
theorem Zlx:Zn ["name", "known"] ["name", "known"] (Zh Zdd):={}
abbrev Zbn:Stmt:=top 24
theorem Za3:Zn ["parts", "part_of", "part"] ["parts"] (Zh Zbn):={}
abbrev Zbr:Stmt:=top 25
theorem X6:Zn ["part_of", "part_at", "name", "part", "end"] ["part_of"] (Zh Zbr):={}
abbrev Zc1:Stmt:=top 26
theorem Zfh:Zn ["join", "part_at", "joined", "end"] ["join", "part_at", "joined"] (Zh Zc1):={}
abbrev Zc4:Stmt:=top 27
theorem Zb5:Zn ["joins", "part_at", "joined", "join"] ["joins", "part_at"] (Zh Zc4):={}
abbrev Zcy:Stmt:=top 28
theorem Zkp:Zn ["end", "part_at", "ends_with_signals"] ["end", "part_at", "ends_with_signals"] (Zh Zcy):={}
abbrev Zgx:Stmt:=top 29
theorem Zbf:Zn ["signals", "part_at", "post_of", "signal", "name", "end"] ["signals", "part_at"] (Zh Zgx):={}
abbrev Xj:Stmt:=Yi (top 30) 0
theorem W9:Zn ["self", "parts", "joins", "signals", "asked_signals", "part_at"] ["self", "parts", "joins", "signals"] (Zh Xj):={}
abbrev Zb1:Stmt:=Yi (top 30) 1
theorem Zje:Zn ["self"] ["self"] (Zh Zb1):={}
abbrev Zcc:Stmt:=Yi (top 30) 2
theorem Zep:Zn ["self", "name"] ["self", "name"] (Zh Zcc):={}
abbrev Zbq:Stmt:=Yi (top 30) 3
theorem Zh2:Zn ["self", "end"] ["self", "end"] (Zh Zbq):={}
abbrev Zaa:Stmt:=Yi (top 30) 4
theorem Zf6:Zn ["self", "end"] ["self", "end"] (Zh Zaa):={}
abbrev Zgp:Stmt:=top 31
theorem Zqe:Zn ["tracks"] ["tracks"] (Zh Zgp):={}
abbrev Ze1:Stmt:=top 32
theorem Zpk:Zn ["tracks"] ["tracks"] (Zh Ze1):={}
abbrev Zbo:Stmt:=top 33
theorem Zit:Zn ["tracks"] ["tracks"] (Zh Zbo):={}
abbrev Zdc:Stmt:=top 36
theorem Zli:Zn ["tracks", "gate"] ["tracks", "gate"] (Zh Zdc):={}
abbrev Zbm:Stmt:=top 37
theorem Zii:Zn ["long"] ["long"] (Zh Zbm):={}
abbrev Zbl:Stmt:=top 38
theorem Zip:Zn ["tracks", "points"] ["tracks", "points"] (Zh Zbl):={}
abbrev Zd2:Stmt:=top 39
theorem Zmw:Zn ["tracks", "points", "lie"] ["tracks", "points", "lie"] (Zh Zd2):={}
abbrev Za0:Stmt:=Yi (top 41) 0
theorem Zhl:Zn ["self", "name", "long", "gate"] ["self", "name", "long", "gate"] (Zh Za0):={}
abbrev Zaw:Stmt:=Yi (top 42) 0
theorem Zhe:Zn ["self", "tracks"] ["self", "tracks"] (Zh Zaw):={}
abbrev W0:Stmt:=Yi (top 42) 1
theorem Zfa:Zn ["self", "name"] ["self", "name"] (Zh W0):={}
abbrev Zcb:Stmt:=Yi (top 42) 2
theorem Zjm:Zn ["self", "spot"] ["self", "spot"] (Zh Zcb):={}
abbrev Zaf:Stmt:=Yi (top 42) 3
theorem Zgf:Zn ["self", "spot"] ["self", "spot"] (Zh Zaf):={}
abbrev Zd6:Stmt:=Yi (top 42) 4
theorem Zf9:Zn ["self", "train", "spot", "mishap"] ["self", "train", "spot"] (Zh Zd6):={}
abbrev Zd9:Stmt:=Yi (top 42) 5
theorem Zmb:Zn ["self", "name", "long", "gate"] ["self", "name", "long", "gate"] (Zh Zd9):={}
abbrev Zgw:Stmt:=Yi (top 42) 6
theorem Zbc:Zn ["self", "name", "shows", "train", "head", "end", "signal"] ["self", "name", "shows"] (Zh Zgw):={}
abbrev Zdi:Stmt:=Yi (top 42) 7
theorem Zfi:Zn ["self", "name", "train"] ["self", "name"] (Zh Zdi):={}
abbrev Zec:Stmt:=Yi (top 42) 9
theorem Zmv:Zn ["self", "points", "lie"] ["self", "points", "lie"] (Zh Zec):={}
abbrev Zc9:Stmt:=Yi (top 42) 11
theorem Zl3:Zn ["self", "name"] ["self", "name"] (Zh Zc9):={}
abbrev Zcf:Stmt:=Yi (top 42) 12
theorem Zjx:Zn ["self"] ["self"] (Zh Zcf):={}
abbrev Zdj:Stmt:=Yi (top 42) 13
theorem Zac:Zn ["self", "told", "train", "spot"] ["self"] (Zh Zdj):={}
abbrev Zal:Stmt:=Yi (top 42) 14
theorem Zg5:Zn ["self"] ["self"] (Zh Zal):={}
abbrev Zeb:Stmt:=top 44
theorem Zgd:Zn ["_law_cell", "_law_k", "_law_left"] ["_law_cell", "_law_k"] (Zh Zeb):={}
abbrev Zce:Stmt:=top 45
theorem Zjr:Zn ["_law_script", "_law_k"] ["_law_script", "_law_k"] (Zh Zce):={}
abbrev Zd3:Stmt:=top 46
theorem Zmz:Zn ["_law_script", "_law_at", "_law_end"] ["_law_script", "_law_at", "_law_end"] (Zh Zd3):={}
abbrev Zey:Stmt:=top 47
theorem Zpj:Zn ["_law_kind_here"] ["_law_kind_here"] (Zh Zey):={}
abbrev Zb9:Stmt:=top 48
theorem Zbj:Zn ["_law_kind_here", "_law_cell", "_law_k", "_law_letters", "_law_signs"] ["_law_kind_here", "_law_cell", "_law_k"] (Zh Zb9):={}
abbrev Zdu:Stmt:=top 49
theorem Z8:Zn ["_law_cell", "_law_names", "_law_one", "_law_two", "_law_three", "_law_four", "_law_way", "_law_ends_here", "_law_far", "_law_joins", "_law_parts", "_law_turn", "_law_aside", "_law_rest"] ["_law_cell", "_law_names"] (Zh Zdu):={}
abbrev Zfp:Stmt:=top 50
theorem Y7:Zn ["_law_cells_here", "_law_parts", "_law_joins", "_law_end", "_law_k", "_law_cell", "_law_names", "_law_j", "_law_block_here"] ["_law_cells_here"] (Zh Zfp):={}
abbrev Zc2:Stmt:=top 51
theorem Zar:Zn ["_law_parts", "_law_joins", "_law_rest", "_law_cell", "_law_j", "_law_end", "_law_name"] ["_law_parts", "_law_joins", "_law_rest", "_law_cell"] (Zh Zc2):={}
abbrev Zee:Stmt:=top 52
theorem Yp:Zn ["_law_cells_here", "_law_parts", "_law_joins", "_law_rest", "_law_k", "_law_cell", "_law_kind_here", "_law_ends_here", "_law_name", "_law_fresh", "_law_near", "_law_other"] ["_law_cells_here"] (Zh Zee):={}
abbrev Zaj:Stmt:=top 53
theorem Yd:Zn ["_law_parts", "_law_cell", "_law_letters", "_law_ends_here", "_law_kind_here", "_law_name", "_law_end", "_law_found", "_law_k", "_law_draw", "_law_signs"] ["_law_parts", "_law_cell"] (Zh Zaj):={}
abbrev Zck:Stmt:=top 54
theorem Xn:Zn ["_law_cells_here", "_law_cell", "_law_found", "_law_parts", "_law_joins", "_law_at"] ["_law_cells_here", "_law_cell"] (Zh Zck):={}
abbrev Zfd:Stmt:=top 55
theorem Zo3:Zn ["_law_kind_here", "_law_name"] ["_law_kind_here", "_law_name"] (Zh Zfd):={}
abbrev Zc5:Stmt:=top 56
theorem Zlq:Zn ["_law_yard"] ["_law_yard"] (Zh Zc5):={}
abbrev Zdx:Stmt:=top 57
theorem Zm4:Zn ["_law_kind_here", "_law_end", "_law_lie"] ["_law_kind_here", "_law_end", "_law_lie"] (Zh Zdx):={}
abbrev Zc7:Stmt:=top 58
theorem Zch:Zn ["_law_joins", "_law_end", "_law_one", "_law_other"] ["_law_joins", "_law_end"] (Zh Zc7):={}
abbrev Zdb:Stmt:=top 59
theorem Zat:Zn ["_law_signals", "_law_end", "_law_name", "_law_place", "_law_spot"] ["_law_signals", "_law_end"] (Zh Zdb):={}
abbrev Zeu:Stmt:=top 60
theorem Zo5:Zn ["_law_yard", "_law_name"] ["_law_yard", "_law_name"] (Zh Zeu):={}
abbrev Zex:Stmt:=top 61
theorem Xr:Zn ["_law_yard", "_law_state", "_law_name", "_law_passes", "_law_long", "_law_spots", "_law_part_here", "_law_end", "_law_way", "_law_signal_here", "_law_there", "_law_kind_here"] ["_law_yard", "_law_state", "_law_name", "_law_passes"] (Zh Zex):={}
abbrev Zek:Stmt:=top 62
theorem Za7:Zn ["_law_state", "_law_found", "_law_name"] ["_law_state"] (Zh Zek):={}
abbrev Yu:Stmt:=top 64
theorem Zmd:Zn ["_law_cell", "_law_asked", "_law_passes"] ["_law_cell", "_law_asked"] (Zh Yu):={}
abbrev Zis:Stmt:=top 65
theorem Zeg:Zn ["_law_world", "_law_yard", "_law_state", "_law_name", "_law_cell", "_law_asked", "_law_due", "_law_way"] ["_law_world", "_law_yard", "_law_state", "_law_name", "_law_cell"] (Zh Zis):={}
abbrev Zga:Stmt:=top 66
abbrev Wy:Stmt:=top 67
theorem Yg:Zn ["_law_lie", "_law_other", "_law_parts", "_law_joins", "_law_world", "_law_words", "_law_fresh"] ["_law_lie", "_law_other"] (Zh Wy):={}
abbrev Zdv:Stmt:=top 68
theorem Wj:Zn ["_law_long", "_law_parts", "_law_joins", "_law_world", "_law_words"] ["_law_long"] (Zh Zdv):={}
abbrev Zaq:Stmt:=top 69
theorem Zb7:Zn ["_law_long", "_law_one"] ["_law_long"] (Zh Zaq):={}
abbrev Zhk:Stmt:=top 70
theorem Wl:Zn ["_law_script", "_law_yard", "_law_lies", "_law_long", "_law_world", "_law_state", "_law_name", "_law_k", "_law_one", "_law_gates", "_law_names", "_law_gate", "_law_held", "_law_cell"] ["_law_script"] (Zh Zhk):={}
set_option genInjectivity false in
set_option genSizeOf false in
structure Tx(K:Frag)(mg:Str->Option Value) where
 bF:Dn K "is_name" "is_name" Zir ["thing"]
 dD:mg "is_name" =some (.ref bF.f)
 ag:Dn K "__init__" "Part.__init__" Zbp ["self", "name"]
 ca:Dn K "ends" "Part.ends" Zfm ["self"]
 aK:Dn K "lies" "Part.lies" Zfn ["self"]
 bS:Dn K "pairs" "Part.pairs" Zem ["self", "lie"]
 aD:DnD K "leads" "Part.leads" Wu ["self", "end", "lie"] (.str "")
 aN:Dn K "bears" "Part.bears" Zd4 ["self"]
 ce:Dn K "ends" "Stop.ends" Ze2 ["self"]
 bT:Dn K "pairs" "Stop.pairs" Zd0 ["self", "lie"]
 cz:Dn K "ends" "Points.ends" Zcz ["self"]
 cA:Dn K "lies" "Points.lies" Zc0 ["self"]
 cg:Dn K "pairs" "Points.pairs" Zca ["self", "lie"]
 ci:Dn K "bears" "Points.bears" Zcg ["self"]
 cG:Dn K "ends" "Cross.ends" Zel ["self"]
 cB:Dn K "pairs" "Cross.pairs" Zdg ["self", "lie"]
 cD:Dn K "bears" "Cross.bears" Zda ["self"]
 bW:Dn K "is_pair" "is_pair" Zij ["thing"]
 fh:mg "is_pair" =some (.ref bW.f)
 ay:Dn K "is_known" "is_known" Zgj ["end", "ends"]
 cN:mg "is_known" =some (.ref ay.f)
 aA:Dn K "refuse_name" "refuse_name" Zdd ["name", "known"]
 cT:mg "refuse_name" =some (.ref aA.f)
 aT:Dn K "parts_by_name" "parts_by_name" Zbn ["parts"]
 dL:mg "parts_by_name" =some (.ref aT.f)
 aU:Dn K "ends_to_parts" "ends_to_parts" Zbr ["part_of"]
 dM:mg "ends_to_parts" =some (.ref aU.f)
 bq:Dn K "refuse_join" "refuse_join" Zc1 ["join", "part_at", "joined"]
 eM:mg "refuse_join" =some (.ref bq.f)
 br:Dn K "joined_ends" "joined_ends" Zc4 ["joins", "part_at"]
 eN:mg "joined_ends" =some (.ref br.f)
 bt:Dn K "refuse_post" "refuse_post" Zcy ["end", "part_at", "ends_with_signals"]
 eO:mg "refuse_post" =some (.ref bt.f)
 cj:Dn K "posts_of" "posts_of" Zgx ["signals", "part_at"]
 gk:mg "posts_of" =some (.ref cj.f)
 aj:DnD K "__init__" "Tracks.__init__" Xj ["self", "parts", "joins", "signals"] .non
 aO:Dn K "names" "Tracks.names" Zb1 ["self"]
 ak:Dn K "named" "Tracks.named" Zcc ["self", "name"]
 aV:Dn K "beyond" "Tracks.beyond" Zbq ["self", "end"]
 aJ:Dn K "signal_at" "Tracks.signal_at" Zaa ["self", "end"]
 ck:Dn K "gates_of" "gates_of" Zgp ["tracks"]
 gn:mg "gates_of" =some (.ref ck.f)
 bu:Dn K "points_of" "points_of" Ze1 ["tracks"]
 dE:mg "points_of" =some (.ref bu.f)
 aW:Dn K "lies_at_first" "lies_at_first" Zbo ["tracks"]
 dN:mg "lies_at_first" =some (.ref aW.f)
 bv:Dn K "refuse_gate" "refuse_gate" Zdc ["tracks", "gate"]
 eP:mg "refuse_gate" =some (.ref bv.f)
 aX:Dn K "refuse_length" "refuse_length" Zbm ["long"]
 dO:mg "refuse_length" =some (.ref aX.f)
 aY:Dn K "refuse_points" "refuse_points" Zbl ["tracks", "points"]
 dP:mg "refuse_points" =some (.ref aY.f)
 bH:Dn K "refuse_lie" "refuse_lie" Zd2 ["tracks", "points", "lie"]
 fo:mg "refuse_lie" =some (.ref bH.f)
 aL:Dn K "__init__" "Train.__init__" Za0 ["self", "name", "long", "gate"]
 aw:Dn K "__init__" "World.__init__" Zaw ["self", "tracks"]
 aq:Dn K "train_there" "World.train_there" W0 ["self", "name"]
 aP:Dn K "led_to" "World.led_to" Zcb ["self", "spot"]
 aQ:Dn K "mishap_at" "World.mishap_at" Zaf ["self", "spot"]
 bI:Dn K "move" "World.move" Zd6 ["self", "train", "spot"]
 aR:Dn K "come" "World.come" Zd9 ["self", "name", "long", "gate"]
 az:Dn K "go" "World.go" Zgw ["self", "name", "shows"]
 bO:Dn K "about" "World.about" Zdi ["self", "name"]
 aH:Dn K "turn" "World.turn" Zec ["self", "points", "lie"]
 aC:Dn K "spots" "World.spots" Zc9 ["self", "name"]
 bf:Dn K "trains" "World.trains" Zcf ["self"]
 ba:Dn K "taken" "World.taken" Zdj ["self"]
 am:Dn K "accidents" "World.accidents" Zal ["self"]
 ar:Dn K "_law_mixed" "_law_mixed" Zeb ["_law_cell", "_law_k"]
 cH:mg "_law_mixed" =some (.ref ar.f)
 ah:Dn K "_law_cell_at" "_law_cell_at" Zce ["_law_script", "_law_k"]
 bg:mg "_law_cell_at" =some (.ref ah.f)
 bJ:Dn K "_law_cells" "_law_cells" Zd3 ["_law_script", "_law_at", "_law_end"]
 fq:mg "_law_cells" =some (.ref bJ.f)
 bw:Dn K "_law_ends" "_law_ends" Zey ["_law_kind_here"]
 dF:mg "_law_ends" =some (.ref bw.f)
 aG:Dn K "_law_name_by" "_law_name_by" Zb9 ["_law_kind_here", "_law_cell", "_law_k"]
 cX:mg "_law_name_by" =some (.ref aG.f)
 bK:Dn K "_law_block" "_law_block" Zdu ["_law_cell", "_law_names"]
 fw:mg "_law_block" =some (.ref bK.f)
 bP:Dn K "_law_line" "_law_line" Zfp ["_law_cells_here"]
 ga:mg "_law_line" =some (.ref bP.f)
 bx:Dn K "_law_closed" "_law_closed" Zc2 ["_law_parts", "_law_joins", "_law_rest", "_law_cell"]
 eQ:mg "_law_closed" =some (.ref bx.f)
 bL:Dn K "_law_drawn" "_law_drawn" Zee ["_law_cells_here"]
 fz:mg "_law_drawn" =some (.ref bL.f)
 aE:Dn K "_law_signals_by" "_law_signals_by" Zaj ["_law_parts", "_law_cell"]
 dh:mg "_law_signals_by" =some (.ref aE.f)
 bh:Dn K "_law_yard_by" "_law_yard_by" Zck ["_law_cells_here", "_law_cell"]
 dW:mg "_law_yard_by" =some (.ref bh.f)
 bQ:Dn K "_law_part" "_law_part" Zfd ["_law_kind_here", "_law_name"]
 gc:mg "_law_part" =some (.ref bQ.f)
 bz:Dn K "_law_tracks" "_law_tracks" Zc5 ["_law_yard"]
 eR:mg "_law_tracks" =some (.ref bz.f)
 bc:Dn K "_law_leads" "_law_leads" Zdx ["_law_kind_here", "_law_end", "_law_lie"]
 di:mg "_law_leads" =some (.ref bc.f)
 bA:Dn K "_law_beyond" "_law_beyond" Zc7 ["_law_joins", "_law_end"]
 eS:mg "_law_beyond" =some (.ref bA.f)
 bB:Dn K "_law_signal" "_law_signal" Zdb ["_law_signals", "_law_end"]
 eT:mg "_law_signal" =some (.ref bB.f)
 bC:Dn K "_law_kind" "_law_kind" Zeu ["_law_yard", "_law_name"]
 dG:mg "_law_kind" =some (.ref bC.f)
 bR:Dn K "_law_gone" "_law_gone" Zex ["_law_yard", "_law_state", "_law_name", "_law_passes"]
 gd:mg "_law_gone" =some (.ref bR.f)
 bM:Dn K "_law_stood" "_law_stood" Zek ["_law_state"]
 fA:mg "_law_stood" =some (.ref bM.f)
 aS:Dn K "_law_shows" "_law_shows" Yu ["_law_cell", "_law_asked"]
 dk:mg "_law_shows" =some (.ref aS.f)
 cE:Dn K "_law_go" "_law_go" Zis ["_law_world", "_law_yard", "_law_state", "_law_name", "_law_cell"]
 gH:mg "_law_go" =some (.ref cE.f)
 av:Dn K "_law_always" "_law_always" Zga ["_law_signal_here"]
 aM:mg "_law_always" =some (.ref av.f)
 ax:Dn K "_law_both_at_once" "_law_both_at_once" Wy ["_law_lie", "_law_other"]
 df:mg "_law_both_at_once" =some (.ref ax.f)
 bN:Dn K "_law_round" "_law_round" Zdv ["_law_long"]
 fB:mg "_law_round" =some (.ref bN.f)
 aF:Dn K "_law_train_told" "_law_train_told" Zaq ["_law_long"]
 dl:mg "_law_train_told" =some (.ref aF.f)
 cP:Addr
 iA:mg "Part" =some (.ref cP)
 fE:Cls K cP
 gp:Xg K cP "name"
 iy:Mk K cP ag.f
 ge:Yb K cP "ends" ca.f
 gf:Yb K cP "lies" aK.f
 fF:Yb K cP "pairs" bS.f
 fG:Yb K cP "bears" aN.f
 fH:Yb K cP "leads" aD.f
 cm:Addr
 gJ:mg "Plain" =some (.ref cm)
 dn:Cls K cm
 dH:Xg K cm "name"
 gD:Mk K cm ag.f
 fJ:Yb K cm "ends" ca.f
 fK:Yb K cm "lies" aK.f
 eU:Yb K cm "pairs" bS.f
 eV:Yb K cm "bears" aN.f
 eW:Yb K cm "leads" aD.f
 bU:Addr
 gQ:mg "Stop" =some (.ref bU)
 dX:Cls K bU
 dY:Xg K bU "name"
 gS:Mk K bU ag.f
 gg:Yb K bU "ends" ce.f
 gh:Yb K bU "lies" aK.f
 fL:Yb K bU "pairs" bT.f
 fM:Yb K bU "bears" aN.f
 fN:Yb K bU "leads" aD.f
 bV:Addr
 fi:mg "Gate" =some (.ref bV)
 dZ:Cls K bV
 ee:Xg K bV "name"
 ef:Mk K bV ag.f
 gi:Yb K bV "ends" ce.f
 gj:Yb K bV "lies" aK.f
 fO:Yb K bV "pairs" bT.f
 fP:Yb K bV "bears" aN.f
 fQ:Yb K bV "leads" aD.f
 aI:Addr
 dR:mg "Points" =some (.ref aI)
 cY:Cls K aI
 dq:Xg K aI "name"
 eg:Mk K aI ag.f
 eX:Yb K aI "ends" cz.f
 eY:Yb K aI "lies" cA.f
 ei:Yb K aI "pairs" cg.f
 eo:Yb K aI "bears" ci.f
 er:Yb K aI "leads" aD.f
 cp:Addr
 gU:mg "Cross" =some (.ref cp)
 dv:Cls K cp
 dI:Xg K cp "name"
 gL:Mk K cp ag.f
 fR:Yb K cp "ends" cG.f
 fS:Yb K cp "lies" aK.f
 eZ:Yb K cp "pairs" cB.f
 fc:Yb K cp "bears" cD.f
 fe:Yb K cp "leads" aD.f
 aZ:Addr
 dS:mg "Tracks" =some (.ref aZ)
 ao:Cls K aZ
 bn:Xg K aZ "part_of"
 cI:Xg K aZ "joined"
 cV:Xg K aZ "post_of"
 bY:Xg K aZ "signal_on"
 dw:Mk K aZ aj.f
 cQ:Yb K aZ "names" aO.f
 cq:Yb K aZ "named" ak.f
 cW:Yb K aZ "beyond" aV.f
 dg:Yb K aZ "signal_at" aJ.f
 cJ:Addr
 gK:mg "Train" =some (.ref cJ)
 bZ:Cls K cJ
 dJ:Xg K cJ "name"
 cZ:Xg K cJ "long"
 bd:Xg K cJ "stands"
 gG:Mk K cJ aL.f
 bE:Addr
 fT:mg "World" =some (.ref bE)
 ac:Cls K bE
 be:Xg K bE "tracks"
 cO:Xg K bE "lie_of"
 bG:Xg K bE "train_of"
 cw:Xg K bE "mishaps"
 dU:Mk K bE aw.f
 cy:Yb K bE "train_there" aq.f
 cS:Yb K bE "led_to" aP.f
 dz:Yb K bE "mishap_at" aQ.f
 dA:Yb K bE "move" bI.f
 cK:Yb K bE "come" aR.f
 bD:Yb K bE "go" az.f
 ff:Yb K bE "about" bO.f
 cx:Yb K bE "turn" aH.f
 bX:Yb K bE "spots" aC.f
 de:Yb K bE "trains" bf.f
 cU:Yb K bE "taken" ba.f
 bi:Yb K bE "accidents" am.f
 cL:mg "len" =none
 dB:mg "range" =none
 bo:mg "isinstance" =none
 fU:mg "list" =none
 gq:mg "dict" =none
 gM:mg "tuple" =none
 et:mg "str" =none
 cF:mg "enumerate" =none
 ia:mg "max" =none
 ib:mg "min" =none
 ic:mg "sum" =none
 dC:mg "sorted" =none
 ig:mg "all" =none
 gu:mg "reversed" =none
 gW:mg "bool" =none
 ii:mg "int" =none
 ij:mg "ord" =none
 iB:kitOne K (.type "tuple") (.type "tuple")=some true
 iz:kitOne K (.type "str") (.type "str")=some true
 iC:kitOne K (.type "int") (.type "int")=some true
 iD:kitOne K (.type "int") (.type "bool")=some false
 ik:kitOne K (.ref cP) (.ref bU)=some false
 gX:kitOne K (.ref cm) (.ref bU)=some false
 il:kitOne K (.ref bU) (.ref bU)=some true
 io:kitOne K (.ref bV) (.ref bU)=some true
 gN:kitOne K (.ref aI) (.ref bU)=some false
 gY:kitOne K (.ref cp) (.ref bU)=some false
 ip:kitOne K (.ref cP) (.ref bV)=some false
 gZ:kitOne K (.ref cm) (.ref bV)=some false
 iq:kitOne K (.ref bU) (.ref bV)=some false
 ir:kitOne K (.ref bV) (.ref bV)=some true
 gO:kitOne K (.ref aI) (.ref bV)=some false
 hU:kitOne K (.ref cp) (.ref bV)=some false
 iu:kitOne K (.ref cP) (.ref aI)=some false
 hV:kitOne K (.ref cm) (.ref aI)=some false
 iw:kitOne K (.ref bU) (.ref aI)=some false
 ix:kitOne K (.ref bV) (.ref aI)=some false
 gP:kitOne K (.ref aI) (.ref aI)=some true
 hW:kitOne K (.ref cp) (.ref aI)=some false
 fk:∃tk,mg "LETTERS" =some (.str "abcdefghijklmnopqrstuvwxyz" tk)
 gI:∃tk,mg "FIGURES" =some (.str "0123456789" tk)
 eu:∃tk,mg "LONGEST_NAME" =some (.int 6 tk)
 fV:∃tk,mg "MOST_PARTS" =some (.int 40 tk)
 ez:∃tk,mg "MOST_SIGNALS" =some (.int 40 tk)
 dQ:∃tk,mg "LONGEST_TRAIN" =some (.int 4 tk)
 tG:PySem.W.specialIn K (.builtin "object.__class__") "__get__" =some (some (.builtin "getset_descriptor.__get__"))
 tK:PySem.W.takesIn K (.builtin "object.__class__")=some true
 gw:findIn K (.ref cP) "__class__" =some (some (.builtin "object.__class__"))
 gx:PySem.W.mroIn K cP (.type "object")=some true
 fW:findIn K (.ref cm) "__class__" =some (some (.builtin "object.__class__"))
 fX:PySem.W.mroIn K cm (.type "object")=some true
 gy:findIn K (.ref bU) "__class__" =some (some (.builtin "object.__class__"))
 gz:PySem.W.mroIn K bU (.type "object")=some true
 gA:findIn K (.ref bV) "__class__" =some (some (.builtin "object.__class__"))
 gB:PySem.W.mroIn K bV (.type "object")=some true
 eF:findIn K (.ref aI) "__class__" =some (some (.builtin "object.__class__"))
 eG:PySem.W.mroIn K aI (.type "object")=some true
 fY:findIn K (.ref cp) "__class__" =some (some (.builtin "object.__class__"))
 fZ:PySem.W.mroIn K cp (.type "object")=some true
 cM:Addr
 fg:Yb7 K aS.fd cM
section
variable {P:Program} {w:World} {K:Frag} {mg:Str->Option Value} {base:Heap}
seal PySem.wpAny
structure Zq3(T:Tx K mg)(H:Hp):Prop where
 _law_shows:H T.cM=some (.tbl (Zhz (Zr5 (Zkh Yu)) (("_law_shows" :Str) ++ ".<locals>." ++ "_law_passes")))
theorem Zq3.mono{T:Tx K mg}{H H':Hp}(e:Same H H')(h:Zq3 T H):Zq3 T H':=⟨e _ _ h._law_shows⟩
abbrev Tx.tabs(T:Tx K mg):List (Addr×Array Value):=[(T.cM,(Zhz (Zr5 (Zkh Yu)) (("_law_shows" :Str) ++ ".<locals>." ++ "_law_passes")))]
theorem Zq3.of{T:Tx K mg}{H:Hp}(h:∀p∈T.tabs,H p.1=some (.tbl p.2)):Zq3 T H:=⟨h (T.cM,(Zhz (Zr5 (Zkh Yu)) (("_law_shows" :Str) ++ ".<locals>." ++ "_law_passes"))) (by simp)⟩
open YM
def Ztb:Sp:=fun vs H Q _=>∃c k:Int,vs=[.int c,.int k]/\Q (.int (Zdq c k)) H
def Zwu(K:Frag):Sp:=fun vs H Q _=>∃(a:Addr) (ns:List Int) (k:Nat),vs=[.ref a,.int k]/\SqL K H a (ns.map V.int)/\Q (.int (Xd ns k)) H
theorem Zwx(T:Tx K mg):Zu P w K mg base CX0 1 T.ar.f T.ar.fd ["_law_cell", "_law_k"] Ztb:=by
 refine T.ar.F.okW Zgd fun a8 A outer s H vs Q E hr h=>?_
 ·obtain ⟨c,k,rfl,q⟩:=h;intro X;refine WSs.step (Z0 (i:=2) Zgd.nd (Zt Yv (Zt Zh5 (Zt We (pv 0) (Zt Zh5 Zg (pv 1))) Zg) Zg)) ?_;refine (exR rfl (exR rfl (exQ rfl rfl ⟨.inl ⟨by decide,by decide⟩,.inl (exQ rfl rfl (exQ rfl rfl ⟨.inr ⟨by decide,by decide⟩,_,_,rfl,rfl,(by show (0:Int)<2147483647;decide),?_⟩))⟩)));refine WSs.last (Zp (Zt Yv (Zt Zh5 (pv 2) (Zt We (Zt We (pv 2) (Zt Zh5 Zg (pv 1))) Zg)) Zg)) ?_;refine (exR rfl (exR rfl (exR rfl (exQ rfl rfl ⟨.inl ⟨by decide,by decide⟩,.inl (exQ rfl rfl (.inl (exQ rfl rfl (exQ rfl rfl ⟨.inl ?_,_,_,rfl,rfl,(by show (0:Int)<2147483629;decide),q⟩))))⟩))));have h1:=Int.emod_nonneg ((c+7919 * k) * 48271) (show (2147483647:Int)≠0 by decide);have h2:=Int.emod_lt_of_pos ((c+7919 * k) * 48271) (show (0:Int)<2147483647 by decide)
  constructor <;>lia
theorem Zao(T:Tx K mg){k:Nat}(h:1<=k:=by decide):Zu P w K mg base CX0 k T.ar.f T.ar.fd ["_law_cell", "_law_k"] Ztb:=(Zwx T).mono h
theorem Zxe(T:Tx K mg):Zu P w K mg base CX0 2 T.ah.f T.ah.fd ["_law_script", "_law_k"] (Zwu K):=by
 refine T.ah.F.okW Zjr fun a8 A outer s H vs Q E hr h=>?_
 ·obtain ⟨a,ns,k,rfl,hS,q⟩:=h;intro X;refine WSs.step (Z9 (Zq Zn6 (pv 1) (Z3 (r:=Zav K) Zbh (by rfl) T.cL PySem.boot_len (Zb (pv 0) Za)) (Zw _)) Zy Zr) ?_;refine (exR rfl (exR rfl (.inl ⟨a,_,rfl,.inl hS,_,_,rfl,rfl,_,rfl,Yz (fun c7=>?_) (fun c7=>?_)⟩)))
  ·have c7:=of_decide_eq_true c7;rw [List.length_map] at c7;have hk:k<ns.length:=by lia
   have e:ns[k]? =some ns[k]:=by simp [hk]
   refine WSs.last (Zp (Zs (Zao T) hr rfl T.cH T.ar.F.kp T.ar.b .nil Zk (Zb (Zv (K:=K) rfl (pv 0) (pv 1)) (Zb (pv 1) Za)))) (exR rfl (exR rfl (.inl ⟨a,_,_,V.int ns[k],rfl,rfl,hS,Yr (by rw [List.getElem?_map,e];rfl),_,rfl,ns[k],k,rfl,?_⟩)));unfold Xd at q;rw [e] at q;exact q
  ·have c7:¬((k:Int)<((ns.map V.int).length:Int)):=fun z=>c7 (decide_eq_true z)
   rw [List.length_map] at c7;have e:ns[k]? =none:=List.getElem?_eq_none (by lia);unfold Xd at q;rw [e] at q;exact WSs.last (Zp Zg) q
theorem Xi(T:Tx K mg){k:Nat}(h:2<=k:=by decide):Zu P w K mg base CX0 k T.ah.f T.ah.fd ["_law_script", "_law_k"] (Zwu K):=(Zxe T).mono h
def Zwm:Sp:=fun vs H Q _=>∃k:Str,vs=[.str k]/\∀p H',Same H H'->H p=none->H' p=some (.lst ((Yw k).map V.str))->Q (.ref p) H'
theorem Zpn(T:Tx K mg):Zu P w K mg base CX0 1 T.bw.f T.bw.fd ["_law_kind_here"] Zwm:=by
 refine T.bw.F.okW Zpj fun a8 A outer s H vs Q E hr h=>?_
 ·obtain ⟨k,rfl,q⟩:=h;intro X;refine WSs.step (Z9 (Zq (r:=X3 K) (X8 hr) (pv 0) Zd (Zw _)) Zy Zr) (exR rfl (.inl ⟨rfl,_,rfl,Yz (fun hc=>?_) (fun hc=>?_)⟩))
  ·have hc:k = "points" :=by simpa using hc
   subst hc;exact WSs.last (Zp (Zl (Zb Zd (Zb Zd (Zb Zd Za))))) ⟨szA,fun p H1 s1 n1 e1=>q p H1 s1 n1 e1⟩
  have h1:¬k = "points" :=by simpa using hc
  refine WSs.step (Z9 (Zq (r:=X3 K) (X8 hr) (pv 0) Zd (Zw _)) Zy Zr) (exR rfl (.inl ⟨rfl,_,rfl,Yz (fun hc=>?_) (fun hc=>?_)⟩))
  ·have hc:k = "cross" :=by simpa using hc
   subst hc;exact WSs.last (Zp (Zl (Zb Zd (Zb Zd (Zb Zd (Zb Zd Za)))))) ⟨szA,fun p H1 s1 n1 e1=>q p H1 s1 n1 e1⟩
  have h2:¬k = "cross" :=by simpa using hc
  refine WSs.step (Z9 (Zq (r:=X3 K) (X8 hr) (pv 0) Zd (Zw _)) Zy Zr) (exR rfl (.inl ⟨rfl,_,rfl,Yz (fun hc=>?_) (fun hc=>?_)⟩))
  ·have hc:k = "plain" :=by simpa using hc
   subst hc;exact WSs.last (Zp (Zl (Zb Zd (Zb Zd Za)))) ⟨szA,fun p H1 s1 n1 e1=>q p H1 s1 n1 e1⟩
  have h3:¬k = "plain" :=by simpa using hc
  exact WSs.last (Zp (Zl (Zb Zd Za))) ⟨szA,fun p H1 s1 n1 e1=>q p H1 s1 n1 (by unfold Yw;rw [if_neg h1,if_neg h2,if_neg h3];exact e1)⟩
theorem Zi3(T:Tx K mg){k:Nat}(h:1<=k:=by decide):Zu P w K mg base CX0 k T.bw.f T.bw.fd ["_law_kind_here"] Zwm:=(Zpn T).mono h
theorem Zkr{n:Nat}{i:Int}{l:List Nat}(hl:l.length=n)(h0:0<=i)(h1:i<n):atI l i=some (l.getD i.toNat 0):=by
 have e:i=((i.toNat:Nat):Int):=by lia
 have hi:i.toNat<l.length:=by lia
 rw [e];refine Yr ?_;rw [List.getD_eq_getElem?_getD,Int.toNat_natCast,List.getElem?_eq_getElem hi]
 rfl
def nmF(c:Int):Int:=c%2028+2028 * (c / 2028%2)
def Zp2:Sp:=fun vs H Q _=>∃(kind:Str) (c:Int) (k:Nat),vs=[.str kind,.int c,.int k]/\0<kind.length/\kind.length<=100/\0<=c/\k<100/\Q (.str (Yx kind (nmF c) k)) H
theorem Zjy(T:Tx K mg):Zu P w K mg base CX0 1 T.aG.f T.aG.fd ["_law_kind_here", "_law_cell", "_law_k"] Zp2:=by
 refine T.aG.F.okW Zbj fun a8 A outer s H vs Q E hr h=>?_
 ·obtain ⟨kind,c,k,rfl,hk0,hkl,hc,hk,q⟩:=h;intro X;refine WSs.step (Z0 (i:=3) Zbj.nd Zd) ?_;have fl:=Zh0 k hk;refine WSs.step (Z9 (Zq (r:=X3 K) (X8 hr) (Zt Yv (pv 1) Zg) Zg (Zw _)) Zy Zr) (exR rfl (exQ rfl rfl ⟨(by show (0:Int)<3;decide),.inl ⟨rfl,_,rfl,Yz (fun hc3=>?_) (fun hc3=>?_)⟩⟩))
  ·have hc3:c%3=0:=by simpa using hc3
   unfold Yx at q;rw [if_pos (show nmF c%3=0 by unfold nmF;lia)] at q;refine WSs.last (Zp (Zt We (Zv (K:=K) rfl (pv 0) Zg) (Wk Zbx (by rfl) T.et PyProof.Rows.boot_str (Zb (pv 2) Za)))) (exR rfl (.inr (.inr ⟨kind,0,kind.cps.toList.getD 0 0,rfl,rfl,sz (by lia),?_,_,rfl,(k:Int),rfl,Zol hk,.inr (.inl (exQ rfl rfl ⟨sz ?_,q⟩))⟩)))
   ·have:(0:Int)<kind.cps.toList.length:=by rw [Array.length_toList];exact Int.ofNat_lt.mpr hk0
    exact Zkr (n:=kind.cps.toList.length) rfl (by decide) this
   ·show 1+(Zix k).length<=1000;lia
  have hc3:¬c%3=0:=by simpa using hc3
  have a0:=Int.emod_nonneg (c / 3) (show (26:Int)≠0 by decide);have a1:=Int.emod_lt_of_pos (c / 3) (show (0:Int)<26 by decide);have b0:=Int.emod_nonneg (c / 78) (show (26:Int)≠0 by decide);have b1:=Int.emod_lt_of_pos (c / 78) (show (0:Int)<26 by decide);have z0:=Int.emod_nonneg (c / 2028) (show (2:Int)≠0 by decide);have z1:=Int.emod_lt_of_pos (c / 2028) (show (0:Int)<2 by decide);obtain ⟨zn,hzn⟩:∃zn:Nat,c / 2028%2=(zn:Int):=⟨(c / 2028%2).toNat,by lia⟩
  unfold Yx at q;rw [if_neg (show ¬nmF c%3=0 by unfold nmF;lia),show nmF c / 2028%3=(zn:Int) by unfold nmF;lia,Int.toNat_natCast,show nmF c / 3%26=c / 3%26 by unfold nmF;lia,show nmF c / 78%26=c / 78%26 by unfold nmF;lia] at q;refine WSs.step (Z0 (i:=4) Zbj.nd (Zt We (Zv (K:=K) rfl (pv 3) (Zt Yv (Zt Yt (pv 1) Zg) Zg)) (Zv (K:=K) rfl (pv 3) (Zt Yv (Zt Yt (pv 1) Zg) Zg)))) (exR rfl (exR rfl (exQ rfl rfl ⟨⟨by decide,by decide⟩,_,_,rfl,rfl,(by show (0:Int)<26;decide),.inr (.inr ⟨_,_,Zdn (c / 3%26),rfl,rfl,sz (by rw [Zj6];decide),(by rw [Zpl];exact Zkr (n:=26) rfl a0 a1),?_⟩)⟩)));refine (exR rfl (exR rfl (exQ rfl rfl ⟨⟨by decide,by decide⟩,_,_,rfl,rfl,(by show (0:Int)<26;decide),.inr (.inr ⟨_,_,Zdn (c / 78%26),rfl,rfl,sz (by rw [Zj6];decide),(by rw [Zpl];exact Zkr (n:=26) rfl b0 b1),.inr (.inl (exQ rfl rfl ⟨sz (by show 1+1<=1000;decide),?_⟩))⟩)⟩)));have rl:(Zim "0" zn).length<=2:=by
   have:zn<3:=by lia
   have hd:∀m,m<3->(Zim "0" m).length<=2:=by trivial
   exact hd zn this
  have ll:(⟨#[Zdn (c / 3%26)]⟩++⟨#[Zdn (c / 78%26)]⟩:Str).length=2:=by rw [PySem.Str.length_append];rfl
  refine WSs.last (Zp (Zt We (Zt We (pv 4) (Zt Zw8 Zd (Zt Yv (Zt Yt (pv 1) Zg) Zg))) (Wk Zbx (by rfl) T.et PyProof.Rows.boot_str (Zb (pv 2) Za)))) (exR rfl (exR rfl (exQ rfl rfl ⟨⟨by decide,by decide⟩,_,_,rfl,rfl,(by show (0:Int)<2;decide), "0",zn,rfl,by rw [<-hzn],by show 1 * zn<=1000;lia,by lia,.inr (.inl (exQ rfl rfl ⟨sz (by rw [ll];lia),_,rfl,(k:Int),rfl,Zol hk,.inr (.inl (exQ rfl rfl ⟨sz ?_,q⟩))⟩))⟩)));show _+(Zix k).length<=1000;rw [PySem.Str.length_append,ll];lia
theorem Zfc(T:Tx K mg){k:Nat}(h:1<=k:=by decide):Zu P w K mg base CX0 k T.aG.f T.aG.fd ["_law_kind_here", "_law_cell", "_law_k"] Zp2:=(Zjy T).mono h
def Zm(H:Hp)(t:Addr)(q:Zc):Prop:=H t=some (.tup [.str q.1,.str q.2])
def Wn(H:Hp)(t:Addr)(j:Zc×Zc):Prop:=∃a b,H t=some (.tup [.ref a,.ref b])/\Zm H a j.1/\Zm H b j.2
def Zo(H:Hp)(l:Addr)(ps:List Zc):Prop:=∃ts:List Addr,H l=some (.lst (ts.map V.ref))/\Paired (Zm H) ts ps
def Yf(H:Hp)(l:Addr)(js:List (Zc×Zc)):Prop:=∃ts:List Addr,H l=some (.lst (ts.map V.ref))/\Paired (Wn H) ts js
theorem Zm.mono{H H':Hp}{t:Addr}{q:Zc}(e:Same H H')(h:Zm H t q):Zm H' t q:=e.at h
theorem Wn.mono{H H':Hp}{t:Addr}{j:Zc×Zc}(e:Same H H')(h:Wn H t j):Wn H' t j:=let ⟨a,b,h1,h2,h3⟩:=h;⟨a,b,e.at h1,h2.mono e,h3.mono e⟩
theorem Zo.mono{H H':Hp}{l:Addr}{ps:List Zc}(e:Same H H')(h:Zo H l ps):Zo H' l ps:=let ⟨ts,h1,h2⟩:=h;⟨ts,e.at h1,Paired.mapP h2 fun _ _ r=>r.mono e⟩
theorem Yf.mono{H H':Hp}{l:Addr}{js:List (Zc×Zc)}(e:Same H H')(h:Yf H l js):Yf H' l js:=let ⟨ts,h1,h2⟩:=h;⟨ts,e.at h1,Paired.mapP h2 fun _ _ r=>r.mono e⟩
def Ztg:Sp:=fun vs H Q _=>∃(c:Int) (nl:Addr) (n1 n2 n3 n4:Str),vs=[.int c,.ref nl]/\H nl=some (.lst [.str n1,.str n2,.str n3,.str n4]) /\
 ∀(t:Addr) (H':Hp) (pl jl ie oe:Addr) (ps:List Zc) (js:List (Zc×Zc)) (e1 e2:Zc),Same H H'->H' t=some (.tup [.ref pl,.ref jl,.ref ie,.ref oe])->Zo H' pl ps->Yf H' jl js->Zm H' ie e1->Zm H' oe e2->Zam n1 n2 n3 n4 ps js e1 e2->Q (.ref t) H'
theorem Zpa{n:Int}{u v:V}:∃w,atI [u,v] (n%2)=some w/\((n%2=0/\w=u)\/(n%2=1/\w=v)):=by
 have h0:=Int.emod_nonneg n (show (2:Int)≠0 by decide);have h1:=Int.emod_lt_of_pos n (show (0:Int)<2 by decide);generalize n%2=m at h0 h1;have:m=0\/m=1:=by lia
 rcases this with rfl|rfl
 ·exact ⟨u,rfl,.inl ⟨rfl,rfl⟩⟩
 ·exact ⟨v,rfl,.inr ⟨rfl,rfl⟩⟩
theorem Zxf{l D:Addr}{xs:List Str}{x:Str}{H1:Hp}{Q:VK}{σ:St}(hl:H1 l=some (.lst (xs.map V.str)))(hn:xs.length<=100)(hD:H1 D=none)(q:∀H',Same H1 H'->H' D=some (.lst ((xs.filter fun e=>decide (e≠x)).map V.str))->Q (.ref D) H'){fr:St->St}(L9:fr σ=[none,some (.str x)]){tf:TT}(htf:tf=Zwz (tOp (Zcm K) (Zjh 0) (Zjh 1))) :
  Zet (Itl K l) fr (Zeq 0) tf (Zjh 0) Q σ H1 D:=by
 refine X5 (xs:=xs.map V.str) (fun i ys H'=>ys=((xs.take i).filter fun e=>decide (e≠x)).map V.str/\H' D=some (.lst ys)/\Same H1 H') ⟨rfl,Zf,Same.new hD⟩ ?_ ?_ ?_
 ·rintro i ys H' _ ⟨_,_,sm⟩;exact SqL.of (sm.at hl)
 ·rintro k v ys H' hk ⟨rfl,v0,sm⟩;rw [List.getElem?_map] at hk;obtain ⟨y,hy,rfl⟩:=Option.map_eq_some_iff.mp hk;unfold Zb2;rw [L9,htf];refine ⟨W3.set rfl,_,rfl,_,rfl,.inl ⟨rfl,_,rfl,Yz (fun hc=>?_) (fun hc=>?_)⟩⟩
  ·have hc:y≠x:=by simpa using hc
   refine (exR rfl ⟨v0,?_,?_,Zf,fun b o e=>?_⟩)
   ·rw [List.length_map];have:=List.length_filter_le (fun e:Str=>decide (e≠x)) (xs.take k);rw [List.length_take] at this;exact Zx (by lia)
   ·rw [List.take_add_one,hy,List.filter_append,List.map_append,show (some y).toList=[y] from rfl,List.filter_cons,if_pos (decide_eq_true hc)]
    rfl
   ·rw [Ze (Zi e hD)];exact sm.at e
  ·have hc:¬y≠x:=by simpa using hc
   refine ⟨?_,v0,sm⟩;rw [List.take_add_one,hy,List.filter_append,show (some y).toList=[y] from rfl,List.filter_cons,if_neg (by simpa using hc),List.filter_nil,List.append_nil]
 ·rintro ys H6 ⟨rfl,y8,s6⟩;rw [List.length_map,List.take_length] at y8;exact q H6 s6 y8
theorem Zmn(T:Tx K mg):Zu P w K mg base CX0 1 T.bK.f T.bK.fd ["_law_cell", "_law_names"] Ztg:=by
 refine T.bK.F.okW Z8 fun a8 A outer s H vs Q E hr h=>?_
 ·obtain ⟨c,nl,n1,n2,n3,n4,rfl,hnl,q⟩:=h;intro X;refine WSs.step (Zpr (pv 1) (Zz2 rfl (Zz (Y1 (i:=2) Z8.nd) (Zz (Y1 (i:=3) Z8.nd) (Zz (Y1 (i:=4) Z8.nd) (Zz (Y1 (i:=5) Z8.nd) Xe)))))) (exR rfl ⟨nl,_,rfl,SqL.of hnl,rfl,_,_,rfl,_,_,rfl,_,_,rfl,_,_,rfl,rfl,?_⟩);refine WSs.step (Z0 (i:=6) Z8.nd (Zt Yv (pv 0) Zg)) (exR rfl (exQ rfl rfl ⟨(by show (0:Int)<8;decide),?_⟩));refine WSs.step (Z9 (Zq Zn6 (pv 6) Zg (Zw _)) Zy Zr) (exR rfl (exQ rfl rfl (exR rfl (Yz (fun _=>?_) (fun _=>?_)))))
  ·refine WSs.step (Z0 (i:=7) Z8.nd (Zv (K:=K) rfl (Zl (Zb (Zl (Zb Zd (Zb Zd Za))) (Zb (Zl (Zb Zd (Zb Zd Za))) Za))) (Zt Yv (Zt Yt (pv 0) Zg) Zg))) ⟨szA,fun la H1 s1 _ e1=>⟨szA,fun lb H2 s2 _ e2=>⟨szA,fun ll H3 s3 _ e3=>(exR rfl (exQ rfl rfl ⟨⟨by decide,by decide⟩,_,_,rfl,rfl,(by show (0:Int)<2;decide),?_⟩))⟩⟩⟩;obtain ⟨l7,a,b,B8,h7,M3⟩:∃l7 a b,atI [V.ref la,.ref lb] (c / 8%2)=some (.ref l7)/\H3 l7=some (.lst [.str a,.str b])/\(a,b)∈[(("a" :Str),("b" :Str)),("b", "a")]:=by
    obtain ⟨w,hw,h | h⟩:=Zpa (n:=c / 8) (u:=V.ref la) (v:=V.ref lb)
    ·exact ⟨la, "a", "b",by rw [hw,h.2],s3.at (s2.at e1),by simp⟩
    ·exact ⟨lb, "b", "a",by rw [hw,h.2],s3.at e2,by simp⟩
   refine .inl ⟨ll,_,_,.ref l7,rfl,rfl,SqL.of e3,B8,?_⟩;have s03:=s1.trans (s2.trans s3);refine WSs.last (Zp (Zj (Zb (Zl (Zb (Zj (Zb Zd (Zb (pv 2) Za))) Za)) (Zb (Zl Za) (Zb (Zj (Zb (pv 2) (Zb (Zv (K:=K) rfl (pv 7) Zg) Za))) (Zb (Zj (Zb (pv 2) (Zb (Zv (K:=K) rfl (pv 7) Zg) Za))) Za)))))) (exR rfl ⟨szA,fun t1 H4 s4 _ e4=>⟨szA,fun pl H5 s5 _ e5=>⟨szA,fun jl H6 s6 _ e6=>(exR rfl (exR rfl (.inl ⟨l7,_,_,.str a,rfl,rfl,SqL.of (s6.at (s5.at (s4.at h7))),rfl,szA,fun ie H7 s7 _ e7=>(exR rfl (exR rfl (.inl ⟨l7,_,_,.str b,rfl,rfl,SqL.of (s7.at (s6.at (s5.at (s4.at h7)))),rfl,szA,fun oe H8 s8 _ e8=>⟨szA,fun t H9 s9 _ e9=>?_⟩⟩)))⟩)))⟩⟩⟩);exact q t H9 pl jl ie oe _ _ _ _ (s03.trans (s4.trans (s5.trans (s6.trans (s7.trans (s8.trans s9)))))) e9 ⟨[t1],s9.at (s8.at (s7.at (s6.at e5))),.cons (s9.at (s8.at (s7.at (s6.at (s5.at e4))))) .nil⟩ ⟨[],s9.at (s8.at (s7.at e6)),.nil⟩ (s9.at (s8.at e7)) (s9.at e8) (.plain a b M3)
  refine WSs.step (Z9 (Zq Zn6 (pv 6) Zg (Zw _)) Zy Zr) (exR rfl (exQ rfl rfl (exR rfl (Yz (fun _=>?_) (fun _=>?_)))))
  ·refine WSs.step (Z0 (i:=8) Z8.nd (Zv (K:=K) rfl (Zl (Zb (Zl (Zb Zd (Zb Zd Za))) (Zb (Zl (Zb Zd (Zb Zd Za))) Za))) (Zt Yv (Zt Yt (pv 0) Zg) Zg))) ⟨szA,fun la H1 s1 _ e1=>⟨szA,fun lb H2 s2 _ e2=>⟨szA,fun ll H3 s3 _ e3=>(exR rfl (exQ rfl rfl ⟨⟨by decide,by decide⟩,_,_,rfl,rfl,(by show (0:Int)<2;decide),?_⟩))⟩⟩⟩;obtain ⟨l7,a,b,B8,h7,M3⟩:∃l7 a b,atI [V.ref la,.ref lb] (c / 8%2)=some (.ref l7)/\H3 l7=some (.lst [.str a,.str b])/\(a,b)∈[(("left" :Str),("right" :Str)),("right", "left")]:=by
    obtain ⟨w,hw,h | h⟩:=Zpa (n:=c / 8) (u:=V.ref la) (v:=V.ref lb)
    ·exact ⟨la, "left", "right",by rw [hw,h.2],s3.at (s2.at e1),by simp⟩
    ·exact ⟨lb, "right", "left",by rw [hw,h.2],s3.at e2,by simp⟩
   refine .inl ⟨ll,_,_,.ref l7,rfl,rfl,SqL.of e3,B8,?_⟩;have s03:=s1.trans (s2.trans s3);refine WSs.step (Z0 (i:=9) Z8.nd (Zl (Zb (Zj (Zb (Zj (Zb (pv 2) (Zb Zd Za))) (Zb (Zj (Zb (pv 3) (Zb Zd Za))) Za))) (Zb (Zj (Zb (Zj (Zb (pv 2) (Zb Zd Za))) (Zb (Zj (Zb (pv 4) (Zb Zd Za))) Za))) Za)))) (exR rfl ⟨szA,fun a1 H4 s4 _ f1=>(exR rfl ⟨szA,fun a2 H5 s5 _ f2=>⟨szA,fun j1 H6 s6 _ f3=>(exR rfl ⟨szA,fun a3 H7 s7 _ f4=>(exR rfl ⟨szA,fun a4 H8 s8 _ f5=>⟨szA,fun j2 H9 s9 _ f6=>⟨szA,fun jA H10 x5 _ f7=>?_⟩⟩⟩)⟩)⟩⟩)⟩);have J1:Wn H10 j1 ((n1, "left"),(n2, "a")):=⟨a1,a2,x5.at (s9.at (s8.at (s7.at f3))),x5.at (s9.at (s8.at (s7.at (s6.at (s5.at f1))))),x5.at (s9.at (s8.at (s7.at (s6.at f2))))⟩
   have J2:Wn H10 j2 ((n1, "right"),(n3, "a")):=⟨a3,a4,x5.at f6,x5.at (s9.at (s8.at f4)),x5.at (s9.at f5)⟩
   have s0A:=s03.trans (s4.trans (s5.trans (s6.trans (s7.trans (s8.trans (s9.trans x5))))));have h7:=(s4.trans (s5.trans (s6.trans (s7.trans (s8.trans (s9.trans x5)))))).at h7;clear s1 s2 s3 s4 s5 s6 s7 s8 s9 x5 f1 f2 f3 f4 f5 f6 e1 e2 e3 s03;refine WSs.step (Z0 (i:=9) Z8.nd (Zt We (pv 9) (Zl (Zb (Zj (Zb (Zj (Zb (pv 3) (Zb Zd Za))) (Zb (Zj (Zb (pv 5) (Zb (Zv (K:=K) rfl (pv 8) Zg) Za))) Za))) (Zb (Zj (Zb (Zj (Zb (pv 5) (Zb (Zv (K:=K) rfl (pv 8) Zg) Za))) (Zb (Zj (Zb (pv 4) (Zb Zd Za))) Za))) Za))))) (exR rfl (exR rfl ⟨szA,fun b1 H11 x6 _ f1=>(exR rfl (exR rfl (.inl ⟨l7,_,_,.str a,rfl,rfl,SqL.of (x6.at h7),rfl,szA,fun b2 H12 u0 _ f2=>⟨szA,fun j3 H13 j5 _ f3=>(exR rfl (exR rfl (.inl ⟨l7,_,_,.str b,rfl,rfl,SqL.of (j5.at (u0.at (x6.at h7))),rfl,szA,fun b3 H14 k8 _ f4=>(exR rfl ⟨szA,fun b4 H15 B6 _ f5=>⟨szA,fun j4 H16 x8 _ f6=>⟨szA,fun jB H17 B7 _ f8=>.inr (.inr ⟨jA,jB,_,_,rfl,rfl,(x6.trans (u0.trans (j5.trans (k8.trans (B6.trans (x8.trans B7)))))).at f7,f8,szA,fun jl H18 N0 _ f9=>?_⟩)⟩⟩⟩)⟩)))⟩⟩)))⟩));have sAB:=x6.trans (u0.trans (j5.trans (k8.trans (B6.trans (x8.trans (B7.trans N0))))));have J3:Wn H18 j3 ((n2, "b"),(n4,a)):=⟨b1,b2,(k8.trans (B6.trans (x8.trans (B7.trans N0)))).at f3,(u0.trans (j5.trans (k8.trans (B6.trans (x8.trans (B7.trans N0)))))).at f1,(j5.trans (k8.trans (B6.trans (x8.trans (B7.trans N0))))).at f2⟩
   have J4:Wn H18 j4 ((n4,b),(n3, "b")):=⟨b3,b4,(B7.trans N0).at f6,(B6.trans (x8.trans (B7.trans N0))).at f4,(x8.trans (B7.trans N0)).at f5⟩
   have u4:Yf H18 jl [((n1, "left"),(n2, "a")),((n1, "right"),(n3, "a")),((n2, "b"),(n4,a)),((n4,b),(n3, "b"))]:=⟨[j1,j2,j3,j4],f9,.cons (J1.mono sAB) (.cons (J2.mono sAB) (.cons J3 (.cons J4 .nil)))⟩
   have s0B:=s0A.trans sAB;clear J1 J2 J3 J4 x6 u0 j5 k8 B6 x8 B7 N0 sAB s0A f1 f2 f3 f4 f5 f6 f7 f8 f9 h7;refine WSs.step (Z0 (i:=10) Z8.nd (Zl (Zb (Zj (Zb Zd (Zb (pv 2) Za))) (Zb (Zj (Zb Zd (Zb (pv 3) Za))) (Zb (Zj (Zb Zd (Zb (pv 4) Za))) (Zb (Zj (Zb Zd (Zb (pv 5) Za))) Za)))))) (exR rfl ⟨szA,fun c1 G1 s1 _ f1=>(exR rfl ⟨szA,fun c2 G2 s2 _ f2=>(exR rfl ⟨szA,fun c3 G3 s3 _ f3=>(exR rfl ⟨szA,fun c4 G4 s4 _ f4=>⟨szA,fun pl G5 s5 _ f5=>?_⟩⟩)⟩)⟩)⟩);have i6:Zo G5 pl [("points",n1),("plain",n2),("plain",n3),("points",n4)]:=⟨[c1,c2,c3,c4],f5,.cons (s5.at (s4.at (s3.at (s2.at f1)))) (.cons (s5.at (s4.at (s3.at f2))) (.cons (s5.at (s4.at f3)) (.cons (s5.at f4) .nil)))⟩
   have sG:=s1.trans (s2.trans (s3.trans (s4.trans s5)));refine WSs.last (Zp (Zj (Zb (pv 10) (Zb (pv 9) (Zb (Zj (Zb (pv 2) (Zb Zd Za))) (Zb (Zj (Zb (pv 5) (Zb Zd Za))) Za)))))) (exR rfl (exR rfl (exR rfl ⟨szA,fun ie G6 s6 _ f6=>(exR rfl ⟨szA,fun oe G7 s7 _ f7=>⟨szA,fun t G8 s8 _ f8=>?_⟩⟩)⟩)));have O7:=s6.trans (s7.trans s8);exact q t G8 pl jl ie oe _ _ _ _ (s0B.trans (sG.trans O7)) f8 (i6.mono O7) (u4.mono (sG.trans O7)) ((s7.trans s8).at f6) (s8.at f7) (.loop a b M3)
  refine WSs.step (Z9 (Zq Zn6 (pv 6) Zg (Zw _)) Zy Zr) (exR rfl (exQ rfl rfl (exR rfl (Yz (fun _=>?_) (fun _=>?_)))))
  ·refine WSs.step (Z0 (i:=7) Z8.nd (Zl (Zb Zd (Zb Zd (Zb Zd Za))))) ⟨szA,fun le H1 s1 _ e1=>?_⟩;refine WSs.step (Z0 (i:=11) Z8.nd (Zt Yv (Zt Yt (pv 0) Zg) Zg)) (exR rfl (exQ rfl rfl ⟨⟨by decide,by decide⟩,_,_,rfl,rfl,(by show (0:Int)<3;decide),?_⟩));obtain ⟨x,r0,r1,B8,O6,hpm⟩:∃x r0 r1:Str,atI [V.str "stem",.str "left",.str "right"] (2-c / 8%3)=some (.str x)/\(([("stem" :Str), "left", "right"].filter fun e=>decide (e≠x))=[r0,r1])/\[x,r0,r1].Perm ["stem", "left", "right"]:=by
    have h0:=Int.emod_nonneg (c / 8) (show (3:Int)≠0 by decide);have h1:=Int.emod_lt_of_pos (c / 8) (show (0:Int)<3 by decide);generalize c / 8%3=m at h0 h1;have:m=0\/m=1\/m=2:=by lia
    rcases this with rfl|rfl|rfl
    ·exact ⟨"right", "stem", "left",rfl,by trivial,by trivial⟩
    ·exact ⟨"left", "stem", "right",rfl,by trivial,by trivial⟩
    ·exact ⟨"stem", "left", "right",rfl,by trivial,by trivial⟩
   refine WSs.step (Z0 (i:=12) Z8.nd (Zv (K:=K) rfl (pv 7) (Zt Zvk Zg (pv 11)))) (exR rfl (exR rfl (exQ rfl rfl (.inl ⟨le,_,_,.str x,rfl,rfl,SqL.of e1,B8,?_⟩))));refine WSs.step (Z0 (i:=9) Z8.nd (Zl (Zb (Zj (Zb (Zj (Zb (pv 2) (Zb (pv 12) Za))) (Zb (Zj (Zb (pv 3) (Zb Zd Za))) Za))) (Zb (Zj (Zb (Zj (Zb (pv 3) (Zb Zd Za))) (Zb (Zj (Zb (pv 4) (Zb Zd Za))) Za))) Za)))) (exR rfl (exR rfl ⟨szA,fun a1 H2 s2 _ f1=>(exR rfl ⟨szA,fun a2 H3 s3 _ f2=>⟨szA,fun j1 H4 s4 _ f3=>(exR rfl ⟨szA,fun a3 H5 s5 _ f4=>(exR rfl ⟨szA,fun a4 H6 s6 _ f5=>⟨szA,fun j2 H7 s7 _ f6=>⟨szA,fun jl H8 s8 _ f7=>?_⟩⟩⟩)⟩)⟩⟩)⟩));have u4:Yf H8 jl [((n1,x),(n2, "b")),((n2, "a"),(n3, "a"))]:=⟨[j1,j2],f7,.cons ⟨a1,a2,(s5.trans (s6.trans (s7.trans s8))).at f3,(s3.trans (s4.trans (s5.trans (s6.trans (s7.trans s8))))).at f1,(s4.trans (s5.trans (s6.trans (s7.trans s8)))).at f2⟩ (.cons ⟨a3,a4,s8.at f6,(s6.trans (s7.trans s8)).at f4,(s7.trans s8).at f5⟩ .nil)⟩
   have s28:=s2.trans (s3.trans (s4.trans (s5.trans (s6.trans (s7.trans s8)))));have s08:=s1.trans s28;have e1:=s28.at e1;clear s1 s2 s3 s4 s5 s6 s7 s8 f1 f2 f3 f4 f5 f6 f7 s28;refine WSs.step (Zb6 (i:=13) (N':=["_law_end", "_law_aside"]) Z8.nd rfl (Or.inl rfl) rfl (Yc.std 1 [12] rfl (by trivial) (by trivial) rfl ⟨rfl,trivial⟩ rfl rfl ⟨(exR rfl ⟨rfl,rfl⟩),trivial⟩) (Y5 (pv 7)) (fun _ _ _ _=>(Za4 (i:=0) (by show (["_law_end", "_law_aside"]:List Str).Nodup;decide +kernel))) (fun _ _ _ _=>(Zd7 (Zq (r:=Zcm K) (Zdp hr) (pv 0) (pv 1) (Zw _)))) (fun _ _ _ _=>(pv 0))) (exR rfl ⟨le,rfl,⟨_,SqL.of e1⟩,fun lr hlr=>?_⟩);refine Zxf (xs:=["stem", "left", "right"]) (x:=x) e1 (by decide) hlr (fun H9 s9 e9=>?qq) ?aa ?bb
   case aa=>rfl
   case bb=>rfl
   rw [O6] at e9;obtain ⟨kd,M1,T0⟩:∃kd:Str,atI [V.str "stop",.str "gate"] (c / 24%2)=some (.str kd)/\kd∈[("stop" :Str), "gate"]:=by
    obtain ⟨w,hw,h | h⟩:=Zpa (n:=c / 24) (u:=V.str "stop") (v:=V.str "gate")
    ·exact ⟨"stop",by rw [hw,h.2],by simp⟩
    ·exact ⟨"gate",by rw [hw,h.2],by simp⟩
   refine WSs.step (Z0 (i:=10) Z8.nd (Zl (Zb (Zj (Zb Zd (Zb (pv 2) Za))) (Zb (Zj (Zb Zd (Zb (pv 3) Za))) (Zb (Zj (Zb (Zv (K:=K) rfl (Zl (Zb Zd (Zb Zd Za))) (Zt Yv (Zt Yt (pv 0) Zg) Zg)) (Zb (pv 4) Za))) Za))))) (exR rfl ⟨szA,fun c1 G1 s1 _ f1=>(exR rfl ⟨szA,fun c2 G2 s2 _ f2=>⟨szA,fun lk G3 s3 _ f3=>(exR rfl (exQ rfl rfl ⟨⟨by decide,by decide⟩,_,_,rfl,rfl,(by show (0:Int)<2;decide),.inl ⟨lk,_,_,.str kd,rfl,rfl,SqL.of f3,M1,_,rfl,szA,fun c3 G4 s4 _ f4=>⟨szA,fun pl G5 s5 _ f5=>?_⟩⟩⟩))⟩⟩)⟩);have i6:Zo G5 pl [("points",n1),("plain",n2),(kd,n3)]:=⟨[c1,c2,c3],f5,.cons (s5.at (s4.at (s3.at (s2.at f1)))) (.cons (s5.at (s4.at (s3.at f2))) (.cons (s5.at f4) .nil))⟩
   have sG:=s1.trans (s2.trans (s3.trans (s4.trans s5)));obtain ⟨a,b,ha,hb,M3⟩:∃a b:Str,atI [V.str r0,.str r1] (c / 48%2)=some (.str a)/\atI [V.str r0,.str r1] (1-c / 48%2)=some (.str b)/\[x,a,b].Perm ["stem", "left", "right"]:=by
    have h0:=Int.emod_nonneg (c / 48) (show (2:Int)≠0 by decide);have h1:=Int.emod_lt_of_pos (c / 48) (show (0:Int)<2 by decide);generalize c / 48%2=m at h0 h1;have:m=0\/m=1:=by lia
    rcases this with rfl|rfl
    ·exact ⟨r0,r1,rfl,rfl,hpm⟩
    ·exact ⟨r1,r0,rfl,rfl,((List.Perm.swap r0 r1 []).cons x).trans hpm⟩
   refine WSs.last (Zp (Zj (Zb (pv 10) (Zb (pv 9) (Zb (Zj (Zb (pv 2) (Zb (Zv (K:=K) rfl (pv 13) (Zt Yv (Zt Yt (pv 0) Zg) Zg)) Za))) (Zb (Zj (Zb (pv 2) (Zb (Zv (K:=K) rfl (pv 13) (Zt Zvk Zg (Zt Yv (Zt Yt (pv 0) Zg) Zg))) Za))) Za)))))) (exR rfl (exR rfl (exR rfl (exR rfl (exR rfl (exQ rfl rfl ⟨⟨by decide,by decide⟩,_,_,rfl,rfl,(by show (0:Int)<2;decide),.inl ⟨lr,_,_,.str a,rfl,rfl,SqL.of (sG.at e9),ha,szA,fun ie G6 s6 _ f6=>?_⟩⟩))))));refine (exR rfl (exR rfl (exR rfl (exQ rfl rfl ⟨⟨by decide,by decide⟩,_,_,rfl,rfl,(by show (0:Int)<2;decide),_,_,rfl,rfl,.inl ⟨lr,_,_,.str b,rfl,rfl,SqL.of (s6.at (sG.at e9)),hb,szA,fun oe G7 s7 _ f7=>⟨szA,fun t G8 s8 _ f8=>?_⟩⟩⟩))));have O7:=s6.trans (s7.trans s8);exact q t G8 pl jl ie oe _ _ _ _ (s08.trans (s9.trans (sG.trans O7))) f8 (i6.mono O7) (u4.mono (s9.trans (sG.trans O7))) ((s7.trans s8).at f6) (s8.at f7) (.siding x a b kd M3 T0)
  refine WSs.step (Z0 (i:=9) Z8.nd (Zl (Zb (Zj (Zb (Zj (Zb (pv 2) (Zb Zd Za))) (Zb (Zj (Zb (pv 3) (Zb Zd Za))) Za))) (Zb (Zj (Zb (Zj (Zb (pv 4) (Zb Zd Za))) (Zb (Zj (Zb (pv 2) (Zb Zd Za))) Za))) Za)))) (exR rfl ⟨szA,fun a1 H2 s2 _ f1=>(exR rfl ⟨szA,fun a2 H3 s3 _ f2=>⟨szA,fun j1 H4 s4 _ f3=>(exR rfl ⟨szA,fun a3 H5 s5 _ f4=>(exR rfl ⟨szA,fun a4 H6 s6 _ f5=>⟨szA,fun j2 H7 s7 _ f6=>⟨szA,fun jl H8 s8 _ f7=>?_⟩⟩⟩)⟩)⟩⟩)⟩);have u4:Yf H8 jl [((n1, "c"),(n2, "a")),((n3, "a"),(n1, "d"))]:=⟨[j1,j2],f7,.cons ⟨a1,a2,(s5.trans (s6.trans (s7.trans s8))).at f3,(s3.trans (s4.trans (s5.trans (s6.trans (s7.trans s8))))).at f1,(s4.trans (s5.trans (s6.trans (s7.trans s8)))).at f2⟩ (.cons ⟨a3,a4,s8.at f6,(s6.trans (s7.trans s8)).at f4,(s7.trans s8).at f5⟩ .nil)⟩
  have s08:=s2.trans (s3.trans (s4.trans (s5.trans (s6.trans (s7.trans s8)))));clear s2 s3 s4 s5 s6 s7 s8 f1 f2 f3 f4 f5 f6 f7;obtain ⟨kd,M1,T0⟩:∃kd:Str,atI [V.str "gate",.str "stop"] (c / 8%2)=some (.str kd)/\kd∈[("gate" :Str), "stop"]:=by
   obtain ⟨w,hw,h | h⟩:=Zpa (n:=c / 8) (u:=V.str "gate") (v:=V.str "stop")
   ·exact ⟨"gate",by rw [hw,h.2],by simp⟩
   ·exact ⟨"stop",by rw [hw,h.2],by simp⟩
  refine WSs.step (Z0 (i:=10) Z8.nd (Zl (Zb (Zj (Zb Zd (Zb (pv 2) Za))) (Zb (Zj (Zb Zd (Zb (pv 3) Za))) (Zb (Zj (Zb (Zv (K:=K) rfl (Zl (Zb Zd (Zb Zd Za))) (Zt Yv (Zt Yt (pv 0) Zg) Zg)) (Zb (pv 4) Za))) Za))))) (exR rfl ⟨szA,fun c1 G1 s1 _ f1=>(exR rfl ⟨szA,fun c2 G2 s2 _ f2=>⟨szA,fun lk G3 s3 _ f3=>(exR rfl (exQ rfl rfl ⟨⟨by decide,by decide⟩,_,_,rfl,rfl,(by show (0:Int)<2;decide),.inl ⟨lk,_,_,.str kd,rfl,rfl,SqL.of f3,M1,_,rfl,szA,fun c3 G4 s4 _ f4=>⟨szA,fun pl G5 s5 _ f5=>?_⟩⟩⟩))⟩⟩)⟩);have i6:Zo G5 pl [("cross",n1),("gate",n2),(kd,n3)]:=⟨[c1,c2,c3],f5,.cons (s5.at (s4.at (s3.at (s2.at f1)))) (.cons (s5.at (s4.at (s3.at f2))) (.cons (s5.at f4) .nil))⟩
  have sG:=s1.trans (s2.trans (s3.trans (s4.trans s5)));refine WSs.last (Zp (Zj (Zb (pv 10) (Zb (pv 9) (Zb (Zj (Zb (pv 2) (Zb Zd Za))) (Zb (Zj (Zb (pv 2) (Zb Zd Za))) Za)))))) (exR rfl (exR rfl (exR rfl ⟨szA,fun ie G6 s6 _ f6=>(exR rfl ⟨szA,fun oe G7 s7 _ f7=>⟨szA,fun t G8 s8 _ f8=>?_⟩⟩)⟩)));have O7:=s6.trans (s7.trans s8);exact q t G8 pl jl ie oe _ _ _ _ (s08.trans (sG.trans O7)) f8 (i6.mono O7) (u4.mono (sG.trans O7)) ((s7.trans s8).at f6) (s8.at f7) (.cross kd T0)
theorem Zoi(T:Tx K mg){k:Nat}(h:1<=k:=by decide):Zu P w K mg base CX0 k T.bK.f T.bK.fd ["_law_cell", "_law_names"] Ztg:=(Zmn T).mono h
end
end K53
end
section
namespace K53
open PySem L2 NM YM
section
variable {P:Program} {w:World} {K:Frag} {mg:Str->Option Value} {base:Heap}
seal PySem.wpAny
theorem Zfg(xs:List V)(k:Nat):Zgs xs (some (k:Int)) none=xs.drop k:=by
 unfold Zgs;rw [HT.sIx_nat,HT.sIx_none]
 by_cases h:k<=xs.length
 ·rw [Nat.min_eq_left h,List.take_of_length_le (by rw [List.length_drop];exact Nat.le_refl _)]
 ·rw [Nat.min_eq_right (by lia),List.drop_length,List.take_nil,List.drop_of_length_le (by lia)]
theorem Zid(xs:List V)(k:Nat):Zgs xs none (some (k:Int))=xs.take k:=by
 unfold Zgs;rw [HT.sIx_nat,HT.sIx_none,List.drop_zero,Nat.sub_zero]
 by_cases h:k<=xs.length
 ·rw [Nat.min_eq_left h]
 ·rw [Nat.min_eq_right (by lia),List.take_length,List.take_of_length_le (by lia)]
theorem Zo.app{H:Hp}{l:Addr}{ts us:List Addr}{ps qs:List Zc}(h1:Paired (Zm H) ts ps)(h2:Paired (Zm H) us qs)(e:H l=some (.lst (ts.map V.ref++us.map V.ref))):Zo H l (ps++qs):=⟨ts++us,by rw [List.map_append];exact e,Paired.append h1 h2⟩
theorem Yf.app{H:Hp}{l:Addr}{ts us:List Addr}{ps qs:List (Zc×Zc)}(h1:Paired (Wn H) ts ps)(h2:Paired (Wn H) us qs)(e:H l=some (.lst (ts.map V.ref++us.map V.ref))):Yf H l (ps++qs):=⟨ts++us,by rw [List.map_append];exact e,Paired.append h1 h2⟩
def Zva(K:Frag):Sp:=fun vs H Q _=>∃(cl:Addr) (cs:List Int),vs=[.ref cl]/\SqL K H cl (cs.map V.int)/\(∀c∈cs,0<=c) /\
 ∀(t:Addr) (H':Hp) (pl jl:Addr) (ps:List Zc) (js:List (Zc×Zc)),Same H H'->H' t=some (.tup [.ref pl,.ref jl])->Zo H' pl ps->Yf H' jl js->H pl=none->H jl=none->Net ps js []->ps.length<=38->(∀p∈ps,p=((("gate" :Str),("g" :Str)):Zc)\/p=((("gate" :Str),("h" :Str)):Zc)\/Zp3 p.2 36)->Q (.ref t) H'
theorem Zpo(T:Tx K mg):Zu P w K mg base CX0 2 T.bP.f T.bP.fd ["_law_cells_here"] (Zva K):=by
 refine T.bP.F.okW Y7 fun a8 A outer s H vs Q E hr h=>?_
 ·obtain ⟨cl,cs,rfl,v6,K6,q⟩:=h;intro X;refine WSs.step (Z0 (i:=1) Y7.nd (Zl (Zb (Zj (Zb Zd (Zb Zd Za))) Za))) ⟨szA,fun t1 H1 s1 _ e1=>⟨szA,fun pl0 H2 s2 n2 e2=>?_⟩⟩;refine WSs.step (Z0 (i:=2) Y7.nd (Zl Za)) ⟨szA,fun jl0 H3 s3 n3 e3=>?_⟩;refine WSs.step (Z0 (i:=3) Y7.nd (Zj (Zb Zd (Zb Zd Za)))) ⟨szA,fun e0 H4 s4 n4 e4=>?_⟩;have s04:=s1.trans (s2.trans (s3.trans s4));have hp0:Zo H4 pl0 [("gate", "g")]:=⟨[t1],s4.at (s3.at e2),.cons (s4.at (s3.at (s2.at e1))) .nil⟩
  have hj0:Yf H4 jl0 []:=⟨[],s4.at e3,.nil⟩
  have f0:H pl0=none:=s1.free n2;have f1:H jl0=none:=s1.free (s2.free n3);clear s1 s2 s3 s4 n2 n3 n4 e1 e2 e3;refine WSs.step (Xy PassesOwn.never rfl (Zf2 rfl T.cF (Zb (Wh (r:=Zib K) Zjt (pv 0) W6 (Wr Zg)) Za)) (W8 rfl (Zz (Y1 (i:=4) Y7.nd) (Zz (Y1 (i:=5) Y7.nd) Xe))) Zy) (exR rfl (exR rfl (.inr (.inl ⟨cl,_,rfl,s04.seq v6,fun c9 H5 s5 n5 e5=>⟨c9,rfl,⟨_,SqL.of e5⟩,?_⟩⟩))));rw [show (some (9:Int))=some ((9:Nat):Int) from rfl,Zid,<-List.map_take] at e5;have s05:=s04.trans s5;let I1:=fun (i:Nat) (σ:St) (H':Hp)=>Same H5 H'/\∃pl jl e o4 o5 o6 o7 o8 ps js G0,σ=[some (.ref cl),some (.ref pl),some (.ref jl),some (.ref e),o4,o5,o6,o7,o8]/\Zo H' pl ps/\Yf H' jl js/\Zm H' e G0/\Zea i ps js G0/\H pl=none/\H jl=none
  refine Zdl (xs:=(cs.take 9).map V.int) I1
   ⟨Same.refl _,pl0,jl0,e0,none,none,none,none,none,_,_,_,rfl,hp0.mono s5,hj0.mono s5,s5.at e4,Zea.start,f0,f1⟩ ?_ ?_ ?_
  ·rintro i σ H' _ ⟨sm,_⟩;exact SqL.of (sm.at e5)
  ·rintro i v σ H6 hi ⟨s6,pl,jl,e,o4,o5,o6,o7,o8,ps,js,G0,rfl,i6,u4,L0,hok,fp,fj⟩ tp H7 s7 n7 e7;rw [List.getElem?_map] at hi;obtain ⟨c,hc,rfl⟩:=Option.map_eq_some_iff.mp hi;have hi9:i<9:=by
    have:=(List.getElem?_eq_some_iff.mp hc).1;rw [List.length_take] at this;lia
   have R4:0<=c:=K6 c (List.mem_of_mem_take (List.mem_of_getElem? hc));refine ⟨tp,_,rfl,SqT.of e7,rfl,_,_,rfl,_,_,rfl,rfl,?_⟩;have O8:=s6.trans s7;have i6:=i6.mono s7;have u4:=u4.mono s7;have L0:=L0.mono s7;obtain ⟨nm,C7⟩:∃nm:Nat->Str,nm=fun j=>Yx ((["p", "q", "r", "t"]:List Str).getD j "p") (nmF (c / 96+5 * (j:Int))) (4 * i+j):=⟨_,rfl⟩
   refine WSs.step (Z0 (i:=6) Y7.nd (Zl Za)) ⟨szA,fun D H75 s75 hD e75=>?_⟩;let I2:=fun (j:Nat) (σ:St) (H':Hp)=>(∃o7,σ=[some (.ref cl),some (.ref pl),some (.ref jl),some (.ref e),some (.int (i:Int)),some (.int c),some (.ref D),o7,o8])/\H' D=some (.lst (((List.range j).map nm).map V.str))/\Same H7 H'
   refine WSs.step (Xy PassesOwn.never rfl (Zio rfl T.dB (Zb Zg Za)) (Y1 (i:=7) Y7.nd) Zy) (exR rfl ⟨by decide,by decide,Zob (lo:=0) (n:=4) I2 ⟨⟨_,rfl⟩,e75,s75⟩ ?_ ?_⟩)
   ·rintro j σ H8 hj ⟨⟨o7,rfl⟩,V5,s8⟩;obtain ⟨kd,M1⟩:∃kd,kd=(["p", "q", "r", "t"]:List Str).getD j "p" :=⟨_,rfl⟩
    have hj4:j=0\/j=1\/j=2\/j=3:=by lia
    obtain ⟨ch,B8,L6⟩:∃ch,atI (Str.cps "pqrt").toList ((0:Int)+(j:Int))=some ch/\(⟨#[ch]⟩:Str)=kd:=by
     rw [M1];rcases hj4 with rfl|rfl|rfl|rfl <;>exact ⟨_,rfl,rfl⟩
    have hkl:kd.length=1:=by
     rw [<-L6]
     rfl
    refine WSs.last (Yj (Zbw PySem.F.plainAttrs_list PySem.F.slot_list_append PySem.F.type_list_append Xa (pv 6) (Zb (Zs (Zfc T) hr rfl T.cX T.aG.F.kp T.aG.b .nil Zk (Zb (Zv (K:=K) rfl Zd (pv 7)) (Zb (Zt We (Zt Yt (pv 5) Zg) (Zt Zh5 Zg (pv 7))) (Zb (Zt We (Zt Zh5 Zg (pv 4)) (pv 7)) Za)))) Za))) (exR rfl ⟨.inl ⟨rfl,_,SqL.of V5⟩,_,rfl,.inr (.inr ⟨_,_,ch,rfl,rfl,sz (by trivial),B8,_,rfl,_,_,rfl,rfl,⟨by decide,by decide⟩,_,rfl,_,_,rfl,rfl,.inl ⟨by decide,by decide⟩,.inl (exQ rfl rfl (exR rfl (exQ rfl rfl ⟨.inl ⟨by decide,by decide⟩,_,rfl,.inl (exQ rfl rfl ⟨kd,c / 96+5 * (j:Int),4 * i+j,?_,by lia,by lia,?_,by lia,D,_,_,rfl,rfl,V5,?_,⟨_,rfl⟩,?_,fun b o z=>?_⟩)⟩)))⟩)⟩)
    ·show [V.str ⟨#[ch]⟩,V.int (c / 96+5 * (0+(j:Int))),V.int (4 * (i:Int)+(0+(j:Int)))]=_;rw [L6,show (0:Int)+(j:Int)=j by lia,show 4 * (i:Int)+(j:Int)=((4 * i+j:Nat):Int) by lia]
    ·have:=Int.ediv_nonneg R4 (show (0:Int)<=96 by decide);lia
    ·rw [List.length_map,List.length_map,List.length_range];exact Zx (by lia)
    ·rw [Zf,List.range_succ,List.map_append,List.map_append,C7,M1]
     rfl
    ·rw [Ze (Zi z hD)];exact s8.at z
   ·rintro σ H8 ⟨⟨o7,rfl⟩,V5,s8⟩;have i6:=i6.mono s8;have u4:=u4.mono s8;have L0:=L0.mono s8;refine WSs.step (Z0 (i:=8) Y7.nd (Zs (Zoi T) hr rfl T.fw T.bK.F.kp T.bK.b .nil Zk (Zb (pv 5) (Zb (pv 6) Za)))) (exR rfl (exR rfl ⟨c,D,nm 0,nm 1,nm 2,nm 3,rfl,V5,fun t H9 bp bj ie oe qs ks a b s9 e9 hbp hbj hie hoe B=>?_⟩));subst C7;have D7:=hok.more (by lia) (by trivial) (by trivial) (by trivial) (by trivial) B;obtain ⟨ts,ht,d4⟩:=i6.mono s9;obtain ⟨us,hu,k9⟩:=hbp;obtain ⟨js1,hj1,O9⟩:=u4.mono s9;obtain ⟨js2,hj2,hjs2⟩:=hbj;have lp:=hok.pl;have lj:=hok.jl;have lb:=B.len;have c1:=Paired.length d4;have c2:=Paired.length k9;have c3:=Paired.length O9;have c4:=Paired.length hjs2;refine WSs.step (Z0 (i:=1) Y7.nd (Zt We (pv 1) (Zv (K:=K) rfl (pv 8) Zg))) (exR rfl (exR rfl (ixV e9 rfl (.inr (.inr ⟨pl,bp,_,_,rfl,rfl,ht,hu,?_,fun pl' H10 x5 n10 e10=>?_⟩)))))
    ·rw [List.length_map,List.length_map];exact sz (by lia)
    refine WSs.step (Z0 (i:=2) Y7.nd (Zt We (Zt We (pv 2) (Zv (K:=K) rfl (pv 8) Zg)) (Zl (Zb (Zj (Zb (pv 3) (Zb (Zv (K:=K) rfl (pv 8) Zg) Za))) Za)))) (exR rfl (exR rfl (ixV (x5.at e9) rfl (.inr (.inr ⟨jl,bj,_,_,rfl,rfl,x5.at hj1,x5.at hj2,?_,fun jm H11 x6 n11 e11=>(exR rfl (exR rfl (ixV (x6.at (x5.at e9)) rfl ⟨szA,fun tj H12 u0 n12 e12=>⟨szA,fun l2 H13 j5 n13 e13=>.inr (.inr ⟨jm,l2,_,_,rfl,rfl,(u0.trans j5).at e11,e13,?_,fun V7 H14 k8 n14 Q8=>?_⟩)⟩⟩)))⟩)))))
    ·rw [List.length_map,List.length_map];exact sz (by lia)
    ·rw [List.length_append,List.length_map,List.length_map];exact sz (by simp;lia)
    have s104:=x6.trans (u0.trans (j5.trans k8));have T1:=x5.trans s104;refine WSs.last (Z0 (i:=3) Y7.nd (Zv (K:=K) rfl (pv 8) Zg)) (exR rfl (ixV (T1.at e9) rfl ⟨O8.trans (s8.trans (s9.trans T1)),pl',V7,oe,_,_,_,_,_,_,_,_,rfl,?_,?_,hoe.mono T1,D7,?_,?_⟩))
    ·exact Zo.app (ts:=ts) (us:=us) (Paired.mapP d4 fun _ _ r=>r.mono T1) (Paired.mapP k9 fun _ _ r=>r.mono T1) (s104.at e10)
    ·have m8:Paired (Wn H14) (js1++js2) (js++ks):=Paired.append (Paired.mapP O9 fun _ _ r=>r.mono T1) (Paired.mapP hjs2 fun _ _ r=>r.mono T1);refine Yf.app (ts:=js1++js2) (us:=[tj]) m8 (.cons ⟨e,ie,(j5.trans k8).at e12,(L0.mono s9).mono T1,hie.mono T1⟩ .nil) ?_;rw [List.map_append];exact Q8
    ·exact s05.free (O8.free (s8.free (s9.free n10)))
    ·exact s05.free (O8.free (s8.free (s9.free ((x5.trans (x6.trans (u0.trans j5))).free n14))))
  ·rintro σ H6 ⟨s6,pl,jl,e,o4,o5,o6,o7,o8,ps,js,G0,rfl,i6,u4,L0,hok,fp,fj⟩;rw [List.length_map,List.length_take] at hok;have hm:min 9 cs.length<=9:=Nat.min_le_left ..;have hdone:=hok.done (by lia);obtain ⟨ts,ht,d4⟩:=i6;obtain ⟨js1,hj1,O9⟩:=u4;have lp:=hok.pl;have lj:=hok.jl;have c1:=Paired.length d4;have c3:=Paired.length O9;refine WSs.last (Zp (Zj (Zb (Zt We (pv 1) (Zl (Zb (Zj (Zb Zd (Zb Zd Za))) Za))) (Zb (Zt We (pv 2) (Zl (Zb (Zj (Zb (pv 3) (Zb (Zj (Zb Zd (Zb Zd Za))) Za))) Za))) Za)))) (exR rfl ⟨szA,fun t1 H7 s7 _ e7=>⟨szA,fun l1 H8 s8 _ e8=>.inr (.inr ⟨pl,l1,_,_,rfl,rfl,s8.at (s7.at ht),e8,?_,fun pl' H9 s9 n9 e9=>(exR rfl (exR rfl ⟨szA,fun t2 H10 x5 _ e10=>⟨szA,fun t3 H11 x6 _ e11=>⟨szA,fun l2 H12 u0 _ e12=>.inr (.inr ⟨jl,l2,_,_,rfl,rfl,(s7.trans (s8.trans (s9.trans (x5.trans (x6.trans u0))))).at hj1,e12,?_,fun V7 H13 j5 n13 e13=>⟨szA,fun t H14 k8 _ Q8=>?_⟩⟩)⟩⟩⟩))⟩)⟩⟩)
   ·rw [List.length_map];exact sz (by simp;lia)
   ·rw [List.length_map];exact sz (by simp;lia)
   have s612:=s7.trans (s8.trans (s9.trans (x5.trans (x6.trans u0))));have T2:=s612.trans (j5.trans k8);have s914:=x5.trans (x6.trans (u0.trans (j5.trans k8)));refine q t H14 pl' V7 _ _ (s05.trans (s6.trans T2)) Q8 ?_ ?_ (s05.free (s6.free (s7.free (s8.free n9)))) (s05.free (s6.free (s612.free n13))) hdone ?_ ?_
   ·exact Zo.app (ts:=ts) (us:=[t1]) (Paired.mapP d4 fun _ _ r=>r.mono T2) (.cons ((s8.trans (s9.trans s914)).at e7) .nil) (s914.at e9)
   ·exact Yf.app (ts:=js1) (us:=[t3]) (Paired.mapP O9 fun _ _ r=>r.mono T2) (.cons ⟨e,t2,(u0.trans (j5.trans k8)).at e11,L0.mono T2,(x6.trans (u0.trans (j5.trans k8))).at e10⟩ .nil) (k8.at e13)
   ·rw [List.length_append];simp;lia
   ·intro p hp;rcases List.mem_append.mp hp with z|z
    ·rcases hok.nm p z with y|⟨kd,c,k,h1,h2,h3⟩
     ·exact .inl y
     ·exact .inr (.inr ⟨kd,c,k,h1,by lia,h3⟩)
    ·simp at z;subst z;exact .inr (.inl rfl)
theorem Zq8(T:Tx K mg){k:Nat}(h:2<=k:=by decide):Zu P w K mg base CX0 k T.bP.f T.bP.fd ["_law_cells_here"] (Zva K):=(Zpo T).mono h
def Ztd(K:Frag):Sp:=fun vs H Q _=>∃(a:Addr) (ns:List Int) (i j:Nat),vs=[.ref a,.int i,.int j]/\SqL K H a (ns.map V.int)/\ns.length<=63/\i<=1000/\j<=1000 /\
 ∀(p:Addr) (H':Hp) (cs:List Int),Same H H'->H p=none->H' p=some (.lst (cs.map V.int))->(∀c∈cs,0<=c/\c<2147483629)->cs.length<=63->Q (.ref p) H'
theorem Zm5(T:Tx K mg):Zu P w K mg base CX0 2 T.bJ.f T.bJ.fd ["_law_script", "_law_at", "_law_end"] (Ztd K):=by
 refine T.bJ.F.okW Zmz fun a8 A outer s H vs Q E hr h=>?_
 ·obtain ⟨a,ns,i,j,rfl,hS,hn,hi,hj,q⟩:=h;intro X;have hmin:(if ((ns.map V.int).length:Int)<(j:Int) then ((ns.map V.int).length:Int) else (j:Int))=((min j ns.length:Nat):Int):=by
   rw [List.length_map];split <;>lia
  refine WSs.last (Zp (X4 (N':=["_law_k", "_law_script"]) rfl (Yc.std 1 [0] rfl (by trivial) (by trivial) rfl ⟨rfl,trivial⟩ rfl rfl ⟨(exR rfl ⟨rfl,rfl⟩),trivial⟩) (Znc rfl T.dB (Zb (pv 1) (Zb (Z3 (Zum rfl) (by rfl) T.ib PyProof.Rows.boot_min (Zb (pv 2) (Zb (Z3 (r:=Zav K) Zbh (by rfl) T.cL PySem.boot_len (Zb (pv 0) Za)) Za))) Za))) (fun _ _ _ _=>(Za4 (i:=0) (by show (["_law_k", "_law_script"]:List Str).Nodup;decide +kernel))) (fun _ _ _ _=>Zbk) (fun _ _ _ _=>(Zs (Zao T) hr rfl T.cH T.ar.F.kp T.ar.b .nil Zk (Zb (Zv (K:=K) rfl (pv 1) (pv 0)) (Zb (pv 0) Za)))))) (exR rfl (exR rfl (exR rfl (.inl ⟨a,_,rfl,.inl hS,_,_,rfl,_,_,rfl,?_,fun D hD=>?_⟩))))
  ·rw [hmin];lia
  rw [hmin];obtain ⟨m,hm⟩:∃m:Nat,(((min j ns.length:Nat):Int)-(i:Int)).toNat=m:=⟨_,rfl⟩
  rw [hm];refine Zg3 (lo:=(i:Int)) (n:=m) (fun k ys H'=>(∃cs:List Int,ys=cs.map V.int/\cs.length=k/\∀c∈cs,0<=c/\c<2147483629)/\H' D=some (.lst ys)/\Same H H') ⟨⟨[],rfl,rfl,by simp⟩,Zf,Same.new hD⟩ ?_ ?_
  ·rintro k ys H2 hk ⟨⟨cs,rfl,v6,K6⟩,v5,s2⟩;unfold Zb2;have c7:i+k<ns.length:=by lia
   refine ⟨W3.set rfl,_,rfl,_,rfl,.inl ⟨a,_,_,.int (ns.getD (i+k) 0),rfl,rfl,s2.seq hS,?_,_,rfl,_,_,rfl,v5,?_,⟨cs++[Zdq (ns.getD (i+k) 0) ((i:Int)+(k:Int))],?_,?_,?_⟩,Zf,fun b o e=>?_⟩⟩
   ·rw [show (i:Int)+(k:Int)=((i+k:Nat):Int) by lia];refine Yr ?_;rw [List.getElem?_map,List.getElem?_eq_getElem c7,List.getD_eq_getElem?_getD,List.getElem?_eq_getElem c7]
    rfl
   ·rw [List.length_map];exact Zx (by lia)
   ·rw [List.map_append];rfl
   ·rw [List.length_append];simp;exact v6
   ·intro c hc;rcases List.mem_append.mp hc with z|z
    ·exact K6 c z
    ·simp at z;rw [z];exact ⟨Zwj _ _,Zvd _ _⟩
   ·rw [Ze (Zi e hD)];exact s2.at e
  ·rintro ys H2 ⟨⟨cs,rfl,v6,K6⟩,v5,s2⟩;exact q D H2 cs s2 hD v5 K6 (by lia)
theorem Zpb(T:Tx K mg){k:Nat}(h:2<=k:=by decide):Zu P w K mg base CX0 k T.bJ.f T.bJ.fd ["_law_script", "_law_at", "_law_end"] (Ztd K):=(Zm5 T).mono h
theorem Wv{H:Hp}{c:Addr}{o:HO}{xs:List V}{ts:List Addr}{ps:List Zc}(h:Paired (Zm H) ts ps)(hc:H c=some (.lst xs)):Paired (Zm (upd H c o)) ts ps :=
 Paired.mapP h fun t q r=>by
  unfold Zm at r ⊢;rw [Ze fun z=>by rw [z,hc] at r;cases r];exact r
theorem Wn.off{H:Hp}{c t:Addr}{o:HO}{xs:List V}{j:Zc×Zc}(h:Wn H t j)(hc:H c=some (.lst xs)):Wn (upd H c o) t j:=by
 obtain ⟨a,b,h1,h2,h3⟩:=h;unfold Zm at h2 h3;have ne:∀{t:Addr} {ys:List V},H t=some (.tup ys)->t≠c:=fun h z=>by rw [z,hc] at h;cases h
 exact ⟨a,b,by rw [Ze (ne h1)];exact h1,by unfold Zm;rw [Ze (ne h2)];exact h2,by unfold Zm;rw [Ze (ne h3)];exact h3⟩
theorem Zaz{H:Hp}{c:Addr}{o:HO}{xs:List V}{ts:List Addr}{js:List (Zc×Zc)}(h:Paired (Wn H) ts js)(hc:H c=some (.lst xs)):Paired (Wn (upd H c o)) ts js:=Paired.mapP h fun _ _ r=>r.off hc
def Zps:Sp:=fun vs H Q _=>∃(pl jl rl:Addr) (c:Int) (ps:List Zc) (js:List (Zc×Zc)) (Yo:List Zc),vs=[.ref pl,.ref jl,.ref rl,.int c]/\Zo H pl ps/\Yf H jl js/\Zo H rl Yo/\pl≠jl/\rl≠pl/\rl≠jl/\ps.length<=100/\js.length<=200/\Yo.length<=90 /\
 ∀(H':Hp) (A0:List Zc) (B2:List (Zc×Zc)),(∀b o,b≠pl->b≠jl->H b=some o->H' b=some o)->Zo H' pl (ps++A0)->Yf H' jl (js++B2)->Zg1 Yo Yo.length A0 B2->Q .non H'
theorem Zk1(T:Tx K mg):Zu P w K mg base CX0 2 T.bx.f T.bx.fd ["_law_parts", "_law_joins", "_law_rest", "_law_cell"] Zps:=by
 refine T.bx.F.okW Zar fun a8 A outer s H vs Q E hr h=>?_
 ·obtain ⟨pl,jl,rl,c,ps,js,Yo,rfl,i6,u4,⟨rs,hrl,M4⟩,n1,n2,n3,lp,lj,lr,q⟩:=h;intro X;have lrs:=Paired.length M4;let I3:=fun (i:Nat) (σ:St) (H':Hp)=>(∃o4 o5 o6,σ=[some (.ref pl),some (.ref jl),some (.ref rl),some (.int c),o4,o5,o6])/\(∀b o,b≠pl->b≠jl->H b=some o->H' b=some o)/\∃A0 B2,Zo H' pl (ps++A0)/\Yf H' jl (js++B2)/\Zg1 Yo i A0 B2
  refine WSs.last (Xy PassesOwn.never rfl (Zf2 rfl T.cF (Zb (pv 2) Za)) (W8 rfl (Zz (Y1 (i:=4) Zar.nd) (Zz (Y1 (i:=5) Zar.nd) Xe))) Zy) ⟨_,rfl,rl,rfl,⟨_,SqL.of hrl⟩,Zdl (xs:=rs.map V.ref) I3
   ⟨⟨none,none,none,rfl⟩,fun _ _ _ _ z=>z,[],[],by rw [List.append_nil];exact i6,by rw [List.append_nil];exact u4,[],rfl,by simp,rfl,rfl⟩ ?_ ?_ ?_⟩
  ·rintro i σ H' _ ⟨_,km,_⟩;exact SqL.of (km _ _ n2 n3 hrl)
  ·rintro i v σ H2 hi ⟨⟨o4,o5,o6,rfl⟩,km,A0,B2,⟨ts,ht,d4⟩,⟨us,hu,k9⟩,v6⟩ tp H3 s3 n3' e3;rw [List.getElem?_map] at hi;obtain ⟨te,L1,rfl⟩:=Option.map_eq_some_iff.mp hi;obtain ⟨y,hy,hye⟩:=Paired.get M4 L1;have O4:i<rs.length:=(List.getElem?_eq_some_iff.mp L1).1;obtain ⟨ks,hkl,hks,hnp,hnj⟩:=id v6;have c1:=Paired.length d4;have c2:=Paired.length k9;rw [List.length_append,hnp,List.length_map,List.length_range] at c1;rw [List.length_append,hnj,List.length_map,List.length_range] at c2;have hye2:Zm H2 te y:=by
    unfold Zm at hye ⊢;refine km _ _ (fun z=>?_) (fun z=>?_) hye
    ·obtain ⟨_,h1,_⟩:=i6;rw [z,h1] at hye;cases hye
    ·obtain ⟨_,h1,_⟩:=u4;rw [z,h1] at hye;cases hye
   refine ⟨tp,_,rfl,SqT.of e3,rfl,_,_,rfl,_,_,rfl,rfl,?_⟩;have fl:=Zh0 i (by lia);refine WSs.step (Z0 (i:=6) Zar.nd (Zt We Zd (Wk Zbx (by rfl) T.et PyProof.Rows.boot_str (Zb (pv 4) Za)))) (exR rfl ⟨(i:Int),rfl,Zol (by lia),.inr (.inl (exQ rfl rfl ⟨sz (by show 1+(Zix i).length<=1000;lia),?_⟩))⟩);obtain ⟨kd,M1,T0⟩:∃kd:Str,atI [V.str "gate",.str "stop",.str "gate"] (Zdq c (i:Int)%3)=some (.str kd)/\(kd = "gate" \/kd = "stop"):=by
    have h0:=Int.emod_nonneg (Zdq c (i:Int)) (show (3:Int)≠0 by decide);have h1:=Int.emod_lt_of_pos (Zdq c (i:Int)) (show (0:Int)<3 by decide);generalize Zdq c (i:Int)%3=m at h0 h1;have:m=0\/m=1\/m=2:=by lia
    rcases this with rfl|rfl|rfl
    ·exact ⟨"gate",rfl,.inl rfl⟩
    ·exact ⟨"stop",rfl,.inr rfl⟩
    ·exact ⟨"gate",rfl,.inl rfl⟩
   refine WSs.step (Yj (Zbw PySem.F.plainAttrs_list PySem.F.slot_list_append PySem.F.type_list_append Xa (pv 0) (Zb (Zj (Zb (Zv (K:=K) rfl (Zl (Zb Zd (Zb Zd (Zb Zd Za)))) (Zt Yv (Zs (Zao T) hr rfl T.cH T.ar.F.kp T.ar.b .nil Zk (Zb (pv 3) (Zb (pv 4) Za))) Zg)) (Zb (pv 6) Za))) Za))) (exR rfl ⟨.inl ⟨rfl,_,SqL.of (s3.at ht)⟩,szA,fun lk H4 s4 n4 e4=>(exR rfl (exR rfl ⟨c,(i:Int),rfl,_,_,rfl,rfl,(by show (0:Int)<3;decide),.inl ⟨lk,_,_,.str kd,rfl,rfl,SqL.of e4,M1,_,rfl,szA,fun t5 H5 s5 n5 e5=>⟨pl,_,_,rfl,rfl,s5.at (s4.at (s3.at ht)),?_,?_⟩⟩⟩))⟩)
   ·rw [List.length_map];exact Zx (by lia)
   have M5:=s3.trans (s4.trans s5);have hpl5:=M5.at ht;have hts5:Paired (Zm H5) ts (ps++A0):=Paired.mapP d4 fun _ _ r=>r.mono M5
   have hus5:Paired (Wn H5) us (js++B2):=Paired.mapP k9 fun _ _ r=>r.mono M5
   have p6:Paired (Zm (upd H5 pl (.lst (ts.map V.ref++[.ref t5])))) (ts++[t5]) ((ps++A0)++[(kd,W1 i)]):=Wv (Paired.append hts5 (.cons e5 .nil)) hpl5;have j6:=Zaz (o:=.lst (ts.map V.ref++[.ref t5])) hus5 hpl5;have hu6:upd H5 pl (.lst (ts.map V.ref++[.ref t5])) jl=some (.lst (us.map V.ref)):=(Ze (Ne.symm n1)).trans (M5.at hu);have k6:∀b o,b≠pl->b≠jl->H b=some o->upd H5 pl (.lst (ts.map V.ref++[.ref t5])) b=some o:=fun b o b1 b2 z=>(Ze b1).trans (M5.at (km b o b1 b2 z))
   have y6:Zm (upd H5 pl (.lst (ts.map V.ref++[.ref t5]))) te y:=by
    have z:=hye2.mono M5;unfold Zm at z ⊢;exact (Ze fun w=>by rw [w,hpl5] at z;cases z).trans z
   have e6:upd H5 pl (.lst (ts.map V.ref++[.ref t5])) pl=some (.lst ((ts++[t5]).map V.ref)):=by rw [Zf,List.map_append];rfl
   generalize (upd H5 pl (.lst (ts.map V.ref++[.ref t5])))=H6 at p6 j6 hu6 k6 y6 e6;refine WSs.last (Yj (Zbw PySem.F.plainAttrs_list PySem.F.slot_list_append PySem.F.type_list_append Xa (pv 1) (Zb (Zj (Zb (pv 5) (Zb (Zj (Zb (pv 6) (Zb Zd Za))) Za))) Za))) (exR rfl ⟨.inl ⟨rfl,_,SqL.of hu6⟩,_,rfl,_,rfl,szA,fun t7 H7 s7 n7 e7=>⟨szA,fun t8 H8 s8 n8 e8=>⟨jl,_,_,rfl,rfl,s8.at (s7.at hu6),?_,⟨_,_,_,rfl⟩,fun b o b1 b2 z=>?_,A0++[(kd,W1 i)],B2++[(y,(W1 i,("a" :Str)))],⟨ts++[t5],?_,?_⟩,⟨us++[t8],?_,?_⟩,v6.more T0 hy⟩⟩⟩)
   ·rw [List.length_map];exact Zx (by lia)
   ·exact (Ze b2).trans (s8.at (s7.at (k6 b o b1 b2 z)))
   ·exact (Ze n1).trans (s8.at (s7.at e6))
   ·rw [<-List.append_assoc];exact Wv (Paired.mapP p6 fun _ _ r=>r.mono (s7.trans s8)) (s8.at (s7.at hu6))
   ·rw [Zf,List.map_append];rfl
   ·rw [<-List.append_assoc];exact Zaz (Paired.append (Paired.mapP j6 fun _ _ r=>r.mono (s7.trans s8)) (.cons ⟨te,t7,e8,y6.mono (s7.trans s8),s8.at e7⟩ .nil)) (s8.at (s7.at hu6))
  ·rintro σ H2 ⟨⟨o4,o5,o6,rfl⟩,km,A0,B2,h1,h2,v6⟩;rw [List.length_map,lrs] at v6;exact q H2 A0 B2 km h1 h2 v6
theorem Zmf(T:Tx K mg){k:Nat}(h:2<=k:=by decide):Zu P w K mg base CX0 k T.bx.f T.bx.fd ["_law_parts", "_law_joins", "_law_rest", "_law_cell"] Zps:=(Zk1 T).mono h
def trP(q:Zc):Tr:=.tup [.str q.1,.str q.2]
theorem Zqy{H:Hp}{ts:List Addr}{ps:List Zc}(h:Paired (Zm H) ts ps):Paired (Im K H 1) (ps.map trP) (ts.map V.ref):=by
 induction h with
 | nil=>exact .nil
 | cons r _ ih=>exact .cons (Im.tup (SqT.of r) (.cons (.str _) (.cons (.str _) .nil))) ih
theorem Zo.im{H:Hp}{l:Addr}{ps:List Zc}(h:Zo H l ps):Im K H 2 (.lst (ps.map trP)) (.ref l):=let ⟨_,h1,h2⟩:=h;Im.lst (SqL.of h1) (Zqy h2)
theorem Zlj{l D:Addr}{xs:List Str}{x:Str}{H1:Hp}{Q:VK}{σ:St}(hl:H1 l=some (.lst (xs.map V.str)))(hn:xs.length<=100)(hD:H1 D=none)(q:∀H',Same H1 H'->Zo H' D (xs.map fun e=>(x,e))->Q (.ref D) H'){fr:St->St}(L9:fr σ=[none,some (.str x)]){te:TE}(L1:te=Zyu (Zlf (Zjh 1) (Zlf (Zjh 0) Zw2))) :
  Zet (Itl K l) fr (Zeq 0) Ybn te Q σ H1 D:=by
 refine X5 (xs:=xs.map V.str) (fun i ys H'=>(∃ts:List Addr,ys=ts.map V.ref/\Paired (Zm H') ts ((xs.take i).map fun e=>(x,e)))/\H' D=some (.lst ys)/\Same H1 H') ⟨⟨[],rfl,.nil⟩,Zf,Same.new hD⟩ ?_ ?_ ?_
 ·rintro i ys H' _ ⟨_,_,sm⟩;exact SqL.of (sm.at hl)
 ·rintro k v ys H' hk ⟨⟨ts,rfl,d4⟩,v0,sm⟩;rw [List.getElem?_map] at hk;obtain ⟨y,hy,rfl⟩:=Option.map_eq_some_iff.mp hk;unfold Zb2;rw [L9,L1];have d5:ts.length<=100:=by
   have:=Paired.length d4;rw [List.length_map,List.length_take] at this;lia
  refine ⟨W3.set rfl,_,rfl,_,rfl,szA,fun t H2 s2 n2 e2=>⟨s2.at v0,by rw [List.length_map];exact Zx (by lia),⟨ts++[t],by rw [List.map_append];rfl,?_⟩,Zf,fun b o e=>?_⟩⟩
  ·rw [List.take_add_one,hy,List.map_append];exact Wv (Paired.append (Paired.mapP d4 fun _ _ r=>r.mono s2) (.cons e2 .nil)) (s2.at v0)
  ·rw [Ze (Zi e hD)];exact s2.at (sm.at e)
 ·rintro ys H6 ⟨⟨ts,rfl,d4⟩,y8,s6⟩;rw [List.length_map,List.take_length] at d4;exact q H6 s6 ⟨ts,y8,d4⟩
theorem Zm.offL{H:Hp}{c t:Addr}{o:HO}{xs:List V}{q:Zc}(h:Zm H t q)(hc:H c=some (.lst xs)):Zm (upd H c o) t q:=by
 unfold Zm at h ⊢;exact (Ze fun z=>by rw [z,hc] at h;cases h).trans h
theorem Zo.offL{H:Hp}{c l:Addr}{o:HO}{xs:List V}{ps:List Zc}(h:Zo H l ps)(hc:H c=some (.lst xs))(ne:l≠c):Zo (upd H c o) l ps:=let ⟨ts,h1,h2⟩:=h;⟨ts,(Ze ne).trans h1,Wv h2 hc⟩
theorem Zo.erased{H:Hp}{l:Addr}{ts:List Addr}{ps:List Zc}(h1:H l=some (.lst (ts.map V.ref)))(h2:Paired (Zm H) ts ps)(k:Nat):Zo (upd H l (.lst ((ts.map V.ref).eraseIdx k))) l (ps.eraseIdx k):=⟨ts.eraseIdx k,by rw [Zf,Znm],Wv (Zhg h2 k) h1⟩
theorem Zs2{k n:Nat}(h:k<n):seqIndex? (k:Int) n=some k:=by
 unfold seqIndex?;have h1:¬(k:Int)<0:=by lia
 simp only [h1,if_false];rw [if_pos (by simp;lia)];simp
theorem Zbz{a:Int}{n:Nat}(h:0<n):∃k:Nat,a%(n:Int)=(k:Int)/\k<n:=by
 have h0:=Int.emod_nonneg a (show (n:Int)≠0 by lia);have h1:=Int.emod_lt_of_pos a (show (0:Int)<n by lia);exact ⟨(a%(n:Int)).toNat,by lia,by lia⟩
theorem Zqo{α β:Type}{R:α->β->Prop}{l₁:List α}{l₂:List β}(h:Paired R l₁ l₂)(n:Nat):Paired R (l₁.drop n) (l₂.drop n):=by
 induction n generalizing l₁ l₂ with
 | zero=>exact h
 | succ n ih =>
  cases h with
  | nil=>exact .nil
  | cons _ t=>exact ih t
theorem Zny{l D:Addr}{ts:List Addr}{qs:List Zc}{keep:Zc->Bool}{w:Option V}{H1:Hp}{Q:VK}{σ:St}(hl:H1 l=some (.lst (ts.map V.ref)))(d4:Paired (Zm H1) ts qs)(hn:qs.length<=100)(hD:H1 D=none)(q:∀H',Same H1 H'->Zo H' D (qs.filter keep)->Q (.ref D) H'){fr:St->St}(L9:fr σ=[none,w]){tf:TT}(htf:∀(t:Addr) (x:Zc) (H':Hp) (R:Bool->Hp->Prop),Same H1 H'->Zm H' t x->x∈qs->R (keep x) H'->tf [some (.ref t),w] H' R) :
  Zet (Itl K l) fr (Zeq 0) tf (Zjh 0) Q σ H1 D:=by
 have hln:=Paired.length d4;refine X5 (xs:=ts.map V.ref) (fun i ys H'=>(∃j8:List Addr,ys=j8.map V.ref/\Paired (Zm H1) j8 ((qs.take i).filter keep))/\H' D=some (.lst ys)/\Same H1 H') ⟨⟨[],rfl,.nil⟩,Zf,Same.new hD⟩ ?_ ?_ ?_
 ·rintro i ys H' _ ⟨_,_,sm⟩;exact SqL.of (sm.at hl)
 ·rintro k v ys H' hk ⟨⟨j8,rfl,Q7⟩,v0,sm⟩;rw [List.getElem?_map] at hk;obtain ⟨t,ht,rfl⟩:=Option.map_eq_some_iff.mp hk;obtain ⟨x,hx,r2⟩:=Paired.get d4 ht;unfold Zb2;rw [L9];have d5:j8.length<=100:=by
   rw [Paired.length Q7];have:=List.length_filter_le keep (qs.take k);rw [List.length_take] at this;lia
  refine ⟨W3.set rfl,htf t x H' _ sm (r2.mono sm) (List.mem_of_getElem? hx) (Yz (fun hc=>?_) (fun hc=>?_))⟩
  ·refine (exR rfl ⟨v0,by rw [List.length_map];exact Zx (by lia),⟨j8++[t],by rw [List.map_append];rfl,?_⟩,Zf,fun b o e=>?_⟩)
   ·rw [List.take_add_one,hx,List.filter_append];refine Paired.append Q7 ?_;rw [show (some x).toList=[x] from rfl,List.filter_cons,if_pos hc];exact .cons r2 .nil
   ·rw [Ze (Zi e hD)];exact sm.at e
  ·refine ⟨⟨j8,rfl,?_⟩,v0,sm⟩;rw [List.take_add_one,hx,List.filter_append,show (some x).toList=[x] from rfl,List.filter_cons,if_neg hc,List.filter_nil,List.append_nil];exact Q7
 ·rintro ys H6 ⟨⟨j8,rfl,Q7⟩,y8,s6⟩;rw [List.length_map,hln,List.take_length] at Q7;exact q H6 s6 ⟨j8,y8,Paired.mapP Q7 fun _ _ r=>r.mono s6⟩
def Ztk(K:Frag):Sp:=fun vs H Q _=>∃(cl:Addr) (cs:List Int),vs=[.ref cl]/\SqL K H cl (cs.map V.int)/\(∀c∈cs,0<=c)/\cs.length<=63 /\
 ∀(t:Addr) (H':Hp) (pl jl:Addr) (ps:List Zc) (js:List (Zc×Zc)) (n:Nat),Same H H'->H' t=some (.tup [.ref pl,.ref jl])->Zo H' pl ps->Yf H' jl js->H pl=none->H jl=none->Net ps js []->ps.length<=39->(∀p∈ps,nmD p.2 63\/∃j,j<90/\p.2=W1 j)->Q (.ref t) H'
theorem Zmr(T:Tx K mg):Zu P w K mg base CX0 3 T.bL.f T.bL.fd ["_law_cells_here"] (Ztk K):=by
 refine T.bL.F.okW Yp fun a8 A outer s H vs Q E hr h=>?_
 ·obtain ⟨cl,cs,rfl,v6,K6,hcn,q⟩:=h;intro X;refine WSs.step (Z0 (i:=1) Yp.nd (Zl Za)) ⟨szA,fun pl H1 s1 n1 e1=>?_⟩;refine WSs.step (Z0 (i:=2) Yp.nd (Zl Za)) ⟨szA,fun jl H2 s2 n2 e2=>?_⟩;refine WSs.step (Z0 (i:=3) Yp.nd (Zl Za)) ⟨szA,fun rl0 H3 s3 n3 e3=>?_⟩;have s03:=s1.trans (s2.trans s3);have fp:H pl=none:=n1;have fj:H jl=none:=s1.free n2;have fr0:H rl0=none:=s1.free (s2.free n3);have npj:pl≠jl:=Zi e1 n2;have nrp:rl0≠pl:=Ne.symm (Zi (s2.at e1) n3);have nrj:rl0≠jl:=Ne.symm (Zi e2 n3);have hp0:Zo H3 pl []:=⟨[],s3.at (s2.at e1),.nil⟩
  have hj0:Yf H3 jl []:=⟨[],s3.at e2,.nil⟩
  have hr0:Zo H3 rl0 []:=⟨[],e3,.nil⟩
  clear s1 s2 s3 n1 n2 n3 e1 e2 e3;let I4:=fun (i:Nat) (σ:St) (H':Hp)=>Same H H'/\∃rl o4 o5 o6 o7 o8 o9 o10 M6 ps js Yo,σ=[some (.ref cl),some (.ref pl),some (.ref jl),some (.ref rl),o4,o5,o6,o7,o8,o9,o10,M6]/\Zo H' pl ps/\Yf H' jl js/\Zo H' rl Yo/\Xx i (2 * i) ps js Yo/\H rl=none/\rl≠pl/\rl≠jl
  refine WSs.step (Xy PassesOwn.never rfl (Zf2 rfl T.cF (Zb (pv 0) Za)) (W8 rfl (Zz (Y1 (i:=4) Yp.nd) (Zz (Y1 (i:=5) Yp.nd) Xe))) Zy) ⟨_,rfl,cl,rfl,⟨_,s03.seq v6⟩,Zdl (xs:=cs.map V.int) I4
   ⟨s03,rl0,none,none,none,none,none,none,none,none,_,_,_,rfl,hp0,hj0,hr0,Xx.start,fr0,nrp,nrj⟩ ?_ ?_ ?_⟩
  ·rintro i σ H' _ ⟨sm,_⟩;exact sm.seq v6
  ·rintro i v σ H4 hi ⟨s4,rl,o4,o5,o6,o7,o8,o9,o10,M6,ps,js,Yo,rfl,i6,u4,hrl,hok,frl,P0,P1⟩ tp H5 s5 n5 e5;rw [List.getElem?_map] at hi;obtain ⟨c,hc,rfl⟩:=Option.map_eq_some_iff.mp hi;have hi63:i<63:=by
    have:=(List.getElem?_eq_some_iff.mp hc).1;lia
   have R4:0<=c:=K6 c (List.mem_of_getElem? hc);refine ⟨tp,_,rfl,SqT.of e5,rfl,_,_,rfl,_,_,rfl,rfl,?_⟩;obtain ⟨kd,M1,T0⟩:∃kd:Str,atI [V.str "plain",.str "plain",.str "plain",.str "points",.str "points",.str "cross",.str "gate",.str "stop"] (c%8)=some (.str kd)/\kd∈Zak:=by
    have h0:=Int.emod_nonneg c (show (8:Int)≠0 by decide);have h1:=Int.emod_lt_of_pos c (show (0:Int)<8 by decide);generalize c%8=m at h0 h1;have:m=0\/m=1\/m=2\/m=3\/m=4\/m=5\/m=6\/m=7:=by lia
    rcases this with rfl|rfl|rfl|rfl|rfl|rfl|rfl|rfl <;>exact ⟨_,rfl,by simp [Zak]⟩
   obtain ⟨g1,g2,g3,g4,g5,g6⟩:=Zj8 kd T0;refine WSs.step (Z0 (i:=6) Yp.nd (Zv (K:=K) rfl (Zl (Zb Zd (Zb Zd (Zb Zd (Zb Zd (Zb Zd (Zb Zd (Zb Zd (Zb Zd Za))))))))) (Zt Yv (pv 5) Zg))) ⟨szA,fun lk H6 s6 n6 e6=>(exR rfl (exQ rfl rfl ⟨(by show (0:Int)<8;decide),.inl ⟨lk,_,_,.str kd,rfl,rfl,SqL.of e6,M1,?_⟩⟩))⟩;refine WSs.step (Z0 (i:=7) Yp.nd (Zs (Zi3 T) hr rfl T.dF T.bw.F.kp T.bw.b .nil Zk (Zb (pv 6) Za))) (exR rfl ⟨kd,rfl,fun le H7 s7 n7 e7=>?_⟩);have s47:=s5.trans (s6.trans s7);have O8:=s4.trans s47;have nl1:pl≠le:=let ⟨_,z,_⟩:=i6;Zi ((s5.trans s6).at z) n7;have nl2:jl≠le:=let ⟨_,z,_⟩:=u4;Zi ((s5.trans s6).at z) n7;have i6:=i6.mono s47;have u4:=u4.mono s47;have hrl:=hrl.mono s47;obtain ⟨ts,ht,d4⟩:=i6;obtain ⟨rs,hr',M4⟩:=hrl;have c1:=Paired.length d4;have c2:=Paired.length M4;refine WSs.step (Z9 (Zq Zkz (Zt We (Zt We (Z3 (r:=Zav K) Zbh (by rfl) T.cL PySem.boot_len (Zb (pv 1) Za)) (Z3 (r:=Zav K) Zbh (by rfl) T.cL PySem.boot_len (Zb (pv 3) Za))) (Z3 (r:=Zav K) Zbh (by rfl) T.cL PySem.boot_len (Zb (pv 7) Za))) Zg (Zw _)) Zy Zr) (exR rfl (.inl ⟨pl,_,rfl,.inl (SqL.of ht),_,rfl,.inl ⟨rl,_,rfl,.inl (SqL.of hr'),.inl (exQ rfl rfl (exR rfl (.inl ⟨le,_,rfl,.inl (SqL.of e7),.inl (exQ rfl rfl (exQ rfl rfl (exR rfl (Yz (fun hgt=>?_) (fun hgt=>?_)))))⟩)))⟩⟩))
   ·exact WSs.last Zq1 ⟨O8,rl,_,_,_,_,_,_,_,_,ps,js,Yo,rfl,⟨ts,ht,d4⟩,u4,⟨rs,hr',M4⟩,hok.mono (by lia) (by lia),frl,P0,P1⟩
   have hgt:ps.length+Yo.length+(Yw kd).length<=38:=by
    have z:¬(((ts.map V.ref).length:Int)+((rs.map V.ref).length:Int)+(((Yw kd).map V.str).length:Int) >38):=fun z=>hgt (decide_eq_true z)
    rw [List.length_map,List.length_map,List.length_map] at z;lia
   obtain ⟨n,hn⟩:∃n,n=Yx kd (nmF (c / 8)) i:=⟨_,rfl⟩
   refine WSs.step (Z0 (i:=8) Yp.nd (Zs (Zfc T) hr rfl T.cX T.aG.F.kp T.aG.b .nil Zk (Zb (pv 6) (Zb (Zt Yt (pv 5) Zg) (Zb (pv 4) Za))))) (exR rfl (exR rfl (exQ rfl rfl ⟨⟨by decide,by decide⟩,_,rfl,kd,c / 8,i,rfl,g3,by lia,Int.ediv_nonneg R4 (by decide),by lia,?_⟩)));rw [<-hn];refine WSs.step (Yj (Zbw PySem.F.plainAttrs_list PySem.F.slot_list_append PySem.F.type_list_append Xa (pv 1) (Zb (Zj (Zb (pv 6) (Zb (pv 8) Za))) Za))) (exR rfl ⟨.inl ⟨rfl,_,SqL.of ht⟩,_,rfl,_,rfl,szA,fun t8 H8 s8 n8 e8=>⟨pl,_,_,rfl,rfl,s8.at ht,?_,?_⟩⟩)
   ·rw [List.length_map];exact Zx (by lia)
   have ok8:=hok.add (c:=nmF (c / 8)) (by lia) T0 hgt;rw [<-hn] at ok8;obtain ⟨us,hu,k9⟩:=u4.mono s8;have p9:Zo (upd H8 pl (.lst (ts.map V.ref++[.ref t8]))) pl (ps++[(kd,n)]):=⟨ts++[t8],by rw [Zf,List.map_append];rfl,Wv (Paired.append (Paired.mapP d4 fun _ _ r=>r.mono s8) (.cons e8 .nil)) (s8.at ht)⟩
   have j9:Yf (upd H8 pl (.lst (ts.map V.ref++[.ref t8]))) jl js:=⟨us,(Ze (Ne.symm npj)).trans hu,Zaz k9 (s8.at ht)⟩
   have r9:Zo (upd H8 pl (.lst (ts.map V.ref++[.ref t8]))) rl Yo:=⟨rs,(Ze P0).trans (s8.at hr'),Wv (Paired.mapP M4 fun _ _ r=>r.mono s8) (s8.at ht)⟩
   have e9:upd H8 pl (.lst (ts.map V.ref++[.ref t8])) le=_:=(Ze (Ne.symm nl1)).trans (s8.at e7);have s09:Same H (upd H8 pl (.lst (ts.map V.ref++[.ref t8]))):=fun b o z=>(Ze (Zi z fp)).trans (s8.at (O8.at z))
   generalize (upd H8 pl (.lst (ts.map V.ref++[.ref t8])))=H9 at p9 j9 r9 e9 s09;have D7:=hok;clear d4 M4 ht hr' hu k9 s8 s47 O8 u4 hok n8 e8;refine WSs.step (Zb6 (i:=9) (N':=["_law_end", "_law_name"]) Yp.nd rfl (Or.inl rfl) rfl (Yc.std 1 [8] rfl (by trivial) (by trivial) rfl ⟨rfl,trivial⟩ rfl rfl ⟨(exR rfl ⟨rfl,rfl⟩),trivial⟩) (Y5 (pv 7)) (fun _ _ _ _=>(Za4 (i:=0) (by show (["_law_end", "_law_name"]:List Str).Nodup;decide +kernel))) (fun _ _ _ _=>Zbk) (fun _ _ _ _=>(Zj (Zb (pv 1) (Zb (pv 0) Za))))) (exR rfl ⟨le,rfl,⟨_,SqL.of e9⟩,fun lf E3=>?_⟩);refine Zlj (xs:=Yw kd) (x:=n) e9 (by lia) E3 (fun H10 x5 f10=>?qq) ?aa ?bb
   case aa=>rfl
   case bb=>rfl
   have p10:=p9.mono x5;have j10:=j9.mono x5;have r10:=r9.mono x5;have s010:=s09.trans x5;have flf:H lf=none:=s09.free E3;have nfp:lf≠pl:=let ⟨_,z,_⟩:=p9;Ne.symm (Zi z E3);have nfj:lf≠jl:=let ⟨_,z,_⟩:=j9;Ne.symm (Zi z E3);have nfr:lf≠rl:=let ⟨_,z,_⟩:=r9;Ne.symm (Zi z E3);clear p9 j9 r9 s09 e9 x5;let I5:=fun (σ:St) (H':Hp)=>Same H H'/\∃rest' fresh' R5,σ=[some (.ref cl),some (.ref pl),some (.ref jl),some (.ref rl),some (.int i),some (.int c),some (.str kd),some (.ref le),some (.str n),some (.ref lf),o10,M6]/\Zo H' pl (ps++[(kd,n)])/\Yf H' jl R5/\Zo H' rl rest'/\Zo H' lf fresh'/\Xx (i+1) (2 * i+1) (ps++[(kd,n)]) R5 (rest'++fresh')
   refine WSs.cut I5 ?_ ?_
   ·refine WS.of (Z9 (Zq (r:=Zcm K) (Zdp hr) (pv 3) (Zl Za) (Zw _)) Zy Zr) (exR rfl ⟨szA,fun l0 H11 x6 n11 e11=>.inr (.inl ⟨2,.lst (Yo.map trP),.lst [],by decide,.inr ⟨_,_,rfl,rfl⟩,Zo.im (r10.mono x6),Im.lst (SqL.of e11) .nil,_,rfl,Yz (fun u7=>?_) (fun u7=>?_)⟩)⟩)
    ·have u7:0<Yo.length:=by
      cases Yo with
      | nil=>simp at u7
      | cons=>simp
     obtain ⟨N6,P2,hrs1⟩:=r10.mono x6;obtain ⟨P3,hf1,T3⟩:=f10.mono x6;obtain ⟨us1,hu1,hus1⟩:=j10.mono x6;have cr:=Paired.length hrs1;have cf:=Paired.length T3;have cu:=Paired.length hus1;rw [List.length_map] at cf;have hjl1:=D7.jl;obtain ⟨k1,hk1,T4⟩:=Zbz (a:=c / 24) (n:=(N6.map V.ref).length) (by rw [List.length_map];lia);obtain ⟨k2,E2,T5⟩:=Zbz (a:=c / 100) (n:=(P3.map V.ref).length) (by rw [List.length_map];lia);obtain ⟨ta,hta⟩:∃ta,N6[k1]? =some ta:=⟨_,List.getElem?_eq_getElem (by rw [List.length_map] at T4;exact T4)⟩
     obtain ⟨tb,htb⟩:∃tb,P3[k2]? =some tb:=⟨_,List.getElem?_eq_getElem (by rw [List.length_map] at T5;exact T5)⟩
     obtain ⟨qa,hqa,hqat⟩:=Paired.get hrs1 hta;obtain ⟨qb,hqb,hqbt⟩:=Paired.get T3 htb;refine WSs.last (Yj (Zbw PySem.F.plainAttrs_list PySem.F.slot_list_append PySem.F.type_list_append Xa (pv 2) (Zb (Zj (Zb (Zbw PySem.F.plainAttrs_list PySem.F.slot_list_pop PySem.F.type_list_pop Zq2 (pv 3) (Zb (Zt Yv (Zt Yt (pv 5) Zg) (Z3 (r:=Zav K) Zbh (by rfl) T.cL PySem.boot_len (Zb (pv 3) Za))) Za)) (Zb (Zbw PySem.F.plainAttrs_list PySem.F.slot_list_pop PySem.F.type_list_pop Zq2 (pv 9) (Zb (Zt Yv (Zt Yt (pv 5) Zg) (Z3 (r:=Zav K) Zbh (by rfl) T.cL PySem.boot_len (Zb (pv 9) Za))) Za)) Za))) Za))) (exR rfl ⟨.inl ⟨rfl,_,SqL.of hu1⟩,_,rfl,.inl ⟨rfl,_,SqL.of P2⟩,_,rfl,_,_,rfl,rfl,⟨by decide,by decide⟩,_,rfl,.inl ⟨rl,_,rfl,.inl (SqL.of P2),_,_,rfl,rfl,by lia,rl,_,_,k1,.ref ta,rfl,rfl,P2,by lia,by rw [List.length_map] at T4;lia,by rw [hk1];exact Zs2 T4,by rw [List.getElem?_map,hta];rfl,?_⟩⟩);have r12:=Zo.erased P2 hrs1 k1;have f12:=Zo.offL (o:=.lst ((N6.map V.ref).eraseIdx k1)) ⟨P3,hf1,T3⟩ P2 nfr;have p12:=(p10.mono x6).offL (o:=.lst ((N6.map V.ref).eraseIdx k1)) P2 (Ne.symm P0);have hu12:upd H11 rl (.lst ((N6.map V.ref).eraseIdx k1)) jl=_:=(Ze (Ne.symm P1)).trans hu1;have hus12:=Zaz (o:=.lst ((N6.map V.ref).eraseIdx k1)) hus1 P2;have w5:upd H11 rl (.lst ((N6.map V.ref).eraseIdx k1)) lf=_:=(Ze nfr).trans hf1;have hfs12:=Wv (o:=.lst ((N6.map V.ref).eraseIdx k1)) T3 P2;have a12:=hqat.offL (o:=.lst ((N6.map V.ref).eraseIdx k1)) P2;have b12:=hqbt.offL (o:=.lst ((N6.map V.ref).eraseIdx k1)) P2;have u0:Same H (upd H11 rl (.lst ((N6.map V.ref).eraseIdx k1))):=fun b o z=>(Ze (Zi z frl)).trans (x6.at (s010.at z))
     generalize (upd H11 rl (.lst ((N6.map V.ref).eraseIdx k1)))=H12 at r12 f12 p12 hu12 hus12 w5 hfs12 a12 b12 u0;refine (exR rfl ⟨.inl ⟨rfl,_,SqL.of w5⟩,_,rfl,_,_,rfl,rfl,⟨by decide,by decide⟩,_,rfl,.inl ⟨lf,_,rfl,.inl (SqL.of w5),_,_,rfl,rfl,by lia,lf,_,_,k2,.ref tb,rfl,rfl,w5,by lia,by rw [List.length_map] at T5;lia,by rw [E2];exact Zs2 T5,by rw [List.getElem?_map,htb];rfl,?_⟩⟩);have f13:=Zo.erased w5 hfs12 k2;have r13:=r12.offL (o:=.lst ((P3.map V.ref).eraseIdx k2)) w5 (Ne.symm nfr);have p13:=p12.offL (o:=.lst ((P3.map V.ref).eraseIdx k2)) w5 (Ne.symm nfp);have hu13:upd H12 lf (.lst ((P3.map V.ref).eraseIdx k2)) jl=_:=(Ze (Ne.symm nfj)).trans hu12;have hus13:=Zaz (o:=.lst ((P3.map V.ref).eraseIdx k2)) hus12 w5;have a13:=a12.offL (o:=.lst ((P3.map V.ref).eraseIdx k2)) w5;have b13:=b12.offL (o:=.lst ((P3.map V.ref).eraseIdx k2)) w5;have j5:Same H (upd H12 lf (.lst ((P3.map V.ref).eraseIdx k2))):=fun b o z=>(Ze (Zi z flf)).trans (u0.at z)
     generalize (upd H12 lf (.lst ((P3.map V.ref).eraseIdx k2)))=H13 at f13 r13 p13 hu13 hus13 a13 b13 j5;refine ⟨szA,fun tj H14 k8 n14 Q8=>⟨jl,_,_,rfl,rfl,k8.at hu13,?_,?_⟩⟩
     ·rw [List.length_map];exact Zx (by lia)
     have T6:=k8.at hu13;have hqn:qb.1=n:=by
      rw [List.getElem?_map] at hqb;obtain ⟨x,_,rfl⟩:=Option.map_eq_some_iff.mp hqb
      rfl
     have hqo:qa.1≠qb.1:=by
      rw [hqn,hn];have h1:=Ze5 (D7.net.perm.subset (List.mem_append_right _ (List.mem_of_getElem? hqa)));exact fun z=>D7.new (by lia) T0 (z ▸ h1)
     refine ⟨fun b o z=>(Ze (Zi z fj)).trans (k8.at (j5.at z)),Yo.eraseIdx k1,_,js++[(qa,qb)],rfl,(p13.mono k8).offL T6 npj,⟨us1++[tj],?_,?_⟩,(r13.mono k8).offL T6 P1,(f13.mono k8).offL T6 nfj,ok8.join (Zwq hqa hqb) hqo⟩
     ·rw [Zf,List.map_append];rfl
     ·exact Zaz (Paired.append (Paired.mapP hus13 fun _ _ r=>r.mono k8) (.cons ⟨ta,tb,Q8,a13.mono k8,b13.mono k8⟩ .nil)) T6
    ·exact ⟨s010.trans x6,Yo,_,js,rfl,p10.mono x6,j10.mono x6,r10.mono x6,f10.mono x6,ok8.mono (Nat.le_refl _) (by lia)⟩
   rintro σ H12 ⟨s012,rest2,P4,js2,rfl,p12,j12,⟨rs2,hr12,hrs2⟩,⟨fs2,w5,hfs2⟩,G9⟩;have sm12:=G9.sum;have cr:=Paired.length hrs2;have cf:=Paired.length hfs2;rw [List.length_append,List.length_append] at sm12;refine WSs.step (Z0 (i:=3) Yp.nd (Zt We (pv 3) (pv 9))) (exR rfl (exR rfl (.inr (.inr ⟨rl,lf,_,_,rfl,rfl,hr12,w5,?_,fun rm H13 j5 n13 e13=>?_⟩))))
   ·rw [List.length_map,List.length_map];exact sz (by lia)
   have r13:Zo H13 rm (rest2++P4):=Zo.app (Paired.mapP hrs2 fun _ _ r=>r.mono j5) (Paired.mapP hfs2 fun _ _ r=>r.mono j5) e13;have p13:=p12.mono j5;have j13:=j12.mono j5;have s013:=s012.trans j5;have frm:H rm=none:=s012.free n13;have nmp:rm≠pl:=let ⟨_,z,_⟩:=p12;Ne.symm (Zi z n13);have nmj:rm≠jl:=let ⟨_,z,_⟩:=j12;Ne.symm (Zi z n13);clear hr12 w5 hrs2 hfs2 p12 j12 s012 j5 p10 j10 r10 f10 s010 e13;obtain ⟨op,hop⟩:∃op,op=rest2++P4:=⟨_,rfl⟩
   rw [<-hop] at r13 G9;have hopl:op.length<=39:=by rw [hop,List.length_append];lia
   clear hop sm12 cr cf;obtain ⟨rs,hrm,M4⟩:=r13;have crs:=Paired.length M4;refine WSs.step (Zb6 (i:=10) (N':=["_law_end", "_law_rest"]) Yp.nd rfl (Or.inl rfl) rfl (Yc.std 1 [3] rfl (by trivial) (by trivial) rfl ⟨rfl,trivial⟩ rfl rfl ⟨(exR rfl ⟨rfl,rfl⟩),trivial⟩) (Y5 (Wh (r:=Zib K) Zjt (pv 3) (Wr Zg) W6)) (fun _ _ _ _=>(Za4 (i:=0) (by show (["_law_end", "_law_rest"]:List Str).Nodup;decide +kernel))) (fun _ _ _ _=>(Zd7 (Zq (r:=Zcm K) (Zdp hr) (Zv (K:=K) rfl (pv 0) Zg) (Zv (K:=K) rfl (Zv (K:=K) rfl (pv 1) Zg) Zg) (Zw _)))) (fun _ _ _ _=>(pv 0))) (exR rfl (exR rfl (.inr (.inl ⟨rm,_,rfl,SqL.of hrm,fun l1 H14 k8 n14 Q8=>⟨l1,rfl,⟨_,SqL.of Q8⟩,fun D hD=>?_⟩⟩))));rw [show (some (1:Int))=some ((1:Nat):Int) from rfl,Zfg,<-List.map_drop] at Q8;have L3:Paired (Zm H14) rs op:=Paired.mapP M4 fun _ _ r=>r.mono k8
   have P5:=k8.at hrm;obtain ⟨q0,hq0⟩:∃q0,q0=op.getD 0 ("", ""):=⟨_,rfl⟩
   refine Zny (keep:=fun x=>decide (x.1≠q0.1)) (w:=some (.ref rm)) Q8 (Zqo L3 1) (by rw [List.length_drop];lia) hD (fun H15 B6 f15=>?q2) ?a2 ?b2
   case a2=>rfl
   case b2 =>
    intro t x H' R sm hx hm hR;cases L3 with
    | nil=>simp at hm
    | cons r0 _ =>
     subst hq0;refine (exR rfl (.inr (.inl ⟨t,_,_,_,rfl,rfl,SqT.of hx,rfl,_,rfl,.inl ⟨rm,_,_,_,rfl,rfl,SqL.of (sm.at P5),(show atI _ ((0:Nat):Int)=_ from Yr rfl),.inr (.inl ⟨_,_,_,_,rfl,rfl,SqT.of (sm.at r0),rfl,.inl ⟨rfl,_,rfl,?_⟩⟩)⟩⟩)));simpa using hR
   obtain ⟨M7,hnear⟩:∃M7,M7=(op.drop 1).filter fun x=>decide (x.1≠q0.1):=⟨_,rfl⟩
   rw [<-hnear] at f15;have p15:=(p13.mono k8).mono B6;have j15:=(j13.mono k8).mono B6;have P6:=B6.at P5;have P7:Paired (Zm H15) rs op:=Paired.mapP L3 fun _ _ r=>r.mono B6
   have s015:=s013.trans (k8.trans B6);clear p13 j13 s013 k8 B6 P5 L3 hrm M4 Q8;refine WSs.last (Z9 (PW.pt (Zfk (Zq (r:=Zcm K) (Zdp hr) (pv 10) (Zl Za) (Zw _)) (Zcp (Zq (r:=X3 K) (X8 hr) (Zt Yv (Zt Yt (pv 5) Zg) Zg) Zg (Zw _))))) Zy Zr) (exR rfl ⟨szA,fun l0 H16 x8 n16 e16=>.inr (.inl ⟨2,.lst (M7.map trP),.lst [],by decide,.inr ⟨_,_,rfl,rfl⟩,Zo.im (f15.mono x8),Im.lst (SqL.of e16) .nil,_,rfl,Yz (fun u7=>?_) (fun u7=>?_)⟩)⟩)
   ·refine (exR rfl (exQ rfl rfl ⟨⟨by decide,by decide⟩,_,_,rfl,rfl,(by show (0:Int)<3;decide),.inl ⟨rfl,_,rfl,Yz (fun _=>?_) (fun _=>?_)⟩⟩))
    ·obtain ⟨ns,hnl,S0⟩:=f15.mono x8;have cn:=Paired.length S0;have hnl0:0<M7.length:=by
      cases M7 with
      | nil=>simp at u7
      | cons=>simp
     obtain ⟨k3,hk3,hk3l⟩:=Zbz (a:=c / 1500) (n:=(ns.map V.ref).length) (by rw [List.length_map];lia);obtain ⟨to,N7⟩:∃to,ns[k3]? =some to:=⟨_,List.getElem?_eq_getElem (by rw [List.length_map] at hk3l;exact hk3l)⟩
     obtain ⟨q3,hq3,hq3t⟩:=Paired.get S0 N7;have hq3m:q3∈M7:=List.mem_of_getElem? hq3;refine WSs.step (Z0 (i:=11) Yp.nd (Zv (K:=K) rfl (pv 10) (Zt Yv (Zt Yt (pv 5) Zg) (Z3 (r:=Zav K) Zbh (by rfl) T.cL PySem.boot_len (Zb (pv 10) Za))))) (exR rfl (exR rfl (exQ rfl rfl ⟨⟨by decide,by decide⟩,_,rfl,.inl ⟨D,_,rfl,.inl (SqL.of hnl),_,_,rfl,rfl,by lia,.inl ⟨D,_,_,.ref to,rfl,rfl,SqL.of hnl,by rw [hk3];exact Yr (by rw [List.getElem?_map,N7];rfl),?_⟩⟩⟩)));obtain ⟨us,hu,k9⟩:=j15.mono x8;have cu:=Paired.length k9;have hju:=G9.jl;have hrm16:=x8.at P6;have hrs16:Paired (Zm H16) rs op:=Paired.mapP P7 fun _ _ r=>r.mono x8
     rw [hnear] at hq3m;obtain ⟨hqd,hqk⟩:=List.mem_filter.mp hq3m;have hqk:q3.1≠q0.1:=of_decide_eq_true hqk;obtain ⟨t0,rs',tl,rfl,rfl,r0,hrt⟩:∃t0 rs' tl,rs=t0 ::rs'/\op=q0 ::tl/\Zm H16 t0 q0/\Paired (Zm H16) rs' tl:=by
      cases hrs16 with
      | nil=>simp at hqd
      | cons r0 rt=>exact ⟨_,_,_,rfl,by rw [hq0];rfl,by rw [hq0];exact r0,rt⟩
     have hqd:q3∈tl:=hqd;refine WSs.step (Yj (Zbw PySem.F.plainAttrs_list PySem.F.slot_list_append PySem.F.type_list_append Xa (pv 2) (Zb (Zj (Zb (pv 11) (Zb (Zv (K:=K) rfl (pv 3) Zg) Za))) Za))) (exR rfl ⟨.inl ⟨rfl,_,SqL.of hu⟩,_,rfl,_,rfl,.inl ⟨rm,_,_,.ref t0,rfl,rfl,SqL.of hrm16,(show atI _ ((0:Nat):Int)=_ from Yr rfl),szA,fun tj H17 B7 n17 e17=>⟨jl,_,_,rfl,rfl,B7.at hu,?_,?_⟩⟩⟩)
     ·rw [List.length_map];exact Zx (by lia)
     have T7:=B7.at hu;have j18:Yf (upd H17 jl (.lst (us.map V.ref++[.ref tj]))) jl (js2++[(q3,q0)]):=⟨us++[tj],by rw [Zf,List.map_append];rfl,Zaz (Paired.append (Paired.mapP k9 fun _ _ r=>r.mono B7) (.cons ⟨to,t0,e17,hq3t.mono B7,r0.mono B7⟩ .nil)) T7⟩
     have p18:=((p15.mono x8).mono B7).offL (o:=.lst (us.map V.ref++[.ref tj])) T7 npj;have hrm18:upd H17 jl (.lst (us.map V.ref++[.ref tj])) rm=_:=(Ze nmj).trans (B7.at hrm16);have hrt18:=Wv (o:=.lst (us.map V.ref++[.ref tj])) (Paired.mapP hrt fun _ _ r=>r.mono B7) T7;have q18:=(hq3t.mono B7).offL (o:=.lst (us.map V.ref++[.ref tj])) T7;have N0:Same H (upd H17 jl (.lst (us.map V.ref++[.ref tj]))):=fun b o z=>(Ze (Zi z fj)).trans (B7.at (x8.at (s015.at z)))
     generalize (upd H17 jl (.lst (us.map V.ref++[.ref tj])))=H18 at j18 p18 hrm18 hrt18 q18 N0;refine WSs.last (Z0 (i:=3) Yp.nd (X4 (N':=["_law_end", "_law_other"]) rfl (Yc.std 1 [11] rfl (by trivial) (by trivial) rfl ⟨rfl,trivial⟩ rfl rfl ⟨(exR rfl ⟨rfl,rfl⟩),trivial⟩) (Y5 (Wh (r:=Zib K) Zjt (pv 3) (Wr Zg) W6)) (fun _ _ _ _=>(Za4 (i:=0) (by show (["_law_end", "_law_other"]:List Str).Nodup;decide +kernel))) (fun _ _ _ _=>(Zd7 (Zq (r:=Zcm K) (Zdp hr) (pv 0) (pv 1) (Zw _)))) (fun _ _ _ _=>(pv 0)))) (exR rfl (exR rfl (.inr (.inl ⟨rm,_,rfl,SqL.of hrm18,fun l2 H19 s19 n19 e19=>⟨l2,rfl,⟨_,SqL.of e19⟩,fun D2 v5=>?_⟩⟩))));rw [show (some (1:Int))=some ((1:Nat):Int) from rfl,Zfg,<-List.map_drop] at e19;have q19:=q18.mono s19;refine Zny (ts:=rs') (qs:=tl) (keep:=fun x=>decide (x≠q3)) (w:=some (.ref to)) e19 (Paired.mapP hrt18 fun _ _ r=>r.mono s19) (by simp at hopl;lia) v5 (fun H20 V8 f20=>?q4) ?a4 ?b4
     case a4=>rfl
     case b4 =>
      intro t x H' R sm hx hm hR;refine (exR rfl (exR rfl (.inr (.inl ⟨1,trP x,trP q3,by decide,.inl ⟨_,_,rfl,rfl⟩,Im.tup (SqT.of hx) (.cons (.str _) (.cons (.str _) .nil)),Im.tup (SqT.of (q19.mono sm)) (.cons (.str _) (.cons (.str _) .nil)),_,rfl,?_⟩))));have:(!decide (trP x=trP q3))=decide (x≠q3):=by
       rw [Bool.eq_iff_iff];simp [trP,Prod.ext_iff]
      rw [if_pos rfl,this];exact hR
     have P8:=s19.trans V8;exact ⟨N0.trans P8,D2,_,_,_,_,_,_,_,_,_,_,_,rfl,p18.mono P8,j18.mono P8,f20,(G9.join (Zuz G9.net.ond hqd) hqk).mono (by lia) (by lia),(N0.trans s19).free v5,(let ⟨_,z,_⟩:=p18;Ne.symm (Zi (s19.at z) v5)),(let ⟨_,z,_⟩:=j18;Ne.symm (Zi (s19.at z) v5))⟩
    ·exact ⟨s015.trans x8,rm,_,_,_,_,_,_,_,_,_,_,_,rfl,p15.mono x8,j15.mono x8,⟨rs,x8.at P6,Paired.mapP P7 fun _ _ r=>r.mono x8⟩,G9.mono (by lia) (by lia),frm,nmp,nmj⟩
   ·exact ⟨s015.trans x8,rm,_,_,_,_,_,_,_,_,_,_,_,rfl,p15.mono x8,j15.mono x8,⟨rs,x8.at P6,Paired.mapP P7 fun _ _ r=>r.mono x8⟩,G9.mono (by lia) (by lia),frm,nmp,nmj⟩
  ·rintro σ H4 ⟨s4,rl,o4,o5,o6,o7,o8,o9,o10,M6,ps,js,Yo,rfl,i6,u4,hrl,hok,frl,P0,P1⟩;rw [List.length_map] at hok;have hsm:=hok.sum;have hjb:=hok.jl;refine WSs.step (Yj (Zs (Zmf T) hr rfl T.eQ T.bx.F.kp T.bx.b .nil Zk (Zb (pv 1) (Zb (pv 2) (Zb (pv 3) (Zb (Z3 (Zvb rfl) (by rfl) T.ic PyProof.Rows.boot_sum (Zb (pv 0) Za)) Za)))))) (exR rfl (exR rfl (exR rfl (exR rfl ⟨cl,cs,rfl,s4.seq v6,pl,jl,rl,Zv6 cs,ps,js,Yo,rfl,i6,u4,hrl,npj,P0,P1,by lia,by lia,by lia,fun H5 A0 B2 km hp5 hj5 hcl5=>?_⟩))));have hnet:=hok.done (by lia) hcl5;have hnl:A0.length=Yo.length:=by obtain ⟨ks,hk1,E2,hk3,hk4⟩:=hcl5;rw [hk3,List.length_map,List.length_range]
   refine WSs.last (Zp (Zj (Zb (pv 1) (Zb (pv 2) Za)))) (exR rfl (exR rfl ⟨szA,fun t H6 s6 n6 e6=>q t H6 pl jl _ _ 0 (fun b o z=>s6.at (km b o (Zi z fp) (Zi z fj) (s4.at z))) e6 (hp5.mono s6) (hj5.mono s6) fp fj hnet ?_ ?_⟩))
   ·rw [List.length_append];lia
   ·intro p hp;rcases List.mem_append.mp hp with z|z
    ·obtain ⟨kd,h1,c,k,h2,h3⟩:=hok.nm p z;exact .inl ⟨kd,h1,c,k,by lia,h3⟩
    ·obtain ⟨ks,hk1,E2,hk3,hk4⟩:=hcl5;rw [hk3] at z;obtain ⟨j,hj,rfl⟩:=List.mem_map.mp z;exact .inr ⟨j,by have:=List.mem_range.mp hj;lia,rfl⟩
theorem Zou(T:Tx K mg){k:Nat}(h:3<=k:=by decide):Zu P w K mg base CX0 k T.bL.f T.bL.fd ["_law_cells_here"] (Ztk K):=(Zmr T).mono h
def Zes(n k:Nat):Str:=("s" :Str)++Str.ofString (toString (n:Int))++(⟨#[Zer.getD (k / 26) 0]⟩:Str)++(⟨#[Zer.getD (k%26) 0]⟩:Str)
theorem Zrm:∀i<26,Zer.getD i 0=97+i:=by decide
theorem Ziu(n k:Nat):(Zes n k).cps.toList=(("s" :Str)++Str.ofString (toString (n:Int))).cps.toList++[Zer.getD (k / 26) 0]++[Zer.getD (k%26) 0]:=by
 unfold Zes;rw [PySem.W.KT.app_list,PySem.W.KT.app_list]
theorem Zv1{n n' k k':Nat}(hk:k<600)(hk':k'<600)(h:Zes n k=Zes n' k'):k=k':=by
 have:=congrArg (fun s:Str=>s.cps.toList) h;simp only [Ziu] at this;obtain ⟨h1,h2⟩:=List.append_inj' this rfl;obtain ⟨_,h3⟩:=List.append_inj' h1 rfl;rw [List.cons.injEq] at h2 h3;rw [Zrm _ (by lia),Zrm _ (by lia)] at h2 h3;lia
def Zy6(H:Hp)(t:Addr)(q:Str×Str×Str):Prop:=H t=some (.tup [.str q.1,.str q.2.1,.str q.2.2])
def Zay(H:Hp)(l:Addr)(sg:List (Str×Str×Str)):Prop:=∃ts:List Addr,H l=some (.lst (ts.map V.ref))/\Paired (Zy6 H) ts sg
def X7(ps:List Zc):List Zc:=ps.flatMap fun p=>if p.1∈[("plain" :Str), "gate", "stop"] then (Yw p.1).map (fun x=>(p.2,x)) else []
theorem Zsa(ps:List Zc)(p:Zc):X7 (ps++[p])=X7 ps++(if p.1∈[("plain" :Str), "gate", "stop"] then (Yw p.1).map (fun x=>(p.2,x)) else []):=by
 unfold X7;rw [List.flatMap_append];simp
structure Zcv(es:List Zc)(i:Nat)(sg:List (Str×Str×Str)):Prop where
 at_:(sg.map fun q=>((q.2.1,q.2.2):Zc)).Sublist (es.take i)
 name:∀q∈sg,q.1=q.2.1\/∃n k,n<99/\k<i/\q.1=Zes n k
 nd:(sg.map Prod.fst).Nodup
 len:sg.length<=40
theorem Zcv.skip{es:List Zc}{i:Nat}{sg:List (Str×Str×Str)}(h:Zcv es i sg):Zcv es (i+1) sg:=by
 refine ⟨h.at_.trans ?_,fun q hq=>?_,h.nd,h.len⟩
 ·rw [List.take_add_one];exact List.sublist_append_left _ _
 ·rcases h.name q hq with z|⟨n,k,a,b,c⟩
  ·exact .inl z
  ·exact .inr ⟨n,k,a,by lia,c⟩
theorem Zcv.add{es:List Zc}{i:Nat}{sg:List (Str×Str×Str)}{e:Zc}{nm:Str}(h:Zcv es i sg)(he:es[i]? =some e)(hn:nm=e.1\/∃n,n<99/\nm=Zes n i)(i7:nm∉sg.map Prod.fst)(hl:sg.length<40):Zcv es (i+1) (sg++[(nm,e.1,e.2)]):=by
 refine ⟨?_,fun q hq=>?_,?_,by rw [List.length_append];simp;lia⟩
 ·rw [List.take_add_one,he,List.map_append];exact List.Sublist.append h.at_ (List.Sublist.refl _)
 ·rcases List.mem_append.mp hq with z|z
  ·exact h.skip.name q z
  ·rw [List.mem_singleton] at z;subst z;rcases hn with y|⟨n,a,b⟩
   ·exact .inl y
   ·exact .inr ⟨n,i,a,by lia,b⟩
 ·rw [List.map_append,List.nodup_append];refine ⟨h.nd,by simp,fun a ha b hb z=>?_⟩;simp at hb;exact i7 (by rw [<-hb,<-z];exact ha)
theorem Zcv.fresh{es:List Zc}{i n:Nat}{sg:List (Str×Str×Str)}(h:Zcv es i sg)(hi:i<600)(u7:∀n k e,e∈es->n<99->k<600->e.1≠Zes n k)(hn:n<99):Zes n i∉sg.map Prod.fst:=fun hm=>by
 obtain ⟨q,hq,e⟩:=List.mem_map.mp hm;rcases h.name q hq with z|⟨n',k,a,b,c⟩
 ·have:((q.2.1,q.2.2):Zc)∈es:=List.mem_of_mem_take (h.at_.subset (List.mem_map.mpr ⟨q,hq,rfl⟩));exact u7 n i _ this hn hi (z.symm.trans e)
 ·have:=Zv1 hi (by lia) (e.symm.trans c);lia
theorem Zay.mono{H H':Hp}{l:Addr}{sg:List (Str×Str×Str)}(e:Same H H')(h:Zay H l sg):Zay H' l sg:=let ⟨ts,h1,h2⟩:=h;⟨ts,e.at h1,Paired.mapP h2 fun _ _ r=>e.at r⟩
def Zyq(K:Frag):Sp:=fun vs H Q _=>∃(pl:Addr) (c:Int) (ps:List Zc),vs=[.ref pl,.int c]/\Zo H pl ps/\ps.length<=45/\(∀n k e,e∈X7 ps->n<99->k<600->e.1≠Zes n k) /\
 ∀(l:Addr) (H':Hp) (sg:List (Str×Str×Str)),Same H H'->H l=none->Zay H' l sg->Zcv (X7 ps) (X7 ps).length sg->(∀q∈sg,2<=q.1.length)->Q (.ref l) H'
theorem Zke(k:Str):(Yw k).length<=4:=by
 unfold Yw;split
 ·decide
 ·split
  ·decide
  ·split <;>decide
theorem Zho:∀ps:List Zc,(X7 ps).length<=4 * ps.length
 | []=>by simp [X7]
 | p ::ps=>by
  have:=Zho ps;have h2:=Zke p.1;rw [show X7 (p ::ps)=(if p.1∈[("plain" :Str), "gate", "stop"] then (Yw p.1).map (fun x=>((p.2,x):Zc)) else [])++X7 ps from rfl,List.length_append,List.length_cons];split
  ·rw [List.length_map];lia
  ·simp;lia
theorem Zsu:∀n<99,(Str.ofString (toString ((n:Nat):Int))).length<=2:=by trivial
theorem Zxo:∀n<99,(((n:Nat):Int).natAbs).log2<1920:=by trivial
theorem Zvm(n k:Nat):2<=(Zes n k).length:=by
 unfold Zes;rw [PySem.Str.length_append,PySem.Str.length_append];show 2<=_+1+1;lia
theorem Zgy(T:Tx K mg):Zu P w K mg base CX0 2 T.aE.f T.aE.fd ["_law_parts", "_law_cell"] (Zyq K):=by
 refine T.aE.F.okW Yd fun a8 A outer s H vs Q E hr h=>?_
 ·obtain ⟨pl,c,ps,rfl,⟨ts,d4,hps⟩,i6,u7,q⟩:=h;intro X;have T8:ts.length=ps.length:=Paired.length hps;refine WSs.step (Z0 (i:=2) Yd.nd Zd) ?_;refine WSs.step (Z0 (i:=3) Yd.nd (Zl Za)) ⟨szA,fun l0 H1 s1 n1 e1=>?_⟩;let I6:=fun (i:Nat) (σ:St) (H':Hp)=>∃le,(∃o4 o5 o6,σ=[some (.ref pl),some (.int c),some (.str "abcdefghijklmnopqrstuvwxyz"),some (.ref le),o4,o5,o6,none,none,none,none])/\Same H H'/\Zo H' le (X7 (ps.take i))
  refine WSs.step (Xy PassesOwn.never rfl (Y5 (pv 0)) (W8 rfl (Zz (Y1 (i:=4) Yd.nd) (Zz (Y1 (i:=5) Yd.nd) Xe))) Zy) (exR rfl ⟨pl,rfl,⟨_,SqL.of (s1.at d4)⟩,W2 (xs:=ts.map V.ref) I6 ⟨l0,⟨none,none,none,rfl⟩,s1,[],e1,.nil⟩ ?_ ?_ ?_⟩)
  ·rintro i σ H' _ ⟨_,_,sm,_⟩;exact SqL.of (sm.at d4)
  ·rintro i v σ H2 hi ⟨le,⟨o4,o5,o6,rfl⟩,s2,us,w4,k9⟩;rw [List.getElem?_map] at hi;obtain ⟨t,ht,rfl⟩:=Option.map_eq_some_iff.mp hi;obtain ⟨p,hp,rp⟩:=Paired.get hps ht;have O4:i<ts.length:=(List.getElem?_eq_some_iff.mp ht).1;have hbl:=Zho (ps.take i);rw [List.length_take] at hbl;have T9:us.length=(X7 (ps.take i)).length:=Paired.length k9;have nxt:X7 (ps.take (i+1))=X7 (ps.take i)++(if p.1∈[("plain" :Str), "gate", "stop"] then (Yw p.1).map (fun x=>((p.2,x):Zc)) else []):=by
    rw [List.take_add_one,hp];exact Zsa _ _
   refine ⟨t,_,rfl,SqT.of (s2.at rp),rfl,_,_,rfl,_,_,rfl,rfl,?_⟩;refine WSs.last (Z9 (Zq (r:=Zoc K) (Zqs hr) (pv 4) (Zl (Zb Zd (Zb Zd (Zb Zd Za)))) (by with_unfolding_all rfl)) Zy Zr) (exR rfl ⟨szA,fun lk H3 s3 n3 e3=>.inl ⟨lk,_,rfl,.inl (SqL.of e3),rfl,rfl,_,rfl,?_⟩⟩);rw [if_neg Bool.false_ne_true,show inV (.str p.1) [.str "plain",.str "gate",.str "stop"]=decide (p.1∈[("plain" :Str), "gate", "stop"]) from Wp p.1 ["plain", "gate", "stop"]];refine Yz (fun hc=>?_) (fun hc=>⟨le,⟨_,_,_,rfl⟩,s2.trans s3,?_⟩)
   ·have hc:=of_decide_eq_true hc;rw [if_pos hc] at nxt;refine WSs.last (Z0 (i:=3) Yd.nd (Zt We (pv 3) (X4 (N':=["_law_end", "_law_name"]) rfl (Yc.std 1 [5] rfl (by trivial) (by trivial) rfl ⟨rfl,trivial⟩ rfl rfl ⟨(exR rfl ⟨rfl,rfl⟩),trivial⟩) (Y5 (Zs (Zi3 T) hr rfl T.dF T.bw.F.kp T.bw.b .nil Zk (Zb (pv 4) Za))) (fun _ _ _ _=>(Za4 (i:=0) (by show (["_law_end", "_law_name"]:List Str).Nodup;decide +kernel))) (fun _ _ _ _=>Zbk) (fun _ _ _ _=>(Zj (Zb (pv 1) (Zb (pv 0) Za))))))) (exR rfl (exR rfl ⟨p.1,rfl,fun lp H4 s4 n4 e4=>⟨lp,rfl,⟨_,SqL.of e4⟩,fun D hD=>?_⟩⟩));have hel:=Zke p.1;refine Zlj (xs:=Yw p.1) (x:=p.2) e4 (by lia) hD (fun H5 s5 f5=>?qq) ?aa ?bb
    case aa=>rfl
    case bb=>rfl
    case qq =>
     obtain ⟨vs,hv,hvs⟩:=f5;have hvl:vs.length=(Yw p.1).length:=by rw [Paired.length hvs,List.length_map]
     have s35:=s3.trans (s4.trans s5);refine .inr (.inr ⟨le,D,_,_,rfl,rfl,s35.at w4,hv,by rw [List.length_map,List.length_map];exact sz (by lia),fun ln H6 s6 n6 e6=>⟨ln,⟨_,_,_,rfl⟩,s2.trans (s35.trans s6),?_⟩⟩);rw [nxt];exact ⟨us++vs,by rw [e6,List.map_append],Paired.append (Paired.mapP k9 fun _ _ r=>(s35.trans s6).at r) (Paired.mapP hvs fun _ _ r=>s6.at r)⟩
   ·have hc:¬p.1∈[("plain" :Str), "gate", "stop"]:=fun z=>hc (decide_eq_true z)
    rw [nxt,if_neg hc,List.append_nil];exact Zo.mono s3 ⟨us,w4,k9⟩
  rintro σ H2 ⟨le,⟨o4,o5,o6,rfl⟩,s2,hE⟩;rw [List.length_map,T8,List.take_length] at hE;obtain ⟨us,w4,k9⟩:=hE;have hbl:=Zho ps;have T9:us.length=(X7 ps).length:=Paired.length k9;obtain ⟨es,hes⟩:∃es,es=X7 ps:=⟨_,rfl⟩
  rw [<-hes] at k9 T9 u7 q hbl;refine WSs.step (Z0 (i:=7) Yd.nd (Zl Za)) ⟨szA,fun lf H3 s3 n3 e3=>?_⟩;let I7:=fun (i:Nat) (σ:St) (H':Hp)=>(∃o5 o6 o8 o9 o10,σ=[some (.ref pl),some (.int c),some (.str "abcdefghijklmnopqrstuvwxyz"),some (.ref le),o4,o5,o6,some (.ref lf),o8,o9,o10])/\Same H2 H'/\∃sg,Zay H' lf sg/\Zcv es i sg/\∀q∈sg,2<=q.1.length
  refine WSs.step (Xy PassesOwn.never rfl (Zf2 rfl T.cF (Zb (pv 3) Za)) (W8 rfl (Zz (Y1 (i:=8) Yd.nd) (Zz (Y1 (i:=6) Yd.nd) Xe))) Zy) (exR rfl ⟨le,rfl,⟨_,SqL.of (s3.at w4)⟩,Zdl (xs:=us.map V.ref) I7 ⟨⟨_,_,none,none,none,rfl⟩,s3,[],⟨[],e3,.nil⟩,⟨List.nil_sublist _,(fun _ z=>nomatch z),List.nodup_nil,Nat.zero_le _⟩,fun _ z=>nomatch z⟩ ?_ ?_ ?_⟩)
  ·rintro i σ H' _ ⟨_,sm,_⟩;exact SqL.of (sm.at w4)
  ·rintro i x' σ H4 hi ⟨⟨o5',o6',o8,o9,o10,rfl⟩,s4,sg,hsg,ok,ok2⟩ p H5 s5 n5 e5;rw [List.getElem?_map] at hi;obtain ⟨te,L1,rfl⟩:=Option.map_eq_some_iff.mp hi;obtain ⟨e,he,re⟩:=Paired.get k9 L1;have O4:i<us.length:=(List.getElem?_eq_some_iff.mp L1).1;have hi600:i<600:=by lia
   refine ⟨p,_,rfl,SqT.of e5,rfl,_,_,rfl,_,_,rfl,rfl,?_⟩;have re5:Zm H5 te e:=s5.at (s4.at re);obtain ⟨gs,E3,hgs⟩:=hsg.mono s5;have hgl:gs.length=sg.length:=Paired.length hgs;have M5:=s4.trans s5;refine WSs.step (Z0 (i:=9) Yd.nd (Zs (Zao T) hr rfl T.cH T.ar.F.kp T.ar.b .nil Zk (Zb (pv 1) (Zb (pv 8) Za)))) (exR rfl (exR rfl ⟨c,_,rfl,?_⟩));generalize Zdq c ((i:Nat):Int)=dr;have skip:∃sg,Zay H5 lf sg/\Zcv es (i+1) sg/\∀q∈sg,2<=q.1.length:=⟨sg,⟨gs,E3,hgs⟩,ok.skip,ok2⟩
   refine WSs.last (Z9 (PW.pt (Zfk (Zq Zkz (Zt Yv (pv 9) Zg) (Zt Yv (pv 1) Zg) (Zw _)) (Zcp (Zq Zn6 (Z3 (r:=Zav K) Zbh (by rfl) T.cL PySem.boot_len (Zb (pv 7) Za)) Zg (Zw _))))) Zy Zr) (exR rfl (exQ rfl rfl ⟨(by show (0:Int)<8;decide),_,rfl,_,_,rfl,rfl,(by show (0:Int)<7;decide),_,_,rfl,rfl,_,rfl,Yz (fun _=>(exR rfl (.inl ⟨lf,_,rfl,.inl (SqL.of E3),_,_,rfl,rfl,_,rfl,Yz (fun hl=>?_) (fun _=>⟨⟨_,_,_,_,_,rfl⟩,M5,skip⟩)⟩))) (fun _=>⟨⟨_,_,_,_,_,rfl⟩,M5,skip⟩)⟩));have hl:sg.length<40:=by
    have:=of_decide_eq_true hl;rw [List.length_map] at this;lia
   have m0:=Int.emod_nonneg (dr / 8) (show (99:Int)≠0 by decide);have m1:=Int.emod_lt_of_pos (dr / 8) (show (0:Int)<99 by decide);obtain ⟨n,hn⟩:∃n:Nat,dr / 8%99=(n:Int):=⟨(dr / 8%99).toNat,by lia⟩
   have U0:n<99:=by lia
   have O6:=Zsu n U0;have d5:(("s" :Str)++Str.ofString (toString (n:Int))).length<=3:=by rw [PySem.Str.length_append];show 1+_<=3;lia
   have a1:atI Zer ((i:Int) / 26)=some (Zer.getD (i / 26) 0):=by
    have:=Zkr (n:=26) (l:=Zer) (i:=(i:Int) / 26) rfl (by lia) (by lia);rw [show ((i:Int) / 26).toNat=i / 26 by lia] at this;exact this
   have a2:atI Zer ((i:Int)%26)=some (Zer.getD (i%26) 0):=by
    have:=Zkr (n:=26) (l:=Zer) (i:=(i:Int)%26) rfl (by lia) (by lia);rw [show ((i:Int)%26).toNat=i%26 by lia] at this;exact this
   refine WSs.step (Z0 (i:=10) Yd.nd (Zt We (Zv (K:=K) rfl (pv 2) (Zt Yt (pv 8) Zg)) (Zv (K:=K) rfl (pv 2) (Zt Yv (pv 8) Zg)))) (exR rfl (exR rfl (exQ rfl rfl ⟨⟨by decide,by decide⟩,.inr (.inr ⟨_,_,Zer.getD (i / 26) 0,rfl,rfl,sz (by rw [Zj6];decide),by rw [Zpl];exact a1,_,rfl,_,rfl,_,_,rfl,rfl,(by show (0:Int)<26;decide),.inr (.inr ⟨_,_,Zer.getD (i%26) 0,rfl,rfl,sz (by rw [Zj6];decide),by rw [Zpl];exact a2,.inr (.inl (exQ rfl rfl ⟨sz (by show 1+1<=1000;lia),?_⟩))⟩)⟩)⟩)));refine WSs.last (Yj (Zbw PySem.F.plainAttrs_list PySem.F.slot_list_append PySem.F.type_list_append Xa (pv 7) (Zb (Zj (Zb (Zt We (Zt We Zd (Wk Zbx (by rfl) T.et PyProof.Rows.boot_str (Zb (Zt Yv (Zt Yt (pv 9) Zg) Zg) Za))) (pv 10)) (Zb (Zv (K:=K) rfl (pv 6) Zg) (Zb (Zv (K:=K) rfl (pv 6) Zg) Za)))) Za))) (exR rfl ⟨.inl ⟨rfl,_,SqL.of E3⟩,_,rfl,_,_,rfl,rfl,⟨by decide,by decide⟩,_,_,rfl,rfl,(by show (0:Int)<99;decide),(n:Int),?_,Zxo n U0,.inr (.inl (exQ rfl rfl ⟨sz (by show 1+_<=1000;lia),_,rfl,.inr (.inl (exQ rfl rfl ⟨sz (by show _+2<=1000;lia),_,rfl,.inr (.inl ⟨te,_,_,.str e.1,rfl,rfl,SqT.of re5,rfl,_,rfl,.inr (.inl ⟨te,_,_,.str e.2,rfl,rfl,SqT.of re5,rfl,szA,fun t H7 s7 n7 e7=>⟨lf,_,_,rfl,rfl,s7.at E3,by rw [List.length_map];exact Zx (by lia),⟨_,_,_,_,_,rfl⟩,fun b o z=>?_,sg++[(Zes n i,e.1,e.2)],⟨gs++[t],?_,?_⟩,ok.add he (.inr ⟨n,U0,rfl⟩) (ok.fresh hi600 u7 U0) hl,fun q hq=>(List.mem_append.mp hq).elim (ok2 q) fun z=>by rw [List.mem_singleton.mp z];exact Zvm n i⟩⟩)⟩)⟩))⟩))⟩)
   ·show [V.int (dr / 8%99)]=[V.int (n:Int)];rw [hn]
   ·rw [Ze (Zi z n3)];exact s7.at (M5.at z)
   ·rw [Zf,List.map_append];rfl
   ·have off:∀{b:Addr} {xs:List V},H7 b=some (.tup xs)->(upd H7 lf (.lst (gs.map V.ref++[V.ref t]))) b=some (.tup xs):=fun {b xs} z=>by
     rw [Ze fun y=>by rw [y,s7.at E3] at z;cases z];exact z
    exact Paired.append (Paired.mapP hgs fun _ _ r=>off (s7.at r)) (.cons (off e7) .nil)
  ·rintro σ H4 ⟨⟨o5',o6',o8,o9,o10,rfl⟩,s4,sg,hsg,ok,ok2⟩;refine WSs.last (Zp (pv 7)) (exR rfl (q lf H4 sg (s2.trans s4) (s2.free n3) hsg ?_ ok2));rw [List.length_map,T9] at ok;exact ok
theorem Zhv(T:Tx K mg){k:Nat}(h:2<=k:=by decide):Zu P w K mg base CX0 k T.aE.f T.aE.fd ["_law_parts", "_law_cell"] (Zyq K):=(Zgy T).mono h
def Zhq(s:Str):Nat:=s.cps.toList.getLastD 0
theorem Zoa{x y:Str}(h:0<y.length):Zhq (x++y)=Zhq y:=by
 unfold Zhq;rw [PySem.W.KT.app_list];have:y.cps.toList≠[]:=fun z=>by
  have:y.cps.toList.length=0:=by rw [z];rfl
  rw [Array.length_toList] at this;exact absurd h (by show ¬0<y.cps.size;lia)
 obtain ⟨ys,b,e⟩:=List.eq_nil_or_concat y.cps.toList |>.resolve_left this
 rw [e];simp
theorem Zpy:∀k<100,Zhq (Zix k)<58:=by trivial
theorem Zuq{kd:Str}{c:Int}{k:Nat}(h:k<100):Zhq (Yx kd c k)<58:=by
 have h1:=Zpy k h;have h2:=Zhp k h;unfold Yx;split <;>rw [Zoa h2] <;>exact h1
theorem Zwv{j:Nat}(h:j<100):Zhq (W1 j)<58:=by
 unfold W1;rw [Zoa (Zhp j h)];exact Zpy j h
theorem Zwg{n k:Nat}:97<=Zhq (Zes n k):=by
 unfold Zhq;rw [Ziu];have:=Zrm (k%26) (by lia);simp only [List.getLastD_concat];lia
theorem Zs8{n k:Nat}:2<=(Zes n k).cps.toList.length:=by
 rw [Ziu,List.length_append,List.length_append];simp
theorem Zyj{s:Str}{n k:Nat} (h:s = "g" \/s = "h" \/Zhq s<58):s≠Zes n k:=fun z=>by
 rcases h with rfl|rfl|h
 ·have:=@Zs8 n k;rw [<-z] at this;exact absurd this (by decide)
 ·have:=@Zs8 n k;rw [<-z] at this;exact absurd this (by decide)
 ·have:=@Zwg n k;rw [<-z] at this;lia
theorem Zwd{ps:List Zc}{e:Zc}(h:e∈X7 ps):∃p∈ps,e.1=p.2:=by
 unfold X7 at h;obtain ⟨p,hp,he⟩:=List.mem_flatMap.mp h;refine ⟨p,hp,?_⟩;split at he
 ·obtain ⟨x,_,rfl⟩:=List.mem_map.mp he;rfl
 ·cases he
def nmY(s:Str):Prop:=s = "g" \/s = "h" \/Zp3 s 63\/∃j,j<90/\s=W1 j
theorem nmY.sig{s:Str}{n k:Nat}(h:nmY s):s≠Zes n k:=by
 refine Zyj ?_;rcases h with h|h|⟨kd,c,j,_,hj,rfl⟩|⟨j,hj,rfl⟩
 ·exact .inl h
 ·exact .inr (.inl h)
 ·exact .inr (.inr (Zuq (by lia)))
 ·exact .inr (.inr (Zwv (by lia)))
def nmK(p:Zc):Prop:=p=((("gate" :Str),("g" :Str)):Zc)\/p=((("gate" :Str),("h" :Str)):Zc)\/Zp3 p.2 63\/∃j,j<90/\p.2=W1 j
theorem nmK.nm{p:Zc}(h:nmK p):nmY p.2:=by
 rcases h with rfl|rfl|h|h
 ·exact .inl rfl
 ·exact .inr (.inl rfl)
 ·exact .inr (.inr (.inl h))
 ·exact .inr (.inr (.inr h))
structure Zkq(ps:List Zc)(js:List (Zc×Zc))(sg:List (Str×Str×Str)):Prop where
 net:Net ps js []
 len:ps.length<=39
 name:∀p∈ps,nmK p
 sigs:∃B9,B9.Perm ps/\Zcv (X7 B9) (X7 B9).length sg
theorem Net.perm'{ps B9:List Zc}{js R5:List (Zc×Zc)}(h:Net ps js [])(hp:B9.Perm ps)(hj:R5.Perm js):Net B9 R5 []:=by
 obtain ⟨a,b,c,d⟩:=h;rw [List.append_nil] at a;refine ⟨?_,(hp.map _).nodup_iff.mpr b,fun j hm=>c j (hj.mem_iff.mp hm),fun p hm=>d p (hp.mem_iff.mp hm)⟩;rw [List.append_nil];exact ((hj.flatMap_right _).trans a).trans (hp.flatMap_right _).symm
theorem Ybo{s:Str}{n m:Nat}(h:Zp3 s n)(l:n<=m):Zp3 s m:=let ⟨kd,c,k,a,b,e⟩:=h;⟨kd,c,k,a,by lia,e⟩
theorem Ya0{s:Str}{n:Nat}(h:nmD s n):Zp3 s n:=by
 obtain ⟨kd,hk,c,k,a,e⟩:=h;refine ⟨kd,c,k,?_,a,e⟩;have:∀kd∈Zak,96<kd.cps.toList.getD 0 0/\kd.cps.toList.getD 0 0<123:=by trivial
 exact this kd hk
theorem Zrb{α β:Type}{R:α->β->Prop}{l1:List α}{l2:List β}(h:Paired R l1 l2):Paired R l1.reverse l2.reverse:=by
 induction h with
 | nil=>exact .nil
 | cons r _ ih=>rw [List.reverse_cons,List.reverse_cons];exact Paired.append ih (.cons r .nil)
theorem Zfq{α β:Type}{R:α->β->Prop}:∀(n:Nat) {l1:List α} {l2:List β},Paired R l1 l2->Paired R (l1.drop n) (l2.drop n)
 | 0,_,_,h=>h
 | _+1,_,_,.nil=>.nil
 | n+1,_,_,.cons _ t=>Zfq n t
theorem Znr{α β:Type}{R:α->β->Prop}:∀(n:Nat) {l1:List α} {l2:List β},Paired R l1 l2->Paired R (l1.take n) (l2.take n)
 | 0,_,_,_=>.nil
 | _+1,_,_,.nil=>.nil
 | n+1,_,_,.cons r t=>.cons r (Znr n t)
def Zwa(K:Frag):Sp:=fun vs H Q _=>∃(cl:Addr) (c:Int) (cs:List Int),vs=[.ref cl,.int c]/\SqL K H cl (cs.map V.int)/\(∀c∈cs,0<=c)/\cs.length<=63 /\
 ∀(t pl jl sl:Addr) (H':Hp) (ps:List Zc) (js:List (Zc×Zc)) (sg:List (Str×Str×Str)),Same H H'->H' t=some (.tup [.ref pl,.ref jl,.ref sl])->Zo H' pl ps->Yf H' jl js->Zay H' sl sg->Zkq ps js sg->(∀q∈sg,2<=q.1.length)->Q (.ref t) H'
theorem Zjk(T:Tx K mg):Zu P w K mg base CX0 4 T.bh.f T.bh.fd ["_law_cells_here", "_law_cell"] (Zwa K):=by
 refine T.bh.F.okW Xn fun a8 A outer s H vs Q E hr h=>?_
 ·obtain ⟨cl,c,cs,rfl,hS,R4,v6,q⟩:=h;intro X;refine WSs.step (Z0 (i:=2) Xn.nd (Zs (Zq8 T) hr rfl T.ga T.bP.F.kp T.bP.b .nil Zk (Zb (pv 0) Za))) (exR rfl ⟨cl,cs,rfl,hS,R4,fun t H1 pl jl ps js s1 e1 hP hJ n1 n2 net len nm=>?_⟩);let I8:=fun (σ:St) (H':Hp)=>∃t pl jl ps js,σ=[some (.ref cl),some (.int c),some (.ref t),none,none,none]/\Same H H'/\H' t=some (.tup [.ref pl,.ref jl])/\Zo H' pl ps/\Yf H' jl js/\Net ps js []/\ps.length<=39/\∀p∈ps,nmK p
  refine WSs.cut I8 ?_ ?_
  ·refine WS.of (Z9 (Zq (r:=X3 K) (X8 hr) (Zt Yv (pv 1) Zg) Zg (Zw _)) Zy Zr) (exR rfl (exQ rfl rfl ⟨(by show (0:Int)<3;decide),.inl ⟨rfl,_,rfl,Yz (fun _=>?_) (fun _=>⟨t,pl,jl,ps,js,rfl,s1,e1,hP,hJ,net,by lia,fun p hp=>?_⟩)⟩⟩))
   ·refine WSs.last (Z0 (i:=2) Xn.nd (Zs (Zou T) hr rfl T.fz T.bL.F.kp T.bL.b .nil Zk (Zb (pv 0) Za))) (exR rfl ⟨cl,cs,rfl,s1.seq hS,R4,v6,fun t H2 pl jl ps js _ s2 e2 hP hJ _ _ net len nm=>⟨t,pl,jl,ps,js,rfl,s1.trans s2,e2,hP,hJ,net,len,fun p hp=>?_⟩⟩);rcases nm p hp with z|z
    ·exact .inr (.inr (.inl (Ya0 z)))
    ·exact .inr (.inr (.inr z))
   ·rcases nm p hp with z|z|z
    ·exact .inl z
    ·exact .inr (.inl z)
    ·exact .inr (.inr (.inl (Ybo z (by decide))))
  clear e1 hP hJ n1 n2 net len nm s1;rintro σ H1 ⟨t,pl,jl,ps,js,rfl,s1,e1,hP,hJ,net,len,nm⟩;refine WSs.step (Zpr (pv 2) (W8 rfl (Zz (Y1 (i:=3) Xn.nd) (Zz (Y1 (i:=4) Xn.nd) Xe)))) (exR rfl ⟨t,_,rfl,SqT.of e1,rfl,_,_,rfl,_,_,rfl,rfl,?_⟩);obtain ⟨us,hu,k9⟩:=id hP;have T9:us.length=ps.length:=Paired.length k9;obtain ⟨mx,hmx,hm1⟩:∃mx:Int,(if ((us.map V.ref).length:Int) >1 then ((us.map V.ref).length:Int) else 1)=mx/\0<mx:=by
   refine (exR rfl ?_);split <;>lia
  have a0:=Int.emod_nonneg (c / 3) (show mx≠0 by lia);obtain ⟨P9,B8⟩:∃k:Nat,c / 3%mx=(k:Int):=⟨(c / 3%mx).toNat,by lia⟩
  refine WSs.step (Z0 (i:=5) Xn.nd (Zt Yv (Zt Yt (pv 1) Zg) (Z3 (Zul rfl) (by rfl) T.ia PyProof.Rows.boot_max (Zb Zg (Zb (Z3 (r:=Zav K) Zbh (by rfl) T.cL PySem.boot_len (Zb (pv 3) Za)) Za))))) (exR rfl (exQ rfl rfl ⟨⟨by decide,by decide⟩,_,rfl,.inl ⟨pl,_,rfl,.inl (SqL.of hu),_,_,rfl,_,_,rfl,rfl,?_,?_⟩⟩))
  ·show (0:Int)<(if ((us.map V.ref).length:Int) >1 then ((us.map V.ref).length:Int) else 1);rw [hmx];exact hm1
  show WSs _ _ _ [some (.ref cl),some (.int c),some (.ref t),some (.ref pl),some (.ref jl),some (.int (c / 3%(if ((us.map V.ref).length:Int) >1 then ((us.map V.ref).length:Int) else 1)))] H1;rw [hmx,B8];let I9:=fun (σ:St) (H':Hp)=>∃V7 R5,σ=[some (.ref cl),some (.int c),some (.ref t),some (.ref pl),some (.ref V7),some (.int (P9:Int))]/\Same H1 H'/\Yf H' V7 R5/\R5.Perm js
  refine WSs.cut I9 ?_ ?_
  ·obtain ⟨ws,hw,hws⟩:=id hJ;refine WS.of (Z9 (Zq (r:=X3 K) (X8 hr) (Zt Yv (Zt Yt (pv 1) Zg) Zg) Zg (Zw _)) Zy Zr) (exR rfl (exQ rfl rfl ⟨⟨by decide,by decide⟩,_,_,rfl,rfl,(by show (0:Int)<2;decide),.inl ⟨rfl,_,rfl,Yz (fun _=>?_) (fun _=>⟨jl,js,rfl,Same.refl _,hJ,List.Perm.refl _⟩)⟩⟩));refine WSs.last (Z0 (i:=4) Xn.nd (Zzk (ops:=fun l r=>[l,r]) (pv 4) (Wr (Zpu Zkn Zg)) (fun _ _=>by with_unfolding_all rfl))) (exR rfl (exR rfl (exR rfl ⟨jl,_,rfl,rfl,SqL.of hw,fun jr H2 s2 n2 e2=>⟨jr,js.reverse,rfl,s2,⟨ws.reverse,by rw [e2,List.map_reverse],?_⟩,List.reverse_perm _⟩⟩)));exact Zrb (Paired.mapP hws fun _ _ r=>r.mono s2)
  rintro σ H2 ⟨V7,R5,rfl,s2,hJ',hjp⟩;refine WSs.last (Zp (Zj (Zb (Zt We (Wh (r:=Zib K) Zjt (pv 3) (Wr (pv 5)) W6) (Wh (r:=Zib K) Zjt (pv 3) W6 (Wr (pv 5)))) (Zb (pv 4) (Zb (Zs (Zhv T) hr rfl T.dh T.aE.F.kp T.aE.b .nil Zk (Zb (pv 3) (Zb (Zt Yt (pv 1) Zg) Za))) Za))))) (exR rfl (exR rfl (exR rfl (.inr (.inl ⟨pl,_,rfl,SqL.of (s2.at hu),fun la H3 s3 n3 e3=>(exR rfl (exR rfl (exR rfl (.inr (.inl ⟨pl,_,rfl,SqL.of (s3.at (s2.at hu)),fun lb H4 s4 n4 e4=>.inr (.inr ⟨la,lb,_,_,rfl,rfl,s4.at e3,e4,?_,fun lc H5 s5 n5 e5=>?_⟩)⟩)))))⟩)))))
  ·rw [Zfg,Zid,List.length_drop,List.length_take,List.length_map];exact sz (by lia)
  have M5:=s3.trans (s4.trans s5);have B6:=s2.trans M5;refine (exR rfl (exR rfl (exR rfl (exQ rfl rfl ⟨⟨by decide,by decide⟩,pl,_,ps,rfl,hP.mono B6,by lia,fun n k e he _ _=>?_,fun sl H6 sg s6 n6 hG ok ok2=>⟨szA,fun t' H7 s7 n7 e7=>?_⟩⟩))))
  ·obtain ⟨p,hp,e1⟩:=Zwd he;rw [e1];exact nmY.sig (nm p hp).nm
  rw [Zfg,Zid,<-List.map_drop,<-List.map_take,<-List.map_append] at e5;have s57:=s6.trans s7;have rot:(ps.drop P9++ps.take P9).Perm ps:=by
   have:=List.perm_append_comm (l₁:=ps.drop P9) (l₂:=ps.take P9);rwa [List.take_append_drop] at this
  refine q t' lc V7 sl H7 (ps.drop P9++ps.take P9) R5 sg (s1.trans (B6.trans s57)) e7 ⟨us.drop P9++us.take P9,s57.at e5,?_⟩ (hJ'.mono (M5.trans s57)) (hG.mono s7) ⟨Net.perm' net rot hjp,?_,fun p hp=>nm p (rot.mem_iff.mp hp),⟨ps,rot.symm,ok⟩⟩ ok2
  ·have:=Paired.mapP k9 fun _ _ r=>Zm.mono (B6.trans s57) r
   exact Paired.append (Zfq _ this) (Znr _ this)
  ·rw [rot.length_eq];exact len
theorem Zk8(T:Tx K mg){k:Nat}(h:4<=k:=by decide):Zu P w K mg base CX0 k T.bh.f T.bh.fd ["_law_cells_here", "_law_cell"] (Zwa K):=(Zjk T).mono h
def Zjn(c:Nat):Bool:=decide (97<=c) && decide (c<=122)
def anC(c:Nat):Bool:=Zjn c || (decide (48<=c) && decide (c<=57))
def X9(s:Str):Prop:=1<=s.length/\s.length<=6/\Zjn (s.cps.toList.headD 0)=true/\s.cps.toList.all anC=true
theorem Zoe:∀k<100,(Zix k).cps.toList.all anC=true:=by trivial
theorem Zpc:∀i<26,Zjn (Zer.getD i 0)=true:=by decide
theorem Zze{c:Nat}(h:Zjn c=true):anC c=true:=by unfold anC;rw [h];rfl
theorem Zcs{x y:Str}(hx:x.cps.toList.all anC=true)(hy:y.cps.toList.all anC=true):(x++y).cps.toList.all anC=true:=by
 rw [PySem.W.KT.app_list,List.all_append,hx,hy];rfl
theorem Zbe{x y:Str}(h:0<x.length):(x++y).cps.toList.headD 0=x.cps.toList.headD 0:=by
 rw [PySem.W.KT.app_list];cases e:x.cps.toList with
 | nil =>
  have:x.cps.size=0:=by rw [<-Array.length_toList,e];rfl
  exact absurd h (by show ¬0<x.cps.size;lia)
 | cons a l=>rfl
theorem Zk4{c:Nat}(h:Zjn c=true):(⟨#[c]⟩:Str).cps.toList.all anC=true:=by
 show ([c]:List Nat).all anC=true;simp [Zze h]
theorem Zx7{j:Nat}(h:j<100):X9 (W1 j):=by
 have h1:=Zh0 j h;have h2:=Zhp j h;unfold W1;refine ⟨?_,?_,?_,Zcs (by trivial) (Zoe j h)⟩
 ·rw [PySem.Str.length_append];lia
 ·rw [PySem.Str.length_append,show ("e" :Str).length=1 by trivial];lia
 ·rw [Zbe (by trivial)];decide +kernel
theorem Zym{n k:Nat}(hn:n<99)(hk:k<600):X9 (Zes n k):=by
 have h1:=Zsu n hn;have a1:=Zpc (k / 26) (by lia);have a2:=Zpc (k%26) (by lia);have hs:("s" :Str).length=1:=by trivial
 have h0:0<(("s" :Str)++Str.ofString (toString (n:Int))).length:=by rw [PySem.Str.length_append,hs];lia
 have hf:(Str.ofString (toString (n:Int))).cps.toList.all anC=true:=Zoe n (by lia);unfold Zes;refine ⟨?_,?_,?_,Zcs (Zcs (Zcs (by trivial) hf) (Zk4 a1)) (Zk4 a2)⟩
 ·rw [PySem.Str.length_append,PySem.Str.length_append];lia
 ·rw [PySem.Str.length_append,PySem.Str.length_append,PySem.Str.length_append,hs];show 1+_+1+1<=6;lia
 ·rw [Zbe (by rw [PySem.Str.length_append];lia),Zbe h0,Zbe (by rw [hs];decide)];decide +kernel
theorem Yc6:X9 "g" :=⟨by trivial,by trivial,by trivial,by trivial⟩
theorem Yck:X9 "h" :=⟨by trivial,by trivial,by trivial,by trivial⟩
theorem Ziw{i:Int}(h0:0<=i)(h1:i<26):Zjn (Zdn i)=true:=Zpc i.toNat (by lia)
theorem Zz3:∀m<3,(Zim "0" m).cps.toList.all anC=true:=by trivial
theorem Zuo{kd:Str}{c:Int}{k:Nat}(h0:96<kd.cps.toList.getD 0 0/\kd.cps.toList.getD 0 0<123)(hk:k<100):X9 (Yx kd c k):=by
 have l2:=Zb0 (kind:=kd) (c:=c) hk;refine ⟨by lia,Zt6 hk,?_,?_⟩
 ·unfold Yx;split
  ·rw [Zbe (by show 0<1;decide)];show Zjn (kd.cps.toList.getD 0 0)=true;unfold Zjn;simp only [Bool.and_eq_true,decide_eq_true_eq];lia
  ·have a0:=Int.emod_nonneg (c / 3) (show (26:Int)≠0 by decide);have a1:=Int.emod_lt_of_pos (c / 3) (show (0:Int)<26 by decide);rw [Zbe (by rw [PySem.Str.length_append,PySem.Str.length_append];show 0<1+1+_;lia),Zbe (by rw [PySem.Str.length_append];show 0<1+1;decide),Zbe (by show 0<1;decide)];exact Ziw a0 a1
 ·unfold Yx;split
  ·refine Zcs (Zk4 ?_) (Zoe k hk);unfold Zjn;simp only [Bool.and_eq_true,decide_eq_true_eq];lia
  ·have a0:=Int.emod_nonneg (c / 3) (show (26:Int)≠0 by decide);have a1:=Int.emod_lt_of_pos (c / 3) (show (0:Int)<26 by decide);have b0:=Int.emod_nonneg (c / 78) (show (26:Int)≠0 by decide);have b1:=Int.emod_lt_of_pos (c / 78) (show (0:Int)<26 by decide);have c0:=Int.emod_nonneg (c / 2028) (show (3:Int)≠0 by decide);have c1:=Int.emod_lt_of_pos (c / 2028) (show (0:Int)<3 by decide);exact Zcs (Zcs (Zcs (Zk4 (Ziw a0 a1)) (Zk4 (Ziw b0 b1))) (Zz3 _ (by lia))) (Zoe k hk)
theorem nmY.ok{s:Str}(h:nmY s):X9 s:=by
 rcases h with rfl|rfl|⟨kd,c,j,h0,hj,rfl⟩|⟨j,hj,rfl⟩
 ·exact Yc6
 ·exact Yck
 ·exact Zuo h0 (by lia)
 ·exact Zx7 (by lia)
theorem Zkk{ps:List Zc}{e:Zc}(h:e∈X7 ps):∃p∈ps,e.1=p.2/\p.1∈[("plain" :Str), "gate", "stop"]/\e.2∈Yw p.1:=by
 unfold X7 at h;obtain ⟨p,hp,he⟩:=List.mem_flatMap.mp h
 by_cases z:p.1∈[("plain" :Str), "gate", "stop"]
 ·rw [if_pos z] at he;obtain ⟨x,hx,rfl⟩:=List.mem_map.mp he;exact ⟨p,hp,rfl,z,hx⟩
 ·rw [if_neg z] at he;cases he
theorem Zye(k:Str):(Yw k).Nodup:=by
 unfold Yw;split
 ·decide
 ·split
  ·decide
  ·split <;>decide
theorem Zto:∀{ps:List Zc},(ps.map Prod.snd).Nodup->(X7 ps).Nodup
 | [],_=>List.nodup_nil
 | p ::ps,h=>by
  rw [List.map_cons,List.nodup_cons] at h;have ih:=Zto h.2;show ((if p.1∈[("plain" :Str), "gate", "stop"] then (Yw p.1).map (fun x=>((p.2,x):Zc)) else [])++X7 ps).Nodup;refine List.nodup_append.mpr ⟨?_,ih,fun a ha b hb e=>?_⟩
  ·split
   ·exact List.Pairwise.map _ (fun a b h z=>h (Prod.mk.inj z).2) (Zye p.1)
   ·exact List.nodup_nil
  ·subst e;obtain ⟨p',hp',e1,_⟩:=Zkk hb;split at ha
   ·obtain ⟨x,_,rfl⟩:=List.mem_map.mp ha;exact h.1 (List.mem_map.mpr ⟨p',hp',e1.symm⟩)
   ·cases ha
structure Znu(ps:List Zc)(sg:List (Str×Str×Str)):Prop where
 name:∀q∈sg,X9 q.1
 nd:(sg.map Prod.fst).Nodup
 one:(sg.map Prod.snd).Nodup
 at_:∀q∈sg,∃p∈ps,p.2=q.2.1/\p.1∈[("plain" :Str), "gate", "stop"]/\q.2.2∈Yw p.1
 len:sg.length<=40
theorem Zcv.sigs{ps:List Zc}{sg:List (Str×Str×Str)}(h:Zcv (X7 ps) (X7 ps).length sg)(nd:(ps.map Prod.snd).Nodup)(nm:∀p∈ps,nmY p.2)(hl:ps.length<=45):Znu ps sg:=by
 have sub:=h.at_;rw [List.take_length] at sub;have hb:=Zho ps;have mem:∀q∈sg,((q.2.1,q.2.2):Zc)∈X7 ps:=fun q hq=>sub.subset (List.mem_map.mpr ⟨q,hq,rfl⟩)
 refine ⟨fun q hq=>?_,h.nd,List.Nodup.sublist sub (Zto nd),fun q hq=>?_,h.len⟩
 ·rcases h.name q hq with z|⟨n,k,a,b,c⟩
  ·obtain ⟨p,hp,e,_⟩:=Zkk (mem q hq);rw [z,show q.2.1=p.2 from e];exact nmY.ok (nm p hp)
  ·rw [c];exact Zym a (by lia)
 ·obtain ⟨p,hp,e,k,m⟩:=Zkk (mem q hq);exact ⟨p,hp,e.symm,k,m⟩
theorem Znu.perm{ps B9:List Zc}{sg:List (Str×Str×Str)}(h:Znu B9 sg)(hp:B9.Perm ps):Znu ps sg :=
 ⟨h.name,h.nd,h.one,fun q hq=>let ⟨p,a,b⟩:=h.at_ q hq;⟨p,hp.mem_iff.mp a,b⟩,h.len⟩
theorem Zkq.sigsV{ps:List Zc}{js:List (Zc×Zc)}{sg:List (Str×Str×Str)}(h:Zkq ps js sg):Znu ps sg:=by
 obtain ⟨B9,hp,ok⟩:=h.sigs;exact (ok.sigs ((hp.map _).nodup_iff.mpr h.net.nd) (fun p hm=>(h.name p (hp.mem_iff.mp hm)).nm) (by rw [hp.length_eq];have:=h.len;lia)).perm hp
def Zez(K:Frag):Sp:=fun vs H Q _=>∃(x C dx:Addr) (nm:Str),vs=[.ref x,.str nm]/\H x=some (.ins C dx [])/\Cls K C/\Xg K C "name" /\Q .non (upd H x (.ins C dx [("name",.str nm)]))
theorem Zin(T:Tx K mg):Zu P w K mg base CX0 1 T.ag.f T.ag.fd ["self", "name"] (Zez K):=by
 refine T.ag.F.okW Zih fun a8 A outer s H vs Q E hr h=>?_
 ·obtain ⟨x,C,dx,nm,rfl,hx,c,n1,q⟩:=h;intro X;exact WSs.last (Zas (pv 0) (pv 1) rfl) (exR rfl (exR rfl ⟨x,C,dx,[],rfl,hx,c,n1,by simp,q⟩))
theorem Yn(T:Tx K mg){k:Nat}(h:1<=k:=by decide):Zu P w K mg base CX0 k T.ag.f T.ag.fd ["self", "name"] (Zez K):=(Zin T).mono h
def Zde(H:Hp)(C x:Addr)(nm:Str):Prop:=∃dx,H x=some (.ins C dx [("name",.str nm)])
def mrP(C:Addr):List V->Hp->VK->Prop:=fun vs H Q=>∃nm:Str,vs=[.str nm]/\∀x H',Same H H'->H x=none->Zde H' C x nm->Q (.ref x) H'
theorem mkP{C:Addr}(c:Cls K C) (n:Xg K C "name"):∀vs H Q,mrP C vs H Q->∀x dx,H x=none->H dx=none->dx≠x->Zez K (.ref x ::(vs++[])) (upd (upd H dx (.own x)) x (.ins C dx [])) (fun v H2=>v=.non/\Q (.ref x) H2) E0:=by
 rintro vs H Q ⟨nm,rfl,q⟩ x dx h1 h2 ne;refine ⟨x,C,dx,nm,rfl,Zf,c,n,rfl,q x _ (fun b o e=>?_) h1 ⟨dx,Zf⟩⟩;rw [Ze (Zi e h1),Ze (Zi e h1),Ze (Zi e h2)];exact e
abbrev Zlb(T:Tx K mg):List V->Hp->VK->Prop:=mrP T.cm
theorem Zra(T:Tx K mg):∀vs H Q,Zlb T vs H Q->∀x dx,H x=none->H dx=none->dx≠x->Zez K (.ref x ::(vs++[])) (upd (upd H dx (.own x)) x (.ins T.cm dx [])) (fun v H2=>v=.non/\Q (.ref x) H2) E0:=mkP T.dn T.dH
abbrev Ztj(T:Tx K mg):List V->Hp->VK->Prop:=mrP T.bU
theorem Zxk(T:Tx K mg):∀vs H Q,Ztj T vs H Q->∀x dx,H x=none->H dx=none->dx≠x->Zez K (.ref x ::(vs++[])) (upd (upd H dx (.own x)) x (.ins T.bU dx [])) (fun v H2=>v=.non/\Q (.ref x) H2) E0:=mkP T.dX T.dY
abbrev Zfw(T:Tx K mg):List V->Hp->VK->Prop:=mrP T.bV
theorem Zht(T:Tx K mg):∀vs H Q,Zfw T vs H Q->∀x dx,H x=none->H dx=none->dx≠x->Zez K (.ref x ::(vs++[])) (upd (upd H dx (.own x)) x (.ins T.bV dx [])) (fun v H2=>v=.non/\Q (.ref x) H2) E0:=mkP T.dZ T.ee
abbrev Zf1(T:Tx K mg):List V->Hp->VK->Prop:=mrP T.aI
theorem Zh6(T:Tx K mg):∀vs H Q,Zf1 T vs H Q->∀x dx,H x=none->H dx=none->dx≠x->Zez K (.ref x ::(vs++[])) (upd (upd H dx (.own x)) x (.ins T.aI dx [])) (fun v H2=>v=.non/\Q (.ref x) H2) E0:=mkP T.cY T.dq
abbrev Zqm(T:Tx K mg):List V->Hp->VK->Prop:=mrP T.cp
theorem Zvp(T:Tx K mg):∀vs H Q,Zqm T vs H Q->∀x dx,H x=none->H dx=none->dx≠x->Zez K (.ref x ::(vs++[])) (upd (upd H dx (.own x)) x (.ins T.cp dx [])) (fun v H2=>v=.non/\Q (.ref x) H2) E0:=mkP T.dv T.dI
def X1(T:Tx K mg)(k:Str)(C:Addr):Prop:=(k = "points" /\C=T.aI)\/(k = "cross" /\C=T.cp)\/(k = "gate" /\C=T.bV)\/(k = "stop" /\C=T.bU)\/(k = "plain" /\(C=T.cP\/C=T.cm))
def Zwb(T:Tx K mg):Sp:=fun vs H Q _=>∃k nm:Str,vs=[.str k,.str nm]/\k∈Zak/\nm.length<=6/\∀(x C:Addr) (H':Hp),Same H H'->H x=none->X1 T k C->Zde H' C x nm->Q (.ref x) H'
theorem Zop(T:Tx K mg):Zu P w K mg base CX0 3 T.bQ.f T.bQ.fd ["_law_kind_here", "_law_name"] (Zwb T):=by
 refine T.bQ.F.okW Zo3 fun a8 A outer s H vs Q E hr h=>?_
 ·obtain ⟨k,nm,rfl,hk,hl,q⟩:=h;intro X;let I10:=fun (σ:St) (H':Hp)=>σ=[some (.str k),some (.str nm)]/\H'=H/\k ≠ "points"
  refine WSs.cut I10 ?_ ?_
  ·refine WS.of (Z9 (Zq (r:=X3 K) (X8 hr) (pv 0) Zd (Zw _)) Zy Zr) (exR rfl (.inl ⟨rfl,_,rfl,Yz (fun hc=>?_) (fun hc=>⟨rfl,rfl,fun z=>hc (by rw [z];simp)⟩)⟩));have hc:k = "points" :=V.str.inj (of_decide_eq_true hc);exact WSs.last (Zp (Y0 (Zf1 T) T.eg (Yn T) hr rfl T.dR T.ag.b .nil Zk (Zh6 T) (Zb (pv 1) Za))) (exR rfl ⟨nm,rfl,fun x H' s1 n1 o=>q x _ H' s1 n1 (.inl ⟨hc,rfl⟩) o⟩)
  rintro σ H1 ⟨rfl,hH1,nk0⟩;rw [hH1];let I11:=fun (σ:St) (H':Hp)=>σ=[some (.str k),some (.str nm)]/\H'=H/\k ≠ "cross"
  refine WSs.cut I11 ?_ ?_
  ·refine WS.of (Z9 (Zq (r:=X3 K) (X8 hr) (pv 0) Zd (Zw _)) Zy Zr) (exR rfl (.inl ⟨rfl,_,rfl,Yz (fun hc=>?_) (fun hc=>⟨rfl,rfl,fun z=>hc (by rw [z];simp)⟩)⟩));have hc:k = "cross" :=V.str.inj (of_decide_eq_true hc);exact WSs.last (Zp (Y0 (Zqm T) T.gL (Yn T) hr rfl T.gU T.ag.b .nil Zk (Zvp T) (Zb (pv 1) Za))) (exR rfl ⟨nm,rfl,fun x H' s1 n1 o=>q x _ H' s1 n1 (.inr (.inl ⟨hc,rfl⟩)) o⟩)
  rintro σ H2 ⟨rfl,hH2,nk1⟩;rw [hH2];let I12:=fun (σ:St) (H':Hp)=>σ=[some (.str k),some (.str nm)]/\H'=H/\k ≠ "gate"
  refine WSs.cut I12 ?_ ?_
  ·refine WS.of (Z9 (Zq (r:=X3 K) (X8 hr) (pv 0) Zd (Zw _)) Zy Zr) (exR rfl (.inl ⟨rfl,_,rfl,Yz (fun hc=>?_) (fun hc=>⟨rfl,rfl,fun z=>hc (by rw [z];simp)⟩)⟩));have hc:k = "gate" :=V.str.inj (of_decide_eq_true hc);exact WSs.last (Zp (Y0 (Zfw T) T.ef (Yn T) hr rfl T.fi T.ag.b .nil Zk (Zht T) (Zb (pv 1) Za))) (exR rfl ⟨nm,rfl,fun x H' s1 n1 o=>q x _ H' s1 n1 (.inr (.inr (.inl ⟨hc,rfl⟩))) o⟩)
  rintro σ H3 ⟨rfl,hH3,nk2⟩;rw [hH3];let I13:=fun (σ:St) (H':Hp)=>σ=[some (.str k),some (.str nm)]/\H'=H/\k ≠ "stop"
  refine WSs.cut I13 ?_ ?_
  ·refine WS.of (Z9 (Zq (r:=X3 K) (X8 hr) (pv 0) Zd (Zw _)) Zy Zr) (exR rfl (.inl ⟨rfl,_,rfl,Yz (fun hc=>?_) (fun hc=>⟨rfl,rfl,fun z=>hc (by rw [z];simp)⟩)⟩));have hc:k = "stop" :=V.str.inj (of_decide_eq_true hc);exact WSs.last (Zp (Y0 (Ztj T) T.gS (Yn T) hr rfl T.gQ T.ag.b .nil Zk (Zxk T) (Zb (pv 1) Za))) (exR rfl ⟨nm,rfl,fun x H' s1 n1 o=>q x _ H' s1 n1 (.inr (.inr (.inr (.inl ⟨hc,rfl⟩)))) o⟩)
  rintro σ H4 ⟨rfl,hH4,nk3⟩;rw [hH4];have hp:k = "plain" :=by
   unfold Zak at hk;simp only [List.mem_cons,List.mem_nil_iff,or_false] at hk;rcases hk with z|z|z|z|z
   ·exact z
   ·exact absurd z nk0
   ·exact absurd z nk1
   ·exact absurd z nk2
   ·exact absurd z nk3
  exact WSs.last (Zp (Y0 (Zlb T) T.gD (Yn T) hr rfl T.gJ T.ag.b .nil Zk (Zra T) (Zb (pv 1) Za))) (exR rfl ⟨nm,rfl,fun x H' s1 n1 o=>q x _ H' s1 n1 (.inr (.inr (.inr (.inr ⟨hp,.inr rfl⟩)))) o⟩)
theorem Zpx(T:Tx K mg){k:Nat}(h:3<=k:=by decide):Zu P w K mg base CX0 k T.bQ.f T.bQ.fd ["_law_kind_here", "_law_name"] (Zwb T):=(Zop T).mono h
section
variable {α β κ:Type} [DecidableEq κ] {f:α->κ} {R R':α->β->V->Prop} {kvs:List (κ×V)} {qs:List (α×β)}
def DP(f:α->κ)(R:α->β->V->Prop)(kvs:List (κ×V))(qs:List (α×β)):Prop:=Paired (fun (kv:κ×V) (q:α×β)=>kv.1=f q.1/\R q.1 q.2 kv.2) kvs qs
theorem DP.none(h:DP f R kvs qs)(inj:∀a b,f a=f b->a=b){a:α}(n:a∉qs.map Prod.fst):Y6 kvs (f a)=none:=by
 unfold DP at h
 induction h with
 | nil=>rfl
 | cons r t ih =>
  rw [List.map_cons,List.mem_cons,not_or] at n;rw [Xp (fun z=>n.1 (inj _ _ (r.1.symm.trans z)).symm)];exact ih n.2
theorem DP.get(h:DP f R kvs qs)(inj:∀a b,f a=f b->a=b)(nd:(qs.map Prod.fst).Nodup){a:α}{b:β}(m:(a,b)∈qs):∃v,Y6 kvs (f a)=some v/\R a b v:=by
 unfold DP at h
 induction h with
 | nil=>cases m
 | @cons kv q _ _ r t ih =>
  rw [List.map_cons,List.nodup_cons] at nd;rcases List.mem_cons.mp m with z|z
  ·rw [<-z] at r;exact ⟨_,Xu r.1,r.2⟩
  ·have:a≠q.1:=fun e=>nd.1 (by rw [<-e];exact List.mem_map.mpr ⟨_,z,rfl⟩)
   rw [Xp (fun e=>this (inj _ _ (r.1.symm.trans e)).symm)];exact ih nd.2 z
theorem DP.put(h:DP f R kvs qs){a:α}{b:β}{v:V}(n:Y6 kvs (f a)=Option.none)(r:R a b v):DP f R (Wg kvs (f a) v) (qs++[(a,b)]):=by
 rw [Zki v n];exact Paired.snoc h ⟨rfl,r⟩
theorem DP.len(h:DP f R kvs qs):kvs.length=qs.length:=Paired.length h
theorem DP.mapR(h:DP f R kvs qs)(m:∀a b v,R a b v->R' a b v):DP f R' kvs qs:=Paired.mapP h fun _ _ z=>⟨z.1,m _ _ _ z.2⟩
theorem DP.keys(h:DP f R kvs qs):kvs.map Prod.fst=qs.map fun q=>f q.1:=by
 unfold DP at h
 induction h with
 | nil=>rfl
 | cons r t ih=>rw [List.map_cons,List.map_cons,ih,r.1]
end
def Xf(e:Zc):List Key:=[.inr e.1,.inr e.2]
theorem W4(a b:Zc)(h:Xf a=Xf b):a=b:=by
 obtain ⟨a1,a2⟩:=a;obtain ⟨b1,b2⟩:=b;unfold Xf at h;simp only [List.cons.injEq,Sum.inr.injEq,and_true] at h;rw [h.1,h.2]
def Ym(s:Str):Key:=.inr s
theorem Xq(a b:Str)(h:Ym a=Ym b):a=b:=Sum.inr.inj h
def qP(ps:List Zc):List (Str×Str):=ps.map fun p=>(p.2,p.1)
def qA(ps:List Zc):List (Zc×Str):=ps.flatMap fun p=>(Yw p.1).map fun e=>((p.2,e),p.1)
def qJ(js:List (Zc×Zc)):List (Zc×Zc):=js.flatMap fun j=>[(j.1,j.2),(j.2,j.1)]
def qS(sg:List (Str×Str×Str)):List (Str×Zc):=sg.map fun q=>(q.1,(q.2.1,q.2.2))
def qO(sg:List (Str×Str×Str)):List (Zc×Str):=sg.map fun q=>((q.2.1,q.2.2),q.1)
theorem Zo9(ps:List Zc):(qP ps).map Prod.fst=ps.map Prod.snd:=by unfold qP;rw [List.map_map];rfl
theorem Zpq(ps:List Zc):(qA ps).map Prod.fst=Y9 ps:=by
 unfold qA Y9;rw [List.map_flatMap];simp only [List.map_map]
 rfl
theorem Za5(js:List (Zc×Zc)):(qJ js).map Prod.fst=Xm js:=by
 unfold qJ Xm;rw [List.map_flatMap]
 rfl
theorem Zzp(sg:List (Str×Str×Str)):(qS sg).map Prod.fst=sg.map Prod.fst:=by unfold qS;rw [List.map_map];rfl
theorem Zoo(sg:List (Str×Str×Str)):(qO sg).map Prod.fst=sg.map Prod.snd:=by unfold qO;rw [List.map_map];rfl
def RP(T:Tx K mg)(H:Hp):Str->Str->V->Prop:=fun nm k v=>∃x C,v=.ref x/\X1 T k C/\Zde H C x nm
def RA(T:Tx K mg)(H:Hp):Zc->Str->V->Prop:=fun e k v=>∃x C,v=.ref x/\X1 T k C/\Zde H C x e.1
def RJ(H:Hp):Zc->Zc->V->Prop:=fun _ e v=>∃t,v=.ref t/\Zm H t e
def RS(H:Hp):Str->Zc->V->Prop:=fun _ e v=>∃t,v=.ref t/\Zm H t e
def RO:Zc->Str->V->Prop:=fun _ s v=>v=.str s
theorem Zde.mono{H H':Hp}{C x:Addr}{nm:Str}(e:Same H H')(h:Zde H C x nm):Zde H' C x nm:=let ⟨dx,z⟩:=h;⟨dx,e.at z⟩
theorem RP.mono{T:Tx K mg}{H H':Hp}(e:Same H H')(a b:Str)(v:V)(h:RP T H a b v):RP T H' a b v:=let ⟨x,C,h1,h2,h3⟩:=h;⟨x,C,h1,h2,h3.mono e⟩
theorem RJ.mono{H H':Hp}(e:Same H H')(a b:Zc)(v:V)(h:RJ H a b v):RJ H' a b v:=let ⟨t,h1,h2⟩:=h;⟨t,h1,h2.mono e⟩
theorem RS.mono{H H':Hp}(e:Same H H')(a:Str)(b:Zc)(v:V)(h:RS H a b v):RS H' a b v:=let ⟨t,h1,h2⟩:=h;⟨t,h1,h2.mono e⟩
theorem Zs1{H:Hp}{t:Addr}{e:Zc}(h:Zm H t e):H t=some (.tup ((Xf e).map kV)):=h
abbrev Zwh:Str := "abcdefghijklmnopqrstuvwxyz"
abbrev Zzt:Str := "0123456789"
theorem Zxz:∀c,c<128->(!(Builtin.Str.occurrences Zwh ⟨#[c]⟩ 0 Zwh.length 1).isEmpty)=Zjn c:=by trivial
theorem Ybk:∀c,c<128->(!(Builtin.Str.occurrences (Zwh++Zzt) ⟨#[c]⟩ 0 (Zwh++Zzt).length 1).isEmpty)=anC c:=by trivial
theorem Zu2:Zwh.length+Zzt.length<=sizeLine:=by rw [sizeLine_eq];decide +kernel
theorem Ybq{c:Nat}(h:anC c=true):c<128:=by
 unfold anC Zjn at h;simp at h;lia
def Zqc:Sp:=fun vs H Q _=>∃s:Str,vs=[.str s]/\X9 s/\∀H',Same H H'->Q (.bl true) H'
theorem Zrk(T:Tx K mg):Zu P w K mg base CX0 1 T.bF.f T.bF.fd ["thing"] Zqc:=by
 refine T.bF.F.okW Zr0 fun a8 A outer s H vs Q E hr h=>?_
 ·obtain ⟨x,rfl,⟨h1,h6,hd,m8⟩,q⟩:=h;intro X;have hx:x.cps.toList.length=x.length:=Array.length_toList;have hasc:∀c∈x.cps.toList,c<128:=fun c hc=>Ybq (List.all_eq_true.mp m8 c hc)
  obtain ⟨c,cs,K6⟩:∃c cs,x.cps.toList=c ::cs:=by
   cases e:x.cps.toList with
   | nil=>rw [e] at hx;exact absurd hx (by show ¬0=x.length;lia)
   | cons c cs=>exact ⟨c,cs,rfl⟩
  rw [K6] at hd;have hd:Zjn c=true:=hd;refine WSs.step (Z9 (Wo (Xh (Z3 (r:=Zl0 K) Ws (by rfl) T.bo PyProof.Rows.boot_isinstance (Zb (pv 0) (Zb (Zfv (v:=.ty "str") (by rfl) T.et PyProof.Rows.boot_str rfl) Za))))) Zy Zr) (exR rfl ⟨_,_,true,_,rfl,X2.str x,.inl (exR rfl T.iz),_,rfl,Yz (fun z=>absurd z (by decide)) (fun _=>?_)⟩);refine WSs.step (Z9 (PW.pt (Zf7 (Zq (r:=X3 K) (X8 hr) (pv 0) Zd (Zw _)) (Zeh (Zq Zkz (Z3 (r:=Zav K) Zbh (by rfl) T.cL PySem.boot_len (Zb (pv 0) Za)) (Zfr (by rfl) T.eu) (Zw _))))) Zy Zr) (exR rfl (.inl ⟨rfl,_,rfl,Yz (fun z=>?_) (fun _=>(exR rfl (.inr (.inl ⟨x,rfl,sz (by lia),_,_,rfl,rfl,_,rfl,Yz (fun z=>?_) (fun _=>?_)⟩))))⟩))
  ·have:x=("" :Str):=V.str.inj (of_decide_eq_true z);rw [this] at h1;exact absurd h1 (by decide)
  ·have:(6:Int)<(x.length:Int):=of_decide_eq_true z;exact absurd this (by lia)
  refine WSs.last (Zp (Zdz (Wc (r:=Zoc K) (Zqs hr) (Zv (K:=K) rfl (pv 0) Zg) (Zl5 (by rfl) T.fk) (by with_unfolding_all rfl)) (Zgl (Z3 (r:=Ya5 K) (Zt4 rfl) (by rfl) T.ig PyProof.Rows.boot_all (Zb (X4 (N':=["sign"]) rfl (Yc.std 1 [] rfl (by trivial) (by trivial) rfl trivial rfl rfl trivial) (Yar (pv 0)) (fun _ _ _ _=>(Za4 (i:=0) (by show (["sign"]:List Str).Nodup;decide +kernel))) (fun _ _ _ _=>Zbk) (fun _ _ _ _=>(Wc (r:=Zoc K) (Zqs hr) (pv 0) (Zt We (Zl5 (by rfl) T.fk) (Zl5 (by rfl) T.gI)) (by with_unfolding_all rfl)))) Za))))) (exR rfl (.inr (.inr ⟨x,0,c,rfl,rfl,sz (by lia),by rw [K6];exact Yr (j:=0) rfl,.inr (.inr (.inl (exQ rfl rfl (exR rfl ?_))))⟩)));rw [Zxz c (hasc c (by rw [K6];exact List.mem_cons_self)),hd];refine Zgn ⟨_,rfl,x,rfl,?_,fun D hD=>?_⟩
  ·rw [Array.all_eq_true'];exact fun c hc=>decide_eq_true (hasc c (Array.mem_toList_iff.mpr hc))
  refine Zwc (fun i ys H'=>ys=(x.cps.toList.take i).map (fun c=>V.bl (anC c))/\H' D=some (.lst ys)/\Same H H') ⟨rfl,Zf,fun b' o e=>by rw [Ze (Zi e hD)];exact e⟩ ?_ ?_
  ·rintro i c' ys H' hi ⟨rfl,v0,sm⟩;have hi':x.cps.toList[i]? =some c':=by simpa using hi
   have R7:c'<128:=hasc c' (List.mem_of_getElem? hi');refine ⟨W3.set rfl,_,rfl,.inr (.inl ⟨_,_,rfl,rfl,Zu2,.inr (.inr (.inl ⟨_,_,rfl,rfl,v0,?_,?_⟩))⟩)⟩
   ·rw [List.length_map,List.length_take,sizeLine_eq];lia
   ·rw [Ybk c' R7];refine ⟨?_,Zf,fun b' o e=>?_⟩
    ·rw [List.take_add_one,hi'];simp
    ·rw [Ze (Zi e hD)];exact sm b' o e
  ·rintro ys H' ⟨rfl,v0,sm⟩;refine ⟨D,(x.cps.toList.map anC),rfl,?_,?_⟩
   ·have e:(List.map anC x.cps.toList).map V.bl=List.map (fun c=>V.bl (anC c)) (List.take x.cps.size x.cps.toList):=by
     rw [List.map_map,List.take_of_length_le (by simp)]
     rfl
    rw [e];exact SqL.of v0
   ·have e:(List.map anC x.cps.toList).all id=true:=by rw [List.all_map];exact m8
    rw [e];exact q H' sm
theorem Zh4(T:Tx K mg){k:Nat}(h:1<=k:=by decide):Zu P w K mg base CX0 k T.bF.f T.bF.fd ["thing"] Zqc:=(Zrk T).mono h
def Zv3:Sp:=fun vs H Q _=>∃(s:Str) (d:Addr) (kvs:List (Key×V)),vs=[.str s,.ref d]/\X9 s/\H d=some (.dK kvs)/\Y6 kvs (Ym s)=none/\∀H',Same H H'->Q .non H'
theorem Zlh(T:Tx K mg):Zu P w K mg base CX0 2 T.aA.f T.aA.fd ["name", "known"] Zv3:=by
 refine T.aA.F.okW Zlx fun a8 A outer s H vs Q E hr h=>?_
 ·obtain ⟨x,d,kvs,rfl,hn,hd,hv,q⟩:=h;intro X;refine WSs.step (Z9 (Wo (Xh (Zs (Zh4 T) hr rfl T.dD T.bF.F.kp T.bF.b .nil Zk (Zb (pv 0) Za)))) Zy Zr) (exR rfl ⟨x,rfl,hn,fun H1 s1=>(exR rfl (Yz (fun z=>absurd z (by decide)) (fun _=>?_)))⟩);refine WSs.last (Z9 (Zq (r:=Zoc K) (Zqs hr) (pv 0) (pv 1) (by with_unfolding_all rfl)) Zy Zr) (exR rfl (exR rfl (.inr (.inl ⟨d,_,rfl,Wa.k (k:=Ym x) (s1.at hd),_,rfl,Yz (fun z=>?_) (fun _=>q H1 s1)⟩))));rw [hv] at z;exact absurd z (by decide)
theorem Zcx(T:Tx K mg){k:Nat}(h:2<=k:=by decide):Zu P w K mg base CX0 k T.aA.f T.aA.fd ["name", "known"] Zv3:=(Zlh T).mono h
def Zco(k:Str):List Str:=if k = "points" then ["left", "right"] else [""]
def Zif(k lie:Str):List (Str×Str):=if k = "points" then [("stem",lie)] else if k = "cross" then [("a", "b"),("c", "d")] else if k = "plain" then [("a", "b")] else [("", "a")]
def Zrn(k:Str):Bool:=decide (k∈[("plain" :Str), "gate", "stop"])
def Zcn(e:Str):List (Str×Str)->Str
 | [] => ""
 | (one,two) ::r=>if e=one then two else if e=two then one else Zcn e r
def Xv(k e lie:Str):Str:=if lie∈Zco k then Zcn e (Zif k lie) else ""
def Ya4(H:Hp)(p:Addr)(l:List (Str×Str)):Prop:=∃as:List Addr,H p=some (.lst (as.map V.ref))/\Paired (fun a (q:Str×Str)=>H a=some (.tup [.str q.1,.str q.2])) as l
def spL(xs:List V):Sp:=fun vs H Q _=>∃v,vs=[v]/\∀p H',Same H H'->H p=none->H' p=some (.lst xs)->Q (.ref p) H'
def spP(f:Str->List (Str×Str)):Sp:=fun vs H Q _=>∃v lie,vs=[v,.str lie]/\∀p H',Same H H'->Ya4 H' p (f lie)->Q (.ref p) H'
def spB(b:Bool):Sp:=fun vs H Q _=>∃v,vs=[v]/\Q (.bl b) H
theorem Zhn(T:Tx K mg):Zu P w K mg base CX0 1 T.ca.f T.ca.fd ["self"] (spL ((["a", "b"]:List Str).map V.str)):=by
 refine T.ca.F.okW Zo0 fun a8 A outer s H vs Q E hr h=>?_
 ·obtain ⟨v,rfl,k⟩:=h;intro X;exact WSs.last (Zp (Zl (Zb Zd (Zb Zd Za)))) ⟨szA,k⟩
theorem Zae(T:Tx K mg):Zu P w K mg base CX0 1 T.aK.f T.aK.fd ["self"] (spL (([""]:List Str).map V.str)):=by
 refine T.aK.F.okW Zot fun a8 A outer s H vs Q E hr h=>?_
 ·obtain ⟨v,rfl,k⟩:=h;intro X;exact WSs.last (Zp (Zl (Zb Zd Za))) ⟨szA,k⟩
theorem Zgc(T:Tx K mg):Zu P w K mg base CX0 1 T.bS.f T.bS.fd ["self", "lie"] (spP fun lie=>[("a", "b")]):=by
 refine T.bS.F.okW Zmo fun a8 A outer s H vs Q E hr h=>?_
 ·obtain ⟨v,lie,rfl,k⟩:=h;intro X;exact WSs.last (Zp (Zl (Zb (Zj (Zb Zd (Zb Zd Za))) Za))) ⟨szA,fun p1 H1 s1 n1 e1=>⟨szA,fun p2 H2 s2 n2 e2=>k p2 H2 (s1.trans s2) ⟨[p1],e2,.cons (s2.at e1) .nil⟩⟩⟩
theorem Za9(T:Tx K mg):Zu P w K mg base CX0 1 T.aN.f T.aN.fd ["self"] (spB true):=by
 refine T.aN.F.okW Zmm fun a8 A outer s H vs Q E hr h=>?_
 ·obtain ⟨v,rfl,k⟩:=h;intro X;exact WSs.last (Zp Zq4) k
theorem Zg8(T:Tx K mg):Zu P w K mg base CX0 1 T.ce.f T.ce.fd ["self"] (spL ((["a"]:List Str).map V.str)):=by
 refine T.ce.F.okW Zom fun a8 A outer s H vs Q E hr h=>?_
 ·obtain ⟨v,rfl,k⟩:=h;intro X;exact WSs.last (Zp (Zl (Zb Zd Za))) ⟨szA,k⟩
theorem Zge(T:Tx K mg):Zu P w K mg base CX0 1 T.bT.f T.bT.fd ["self", "lie"] (spP fun lie=>[("", "a")]):=by
 refine T.bT.F.okW Zmj fun a8 A outer s H vs Q E hr h=>?_
 ·obtain ⟨v,lie,rfl,k⟩:=h;intro X;exact WSs.last (Zp (Zl (Zb (Zj (Zb Zd (Zb Zd Za))) Za))) ⟨szA,fun p1 H1 s1 n1 e1=>⟨szA,fun p2 H2 s2 n2 e2=>k p2 H2 (s1.trans s2) ⟨[p1],e2,.cons (s2.at e1) .nil⟩⟩⟩
theorem Zky(T:Tx K mg):Zu P w K mg base CX0 1 T.cz.f T.cz.fd ["self"] (spL ((["stem", "left", "right"]:List Str).map V.str)):=by
 refine T.cz.F.okW Zlv fun a8 A outer s H vs Q E hr h=>?_
 ·obtain ⟨v,rfl,k⟩:=h;intro X;exact WSs.last (Zp (Zl (Zb Zd (Zb Zd (Zb Zd Za))))) ⟨szA,k⟩
theorem Zlo(T:Tx K mg):Zu P w K mg base CX0 1 T.cA.f T.cA.fd ["self"] (spL ((["left", "right"]:List Str).map V.str)):=by
 refine T.cA.F.okW Zl6 fun a8 A outer s H vs Q E hr h=>?_
 ·obtain ⟨v,rfl,k⟩:=h;intro X;exact WSs.last (Zp (Zl (Zb Zd (Zb Zd Za)))) ⟨szA,k⟩
theorem Zjs(T:Tx K mg):Zu P w K mg base CX0 1 T.cg.f T.cg.fd ["self", "lie"] (spP fun lie=>[("stem",lie)]):=by
 refine T.cg.F.okW Zjp fun a8 A outer s H vs Q E hr h=>?_
 ·obtain ⟨v,lie,rfl,k⟩:=h;intro X;exact WSs.last (Zp (Zl (Zb (Zj (Zb Zd (Zb (pv 1) Za))) Za))) (exR rfl ⟨szA,fun p1 H1 s1 n1 e1=>⟨szA,fun p2 H2 s2 n2 e2=>k p2 H2 (s1.trans s2) ⟨[p1],e2,.cons (s2.at e1) .nil⟩⟩⟩)
theorem Zjz(T:Tx K mg):Zu P w K mg base CX0 1 T.ci.f T.ci.fd ["self"] (spB false):=by
 refine T.ci.F.okW Zjd fun a8 A outer s H vs Q E hr h=>?_
 ·obtain ⟨v,rfl,k⟩:=h;intro X;exact WSs.last (Zp Zq4) k
theorem Zmh(T:Tx K mg):Zu P w K mg base CX0 1 T.cG.f T.cG.fd ["self"] (spL ((["a", "b", "c", "d"]:List Str).map V.str)):=by
 refine T.cG.F.okW Znb fun a8 A outer s H vs Q E hr h=>?_
 ·obtain ⟨v,rfl,k⟩:=h;intro X;exact WSs.last (Zp (Zl (Zb Zd (Zb Zd (Zb Zd (Zb Zd Za)))))) ⟨szA,k⟩
theorem Zld(T:Tx K mg):Zu P w K mg base CX0 1 T.cB.f T.cB.fd ["self", "lie"] (spP fun lie=>[("a", "b"),("c", "d")]):=by
 refine T.cB.F.okW Zko fun a8 A outer s H vs Q E hr h=>?_
 ·obtain ⟨v,lie,rfl,k⟩:=h;intro X;exact WSs.last (Zp (Zl (Zb (Zj (Zb Zd (Zb Zd Za))) (Zb (Zj (Zb Zd (Zb Zd Za))) Za)))) ⟨szA,fun p1 H1 s1 n1 e1=>⟨szA,fun p2 H2 s2 n2 e2=>⟨szA,fun p3 H3 s3 n3 e3=>k p3 H3 (s1.trans (s2.trans s3)) ⟨[p1,p2],e3,.cons (s3.at (s2.at e1)) (.cons (s3.at e2) .nil)⟩⟩⟩⟩
theorem Zkj(T:Tx K mg):Zu P w K mg base CX0 1 T.cD.f T.cD.fd ["self"] (spB false):=by
 refine T.cD.F.okW Zkw fun a8 A outer s H vs Q E hr h=>?_
 ·obtain ⟨v,rfl,k⟩:=h;intro X;exact WSs.last (Zp Zq4) k
theorem X1.ends{T:Tx K mg}{k:Str}{C:Addr}(h:X1 T k C):∃f fd,Yb K C "ends" f/\Zbu K fd ["self"] []/\∀(P:Program) (w:World) (base:Heap) (j:Nat),1<=j->Zu P w K mg base CX0 j f fd ["self"] (spL ((Yw k).map V.str)):=by
 rcases h with ⟨rfl,rfl⟩|⟨rfl,rfl⟩|⟨rfl,rfl⟩|⟨rfl,rfl⟩|⟨rfl,rfl|rfl⟩
 ·exact ⟨_,_,T.eX,T.cz.b,fun P w base j hj=>(Zky T).mono hj⟩
 ·exact ⟨_,_,T.fR,T.cG.b,fun P w base j hj=>(Zmh T).mono hj⟩
 ·exact ⟨_,_,T.gi,T.ce.b,fun P w base j hj=>(Zg8 T).mono hj⟩
 ·exact ⟨_,_,T.gg,T.ce.b,fun P w base j hj=>(Zg8 T).mono hj⟩
 ·exact ⟨_,_,T.ge,T.ca.b,fun P w base j hj=>(Zhn T).mono hj⟩
 ·exact ⟨_,_,T.fJ,T.ca.b,fun P w base j hj=>(Zhn T).mono hj⟩
theorem X1.lies{T:Tx K mg}{k:Str}{C:Addr}(h:X1 T k C):∃f fd,Yb K C "lies" f/\Zbu K fd ["self"] []/\∀(P:Program) (w:World) (base:Heap) (j:Nat),1<=j->Zu P w K mg base CX0 j f fd ["self"] (spL ((Zco k).map V.str)):=by
 rcases h with ⟨rfl,rfl⟩|⟨rfl,rfl⟩|⟨rfl,rfl⟩|⟨rfl,rfl⟩|⟨rfl,rfl|rfl⟩
 ·exact ⟨_,_,T.eY,T.cA.b,fun P w base j hj=>(Zlo T).mono hj⟩
 ·exact ⟨_,_,T.fS,T.aK.b,fun P w base j hj=>(Zae T).mono hj⟩
 ·exact ⟨_,_,T.gj,T.aK.b,fun P w base j hj=>(Zae T).mono hj⟩
 ·exact ⟨_,_,T.gh,T.aK.b,fun P w base j hj=>(Zae T).mono hj⟩
 ·exact ⟨_,_,T.gf,T.aK.b,fun P w base j hj=>(Zae T).mono hj⟩
 ·exact ⟨_,_,T.fK,T.aK.b,fun P w base j hj=>(Zae T).mono hj⟩
theorem X1.pairs{T:Tx K mg}{k:Str}{C:Addr}(h:X1 T k C):∃f fd,Yb K C "pairs" f/\Zbu K fd ["self", "lie"] []/\∀(P:Program) (w:World) (base:Heap) (j:Nat),1<=j->Zu P w K mg base CX0 j f fd ["self", "lie"] (spP (Zif k)):=by
 rcases h with ⟨rfl,rfl⟩|⟨rfl,rfl⟩|⟨rfl,rfl⟩|⟨rfl,rfl⟩|⟨rfl,rfl|rfl⟩
 ·exact ⟨_,_,T.ei,T.cg.b,fun P w base j hj=>(Zjs T).mono hj⟩
 ·exact ⟨_,_,T.eZ,T.cB.b,fun P w base j hj=>(Zld T).mono hj⟩
 ·exact ⟨_,_,T.fO,T.bT.b,fun P w base j hj=>(Zge T).mono hj⟩
 ·exact ⟨_,_,T.fL,T.bT.b,fun P w base j hj=>(Zge T).mono hj⟩
 ·exact ⟨_,_,T.fF,T.bS.b,fun P w base j hj=>(Zgc T).mono hj⟩
 ·exact ⟨_,_,T.eU,T.bS.b,fun P w base j hj=>(Zgc T).mono hj⟩
theorem X1.bears{T:Tx K mg}{k:Str}{C:Addr}(h:X1 T k C):∃f fd,Yb K C "bears" f/\Zbu K fd ["self"] []/\∀(P:Program) (w:World) (base:Heap) (j:Nat),1<=j->Zu P w K mg base CX0 j f fd ["self"] (spB (Zrn k)):=by
 rcases h with ⟨rfl,rfl⟩|⟨rfl,rfl⟩|⟨rfl,rfl⟩|⟨rfl,rfl⟩|⟨rfl,rfl|rfl⟩
 ·exact ⟨_,_,T.eo,T.ci.b,fun P w base j hj=>(Zjz T).mono hj⟩
 ·exact ⟨_,_,T.fc,T.cD.b,fun P w base j hj=>(Zkj T).mono hj⟩
 ·exact ⟨_,_,T.fP,T.aN.b,fun P w base j hj=>(Za9 T).mono hj⟩
 ·exact ⟨_,_,T.fM,T.aN.b,fun P w base j hj=>(Za9 T).mono hj⟩
 ·exact ⟨_,_,T.fG,T.aN.b,fun P w base j hj=>(Za9 T).mono hj⟩
 ·exact ⟨_,_,T.eV,T.aN.b,fun P w base j hj=>(Za9 T).mono hj⟩
theorem X1.cls{T:Tx K mg}{k:Str}{C:Addr}(h:X1 T k C):Cls K C/\Xg K C "name" /\Yb K C "leads" T.aD.f:=by
 rcases h with ⟨rfl,rfl⟩|⟨rfl,rfl⟩|⟨rfl,rfl⟩|⟨rfl,rfl⟩|⟨rfl,rfl|rfl⟩
 ·exact ⟨T.cY,T.dq,T.er⟩
 ·exact ⟨T.dv,T.dI,T.fe⟩
 ·exact ⟨T.dZ,T.ee,T.fQ⟩
 ·exact ⟨T.dX,T.dY,T.fN⟩
 ·exact ⟨T.fE,T.gp,T.fH⟩
 ·exact ⟨T.dn,T.dH,T.eW⟩
theorem X1.stop{T:Tx K mg}{k:Str}{C x:Addr}{nm:Str}{H:Hp}(h:X1 T k C)(o:Zde H C x nm):∃t,X2 K H (.ref x) t/\kitOne K t (.ref T.bU)=some (decide (k = "gate" \/k = "stop")):=by
 obtain ⟨dx,o⟩:=o;rcases h with ⟨rfl,rfl⟩|⟨rfl,rfl⟩|⟨rfl,rfl⟩|⟨rfl,rfl⟩|⟨rfl,rfl|rfl⟩
 ·exact ⟨_,X2.ins o T.cY T.eF T.tG T.tK T.eG,T.gN⟩
 ·exact ⟨_,X2.ins o T.dv T.fY T.tG T.tK T.fZ,T.gY⟩
 ·exact ⟨_,X2.ins o T.dZ T.gA T.tG T.tK T.gB,T.io⟩
 ·exact ⟨_,X2.ins o T.dX T.gy T.tG T.tK T.gz,T.il⟩
 ·exact ⟨_,X2.ins o T.fE T.gw T.tG T.tK T.gx,T.ik⟩
 ·exact ⟨_,X2.ins o T.dn T.fW T.tG T.tK T.fX,T.gX⟩
def Ztl(T:Tx K mg):Sp:=fun vs H Q _=>∃(k:Str) (a C:Addr) (nm e l:Str),vs=[.ref a,.str e,.str l]/\X1 T k C/\Zde H C a nm/\∀H',Same H H'->Q (.str (Xv k e l)) H'
theorem Zm3(T:Tx K mg):Zu P w K mg base CX0 2 T.aD.f T.aD.fd ["self", "end", "lie"] (Ztl T):=by
 refine T.aD.F.okW Zc8 fun a8 A outer s H vs Q E hr h=>?_
 ·obtain ⟨k,a,C,nm,e,l,rfl,hC,⟨dx,ha⟩,q⟩:=h;intro X;obtain ⟨f1,d1,m1,b1,g1⟩:=hC.lies;obtain ⟨f2,d2,m2,b2,g2⟩:=hC.pairs;have cC:=hC.cls.1;refine WSs.step (Z9 (Zq (r:=Zby K) (Zcr hr) (pv 2) Zve (by with_unfolding_all rfl)) Zy Zr) (exR rfl (WE.of (Xb (pv 0) cC m1 (g1 _ _ _ 1 (by decide)) hr b1 .nil Zk) (exR rfl ⟨a,dx,_,rfl,ha,rfl,_,rfl,fun p H1 s1 n1 e1=>.inl ⟨p,_,rfl,.inl (SqL.of e1),rfl,Zax _,_,rfl,?_⟩⟩)));rw [if_pos rfl,Wp];refine Yz (fun hc=>?_) (fun hc=>?_)
  ·have hc:¬l∈Zco k:=by simpa using hc
   refine WSs.last (Zp Zd) ?_;have:Xv k e l = "" :=by unfold Xv;rw [if_neg hc]
   rw [this] at q;exact q H1 s1
  ·have hc:l∈Zco k:=by simpa using hc
   refine WSs.step (Xy PassesOwn.never rfl (Y5 Zve) (W8 rfl (Zz (Y1 (i:=3) Zc8.nd) (Zz (Y1 (i:=4) Zc8.nd) Xe))) Zy) (WE.of (Z1 (pv 0) cC m2 (g2 _ _ _ 1 (by decide)) hr b2 .nil Zk (Zb (pv 2) Za)) (exR rfl ⟨a,dx,_,rfl,s1.at ha,rfl,_,rfl,_,l,rfl,fun p2 H2 s2 e2=>?_⟩));obtain ⟨as,h1,h2⟩:=e2;let I14:=fun (i:Nat) (σ:St) (H':Hp)=>(∃o3 o4,σ=[some (.ref a),some (.str e),some (.str l),o3,o4])/\Same H2 H'/\Zcn e ((Zif k l).drop i)=Xv k e l
   refine ⟨p2,rfl,⟨_,SqL.of h1⟩,W2 (xs:=as.map V.ref) I14 ?_ ?_ ?_ ?_⟩
   ·refine ⟨⟨none,none,rfl⟩,Same.refl _,?_⟩;unfold Xv;rw [if_pos hc]
    rfl
   ·rintro i σ H' _ ⟨_,s3,_⟩;exact SqL.of (s3.at h1)
   ·rintro i x σ H' hx ⟨⟨o3,o4,rfl⟩,s3,hs⟩;rw [List.getElem?_map] at hx;obtain ⟨ai,hai,rfl⟩:=Option.map_eq_some_iff.mp hx;obtain ⟨⟨one,two⟩,hq,ht⟩:=Paired.get h2 hai;rw [Zkl hq] at hs;refine ⟨ai,_,rfl,SqT.of (s3.at ht),rfl,_,_,rfl,_,_,rfl,rfl,?_⟩;refine WSs.step (Z9 (Zq (r:=X3 K) (X8 hr) (pv 1) (pv 3) (Zw _)) Zy Zr) (exR rfl (exR rfl (.inl ⟨rfl,_,rfl,Yz (fun hc=>?_) (fun hc=>?_)⟩)))
    ·have hc:e=one:=V.str.inj (of_decide_eq_true hc);refine WSs.last (Zp (pv 4)) (exR rfl ?_);unfold Zcn at hs;rw [if_pos hc] at hs;rw [<-hs] at q;exact q _ (s1.trans (s2.trans s3))
    ·have hc:¬e=one:=fun z=>hc (decide_eq_true (by rw [z]))
     refine WSs.last (Z9 (Zq (r:=X3 K) (X8 hr) (pv 1) (pv 4) (Zw _)) Zy Zr) (exR rfl (exR rfl (.inl ⟨rfl,_,rfl,Yz (fun N1=>?_) (fun N1=>?_)⟩)))
     ·have N1:e=two:=V.str.inj (of_decide_eq_true N1);refine WSs.last (Zp (pv 3)) (exR rfl ?_);unfold Zcn at hs;rw [if_neg hc,if_pos N1] at hs;rw [<-hs] at q;exact q _ (s1.trans (s2.trans s3))
     ·have N1:¬e=two:=fun z=>N1 (decide_eq_true (by rw [z]))
      unfold Zcn at hs;rw [if_neg hc,if_neg N1] at hs;exact ⟨⟨_,_,rfl⟩,s3,hs⟩
   ·rintro σ H' ⟨_,s3,hs⟩;refine WSs.last (Zp Zd) ?_;have e0:(Zif k l).drop (as.map V.ref).length=[]:=by rw [List.length_map,Paired.length h2,List.drop_length]
    rw [e0] at hs;rw [<-hs] at q;exact q _ (s1.trans (s2.trans s3))
theorem Zok(T:Tx K mg){k:Nat}(h:2<=k:=by decide):Zu P w K mg base CX0 k T.aD.f T.aD.fd ["self", "end", "lie"] (Ztl T):=(Zm3 T).mono h
theorem _root_.L2.Same.upd0{H H':Hp}{d:Addr}{o:HO}(s:Same H H')(n:H d=none):Same H (upd H' d o):=fun b u e=>by rw [Ze (Zi e n)];exact s.at e
def PO(T:Tx K mg)(H:Hp)(x:Addr)(p:Zc):Prop:=∃C,X1 T p.1 C/\Zde H C x p.2
theorem PO.mono{T:Tx K mg}{H H':Hp}{x:Addr}{p:Zc}(e:Same H H')(h:PO T H x p):PO T H' x p:=let ⟨C,h1,h2⟩:=h;⟨C,h1,h2.mono e⟩
def Zyp(T:Tx K mg):Sp:=fun vs H Q _=>∃(l:Addr) (xs:List Addr) (ps:List Zc),vs=[.ref l]/\H l=some (.lst (xs.map V.ref))/\Paired (PO T H) xs ps/\(ps.map Prod.snd).Nodup/\(∀p∈ps,X9 p.2)/\ps.length<=100 /\
 ∀(d:Addr) (kvs:List (Key×V)) (H':Hp),Same H H'->H d=none->H' d=some (.dK kvs)->DP Ym (RP T H) kvs (qP ps)->Q (.ref d) H'
theorem Zh7(T:Tx K mg):Zu P w K mg base CX0 3 T.aT.f T.aT.fd ["parts"] (Zyp T):=by
 refine T.aT.F.okW Za3 fun a8 A outer s H vs Q E hr h=>?_
 ·obtain ⟨l,xs,ps,rfl,hl,hx,nd,nm,len,q⟩:=h;intro X;have hxl:=Paired.length hx;refine WSs.step (Z0 (i:=1) Za3.nd Zdr) fun d H1 s1 n1 e1=>?_
  let I15:=fun (i:Nat) (σ:St) (H':Hp)=>(∃o,σ=[some (.ref l),some (.ref d),o])/\Same H H'/\∃kvs,H' d=some (.dK kvs)/\DP Ym (RP T H) kvs (qP (ps.take i))
  refine WSs.step (Xy PassesOwn.never rfl (Y5 (pv 0)) (Y1 (i:=2) Za3.nd) Zy) (exR rfl ⟨l,rfl,⟨_,SqL.of (s1.at hl)⟩,W2 (K:=K) (xs:=xs.map V.ref) I15 ⟨⟨none,rfl⟩,s1,[],e1,.nil⟩ ?_ ?_ ?_⟩)
  ·rintro i σ H' _ ⟨_,s2,_⟩;exact SqL.of (s2.at hl)
  ·rintro i v σ H2 hi ⟨⟨o,rfl⟩,s2,kvs,hd,hD⟩;rw [List.getElem?_map] at hi;obtain ⟨x,hxi,rfl⟩:=Option.map_eq_some_iff.mp hi;obtain ⟨p,hp,C,hC,dx,hO⟩:=Paired.get hx hxi;have hm:p∈ps:=List.mem_of_getElem? hp;have O4:=(List.getElem?_eq_some_iff.mp hp).1;have hn:Y6 kvs (Ym p.2)=none:=hD.none Xq (by
    rw [Zo9,List.map_take];exact Zfu nd (by rw [List.getElem?_map,hp];rfl))
   have hkl:kvs.length<=100:=by
    have:=hD.len;unfold qP at this;rw [List.length_map,List.length_take] at this;lia
   refine WSs.step (Yj (Zs (Zcx T) hr rfl T.cT T.aA.F.kp T.aA.b .nil Zk (Zb (Ye (pv 2) rfl) (Zb (pv 1) Za)))) (exR rfl ⟨x,C,dx,_,_,rfl,s2.at hO,hC.cls.1,hC.cls.2.1,rfl,_,rfl,p.2,d,kvs,rfl,nm p hm,hd,hn,fun H3 s3=>?_⟩);have j5:=s2.trans s3;refine WSs.last (Zad (Xc hr) (pv 1) (Ye (pv 2) rfl) (pv 2) rfl) (exR rfl (exR rfl (exR rfl ⟨x,C,dx,_,_,rfl,j5.at hO,hC.cls.1,hC.cls.2.1,rfl,d,_,rfl,Zfe.k (k:=Ym p.2) (s3.at hd) (Zx (by lia)),⟨_,rfl⟩,j5.upd0 n1,_,Zf,?_⟩)));have:qP (ps.take (i+1))=qP (ps.take i)++[(p.2,p.1)]:=by
    unfold qP;rw [List.take_add_one,hp,List.map_append]
    rfl
   rw [this];exact hD.put hn ⟨x,C,rfl,hC,dx,hO⟩
  ·rintro σ H2 ⟨⟨o,rfl⟩,s2,kvs,hd,hD⟩;rw [List.length_map,hxl,List.take_length] at hD;exact WSs.last (Zp (pv 1)) (exR rfl (q d kvs H2 s2 n1 hd hD))
theorem Zj3(T:Tx K mg){k:Nat}(h:3<=k:=by decide):Zu P w K mg base CX0 k T.aT.f T.aT.fd ["parts"] (Zyp T):=(Zh7 T).mono h
theorem _root_.L2.Same.frz{H H1:Hp}{d:Addr}{u:HO}(s:Same H H1):Same (upd H d u) (upd H1 d u):=fun b o e=>by
 by_cases z:b=d
 ·rw [z,Zf] at e ⊢;exact e
 ·rw [Ze z] at e ⊢;exact s.at e
def Zy1(T:Tx K mg):Sp:=fun vs H Q _=>∃(d:Addr) (kvs:List (Key×V)) (ps:List Zc),vs=[.ref d]/\H d=some (.dK kvs)/\DP Ym (RP T H) kvs (qP ps)/\(ps.map Prod.snd).Nodup/\ps.length<=100 /\
 ∀(a:Addr) (ka:List (List Key×V)) (H':Hp),Same H H'->H a=none->H' a=some (.dT ka)->DP Xf (RA T H) ka (qA ps)->Q (.ref a) H'
theorem Zvq(ps:List Zc):(qA ps).length<=4 * ps.length:=by
 induction ps with
 | nil=>decide
 | cons p ps ih =>
  have:=Zke p.1;have e:qA (p ::ps)=(Yw p.1).map (fun e=>((p.2,e),p.1))++qA ps:=rfl;rw [e,List.length_append,List.length_map,List.length_cons];lia
theorem Zsy{ps:List Zc}{i:Nat}{p:Zc}(h:ps[i]? =some p):qA (ps.take (i+1))=qA (ps.take i)++(Yw p.1).map fun e=>((p.2,e),p.1):=by
 unfold qA;rw [List.take_add_one,h,List.flatMap_append];simp
theorem Zik(T:Tx K mg):Zu P w K mg base CX0 2 T.aU.f T.aU.fd ["part_of"] (Zy1 T):=by
 refine T.aU.F.okW X6 fun a8 A outer s H vs Q E hr h=>?_
 ·obtain ⟨d,kvs,ps,rfl,hd,hD,nd,len,q⟩:=h;intro X;have hkl:kvs.length=ps.length:=by have:=hD.len;unfold qP at this;rw [List.length_map] at this;exact this
  refine WSs.step (Z0 (i:=1) X6.nd Zno) fun a H1 s1 n1 e1=>?_
  have had:a≠d:=fun z=>by rw [z,hd] at n1;cases n1
  refine WSs.step (Zpg (Xy PassesOwn.never rfl (Zqv (pv 0)) (W8 rfl (Zz (Y1 (i:=2) X6.nd) (Zz (Y1 (i:=3) X6.nd) Xe))) Zy)) (exR rfl ⟨d,_,rfl,s1.at hd,fun o nf=>Zuj (fun i σ H'=>(∃o2 o3 o4,σ=[some (.ref d),some (.ref a),o2,o3,o4])/\Same (upd H d (.frz o (.dK kvs))) H'/\∃ka,H' a=some (.dT ka)/\DP Xf (RA T H) ka (qA (ps.take i))) ⟨⟨none,none,none,rfl⟩,s1.frz,[],by rw [Ze had];exact e1,.nil⟩ ?_ ?_ ?_⟩)
  ·rintro i σ H' _ ⟨_,s2,_⟩;exact s2.at Zf
  ·rintro i kv σ H2 hi ⟨⟨o2,o3,o4,rfl⟩,s2,ka,ha,hA⟩ tp H3 s3 n3 e3;obtain ⟨⟨nm,kd⟩,hq,hk,x,C,hv,hC,dx,hO⟩:=Paired.get hD hi;have hp:ps[i]? =some (kd,nm):=by
    unfold qP at hq;rw [List.getElem?_map] at hq;obtain ⟨⟨p1,p2⟩,hp,e⟩:=Option.map_eq_some_iff.mp hq;rw [hp];simp only [Prod.mk.injEq] at e;rw [e.1,e.2]
   have O4:=(List.getElem?_eq_some_iff.mp hp).1;have hxd:x≠d:=fun z=>by rw [z,hd] at hO;cases hO
   have hOF:upd H d (.frz o (.dK kvs)) x=some (.ins C dx [("name",.str nm)]):=by rw [Ze hxd];exact hO
   obtain ⟨f1,d1,m1,b1,g1⟩:=hC.ends;have hk:kv.1=Sum.inr nm:=hk;rw [hk,hv] at e3;have hFa:upd H d (.frz o (.dK kvs)) a=none:=by rw [Ze had];exact n1
   refine ⟨tp,_,rfl,SqT.of e3,rfl,_,_,rfl,_,_,rfl,rfl,?_⟩;have s23:=s2.trans s3;refine WSs.last (Xy PassesOwn.never rfl (Y5 Zve) (Y1 (i:=4) X6.nd) Zy) (WE.of (Xb (pv 3) hC.cls.1 m1 (g1 _ _ _ 1 (by decide)) hr b1 .nil Zk) (exR rfl ⟨x,dx,_,rfl,s23.at hOF,rfl,_,rfl,fun p H4 s4 n4 e4=>⟨p,rfl,⟨_,SqL.of e4⟩,W2 (K:=K) (xs:=(Yw kd).map V.str) (fun j σ H'=>(∃o4,σ=[some (.ref d),some (.ref a),some (.str nm),some (.ref x),o4])/\Same (upd H d (.frz o (.dK kvs))) H'/\H' p=some (.lst ((Yw kd).map V.str))/\∃ka,H' a=some (.dT ka)/\DP Xf (RA T H) ka (qA (ps.take i)++((Yw kd).take j).map fun e=>((nm,e),kd))) ⟨⟨_,rfl⟩,s23.trans s4,e4,ka,s4.at (s3.at ha),by rw [List.take_zero,List.map_nil,List.append_nil];exact hA⟩ ?_ ?_ ?_⟩⟩))
   ·rintro j σ H' _ ⟨_,_,z,_⟩;exact SqL.of z
   ·rintro j v σ H5 hj ⟨⟨o4,rfl⟩,s5,hp5,ka5,ha5,hA5⟩;rw [List.getElem?_map] at hj;obtain ⟨e,he,rfl⟩:=Option.map_eq_some_iff.mp hj;have hlen5:ka5.length<=500:=by
     have h1:=hA5.len;have h2:=Zvq (ps.take i);have h3:=Zke kd;rw [List.length_append,List.length_map,List.length_take] at h1;rw [List.length_take] at h2;lia
    have i7:Y6 ka5 (Xf (nm,e))=none:=hA5.none W4 (by
     have h1:(Y9 (ps.take (i+1))).Nodup:=Za2 (by rw [List.map_take];exact nd.sublist (List.take_sublist _ _));rw [<-Zpq,Zsy hp,List.map_append] at h1;rw [List.map_append];have ed:Yw kd=(Yw kd).take j++(e ::(Yw kd).drop (j+1)):=by rw [<-Zkl he,List.take_append_drop]
     rw [show ((kd,nm):Zc).1=kd from rfl,ed,List.map_append,List.map_append,List.map_cons,List.map_cons,<-List.append_assoc,List.nodup_append] at h1;intro m;exact h1.2.2 _ m _ List.mem_cons_self rfl)
    refine WSs.last (Zad (Xc hr) (pv 1) (Zj (Zb (pv 2) (Zb (pv 4) Za))) (pv 3) rfl) (exR rfl (exR rfl (exR rfl (exR rfl ⟨szA,fun t H6 s6 n6 e6=>⟨a,_,rfl,Zfe.t (k:=Xf (nm,e)) (s6.at ha5) e6 (Zx (by lia)),⟨_,rfl⟩,(s5.trans s6).upd0 hFa,?_,_,Zf,?_⟩⟩))))
    ·rw [Ze (Zzd hp5 ha5 (fun z=>nomatch z))];exact s6.at hp5
    ·have:((Yw kd).take (j+1)).map (fun e=>((nm,e),kd))=((Yw kd).take j).map (fun e=>((nm,e),kd))++[((nm,e),kd)]:=by
      rw [List.take_add_one,he,List.map_append]
      rfl
     rw [this,<-List.append_assoc];exact hA5.put i7 ⟨x,C,rfl,hC,dx,hO⟩
   ·rintro σ H5 ⟨⟨o4,rfl⟩,s5,hp5,ka5,ha5,hA5⟩;rw [List.length_map,List.take_length] at hA5;refine ⟨⟨_,_,_,rfl⟩,s5,ka5,ha5,?_⟩;rw [Zsy hp];exact hA5
  ·rintro σ H2 ⟨⟨o2,o3,o4,rfl⟩,s2,ka,ha,hA⟩;rw [hkl,List.take_length] at hA;refine ⟨d,o,_,s2.at Zf,nf,WSs.last (Zp (pv 1)) ⟨_,rfl,q a ka _ (s2.thaw hd) n1 ?_ hA⟩⟩;rw [Ze had];exact ha
theorem Zjo(T:Tx K mg){k:Nat}(h:2<=k:=by decide):Zu P w K mg base CX0 k T.aU.f T.aU.fd ["part_of"] (Zy1 T):=(Zik T).mono h
def Zv9:Sp:=fun vs H Q _=>∃(t:Addr) (u v:V),vs=[.ref t]/\H t=some (.tup [u,v])/\Q (.bl true) H
theorem Zr4(T:Tx K mg):Zu P w K mg base CX0 1 T.bW.f T.bW.fd ["thing"] Zv9:=by
 refine T.bW.F.okW Zrz fun a8 A outer s H vs Q E hr h=>?_
 ·obtain ⟨t,u,v,rfl,ht,q⟩:=h;intro X;exact WSs.last (Zp (Zdz (Z3 (r:=Zl0 K) Ws (by rfl) T.bo PyProof.Rows.boot_isinstance (Zb (pv 0) (Zb (Zfv (v:=.ty "tuple") (by rfl) T.gM PyProof.Rows.boot_tuple rfl) Za))) (Zgl (Wc (r:=X3 K) (X8 hr) (Z3 (r:=Zav K) Zbh (by rfl) T.cL PySem.boot_len (Zb (pv 0) Za)) Zg (Zw _))))) (exR rfl ⟨_,_,true,_,rfl,X2.tup ht,.inl (exR rfl T.iB),_,rfl,Zgn (exR rfl (.inl ⟨t,_,rfl,.inr (SqT.of ht),.inl ⟨rfl,q⟩⟩))⟩)
theorem Znh(T:Tx K mg){k:Nat}(h:1<=k:=by decide):Zu P w K mg base CX0 k T.bW.f T.bW.fd ["thing"] Zv9:=(Zr4 T).mono h
def Ycb:Sp:=fun vs H Q _=>∃(t d:Addr) (e:Zc) (kvs:List (List Key×V)),vs=[.ref t,.ref d]/\Zm H t e/\H d=some (.dT kvs)/\Q (.bl (Y6 kvs (Xf e)).isSome) H
theorem Zre(T:Tx K mg):Zu P w K mg base CX0 2 T.ay.f T.ay.fd ["end", "ends"] Ycb:=by
 refine T.ay.F.okW Zqz fun a8 A outer s H vs Q E hr h=>?_
 ·obtain ⟨t,d,e,kvs,rfl,ht,hd,q⟩:=h;intro X;exact WSs.last (Zp (Zdz (Zs (Znh T) hr rfl T.fh T.bW.F.kp T.bW.b .nil Zk (Zb (pv 0) Za)) (Zdz (Z3 (r:=Zl0 K) Ws (by rfl) T.bo PyProof.Rows.boot_isinstance (Zb (Zv (K:=K) rfl (pv 0) Zg) (Zb (Zfv (v:=.ty "str") (by rfl) T.et PyProof.Rows.boot_str rfl) Za))) (Zdz (Z3 (r:=Zl0 K) Ws (by rfl) T.bo PyProof.Rows.boot_isinstance (Zb (Zv (K:=K) rfl (pv 0) Zg) (Zb (Zfv (v:=.ty "str") (by rfl) T.et PyProof.Rows.boot_str rfl) Za))) (Zgl (Wc (r:=Zoc K) (Zqs hr) (pv 0) (pv 1) (by with_unfolding_all rfl))))))) (exR rfl ⟨t,_,_,rfl,ht,_,rfl,Zgn (exR rfl (ixT ht 0 rfl ⟨_,_,true,_,rfl,X2.str _,.inl (exR rfl T.iz),_,rfl,Zgn (exR rfl (ixT ht 1 rfl ⟨_,_,true,_,rfl,X2.str _,.inl (exR rfl T.iz),_,rfl,Zgn (exR rfl (exR rfl (.inr (.inl ⟨d,_,rfl,Wa.t (k:=Xf e) hd ht,q⟩))))⟩))⟩))⟩)
theorem Za6(T:Tx K mg){k:Nat}(h:2<=k:=by decide):Zu P w K mg base CX0 k T.ay.f T.ay.fd ["end", "ends"] Ycb:=(Zre T).mono h
def Ybs:Sp:=fun vs H Q _=>∃(t pa d a b:Addr) (e1 e2:Zc) (ka kd:List (List Key×V)),vs=[.ref t,.ref pa,.ref d]/\H t=some (.tup [.ref a,.ref b])/\Zm H a e1/\Zm H b e2/\H pa=some (.dT ka)/\H d=some (.dT kd) /\
 (Y6 ka (Xf e1)).isSome=true/\(Y6 ka (Xf e2)).isSome=true/\Y6 kd (Xf e1)=none/\Y6 kd (Xf e2)=none/\e1.1≠e2.1/\Q .non H
theorem Zk2(T:Tx K mg):Zu P w K mg base CX0 3 T.bq.f T.bq.fd ["join", "part_at", "joined"] Ybs:=by
 refine T.bq.F.okW Zfh fun a8 A outer s H vs Q E hr h=>?_
 ·obtain ⟨t,pa,d,a,b,e1,e2,ka,kd,rfl,ht,ha,hb,U1,hd,k1,k2,n1,n2,ne,q⟩:=h;intro X;refine WSs.step (Z9 (Wo (Xh (Zs (Znh T) hr rfl T.fh T.bW.F.kp T.bW.b .nil Zk (Zb (pv 0) Za)))) Zy Zr) (exR rfl ⟨t,_,_,rfl,ht,_,rfl,Yz (fun z=>absurd z (by decide)) (fun _=>?_)⟩);let I16:=fun (i:Nat) (σ:St) (H':Hp)=>(∃o,σ=[some (.ref t),some (.ref pa),some (.ref d),o])/\H'=H
  refine WSs.step (Xy PassesOwn.never rfl (Zzx (pv 0)) (Y1 (i:=3) Zfh.nd) Zy) (exR rfl ⟨t,rfl,⟨_,SqT.of ht⟩,Zyh (K:=K) (xs:=[.ref a,.ref b]) I16 ⟨⟨none,rfl⟩,rfl⟩ ?_ ?_ ?_⟩)
  ·rintro i σ H' _ ⟨_,rfl⟩;exact SqT.of ht
  ·rintro i v σ H' hi ⟨⟨o,rfl⟩,hH⟩;rw [hH];obtain ⟨x,e,rfl,hx,h1,h2⟩:∃x e,v=V.ref x/\Zm H x e/\(Y6 ka (Xf e)).isSome=true/\Y6 kd (Xf e)=none:=by
    match i,hi with
    | 0,hi=>cases hi;exact ⟨a,e1,rfl,ha,k1,n1⟩
    | 1,hi=>cases hi;exact ⟨b,e2,rfl,hb,k2,n2⟩
   refine WSs.step (Z9 (Wo (Xh (Zs (Za6 T) hr rfl T.cN T.ay.F.kp T.ay.b .nil Zk (Zb (pv 3) (Zb (pv 1) Za))))) Zy Zr) (exR rfl (exR rfl ⟨x,pa,e,ka,rfl,hx,U1,_,rfl,Yz (fun z=>?_) (fun _=>?_)⟩))
   ·rw [h1] at z;exact absurd z (by decide)
   refine WSs.last (Z9 (Zq (r:=Zoc K) (Zqs hr) (pv 3) (pv 2) (by with_unfolding_all rfl)) Zy Zr) (exR rfl (exR rfl (.inr (.inl ⟨d,_,rfl,Wa.t (k:=Xf e) hd hx,_,rfl,Yz (fun z=>?_) (fun _=>⟨⟨_,rfl⟩,rfl⟩)⟩))));rw [h2] at z;exact absurd z (by decide)
  ·rintro σ H' ⟨⟨o,rfl⟩,hH⟩;rw [hH];refine WSs.last (Z9 (Zq (r:=X3 K) (X8 hr) (Zv (K:=K) rfl (Zv (K:=K) rfl (pv 0) Zg) Zg) (Zv (K:=K) rfl (Zv (K:=K) rfl (pv 0) Zg) Zg) (Zw _)) Zy Zr) (exR rfl (ixT ht 0 rfl (ixT ha 0 rfl (exR rfl (ixT ht 1 rfl (ixT hb 0 rfl (.inl ⟨rfl,_,rfl,Yz (fun z=>?_) (fun _=>q)⟩)))))));exact absurd (V.str.inj (of_decide_eq_true z)) ne
theorem Zmi(T:Tx K mg){k:Nat}(h:3<=k:=by decide):Zu P w K mg base CX0 k T.bq.f T.bq.fd ["join", "part_at", "joined"] Ybs:=(Zk2 T).mono h
def Ya1:Sp:=fun vs H Q _=>∃(jl pa:Addr) (js:List (Zc×Zc)) (ka:List (List Key×V)),vs=[.ref jl,.ref pa]/\Yf H jl js/\H pa=some (.dT ka)/\(∀e∈Xm js,(Y6 ka (Xf e)).isSome=true)/\ka.length=(Xm js).length/\(Xm js).Nodup/\(∀j∈js,j.1.1≠j.2.1)/\js.length<=300 /\
 ∀(d:Addr) (kj:List (List Key×V)) (H':Hp),Same H H'->H d=none->H' d=some (.dT kj)->DP Xf (RJ H) kj (qJ js)->Q (.ref d) H'
theorem Ztp{js:List (Zc×Zc)}{i:Nat}{j:Zc×Zc}(h:js[i]? =some j):qJ (js.take (i+1))=qJ (js.take i)++[(j.1,j.2)]++[(j.2,j.1)]:=by
 unfold qJ;rw [List.take_add_one,h,List.flatMap_append];simp
theorem Zvj(js:List (Zc×Zc)):(qJ js).length=2 * js.length:=by
 induction js with
 | nil=>rfl
 | cons j js ih =>
  have e:qJ (j ::js)=[(j.1,j.2),(j.2,j.1)]++qJ js:=rfl;rw [e,List.length_append,ih];simp only [List.length_cons,List.length_nil];lia
theorem Zlt(T:Tx K mg):Zu P w K mg base CX0 4 T.br.f T.br.fd ["joins", "part_at"] Ya1:=by
 refine T.br.F.okW Zb5 fun a8 A outer s H vs Q E hr h=>?_
 ·obtain ⟨jl,pa,js,ka,rfl,hJ,U1,hk,hkl,nd,apart,len,q⟩:=h;intro X;obtain ⟨ts,hl,d4⟩:=hJ;have T8:=Paired.length d4;refine WSs.step (Z0 (i:=2) Zb5.nd Zno) fun d H1 s1 n1 e1=>?_
  let I17:=fun (i:Nat) (σ:St) (H':Hp)=>(∃o,σ=[some (.ref jl),some (.ref pa),some (.ref d),o])/\Same H H'/\∃kj,H' d=some (.dT kj)/\DP Xf (RJ H) kj (qJ (js.take i))
  refine WSs.step (Xy PassesOwn.never rfl (Y5 (pv 0)) (Y1 (i:=3) Zb5.nd) Zy) (exR rfl ⟨jl,rfl,⟨_,SqL.of (s1.at hl)⟩,W2 (K:=K) (xs:=ts.map V.ref) I17 ⟨⟨none,rfl⟩,s1,[],e1,.nil⟩ ?_ ?_ ?_⟩)
  ·rintro i σ H' _ ⟨_,s2,_⟩;exact SqL.of (s2.at hl)
  ·rintro i v σ H2 hi ⟨⟨o,rfl⟩,s2,kj,hd,hD⟩;rw [List.getElem?_map] at hi;obtain ⟨t,hti,rfl⟩:=Option.map_eq_some_iff.mp hi;obtain ⟨j,hj,a,b,ht,ha,hb⟩:=Paired.get d4 hti;have hm:j∈js:=List.mem_of_getElem? hj;have O4:=(List.getElem?_eq_some_iff.mp hj).1;have m1:j.1∈Xm js:=List.mem_flatMap.mpr ⟨j,hm,by simp⟩;have m2:j.2∈Xm js:=List.mem_flatMap.mpr ⟨j,hm,by simp⟩;have d5:kj.length<=600:=by
    have h1:=hD.len;rw [Zvj,List.length_take] at h1;lia
   have R1:(Xm (js.take i)++[j.1]++[j.2]).Nodup:=by
    have h1:(Xm (js.take (i+1))).Nodup:=nd.sublist (by
     have:Xm js=Xm (js.take (i+1))++Xm (js.drop (i+1)):=by rw [<-Zdt,List.take_append_drop]
     rw [this];exact List.sublist_append_left _ _)
    rw [<-Za5,Ztp hj,List.map_append,List.map_append,Za5] at h1;exact h1
   have nd1:j.1∉Xm (js.take i):=fun z=>(List.nodup_append.mp (List.nodup_append.mp R1).1).2.2 _ z _ List.mem_cons_self rfl
   have nd2:j.2∉Xm (js.take i)++[j.1]:=fun z=>(List.nodup_append.mp R1).2.2 _ z _ List.mem_cons_self rfl
   have v1:Y6 kj (Xf j.1)=none:=hD.none W4 (by rw [Za5];exact nd1);have v2:Y6 kj (Xf j.2)=none:=hD.none W4 (by rw [Za5];exact fun z=>nd2 (List.mem_append_left _ z));refine WSs.step (Yj (Zs (Zmi T) hr rfl T.eM T.bq.F.kp T.bq.b .nil Zk (Zb (pv 3) (Zb (pv 1) (Zb (pv 2) Za))))) (exR rfl (exR rfl (exR rfl ⟨t,pa,d,a,b,j.1,j.2,ka,kj,rfl,s2.at ht,ha.mono s2,hb.mono s2,s2.at U1,hd,hk _ m1,hk _ m2,v1,v2,apart j hm,?_⟩)));have K9:DP Xf (RJ H) (Wg kj (Xf j.1) (.ref b)) (qJ (js.take i)++[(j.1,j.2)]):=hD.put v1 ⟨b,rfl,hb⟩;have hl1:=Zbi kj (Xf j.1) (.ref b);have v3:Y6 (Wg kj (Xf j.1) (.ref b)) (Xf j.2)=none:=K9.none W4 (by rw [List.map_append,Za5];exact nd2);refine WSs.step (Zad (Xc hr) (pv 2) (Zv (K:=K) rfl (pv 3) Zg) (Zv (K:=K) rfl (pv 3) Zg) rfl) (exR rfl (ixT (s2.at ht) 1 rfl (exR rfl (exR rfl (ixT (s2.at ht) 0 rfl ⟨d,_,rfl,Zfe.t (k:=Xf j.1) hd (Zs1 (ha.mono s2)) (Zx (by lia)),?_⟩)))));have s3:Same H (upd H2 d (.dT (Wg kj (Xf j.1) (.ref b)))):=s2.upd0 n1;refine WSs.last (Zad (Xc hr) (pv 2) (Zv (K:=K) rfl (pv 3) Zg) (Zv (K:=K) rfl (pv 3) Zg) rfl) (exR rfl (ixT (s3.at ht) 0 rfl (exR rfl (exR rfl (ixT (s3.at ht) 1 rfl ⟨d,_,rfl,Zfe.t (k:=Xf j.2) Zf (Zs1 (hb.mono s3)) (Zx (by lia)),⟨_,rfl⟩,s3.upd0 n1,_,Zf,?_⟩)))));rw [Ztp hj];exact K9.put v3 ⟨a,rfl,ha⟩
  ·rintro σ H2 ⟨⟨o,rfl⟩,s2,kj,hd,hD⟩;rw [List.length_map,T8,List.take_length] at hD;have hlj:kj.length=ka.length:=by
    have h1:=hD.len;rw [hkl,h1,<-Za5,List.length_map]
   refine WSs.step (Z9 (Zq Zn6 (Z3 (r:=Zw4) Zn2 (by rfl) T.cL PySem.boot_len (Zb (pv 2) Za)) (Z3 (r:=Zw4) Zn2 (by rfl) T.cL PySem.boot_len (Zb (pv 1) Za)) (Zw _)) Zy Zr) (exR rfl ⟨d,kj,rfl,hd,_,rfl,pa,ka,rfl,s2.at U1,_,_,rfl,rfl,_,rfl,Yz (fun z=>?_) (fun _=>?_)⟩)
   ·have:(kj.length:Int)<(ka.length:Int):=of_decide_eq_true z;exact absurd this (by lia)
   exact WSs.last (Zp (pv 2)) (exR rfl (q d kj H2 s2 n1 hd hD))
theorem Zma(T:Tx K mg){k:Nat}(h:4<=k:=by decide):Zu P w K mg base CX0 k T.br.f T.br.fd ["joins", "part_at"] Ya1:=(Zlt T).mono h
def Ybt(T:Tx K mg):Sp:=fun vs H Q _=>∃(t pa l x C:Addr) (e:Zc) (k nm:Str) (ka:List (List Key×V)) (us:List Addr) (es:List Zc),vs=[.ref t,.ref pa,.ref l]/\Zm H t e/\H pa=some (.dT ka)/\Y6 ka (Xf e)=some (.ref x)/\X1 T k C/\Zde H C x nm/\Zrn k=true /\
 H l=some (.lst (us.map V.ref))/\Paired (Zm H) us es/\e∉es/\Q .non H
theorem Zj4{a b:Zc}(h:trP a=trP b):a=b:=by
 obtain ⟨a1,a2⟩:=a;obtain ⟨b1,b2⟩:=b;unfold trP at h;simp only [Tr.tup.injEq,List.cons.injEq,Tr.str.injEq,and_true] at h;rw [h.1,h.2]
theorem Zl4(T:Tx K mg):Zu P w K mg base CX0 3 T.bt.f T.bt.fd ["end", "part_at", "ends_with_signals"] (Ybt T):=by
 refine T.bt.F.okW Zkp fun a8 A outer s H vs Q E hr h=>?_
 ·obtain ⟨t,pa,l,x,C,e,k,nm,ka,us,es,rfl,ht,U1,hv,hC,⟨dx,hO⟩,hb,hl,hu,u7,q⟩:=h;intro X;obtain ⟨f1,d1,m1,b1,g1⟩:=hC.bears;refine WSs.step (Z9 (Wo (Xh (Zs (Za6 T) hr rfl T.cN T.ay.F.kp T.ay.b .nil Zk (Zb (pv 0) (Zb (pv 1) Za))))) Zy Zr) (exR rfl (exR rfl ⟨t,pa,e,ka,rfl,ht,U1,_,rfl,Yz (fun z=>?_) (fun _=>?_)⟩))
  ·rw [hv] at z;exact absurd z (by simp)
  refine WSs.step (Z9 (Wo (Xh Zve)) Zy Zr) (WE.of (Xb (Xz (Xc hr) (pv 1) (pv 0) (fun _ _=>rfl)) hC.cls.1 m1 (g1 _ _ _ 2 (by decide)) hr b1 .nil Zk) (exR rfl (exR rfl ⟨pa,_,rfl,by rw [<-hv];exact Wa.t (k:=Xf e) U1 ht,x,dx,_,rfl,hO,rfl,_,rfl,_,rfl,Yz (fun z=>?_) (fun _=>?_)⟩)))
  ·rw [hb] at z;exact absurd z (by decide)
  refine WSs.last (Z9 (Zq (r:=Zoc K) (Zqs hr) (pv 0) (pv 2) (by with_unfolding_all rfl)) Zy Zr) (exR rfl (exR rfl (.inr (.inr (.inr ⟨l,1,trP e,es.map trP,us,rfl,SqL.of hl,by decide,Im.tup (n:=0) (SqT.of ht) (.cons (.str _) (.cons (.str _) .nil)),Zqy hu,_,rfl,Yz (fun z=>?_) (fun _=>q)⟩)))));have z:trP e∈es.map trP:=of_decide_eq_true z;obtain ⟨e',he',h'⟩:=List.mem_map.mp z;rw [Zj4 h'] at he';exact absurd he' u7
theorem Zm1(T:Tx K mg){k:Nat}(h:3<=k:=by decide):Zu P w K mg base CX0 k T.bt.f T.bt.fd ["end", "part_at", "ends_with_signals"] (Ybt T):=(Zl4 T).mono h
theorem Zm.offD{H:Hp}{c t:Addr}{o:HO}{xs:List (Key×V)}{q:Zc}(h:Zm H t q)(hc:H c=some (.dK xs)):Zm (upd H c o) t q:=by
 unfold Zm at h ⊢;exact (Ze fun z=>by rw [z,hc] at h;cases h).trans h
def Yb6(T:Tx K mg):Sp:=fun vs H Q _=>∃(sl pa:Addr) (ts:List Addr) (sg:List (Str×Str×Str)) (ka:List (List Key×V)),vs=[.ref sl,.ref pa]/\H sl=some (.lst (ts.map V.ref))/\Paired (Zy6 H) ts sg/\H pa=some (.dT ka)/\(∀q∈sg,X9 q.1)/\(sg.map Prod.fst).Nodup/\(sg.map Prod.snd).Nodup/\sg.length<=100 /\
 (∀q∈sg,∃x C k,Y6 ka (Xf (q.2.1,q.2.2))=some (.ref x)/\X1 T k C/\Zde H C x q.2.1/\Zrn k=true) /\
 ∀(d:Addr) (ks:List (Key×V)) (H':Hp),Same H H'->H d=none->H' d=some (.dK ks)->DP Ym (RS H') ks (qS sg)->Q (.ref d) H'
theorem Zx9{H:Hp}{ks:List (Key×V)}{qs:List (Str×Zc)}(h:DP Ym (RS H) ks qs):∃us:List Addr,ks.map (fun kv=>kv.2)=us.map V.ref/\Paired (Zm H) us (qs.map Prod.snd):=by
 unfold DP at h
 induction h with
 | nil=>exact ⟨[],rfl,.nil⟩
 | cons r _ ih =>
  obtain ⟨us,h1,h2⟩:=ih;obtain ⟨_,t,hv,ht⟩:=r;exact ⟨t ::us,by rw [List.map_cons,List.map_cons,h1,hv],.cons ht h2⟩
theorem Zrg(T:Tx K mg):Zu P w K mg base CX0 4 T.cj.f T.cj.fd ["signals", "part_at"] (Yb6 T):=by
 refine T.cj.F.okW Zbf fun a8 A outer s H vs Q E hr h=>?_
 ·obtain ⟨sl,pa,ts,sg,ka,rfl,hl,d4,U1,C7,nd,one,len,hk,q⟩:=h;intro X;have T8:=Paired.length d4;refine WSs.step (Z0 (i:=2) Zbf.nd Zdr) fun d H1 s1 n1 e1=>?_
  let I18:=fun (i:Nat) (σ:St) (H':Hp)=>(∃o3 o4 o5,σ=[some (.ref sl),some (.ref pa),some (.ref d),o3,o4,o5])/\Same H H'/\∃ks,H' d=some (.dK ks)/\DP Ym (RS H') ks (qS (sg.take i))
  refine WSs.step (Xy PassesOwn.never rfl (Y5 (pv 0)) (Y1 (i:=3) Zbf.nd) Zy) (exR rfl ⟨sl,rfl,⟨_,SqL.of (s1.at hl)⟩,W2 (K:=K) (xs:=ts.map V.ref) I18 ⟨⟨none,none,none,rfl⟩,s1,[],e1,.nil⟩ ?_ ?_ ?_⟩)
  ·rintro i σ H' _ ⟨_,s2,_⟩;exact SqL.of (s2.at hl)
  ·rintro i v σ H2 hi ⟨⟨o3,o4,o5,rfl⟩,s2,ks,hd,hD⟩;rw [List.getElem?_map] at hi;obtain ⟨t,hti,rfl⟩:=Option.map_eq_some_iff.mp hi;obtain ⟨⟨nm,pn,en⟩,hg,ht⟩:=Paired.get d4 hti;have ht:H t=some (.tup [.str nm,.str pn,.str en]):=ht;have hm:((nm,pn,en):Str×Str×Str)∈sg:=List.mem_of_getElem? hg;have O4:=(List.getElem?_eq_some_iff.mp hg).1;obtain ⟨x,C,k,hv,hC,hO,hb⟩:=hk _ hm;have d5:ks.length<=100:=by
    have h1:=hD.len;unfold qS at h1;rw [List.length_map,List.length_take] at h1;lia
   have hn:Y6 ks (Ym nm)=none:=hD.none Xq (by
    rw [Zzp,List.map_take];exact Zfu nd (by rw [List.getElem?_map,hg];rfl))
   have he:((pn,en):Zc)∉(qS (sg.take i)).map Prod.snd:=by
    have:(qS (sg.take i)).map Prod.snd=(sg.map Prod.snd).take i:=by
     unfold qS;rw [List.map_map,List.map_take]
     rfl
    rw [this];exact Zfu one (by rw [List.getElem?_map,hg];rfl)
   refine WSs.step (Z0 (i:=4) Zbf.nd (Zv (K:=K) rfl (pv 3) Zg)) (exR rfl (ixT (s2.at ht) 0 rfl ?_));refine WSs.step (Z0 (i:=5) Zbf.nd (Wh (r:=Zib K) Zjt (pv 3) (Wr Zg) W6)) (exR rfl (exR rfl (.inl ⟨t,_,rfl,SqT.of (s2.at ht),(show ¬(HT.sIx 3 0 (some 1)=0/\HT.sIx 3 3 none=3) by decide),fun te H3 s3 n3 e3=>?_⟩)));have j5:=s2.trans s3;have L1:Zm H3 te (pn,en):=e3;refine WSs.step (Yj (Zs (Zcx T) hr rfl T.cT T.aA.F.kp T.aA.b .nil Zk (Zb (pv 4) (Zb (pv 2) Za)))) (exR rfl (exR rfl ⟨nm,d,ks,rfl,C7 _ hm,s3.at hd,hn,fun H4 s4=>?_⟩));have k8:=j5.trans s4;have Q0:DP Ym (RS H4) ks (qS (sg.take i)):=hD.mapR fun _ _ _ z=>RS.mono (s3.trans s4) _ _ _ z
   obtain ⟨us,k9,hup⟩:=Zx9 Q0;refine WSs.step (Yj (Zs (Zm1 T) hr rfl T.eO T.bt.F.kp T.bt.b .nil Zk (Zb (pv 5) (Zb (pv 1) (Zb (Zpw rfl (by rfl) T.fU (pv 2)) Za))))) (exR rfl (exR rfl (exR rfl ⟨d,ks,rfl,.inl (s4.at (s3.at hd)),fun l H5 s5 n5 e5=>⟨te,pa,l,x,C,(pn,en),k,pn,ka,us,_,rfl,(L1.mono s4).mono s5,(k8.trans s5).at U1,hv,hC,hO.mono (k8.trans s5),hb,by rw [<-k9];exact e5,Paired.mapP hup fun _ _ r=>r.mono s5,he,?_⟩⟩)));have B6:=k8.trans s5;have hd5:H5 d=some (.dK ks):=s5.at (s4.at (s3.at hd));refine WSs.last (Zad (Xc hr) (pv 2) (pv 4) (pv 5) rfl) (exR rfl (exR rfl (exR rfl ⟨d,_,rfl,Zfe.k (k:=Ym nm) hd5 (Zx (by lia)),⟨_,_,_,rfl⟩,B6.upd0 n1,_,Zf,?_⟩)));have:qS (sg.take (i+1))=qS (sg.take i)++[(nm,(pn,en))]:=by
    unfold qS;rw [List.take_add_one,hg,List.map_append]
    rfl
   rw [this];have y8:DP Ym (RS (upd H5 d (.dK (Wg ks (Ym nm) (.ref te))))) ks (qS (sg.take i)):=Q0.mapR fun _ _ _ ⟨u,z1,z2⟩=>⟨u,z1,(z2.mono s5).offD hd5⟩
   exact y8.put hn ⟨te,rfl,((L1.mono s4).mono s5).offD hd5⟩
  ·rintro σ H2 ⟨⟨o3,o4,o5,rfl⟩,s2,ks,hd,hD⟩;rw [List.length_map,T8,List.take_length] at hD;exact WSs.last (Zp (pv 2)) (exR rfl (q d ks H2 s2 n1 hd hD))
theorem Zsm(T:Tx K mg){k:Nat}(h:4<=k:=by decide):Zu P w K mg base CX0 k T.cj.f T.cj.fd ["signals", "part_at"] (Yb6 T):=(Zrg T).mono h
structure Ya(T:Tx K mg)(H:Hp)(x:Addr)(ps:List Zc)(js:List (Zc×Zc))(sg:List (Str×Str×Str)):Prop where
 ex:∃(dx po jo so si:Addr) (kp ks:List (Key×V)) (kj ko:List (List Key×V)),H x=some (.ins T.aZ dx [("part_of",.ref po),("joined",.ref jo),("post_of",.ref so),("signal_on",.ref si)]) /\
  H po=some (.dK kp)/\DP Ym (RP T H) kp (qP ps)/\H jo=some (.dT kj)/\DP Xf (RJ H) kj (qJ js)/\H so=some (.dK ks)/\DP Ym (RS H) ks (qS sg)/\H si=some (.dT ko)/\DP Xf RO ko (qO sg)
theorem Ya.mono{T:Tx K mg}{H H':Hp}{x:Addr}{ps:List Zc}{js:List (Zc×Zc)}{sg:List (Str×Str×Str)}(e:Same H H')(h:Ya T H x ps js sg):Ya T H' x ps js sg:=by
 obtain ⟨dx,po,jo,so,si,kp,ks,kj,ko,h1,h2,h3,h4,h5,h6,h7,h8,h9⟩:=h.ex;exact ⟨dx,po,jo,so,si,kp,ks,kj,ko,e.at h1,e.at h2,h3.mapR (RP.mono e),e.at h4,h5.mapR (RJ.mono e),e.at h6,h7.mapR (RS.mono e),e.at h8,h9⟩
def del(H:Hp)(x:Addr):Hp:=fun b=>if b=x then none else H b
theorem Ze4{H:Hp}{x:Addr}:del H x x=none:=if_pos rfl
theorem Zdh{H:Hp}{x b:Addr}{o:HO}(h:H b=some o)(n:b≠x):del H x b=some o:=(if_neg n).trans h
theorem Zan{H:Hp}{x:Addr}{o:HO}:Same (del H x) (upd H x o):=fun b u e=>by
 unfold del at e
 by_cases z:b=x
 ·rw [if_pos z] at e;cases e
 ·rw [if_neg z] at e;rw [Ze z];exact e
theorem Ze8{G H:Hp}{x:Addr}(s:Same G H)(n:G x=none):Same G (del H x):=fun b u e=>Zdh (s.at e) (Zi e n)
structure Y8(ps:List Zc)(js:List (Zc×Zc))(sg:List (Str×Str×Str)):Prop where
 net:Net ps js []
 len:ps.length<=40
 name:∀p∈ps,X9 p.2
 sigs:Znu ps sg
theorem Zkq.v{ps:List Zc}{js:List (Zc×Zc)}{sg:List (Str×Str×Str)}(h:Zkq ps js sg):Y8 ps js sg:=⟨h.net,by have:=h.len;lia,fun p hp=>(h.name p hp).nm.ok,h.sigsV⟩
theorem Zr6(ps:List Zc):(Y9 ps).length<=4 * ps.length:=by rw [<-Zpq,List.length_map];exact Zvq ps
theorem _root_.YM.Net.flat{ps:List Zc}{js:List (Zc×Zc)}(h:Net ps js []):(Xm js).Perm (Y9 ps):=by
 have:=h.perm;rw [List.append_nil] at this;exact this
theorem _root_.YM.Net.jlen{ps:List Zc}{js:List (Zc×Zc)}(h:Net ps js [])(l:ps.length<=40):js.length<=300:=by
 have h1:=h.flat.length_eq;have h2:=Zr6 ps;rw [<-Za5,List.length_map,Zvj] at h1;lia
theorem Zzz{ps:List Zc}{p:Zc}{e:Str}(hp:p∈ps)(he:e∈Yw p.1):((p.2,e),p.1)∈qA ps:=List.mem_flatMap.mpr ⟨p,hp,List.mem_map.mpr ⟨e,he,rfl⟩⟩
def Zxn(T:Tx K mg):Sp:=fun vs H Q _=>∃(G:Hp) (x dx pl jl:Addr) (sv:V) (xs:List Addr) (ps:List Zc) (js:List (Zc×Zc)) (sg:List (Str×Str×Str)),vs=[.ref x,.ref pl,.ref jl,sv]/\G x=none/\Same G H/\H x=some (.ins T.aZ dx []) /\
 G pl=some (.lst (xs.map V.ref))/\Paired (PO T G) xs ps/\Yf G jl js/\((∃sl,sv=.ref sl/\Zay G sl sg)\/(sv=.non/\sg=[]))/\Y8 ps js sg/\∀H',Same G H'->Ya T H' x ps js sg->Q .non H'
theorem Zgo(T:Tx K mg):Zu P w K mg base CX0 5 T.aj.f T.aj.fd ["self", "parts", "joins", "signals"] (Zxn T):=by
 refine T.aj.F.okW W9 fun a8 A outer s H vs Q E hr h=>?_
 ·obtain ⟨G,x,dx,pl,jl,sv,xs,ps,js,sg,rfl,hGx,s0,hx,i6,D1,u4,hsv,yv,q⟩:=h;intro X;have hxl:=Paired.length D1;have ylen:=yv.len;have slen:=yv.sigs.len;let I19:=fun (σ:St) (H1:Hp)=>∃(G':Hp) (sl:Addr),σ=[some (.ref x),some (.ref pl),some (.ref jl),some sv,some (.ref sl),none]/\G' x=none/\Same G G'/\Same G' H1/\H1 x=some (.ins T.aZ dx [])/\Zay G' sl sg
  refine WSs.cut I19 ?_ ?_
  ·refine WS.of (Z0 (i:=4) W9.nd (Zew (Zq Zzn (pv 3) Zsg (Zw _)) (Zl Za) (pv 3))) ?_;rcases hsv with ⟨sl,rfl,hs⟩|⟨rfl,rfl⟩
   ·exact ⟨_,rfl,rfl,_,rfl,Zau ⟨_,rfl,G,sl,rfl,hGx,Same.refl _,s0,hx,hs⟩⟩
   ·refine (exR rfl ⟨rfl,_,rfl,Zgn ⟨szA,fun sl H1 s1 n1 e1=>⟨del H1 x,sl,rfl,Ze4,Ze8 (s0.trans s1) hGx,fun b o e=>?_,s1.at hx,[],Zdh e1 fun z=>(by rw [z,hx] at n1;cases n1),.nil⟩⟩⟩)
    by_cases z:b=x
    ·rw [z,Ze4] at e;cases e
    ·unfold del at e;rw [if_neg z] at e;exact e
  clear hsv s0 hx;rintro σ H ⟨G,sl,rfl,hGx,sG,s0,hx,ts,hsl,d4⟩;have T8:=Paired.length d4
  replace q:∀H',Same G H'->Ya T H' x ps js sg->Q .non H':=fun H' z=>q H' (sG.trans z)
  replace i6:=sG.at i6
  replace D1:=Paired.mapP D1 fun _ _ r=>r.mono sG
  replace u4:=u4.mono sG
  clear sG;refine WSs.step (Z9 (PW.pt (Zf7 (Zq Zkz (Z3 (r:=Zav K) Zbh (by rfl) T.cL PySem.boot_len (Zb (pv 1) Za)) (Zfr (by rfl) T.fV) (Zw _)) (Zeh (Zq Zkz (Z3 (r:=Zav K) Zbh (by rfl) T.cL PySem.boot_len (Zb (pv 4) Za)) (Zfr (by rfl) T.ez) (Zw _))))) Zy Zr) (exR rfl (.inl ⟨pl,_,rfl,.inl (SqL.of (s0.at i6)),_,_,rfl,rfl,_,rfl,Yz (fun z=>?_) (fun _=>(exR rfl (.inl ⟨sl,_,rfl,.inl (SqL.of (s0.at hsl)),_,_,rfl,rfl,_,rfl,Yz (fun z=>?_) (fun _=>?_)⟩)))⟩))
  ·have z:=of_decide_eq_true z;rw [List.length_map] at z;exact absurd z (by lia)
  ·have z:=of_decide_eq_true z;rw [List.length_map] at z;exact absurd z (by lia)
  refine WSs.step (Zas (pv 0) (Zs (Zj3 T) hr rfl T.dL T.aT.F.kp T.aT.b .nil Zk (Zb (pv 1) Za)) rfl) (exR rfl ⟨pl,xs,ps,rfl,s0.at i6,Paired.mapP D1 fun _ _ r=>r.mono s0,yv.net.nd,yv.name,by lia,fun po kp H1 s1 m1 e1 dp=>(exR rfl ⟨x,_,dx,_,rfl,s1.at hx,T.ao,T.bn,by simp,?_⟩)⟩);have hpx:po≠x:=fun z=>by rw [z,hx] at m1;cases m1
  have g1:Same G (del H1 x):=Ze8 (s0.trans s1) hGx;have dp1:DP Ym (RP T (del H1 x)) kp (qP ps):=dp.mapR fun a b v ⟨y,C,z1,z2,dy,z3⟩=>⟨y,C,z1,z2,dy,Zdh (s1.at z3) fun z=>by rw [z,hx] at z3;cases z3⟩
  have ep1:del H1 x po=some (.dK kp):=Zdh e1 hpx;refine WSs.step (Z0 (i:=5) W9.nd (Zs (Zjo T) hr rfl T.dM T.aU.F.kp T.aU.b .nil Zk (Zb (Ye (pv 0) rfl) Za))) (exR rfl ⟨x,_,dx,_,_,rfl,Zf,T.ao,T.bn,rfl,po,kp,ps,rfl,Zan.at ep1,dp1.mapR (RP.mono Zan),yv.net.nd,by lia,fun pa ka H2 s2 m2 e2 da=>?_⟩);have hx2:=s2.at Zf;have ep2:Same G H2:=(g1.trans Zan).trans s2;have kaq:∀p∈ps,∀e∈Yw p.1,∃v,Y6 ka (Xf (p.2,e))=some v/\RA T _ (p.2,e) p.1 v:=fun p hp e he=>da.get W4 (by rw [Zpq];exact Za2 yv.net.nd) (Zzz hp he)
  refine WSs.step (Zas (pv 0) (Zs (Zma T) hr rfl T.eN T.br.F.kp T.br.b .nil Zk (Zb (pv 2) (Zb (pv 5) Za))) rfl) (exR rfl (exR rfl ⟨jl,pa,js,ka,rfl,u4.mono ep2,e2,fun e he=>?_,?_,?_,yv.net.apart,yv.net.jlen ylen,fun jo kj H3 s3 m3 e3 dj=>(exR rfl ⟨x,_,dx,_,rfl,s3.at hx2,T.ao,T.cI,(by show 1<1000;decide),?_⟩)⟩))
  ·have:=yv.net.flat.mem_iff.mp he;obtain ⟨p,hp,hm⟩:=List.mem_flatMap.mp this;obtain ⟨e',he',rfl⟩:=List.mem_map.mp hm;obtain ⟨v,hv,_⟩:=kaq p hp e' he';rw [hv];rfl
  ·rw [yv.net.flat.length_eq,<-Zpq,List.length_map];exact da.len
  ·exact yv.net.flat.nodup_iff.mpr (Za2 yv.net.nd)
  have hjx:jo≠x:=fun z=>by rw [z,hx2] at m3;cases m3
  have j5:Same (del H1 x) (del H3 x):=Ze8 ((Zan.trans s2).trans s3) Ze4;have ej3:del H3 x jo=some (.dT kj):=Zdh e3 hjx;have hpax:pa≠x:=fun z=>by rw [z,hx2] at e2;cases e2
  have epa:del H3 x pa=some (.dT ka):=Zdh (s3.at e2) hpax;have dj3:DP Xf (RJ (del H3 x)) kj (qJ js):=dj.mapR fun a b v ⟨u,z1,z2⟩=>⟨u,z1,Zdh (s3.at z2) fun z=>by rw [z] at z2;exact nomatch hx2.symm.trans z2⟩
  have g3:Same G (del H3 x):=g1.trans j5;refine WSs.step (Zas (pv 0) (Zs (Zsm T) hr rfl T.gk T.cj.F.kp T.cj.b .nil Zk (Zb (pv 4) (Zb (pv 5) Za))) rfl) (exR rfl (exR rfl ⟨sl,pa,ts,sg,ka,rfl,Zan.at (g3.at hsl),Paired.mapP d4 fun _ _ r=>(g3.trans Zan).at r,Zan.at epa,yv.sigs.name,yv.sigs.nd,yv.sigs.one,by lia,fun g hg=>?_,fun so ks H4 s4 m4 e4 ds=>(exR rfl ⟨x,_,dx,_,rfl,s4.at Zf,T.ao,T.cV,(by show 2<1000;decide),?_⟩)⟩))
  ·obtain ⟨p,hp,h1,h2,h3⟩:=yv.sigs.at_ g hg;obtain ⟨v,hv,y,C,rfl,hC,dy,hO⟩:=kaq p hp g.2.2 h3;refine ⟨y,C,p.1,by rw [<-h1];exact hv,hC,⟨dy,?_⟩,decide_eq_true h2⟩;have hyx:y≠x:=fun z=>by rw [z,Zf] at hO;cases hO
   rw [Ze hyx,<-h1];exact s3.at (s2.at hO)
  have hsx:so≠x:=fun z=>by rw [z,Zf] at m4;cases m4
  have hx4:=s4.at (Zf (H:=H3) (a:=x));have s34:Same (del H3 x) (del H4 x):=Ze8 (Zan.trans s4) Ze4;have es4:del H4 x so=some (.dK ks):=Zdh e4 hsx;have ds4:DP Ym (RS (del H4 x)) ks (qS sg):=ds.mapR fun a b v ⟨u,z1,z2⟩=>⟨u,z1,Zdh z2 fun z=>by rw [z] at z2;exact nomatch hx4.symm.trans z2⟩
  refine WSs.last (Zas (pv 0) (Wk (r:=Zvo) (Zsf rfl hr.units) (by rfl) T.gq PyProof.Rows.boot_dict (Zb (Zw9 (X4 (N':=["name", "end"]) rfl (Yc.std 2 [] rfl (by trivial) (by trivial) rfl trivial rfl rfl trivial) (Zqv (Ye (pv 0) rfl)) (fun _ _ _ _=>(Zfs (K:=K) (n:=2) rfl rfl (Zz (Za4 (i:=0) (by show (["name", "end"]:List Str).Nodup;decide +kernel)) (Zz (Za4 (i:=1) (by show (["name", "end"]:List Str).Nodup;decide +kernel)) Xe)))) (fun _ _ _ _=>Zbk) (fun _ _ _ _=>(Zj (Zb (pv 1) (Zb (pv 0) Za)))))) Za)) rfl) (exR rfl ⟨x,_,dx,_,_,rfl,Zf,T.ao,T.cV,rfl,so,ks,rfl,Zan.at es4,fun o nf D hD=>Zsr (fun i ys H'=>Same (upd (upd H4 x (.ins T.aZ dx [("part_of",.ref po),("joined",.ref jo),("post_of",.ref so)])) so (.frz o (.dK ks))) H'/\H' D=some (.lst ys)/\∃tps:List Addr,ys=tps.map V.ref/\Paired (fun t (q:List Key×V)=>∃a,H' t=some (.tup [.ref a,q.2])/\H' a=some (.tup (q.1.map kV))) tps ((qO (sg.take i)).map fun q=>(Xf q.1,V.str q.2))) ⟨Same.new hD,Zf,[],rfl,.nil⟩ ?_ ?_ ?_⟩)
  ·rintro i ys H' _ ⟨z,_⟩;exact z.at Zf
  ·rintro i kv ys H5 hi ⟨s5,hD5,tps,rfl,U2⟩ tp H6 s6 n6 e6;obtain ⟨⟨nm,e⟩,hq,hk,t,hv,ht⟩:=Paired.get ds4 hi;have hk:kv.1=Sum.inr nm:=hk;rw [hk,hv] at e6;have hg:sg[i]? =some (nm,e.1,e.2):=by
    unfold qS at hq;rw [List.getElem?_map] at hq;obtain ⟨⟨g1,g2,g3⟩,hg,e'⟩:=Option.map_eq_some_iff.mp hq;rw [hg];simp only [Prod.mk.injEq] at e';rw [<-e'.1,<-e'.2]
   have O4:=(List.getElem?_eq_some_iff.mp hg).1;have N7:t≠so:=fun z=>by rw [z] at ht;exact nomatch es4.symm.trans ht
   have htF:upd (upd H4 x (.ins T.aZ dx [("part_of",.ref po),("joined",.ref jo),("post_of",.ref so)])) so (.frz o (.dK ks)) t=some (.tup ((Xf e).map kV)):=by
    rw [Ze N7];exact Zan.at ht
   have htl':tps.length<=100:=by
    have:=Paired.length U2;unfold qO at this;rw [List.length_map,List.length_map,List.length_take] at this;lia
   refine ⟨tp,_,rfl,SqT.of e6,rfl,_,_,rfl,_,_,rfl,rfl,(W3.set rfl).trans (W3.set rfl),_,rfl,_,rfl,szA,fun t' H7 s7 n7 e7=>⟨s7.at (s6.at hD5),by rw [List.length_map];exact Zx (by lia),?_,Zf,tps++[t'],by rw [List.map_append];rfl,?_⟩⟩
   ·intro c u z;rw [Ze (Zi z hD)];exact s7.at (s6.at (s5.at z))
   ·have hD7:=s7.at (s6.at hD5);have off:∀{c:Addr} {xs:List V} {u:HO},H7 c=some (.tup xs)->upd H7 D u c=some (.tup xs):=fun {c xs u} z=>(Ze fun y=>by rw [y,hD7] at z;cases z).trans z
    have:(qO (sg.take (i+1))).map (fun q=>(Xf q.1,V.str q.2))=(qO (sg.take i)).map (fun q=>(Xf q.1,V.str q.2))++[(Xf e,V.str nm)]:=by
     unfold qO;rw [List.take_add_one,hg,List.map_append,List.map_append]
     rfl
    rw [this];exact Paired.snoc (Paired.mapP U2 fun _ _ ⟨a,z1,z2⟩=>⟨a,off (s7.at (s6.at z1)),off (s7.at (s6.at z2))⟩) ⟨t,off e7,off (s7.at (s6.at (s5.at htF)))⟩
  ·rintro ys H5 ⟨s5,hD5,tps,rfl,U2⟩;have hks:ks.length=sg.length:=by
    have:=ds4.len;unfold qS at this;rw [List.length_map] at this;exact this
   rw [hks,List.take_length] at U2;have hso5:=s5.at Zf;have off:∀{c:Addr} {xs:List V} {u:HO},H5 c=some (.tup xs)->upd H5 so u c=some (.tup xs):=fun {c xs u} z=>(Ze fun y=>by rw [y,hso5] at z;cases z).trans z
   have sT:Same (upd H4 x (.ins T.aZ dx [("part_of",.ref po),("joined",.ref jo),("post_of",.ref so)])) (upd H5 so (.dK ks)):=s5.thaw (Zan.at es4);refine ⟨so,o,_,hso5,nf,D,tps,_,rfl,?_,Paired.mapP U2 fun _ _ ⟨a,z1,z2⟩=>⟨a,off z1,off z2⟩,?_,fun si H8 s8 n8 e8=>⟨_,rfl,x,_,dx,_,rfl,s8.at (sT.at Zf),T.ao,T.bY,(by show 3<1000;decide),?_⟩⟩
   ·rw [Ze fun y=>by rw [y,hso5] at hD5;cases hD5];exact hD5
   ·rw [List.map_map];have e1:(qO sg).map (Prod.fst ∘ fun q=>(Xf q.1,V.str q.2))=((qO sg).map Prod.fst).map Xf:=by rw [List.map_map];rfl
    rw [e1,Zoo];exact yv.sigs.one.map Xf fun a b ne z=>ne (W4 a b z)
   have hix:si≠x:=fun z=>by rw [z,sT.at Zf] at n8;cases n8
   have s48:Same (del H4 x) (del H8 x):=Ze8 ((Zan.trans sT).trans s8) Ze4;have ei8:del H8 x si=some (.dT ((qO sg).map fun q=>(Xf q.1,V.str q.2))):=Zdh e8 hix;have f4:Same (del H4 x) (upd H8 x (.ins T.aZ dx [("part_of",.ref po),("joined",.ref jo),("post_of",.ref so),("signal_on",.ref si)])):=s48.trans Zan;have f3:=s34.trans f4;have f1:=j5.trans f3;refine q _ (g1.trans f1) ⟨dx,po,jo,so,si,kp,ks,kj,_,Zf,f1.at ep1,dp1.mapR (RP.mono f1),f3.at ej3,dj3.mapR (RJ.mono f3),f4.at es4,ds4.mapR (RS.mono f4),Zan.at ei8,?_⟩;have all:∀l:List (Zc×Str),DP Xf RO (l.map fun q=>(Xf q.1,V.str q.2)) l:=fun l=>by
    induction l with
    | nil=>exact .nil
    | cons p l ih=>exact .cons ⟨rfl,rfl⟩ ih
   exact all _
theorem Wm(T:Tx K mg){k:Nat}(h:5<=k:=by decide):Zu P w K mg base CX0 k T.aj.f T.aj.fd ["self", "parts", "joins", "signals"] (Zxn T):=(Zgo T).mono h
def Znx(T:Tx K mg):List V->Hp->VK->Prop:=fun vs H Q=>∃(pl jl sl:Addr) (xs:List Addr) (ps:List Zc) (js:List (Zc×Zc)) (sg:List (Str×Str×Str)),vs=[.ref pl,.ref jl,.ref sl]/\H pl=some (.lst (xs.map V.ref))/\Paired (PO T H) xs ps/\Yf H jl js/\Zay H sl sg/\Y8 ps js sg/\∀x H',Same H H'->H x=none->Ya T H' x ps js sg->Q (.ref x) H'
theorem Zuv(T:Tx K mg):∀vs H Q,Znx T vs H Q ->
  ∀x dx,H x=none->H dx=none->dx≠x->Zxn T (.ref x ::(vs++[])) (upd (upd H dx (.own x)) x (.ins T.aZ dx [])) (fun v H2=>v=.non/\Q (.ref x) H2) E0:=by
 rintro vs H Q ⟨pl,jl,sl,xs,ps,js,sg,rfl,h1,h2,h3,h4,h5,q⟩ x dx hx hdx ne;refine ⟨H,x,dx,pl,jl,.ref sl,xs,ps,js,sg,rfl,hx,fun b o e=>?_,Zf,h1,h2,h3,.inl ⟨sl,rfl,h4⟩,h5,fun H' s t=>⟨rfl,q x H' s hx t⟩⟩;rw [Ze (Zi e hx),Ze (Zi e hdx)];exact e
def Zed(T:Tx K mg):List V->Hp->VK->Prop:=fun vs H Q=>∃(pl jl:Addr) (xs:List Addr) (ps:List Zc) (js:List (Zc×Zc)),vs=[.ref pl,.ref jl]/\H pl=some (.lst (xs.map V.ref))/\Paired (PO T H) xs ps/\Yf H jl js/\Y8 ps js []/\∀x H',Same H H'->H x=none->Ya T H' x ps js []->Q (.ref x) H'
theorem Zg6(T:Tx K mg):∀vs H Q,Zed T vs H Q ->
  ∀x dx,H x=none->H dx=none->dx≠x->Zxn T (.ref x ::(vs++[.non])) (upd (upd H dx (.own x)) x (.ins T.aZ dx [])) (fun v H2=>v=.non/\Q (.ref x) H2) E0:=by
 rintro vs H Q ⟨pl,jl,xs,ps,js,rfl,h1,h2,h3,h5,q⟩ x dx hx hdx ne;refine ⟨H,x,dx,pl,jl,.non,xs,ps,js,[],rfl,hx,fun b o e=>?_,Zf,h1,h2,h3,.inr ⟨rfl,rfl⟩,h5,fun H' s t=>⟨rfl,q x H' s hx t⟩⟩;rw [Ze (Zi e hx),Ze (Zi e hdx)];exact e
def Zo8(T:Tx K mg):Sp:=fun vs H Q _=>∃(x:Addr) (nm k:Str) (ps:List Zc) (js:List (Zc×Zc)) (sg:List (Str×Str×Str)),vs=[.ref x,.str nm]/\Ya T H x ps js sg/\Y8 ps js sg/\((k,nm):Zc)∈ps/\∀(y C:Addr) (H':Hp),Same H H'->X1 T k C->Zde H' C y nm->Q (.ref y) H'
theorem Zju(T:Tx K mg):Zu P w K mg base CX0 2 T.ak.f T.ak.fd ["self", "name"] (Zo8 T):=by
 refine T.ak.F.okW Zep fun a8 A outer s H vs Q E hr h=>?_
 ·obtain ⟨x,nm,k,ps,js,sg,rfl,tr,yv,hm,q⟩:=h;intro X;obtain ⟨dx,po,jo,so,si,kp,ks,kj,ko,h1,h2,h3,_⟩:=tr.ex;have hq:((nm,k):Str×Str)∈qP ps:=List.mem_map.mpr ⟨(k,nm),hm,rfl⟩;obtain ⟨v,hv,y,C,rfl,hC,hO⟩:=h3.get Xq (by rw [Zo9];exact yv.net.nd) hq;refine WSs.step (Z9 (PW.pt (Zf7 (Wo (Xh (Zs (Zh4 T) hr rfl T.dD T.bF.F.kp T.bF.b .nil Zk (Zb (pv 1) Za)))) (Zeh (Zq (r:=Zby K) (Zcr hr) (pv 1) (Ye (pv 0) rfl) (by with_unfolding_all rfl))))) Zy Zr) (exR rfl ⟨nm,rfl,yv.name _ hm,fun H1 s1=>(exR rfl (Yz (fun z=>absurd z (by decide)) (fun _=>(exR rfl (exR rfl ⟨x,_,dx,_,_,rfl,s1.at h1,T.ao,T.bn,rfl,.inr (.inl ⟨po,_,rfl,Wa.k (k:=Ym nm) (s1.at h2),_,rfl,Yz (fun z=>?_) (fun _=>?_)⟩)⟩)))))⟩)
  ·rw [hv] at z;exact absurd z (by simp)
  exact WSs.last (Zp (Xz (Xc hr) (Ye (pv 0) rfl) (pv 1) (fun _ _=>rfl))) (exR rfl ⟨x,_,dx,_,_,rfl,s1.at h1,T.ao,T.bn,rfl,_,rfl,po,_,rfl,by rw [<-hv];exact Wa.k (k:=Ym nm) (s1.at h2),q y C H1 s1 hC (hO.mono s1)⟩)
theorem Zev(T:Tx K mg){k:Nat}(h:2<=k:=by decide):Zu P w K mg base CX0 k T.ak.f T.ak.fd ["self", "name"] (Zo8 T):=(Zju T).mono h
def Zqh(T:Tx K mg):Sp:=fun vs H Q _=>∃(x t:Addr) (e:Zc) (ps:List Zc) (js:List (Zc×Zc)) (sg:List (Str×Str×Str)),vs=[.ref x,.ref t]/\Ya T H x ps js sg/\Y8 ps js sg/\Zm H t e /\
 ((e∈Y9 ps/\∀t' e',((e,e'):Zc×Zc)∈qJ js->Zm H t' e'->Q (.ref t') H)\/(e∉Y9 ps/\∀t' H',Same H H'->H t'=none->Zm H' t' ("", "")->Q (.ref t') H'))
theorem Zie(T:Tx K mg):Zu P w K mg base CX0 3 T.aV.f T.aV.fd ["self", "end"] (Zqh T):=by
 refine T.aV.F.okW Zh2 fun a8 A outer s H vs Q E hr h=>?_
 ·obtain ⟨x,t,e,ps,js,sg,rfl,tr,yv,ht,q⟩:=h;intro X;obtain ⟨dx,po,jo,so,si,kp,ks,kj,ko,h1,h2,h3,h4,h5,_⟩:=tr.ex;have nd:((qJ js).map Prod.fst).Nodup:=by rw [Za5];exact yv.net.flat.nodup_iff.mpr (Za2 yv.net.nd)
  rcases q with ⟨hm,q⟩|⟨hm,q⟩
  ·have:e∈(qJ js).map Prod.fst:=by rw [Za5];exact yv.net.flat.mem_iff.mpr hm
   obtain ⟨⟨e0,e'⟩,hq,rfl⟩:=List.mem_map.mp this;obtain ⟨v,hv,t',rfl,U3⟩:=h5.get W4 nd hq;refine WSs.last (Zp (Zew (Xh (Zs (Za6 T) hr rfl T.cN T.ay.F.kp T.ay.b .nil Zk (Zb (pv 1) (Zb (Ye (pv 0) rfl) Za)))) (Xz (Xc hr) (Ye (pv 0) rfl) (pv 1) (fun _ _=>rfl)) (Zj (Zb Zd (Zb Zd Za))))) (exR rfl (exR rfl ⟨x,_,dx,_,_,rfl,h1,T.ao,T.cI,rfl,t,jo,_,kj,rfl,ht,h4,_,rfl,?_⟩));rw [hv];exact Zgn ⟨_,rfl,x,_,dx,_,_,rfl,h1,T.ao,T.cI,rfl,_,rfl,jo,_,rfl,by rw [<-hv];exact Wa.t (k:=Xf e0) h4 ht,q t' e' hq U3⟩
  ·have hv:Y6 kj (Xf e)=none:=h5.none W4 (by rw [Za5];exact fun z=>hm (yv.net.flat.mem_iff.mp z));refine WSs.last (Zp (Zew (Xh (Zs (Za6 T) hr rfl T.cN T.ay.F.kp T.ay.b .nil Zk (Zb (pv 1) (Zb (Ye (pv 0) rfl) Za)))) (Xz (Xc hr) (Ye (pv 0) rfl) (pv 1) (fun _ _=>rfl)) (Zj (Zb Zd (Zb Zd Za))))) (exR rfl (exR rfl ⟨x,_,dx,_,_,rfl,h1,T.ao,T.cI,rfl,t,jo,_,kj,rfl,ht,h4,_,rfl,?_⟩));rw [hv];exact Zau ⟨szA,fun t' H' s' n' e'=>q t' H' s' n' e'⟩
theorem Zen(T:Tx K mg){k:Nat}(h:3<=k:=by decide):Zu P w K mg base CX0 k T.aV.f T.aV.fd ["self", "end"] (Zqh T):=(Zie T).mono h
def Yda(sg:List (Str×Str×Str))(e:Zc):Bool:=decide (e∈sg.map Prod.snd)
def Ztr(T:Tx K mg):Sp:=fun vs H Q _=>∃(x t:Addr) (e:Zc) (ps:List Zc) (js:List (Zc×Zc)) (sg:List (Str×Str×Str)),vs=[.ref x,.ref t]/\Ya T H x ps js sg/\Y8 ps js sg/\Zm H t e /\
 ∀nm:Str,((nm,e)∈qS sg/\X9 nm/\e∈sg.map Prod.snd)\/(nm = "" /\e∉sg.map Prod.snd)->Q (.str nm) H
theorem Zf4(T:Tx K mg):Zu P w K mg base CX0 3 T.aJ.f T.aJ.fd ["self", "end"] (Ztr T):=by
 refine T.aJ.F.okW Zf6 fun a8 A outer s H vs Q E hr h=>?_
 ·obtain ⟨x,t,e,ps,js,sg,rfl,tr,yv,ht,q⟩:=h;intro X;obtain ⟨dx,po,jo,so,si,kp,ks,kj,ko,h1,_,_,_,_,_,_,h8,h9⟩:=tr.ex;have nd:((qO sg).map Prod.fst).Nodup:=by rw [Zoo];exact yv.sigs.one
  by_cases hm:e∈sg.map Prod.snd
  ·obtain ⟨⟨nm,e1,e2⟩,hg,rfl⟩:=List.mem_map.mp hm;obtain ⟨v,hv,rfl⟩:=h9.get W4 nd (a:=(e1,e2)) (b:=nm) (List.mem_map.mpr ⟨_,hg,rfl⟩);refine WSs.last (Zp (Zew (Xh (Zs (Za6 T) hr rfl T.cN T.ay.F.kp T.ay.b .nil Zk (Zb (pv 1) (Zb (Ye (pv 0) rfl) Za)))) (Xz (Xc hr) (Ye (pv 0) rfl) (pv 1) (fun _ _=>rfl)) Zd)) (exR rfl (exR rfl ⟨x,_,dx,_,_,rfl,h1,T.ao,T.bY,rfl,t,si,_,ko,rfl,ht,h8,_,rfl,?_⟩));have hv':Y6 ko (Xf (e1,e2))=some (.str nm):=hv;rw [show ((nm,e1,e2):Str×Str×Str).snd=(e1,e2) from rfl,hv'];exact Zgn ⟨_,rfl,x,_,dx,_,_,rfl,h1,T.ao,T.bY,rfl,_,rfl,si,_,rfl,by rw [<-hv'];exact Wa.t (k:=Xf (e1,e2)) h8 ht,q nm (.inl ⟨List.mem_map.mpr ⟨_,hg,rfl⟩,yv.sigs.name _ hg,hm⟩)⟩
  ·have hv:Y6 ko (Xf e)=none:=h9.none W4 (by rw [Zoo];exact hm);refine WSs.last (Zp (Zew (Xh (Zs (Za6 T) hr rfl T.cN T.ay.F.kp T.ay.b .nil Zk (Zb (pv 1) (Zb (Ye (pv 0) rfl) Za)))) (Xz (Xc hr) (Ye (pv 0) rfl) (pv 1) (fun _ _=>rfl)) Zd)) (exR rfl (exR rfl ⟨x,_,dx,_,_,rfl,h1,T.ao,T.bY,rfl,t,si,_,ko,rfl,ht,h8,_,rfl,?_⟩));rw [hv];exact Zau (q _ (.inr ⟨rfl,hm⟩))
theorem Zgu(T:Tx K mg){k:Nat}(h:3<=k:=by decide):Zu P w K mg base CX0 k T.aJ.f T.aJ.fd ["self", "end"] (Ztr T):=(Zf4 T).mono h
def Zs0(T:Tx K mg):Sp:=fun vs H Q _=>∃(x:Addr) (ps:List Zc) (js:List (Zc×Zc)) (sg:List (Str×Str×Str)),vs=[.ref x]/\Ya T H x ps js sg/\Y8 ps js sg/\∀ss:List Str,ss.Perm (ps.map Prod.snd)->PyProof.Rows.sortedS ss=true->New H (.lst (ss.map V.str)) Q
theorem Zjw(T:Tx K mg):Zu P w K mg base CX0 1 T.aO.f T.aO.fd ["self"] (Zs0 T):=by
 refine T.aO.F.okW Zje fun a8 A outer s H vs Q E hr h=>?_
 ·obtain ⟨x,ps,js,sg,rfl,tr,yv,q⟩:=h;intro X;obtain ⟨dx,po,jo,so,si,kp,ks,kj,ko,h1,h2,h3,_⟩:=tr.ex;refine WSs.last (Zp (Z3 (r:=Zkt) (Zd5 rfl) (by rfl) T.dC PyProof.Rows.boot_sorted (Zb (Ye (pv 0) rfl) Za))) (exR rfl ⟨x,_,dx,_,_,rfl,h1,T.ao,T.bn,rfl,po,kp,ps.map Prod.snd,rfl,.inl h2,?_,by rw [List.length_map];have:=yv.len;lia,q⟩);have:=congrArg (List.map kV) h3.keys;rw [List.map_map,List.map_map] at this;refine Eq.trans this ?_;rw [<-Zo9,List.map_map]
  rfl
theorem Zcd(T:Tx K mg){k:Nat}(h:1<=k:=by decide):Zu P w K mg base CX0 k T.aO.f T.aO.fd ["self"] (Zs0 T):=(Zjw T).mono h
theorem X1.gate{T:Tx K mg}{k:Str}{C x:Addr}{nm:Str}{H:Hp}(h:X1 T k C)(o:Zde H C x nm):∃t,X2 K H (.ref x) t/\kitOne K t (.ref T.bV)=some (decide (k = "gate")):=by
 obtain ⟨dx,o⟩:=o;rcases h with ⟨rfl,rfl⟩|⟨rfl,rfl⟩|⟨rfl,rfl⟩|⟨rfl,rfl⟩|⟨rfl,rfl|rfl⟩
 ·exact ⟨_,X2.ins o T.cY T.eF T.tG T.tK T.eG,T.gO⟩
 ·exact ⟨_,X2.ins o T.dv T.fY T.tG T.tK T.fZ,T.hU⟩
 ·exact ⟨_,X2.ins o T.dZ T.gA T.tG T.tK T.gB,T.ir⟩
 ·exact ⟨_,X2.ins o T.dX T.gy T.tG T.tK T.gz,T.iq⟩
 ·exact ⟨_,X2.ins o T.fE T.gw T.tG T.tK T.gx,T.ip⟩
 ·exact ⟨_,X2.ins o T.dn T.fW T.tG T.tK T.fX,T.gZ⟩
theorem X1.pts{T:Tx K mg}{k:Str}{C x:Addr}{nm:Str}{H:Hp}(h:X1 T k C)(o:Zde H C x nm):∃t,X2 K H (.ref x) t/\kitOne K t (.ref T.aI)=some (decide (k = "points")):=by
 obtain ⟨dx,o⟩:=o;rcases h with ⟨rfl,rfl⟩|⟨rfl,rfl⟩|⟨rfl,rfl⟩|⟨rfl,rfl⟩|⟨rfl,rfl|rfl⟩
 ·exact ⟨_,X2.ins o T.cY T.eF T.tG T.tK T.eG,T.gP⟩
 ·exact ⟨_,X2.ins o T.dv T.fY T.tG T.tK T.fZ,T.hW⟩
 ·exact ⟨_,X2.ins o T.dZ T.gA T.tG T.tK T.gB,T.ix⟩
 ·exact ⟨_,X2.ins o T.dX T.gy T.tG T.tK T.gz,T.iw⟩
 ·exact ⟨_,X2.ins o T.fE T.gw T.tG T.tK T.gx,T.iu⟩
 ·exact ⟨_,X2.ins o T.dn T.fW T.tG T.tK T.fX,T.hV⟩
def Zct(ps:List Zc)(kd:Str)(ss:List Str):List Str:=ss.filter fun n=>decide (((kd,n):Zc)∈ps)
theorem Zsd{ps:List Zc}(h:(ps.map Prod.snd).Nodup){a b:Zc}(ha:a∈ps)(hb:b∈ps)(e:a.2=b.2):a=b:=by
 induction ps with
 | nil=>cases ha
 | cons p r ih =>
  rw [List.map_cons,List.nodup_cons] at h;rcases List.mem_cons.mp ha with rfl|R3
  ·rcases List.mem_cons.mp hb with rfl|S7
   ·rfl
   ·exact absurd (List.mem_map.mpr ⟨b,S7,e.symm⟩) h.1
  ·rcases List.mem_cons.mp hb with rfl|S7
   ·exact absurd (List.mem_map.mpr ⟨a,R3,e⟩) h.1
   ·exact ih h.2 R3 S7
theorem Zqw{ps:List Zc}{kd n:Str}{ss:List Str}{j:Nat}(h:ss[j]? =some n):Zct ps kd (ss.take (j+1))=Zct ps kd (ss.take j)++if ((kd,n):Zc)∈ps then [n] else []:=by
 unfold Zct;rw [List.take_add_one,h,List.filter_append,show (some n).toList=[n] from rfl,List.filter_cons]
 by_cases z:((kd,n):Zc)∈ps
 ·rw [if_pos (decide_eq_true z),if_pos z,List.filter_nil]
 ·rw [if_neg (by simpa using z),if_neg z,List.filter_nil]
theorem Zfo(ps:List Zc)(kd:Str)(ss:List Str):(Zct ps kd ss).length<=ss.length:=List.length_filter_le _ _
theorem Znk{T:Tx K mg}{Cc x l D:Addr}{kd:Str}{ss:List Str}{ps:List Zc}{js:List (Zc×Zc)}{sg:List (Str×Str×Str)}{H1:Hp}{Q:VK}{σ:St}{E:XK}
  (hk:∀{k:Str} {C y:Addr} {nm:Str} {H:Hp},X1 T k C->Zde H C y nm->∃t,X2 K H (.ref y) t/\kitOne K t (.ref Cc)=some (decide (k=kd)))
  (tr:Ya T H1 x ps js sg) (yv:Y8 ps js sg) (hp:ss.Perm (ps.map Prod.snd)) (hl:H1 l=some (.lst (ss.map V.str))) (hD:H1 D=none)
  (q:∀H',Same H1 H'->H' D=some (.lst ((Zct ps kd ss).map V.str))->Q (.ref D) H') {fr:St->St} (L9:fr σ=[none,some (.ref x)]) :
  Zet (Itl K l) fr (Zeq 0) (tB (tCB (Zl0 K) (Zlf (Zwf T.aZ "named" (Zo8 T) [] E (Zjh 1) (Zlf (Zjh 0) Zw2)) (Zlf (tC (.ref Cc)) Zw2)))) (Zjh 0) Q σ H1 D:=by
 obtain ⟨dx,po,jo,so,si,kp,ks,kj,ko,h1,_⟩:=tr.ex;have hn:ss.length<=40:=by rw [hp.length_eq,List.length_map];exact yv.len
 refine X5 (xs:=ss.map V.str) (fun i ys H'=>ys=(Zct ps kd (ss.take i)).map V.str/\H' D=some (.lst ys)/\Same H1 H') ⟨rfl,Zf,Same.new hD⟩ ?_ ?_ ?_
 ·rintro i ys H' _ ⟨_,_,sm⟩;exact SqL.of (sm.at hl)
 ·rintro j v ys H' hj ⟨rfl,v0,sm⟩;rw [List.getElem?_map] at hj;obtain ⟨n,hy,rfl⟩:=Option.map_eq_some_iff.mp hj;obtain ⟨⟨k,n'⟩,hm,rfl⟩:=List.mem_map.mp (hp.mem_iff.mp (List.mem_of_getElem? hy));unfold Zb2;rw [L9];refine ⟨W3.set rfl,_,rfl,x,dx,_,rfl,sm.at h1,rfl,_,rfl,x,n',k,ps,js,sg,rfl,tr.mono sm,yv,hm,fun y C H2 s2 hC hO=>?_⟩;obtain ⟨t,ht,hkt⟩:=hk hC hO;have hd:decide (k=kd)=decide (((kd,n'):Zc)∈ps):=by
   refine decide_eq_decide.mpr ⟨fun e=>e ▸ hm,fun e=>?_⟩;exact congrArg Prod.fst (Zsd yv.net.nd hm e rfl)
  rw [hd] at hkt;refine ⟨_,_,_,t,rfl,ht,.inr ⟨_,rfl,hkt⟩,_,rfl,?_⟩;have v5:=s2.at v0;rw [Zqw hy];refine Yz (fun hc=>?_) (fun hc=>?_)
  ·rw [if_pos (of_decide_eq_true hc)];refine (exR rfl ⟨v5,?_,?_,Zf,fun b o e=>?_⟩)
   ·rw [List.length_map];have:=Zfo ps kd (ss.take j);rw [List.length_take] at this;exact Zx (by lia)
   ·rw [List.map_append];rfl
   ·rw [Ze (Zi e hD)];exact s2.at (sm.at e)
  ·rw [if_neg (fun z=>hc (decide_eq_true z)),List.append_nil];exact ⟨rfl,v5,sm.trans s2⟩
 ·rintro ys H6 ⟨rfl,y8,s6⟩;rw [List.length_map,List.take_length] at y8;exact q H6 s6 y8
def Zkd(T:Tx K mg)(kd:Str):Sp:=fun vs H Q _=>∃(x:Addr) (ps:List Zc) (js:List (Zc×Zc)) (sg:List (Str×Str×Str)),vs=[.ref x]/\Ya T H x ps js sg/\Y8 ps js sg/\∀gs:List Str,gs.Nodup->(∀n,n∈gs↔((kd,n):Zc)∈ps)->gs.length<=40->New H (.lst (gs.map V.str)) Q
theorem Zi9{ps:List Zc}{kd:Str}{ss:List Str}(h:ss.Perm (ps.map Prod.snd))(n:Str):n∈Zct ps kd ss↔((kd,n):Zc)∈ps:=by
 unfold Zct;rw [List.mem_filter];exact ⟨fun z=>of_decide_eq_true z.2,fun z=>⟨h.mem_iff.mpr (List.mem_map.mpr ⟨_,z,rfl⟩),decide_eq_true z⟩⟩
theorem Zq0(T:Tx K mg):Zu P w K mg base CX0 3 T.ck.f T.ck.fd ["tracks"] (Zkd T "gate"):=by
 refine T.ck.F.okW Zqe fun a8 A outer s H vs Q E hr h=>?_
 ·obtain ⟨x,ps,js,sg,rfl,tr,yv,q⟩:=h;intro X;obtain ⟨dx,po,jo,so,si,kp,ks,kj,ko,h1,_⟩:=tr.ex;refine WSs.last (Zp (X4 (N':=["name", "tracks"]) rfl (Yc.std 1 [0] rfl (by trivial) (by trivial) rfl ⟨rfl,trivial⟩ rfl rfl ⟨(exR rfl ⟨rfl,rfl⟩),trivial⟩) (Y5 (Xb (pv 0) T.ao T.cQ (Zcd T) hr T.aO.b .nil Zk)) (fun _ _ _ _=>(Za4 (i:=0) (by show (["name", "tracks"]:List Str).Nodup;decide +kernel))) (fun _ _ _ _=>(Zd7 (Xh (Z3 (r:=Zl0 K) Ws (by rfl) T.bo PyProof.Rows.boot_isinstance (Zb (Z1 (pv 1) T.ao T.cq (Zev T) hr T.ak.b .nil Zk (Zb (pv 0) Za)) (Zb (Wb (v:=.ref T.bV) (by rfl) T.fi rfl) Za)))))) (fun _ _ _ _=>(pv 0)))) (exR rfl ⟨x,dx,_,rfl,h1,rfl,x,ps,js,sg,rfl,tr,yv,fun ss hp hs l H1 s1 n1 e1=>⟨l,rfl,⟨_,SqL.of e1⟩,fun D hD=>Znk X1.gate (tr.mono s1) yv hp e1 hD (fun H' s' e'=>q _ ?_ (Zi9 hp) ?_ D H' (s1.trans s') (s1.free hD) e') rfl⟩⟩)
  ·exact (hp.nodup_iff.mpr yv.net.nd).filter _
  ·have:=Zfo ps "gate" ss;rw [hp.length_eq,List.length_map] at this;exact Nat.le_trans this yv.len
theorem Zss(T:Tx K mg){k:Nat}(h:3<=k:=by decide):Zu P w K mg base CX0 k T.ck.f T.ck.fd ["tracks"] (Zkd T "gate"):=(Zq0 T).mono h
theorem Zoq(T:Tx K mg):Zu P w K mg base CX0 3 T.bu.f T.bu.fd ["tracks"] (Zkd T "points"):=by
 refine T.bu.F.okW Zpk fun a8 A outer s H vs Q E hr h=>?_
 ·obtain ⟨x,ps,js,sg,rfl,tr,yv,q⟩:=h;intro X;obtain ⟨dx,po,jo,so,si,kp,ks,kj,ko,h1,_⟩:=tr.ex;refine WSs.last (Zp (X4 (N':=["name", "tracks"]) rfl (Yc.std 1 [0] rfl (by trivial) (by trivial) rfl ⟨rfl,trivial⟩ rfl rfl ⟨(exR rfl ⟨rfl,rfl⟩),trivial⟩) (Y5 (Xb (pv 0) T.ao T.cQ (Zcd T) hr T.aO.b .nil Zk)) (fun _ _ _ _=>(Za4 (i:=0) (by show (["name", "tracks"]:List Str).Nodup;decide +kernel))) (fun _ _ _ _=>(Zd7 (Xh (Z3 (r:=Zl0 K) Ws (by rfl) T.bo PyProof.Rows.boot_isinstance (Zb (Z1 (pv 1) T.ao T.cq (Zev T) hr T.ak.b .nil Zk (Zb (pv 0) Za)) (Zb (Wb (v:=.ref T.aI) (by rfl) T.dR rfl) Za)))))) (fun _ _ _ _=>(pv 0)))) (exR rfl ⟨x,dx,_,rfl,h1,rfl,x,ps,js,sg,rfl,tr,yv,fun ss hp hs l H1 s1 n1 e1=>⟨l,rfl,⟨_,SqL.of e1⟩,fun D hD=>Znk X1.pts (tr.mono s1) yv hp e1 hD (fun H' s' e'=>q _ ?_ (Zi9 hp) ?_ D H' (s1.trans s') (s1.free hD) e') rfl⟩⟩)
  ·exact (hp.nodup_iff.mpr yv.net.nd).filter _
  ·have:=Zfo ps "points" ss;rw [hp.length_eq,List.length_map] at this;exact Nat.le_trans this yv.len
theorem Zi1(T:Tx K mg){k:Nat}(h:3<=k:=by decide):Zu P w K mg base CX0 k T.bu.f T.bu.fd ["tracks"] (Zkd T "points"):=(Zoq T).mono h
theorem Zrf{α β γ:Type}{F:α->β->Prop}{G:α->γ->Prop}{g:β->γ}{l:List α}{m:List β}(h:Paired F l m)(k:∀a b,F a b->G a (g b)):Paired G l (m.map g):=by
 induction h with
 | nil=>exact .nil
 | cons r t ih=>exact .cons (k _ _ r) ih
theorem Zsj{α β:Type}{f:α->β}(hf:∀a b,f a=f b->a=b){l:List α}(h:l.Nodup):(l.map f).Nodup:=List.pairwise_map.mpr (h.imp fun z e=>z (hf _ _ e))
def Wf(l:List (Str×Str)):List (Key×V):=l.map fun p=>(Ym p.1,V.str p.2)
def Yb3(T:Tx K mg):Sp:=fun vs H Q _=>∃(x:Addr) (ps:List Zc) (js:List (Zc×Zc)) (sg:List (Str×Str×Str)),vs=[.ref x]/\Ya T H x ps js sg/\Y8 ps js sg/\∀gs:List Str,gs.Nodup->(∀n,n∈gs↔(("points",n):Zc)∈ps)->gs.length<=40->New H (.dK (Wf (gs.map fun n=>(n, "left")))) Q
theorem Zh3(T:Tx K mg):Zu P w K mg base CX0 4 T.aW.f T.aW.fd ["tracks"] (Yb3 T):=by
 refine T.aW.F.okW Zit fun a8 A outer s H vs Q E hr h=>?_
 ·obtain ⟨x,ps,js,sg,rfl,tr,yv,q⟩:=h;intro X;refine WSs.last (Zp (Wk (r:=Zrt) (Zkv rfl) (by rfl) T.gq PyProof.Rows.boot_dict (Zb (X4 (N':=["points"]) rfl (Yc.std 1 [] rfl (by trivial) (by trivial) rfl trivial rfl rfl trivial) (Y5 (Zs (Zi1 T) hr rfl T.dE T.bu.F.kp T.bu.b .nil Zk (Zb (pv 0) Za))) (fun _ _ _ _=>(Za4 (i:=0) (by show (["points"]:List Str).Nodup;decide +kernel))) (fun _ _ _ _=>Zbk) (fun _ _ _ _=>(Zj (Zb (pv 0) (Zb Zd Za))))) Za))) (exR rfl ⟨x,ps,js,sg,rfl,tr,yv,fun gs nd hm hn l H1 s1 n1 e1=>⟨l,rfl,⟨_,SqL.of e1⟩,fun D hD=>X5 (xs:=gs.map V.str) (fun i ys H'=>(∃ts:List Addr,ys=ts.map V.ref/\Paired (Zm H') ts ((gs.take i).map fun n=>(n, "left")))/\H' D=some (.lst ys)/\Same H1 H') ⟨⟨[],rfl,.nil⟩,Zf,Same.new hD⟩ ?_ ?_ ?_⟩⟩)
  ·rintro i ys H' _ ⟨_,_,sm⟩;exact SqL.of (sm.at e1)
  ·rintro j v ys H' hj ⟨⟨ts,rfl,d4⟩,v0,sm⟩;rw [List.getElem?_map] at hj;obtain ⟨n,hy,rfl⟩:=Option.map_eq_some_iff.mp hj;have hl:=Paired.length d4;rw [List.length_map,List.length_take] at hl;unfold Zb2;refine ⟨W3.set rfl,_,rfl,szA,fun t H2 s2 n2 e2=>⟨s2.at v0,?_,⟨ts++[t],?_,?_⟩,Zf,fun b o e=>?_⟩⟩
   ·rw [List.length_map];exact Zx (by lia)
   ·rw [List.map_append];rfl
   ·rw [List.take_add_one,hy,List.map_append];have off:∀{b:Addr} {p:Zc},Zm H2 b p->Zm (upd H2 D (.lst (ts.map V.ref++[V.ref t]))) b p:=fun {b p} z=>by
     unfold Zm at z ⊢;rw [Ze fun y=>by rw [y,s2.at v0] at z;cases z];exact z
    exact Paired.append (Paired.mapP d4 fun _ _ r=>off (r.mono s2)) (.cons (off e2) .nil)
   ·rw [Ze (Zi e hD)];exact s2.at (sm.at e)
  ·rintro ys H6 ⟨⟨ts,rfl,d4⟩,y8,s6⟩;rw [List.length_map,List.take_length] at d4;refine ⟨D,ts,Wf (gs.map fun n=>(n, "left")),rfl,y8,?_,?_,fun d H7 s7 n7 e7=>q gs nd hm hn d H7 (s1.trans (s6.trans s7)) (s1.free (s6.free n7)) e7⟩
   ·unfold Wf;exact Zrf d4 fun _ _ r=>r
   ·unfold Wf;rw [List.map_map,List.map_map];exact Zsj Xq nd
theorem Zjf(T:Tx K mg){k:Nat}(h:4<=k:=by decide):Zu P w K mg base CX0 k T.aW.f T.aW.fd ["tracks"] (Yb3 T):=(Zh3 T).mono h
def Zpp(T:Tx K mg)(kd:Str):Sp:=fun vs H Q _=>∃(x:Addr) (g:Str) (ps:List Zc) (js:List (Zc×Zc)) (sg:List (Str×Str×Str)),vs=[.ref x,.str g]/\Ya T H x ps js sg/\Y8 ps js sg/\((kd,g):Zc)∈ps/\∀H',Same H H'->Q .non H'
theorem Zl2(T:Tx K mg):Zu P w K mg base CX0 4 T.bv.f T.bv.fd ["tracks", "gate"] (Zpp T "gate"):=by
 refine T.bv.F.okW Zli fun a8 A outer s H vs Q E hr h=>?_
 ·obtain ⟨x,g,ps,js,sg,rfl,tr,yv,hm,q⟩:=h;intro X;refine WSs.last (Z9 (Zq (r:=Zby K) (Zcr hr) (pv 1) (Zs (Zss T) hr rfl T.gn T.ck.F.kp T.ck.b .nil Zk (Zb (pv 0) Za)) (by with_unfolding_all rfl)) Zy Zr) (exR rfl (exR rfl ⟨x,ps,js,sg,rfl,tr,yv,fun gs nd hg hl l H1 s1 n1 e1=>.inl ⟨l,_,rfl,.inl (SqL.of e1),rfl,Zax _,_,rfl,?_⟩⟩));rw [if_pos rfl,Wp,decide_eq_true ((hg g).mpr hm)];exact Zau (q H1 s1)
theorem Zm0(T:Tx K mg){k:Nat}(h:4<=k:=by decide):Zu P w K mg base CX0 k T.bv.f T.bv.fd ["tracks", "gate"] (Zpp T "gate"):=(Zl2 T).mono h
theorem Ziv(T:Tx K mg):Zu P w K mg base CX0 4 T.aY.f T.aY.fd ["tracks", "points"] (Zpp T "points"):=by
 refine T.aY.F.okW Zip fun a8 A outer s H vs Q E hr h=>?_
 ·obtain ⟨x,g,ps,js,sg,rfl,tr,yv,hm,q⟩:=h;intro X;refine WSs.last (Z9 (Zq (r:=Zby K) (Zcr hr) (pv 1) (Zs (Zi1 T) hr rfl T.dE T.bu.F.kp T.bu.b .nil Zk (Zb (pv 0) Za)) (by with_unfolding_all rfl)) Zy Zr) (exR rfl (exR rfl ⟨x,ps,js,sg,rfl,tr,yv,fun gs nd hg hl l H1 s1 n1 e1=>.inl ⟨l,_,rfl,.inl (SqL.of e1),rfl,Zax _,_,rfl,?_⟩⟩));rw [if_pos rfl,Wp,decide_eq_true ((hg g).mpr hm)];exact Zau (q H1 s1)
theorem Zj2(T:Tx K mg){k:Nat}(h:4<=k:=by decide):Zu P w K mg base CX0 k T.aY.f T.aY.fd ["tracks", "points"] (Zpp T "points"):=(Ziv T).mono h
def Zyt:Sp:=fun vs H Q _=>∃n:Nat,vs=[.int (n:Int)]/\1<=n/\n<=4/\Q .non H
theorem Zh8(T:Tx K mg):Zu P w K mg base CX0 1 T.aX.f T.aX.fd ["long"] Zyt:=by
 refine T.aX.F.okW Zii fun a8 A outer s H vs Q E hr h=>?_
 ·obtain ⟨n,rfl,h1,h2,q⟩:=h;intro X;refine WSs.last (Z9 (PW.pt (Zf7 (Wo (Xh (Z3 (r:=Zl0 K) Ws (by rfl) T.bo PyProof.Rows.boot_isinstance (Zb (pv 0) (Zb (Zfv (v:=.ty "int") (by rfl) T.ii PyProof.Rows.boot_int rfl) Za))))) (Zf7 (Xh (Z3 (r:=Zl0 K) Ws (by rfl) T.bo PyProof.Rows.boot_isinstance (Zb (pv 0) (Zb (Zfv (v:=.ty "bool") (by rfl) T.gW PyProof.Rows.boot_bool rfl) Za)))) (Zeh (Wo (Zvx Zy4 Zy4 Zg (pv 0) (Zfr (by rfl) T.dQ))))))) Zy Zr) (exR rfl ⟨_,_,_,_,rfl,X2.int _,.inl (exR rfl T.iC),_,rfl,Zau (exR rfl ⟨_,_,_,_,rfl,X2.int _,.inl (exR rfl T.iD),_,rfl,Zau (exR rfl (exQ rfl rfl (exR rfl (Yz (fun _=>(exQ rfl rfl (exR rfl ?_))) (fun z=>absurd (decide_eq_true (by lia)) z)))))⟩)⟩);rw [decide_eq_true (show (n:Int)<=4 by lia)];exact Zau q
theorem Zjl(T:Tx K mg){k:Nat}(h:1<=k:=by decide):Zu P w K mg base CX0 k T.aX.f T.aX.fd ["long"] Zyt:=(Zh8 T).mono h
def Zwy(T:Tx K mg)(H:Hp)(x:Addr)(nm:Str)(y:Addr):Prop:=∃(dx po jo so si:Addr) (kp:List (Key×V)),H x=some (.ins T.aZ dx [("part_of",.ref po),("joined",.ref jo),("post_of",.ref so),("signal_on",.ref si)])/\H po=some (.dK kp)/\Y6 kp (Ym nm)=some (.ref y)
theorem Ya.part{T:Tx K mg}{H:Hp}{x:Addr}{ps:List Zc}{js:List (Zc×Zc)}{sg:List (Str×Str×Str)}{k nm:Str}(tr:Ya T H x ps js sg)(yv:Y8 ps js sg)(hm:((k,nm):Zc)∈ps):∃y C,Zwy T H x nm y/\X1 T k C/\Zde H C y nm:=by
 obtain ⟨dx,po,jo,so,si,kp,ks,kj,ko,h1,h2,h3,_⟩:=tr.ex;have hq:((nm,k):Str×Str)∈qP ps:=List.mem_map.mpr ⟨(k,nm),hm,rfl⟩;obtain ⟨v,hv,y,C,rfl,hC,hO⟩:=h3.get Xq (by rw [Zo9];exact yv.net.nd) hq;exact ⟨y,C,⟨dx,po,jo,so,si,kp,h1,h2,hv⟩,hC,hO⟩
def Zqi(T:Tx K mg):Sp:=fun vs H Q _=>∃(x y:Addr) (nm:Str),vs=[.ref x,.str nm]/\Zwy T H x nm y/\X9 nm/\∀H',Same H H'->Q (.ref y) H'
theorem Zil(T:Tx K mg):Zu P w K mg base CX0 2 T.ak.f T.ak.fd ["self", "name"] (Zqi T):=by
 refine T.ak.F.okW Zep fun a8 A outer s H vs Q E hr h=>?_
 ·obtain ⟨x,y,nm,rfl,⟨dx,po,jo,so,si,kp,h1,h2,hv⟩,hn,q⟩:=h;intro X;refine WSs.step (Z9 (PW.pt (Zf7 (Wo (Xh (Zs (Zh4 T) hr rfl T.dD T.bF.F.kp T.bF.b .nil Zk (Zb (pv 1) Za)))) (Zeh (Zq (r:=Zby K) (Zcr hr) (pv 1) (Ye (pv 0) rfl) (by with_unfolding_all rfl))))) Zy Zr) (exR rfl ⟨nm,rfl,hn,fun H1 s1=>(exR rfl (Yz (fun z=>absurd z (by decide)) (fun _=>(exR rfl (exR rfl ⟨x,_,dx,_,_,rfl,s1.at h1,T.ao,T.bn,rfl,.inr (.inl ⟨po,_,rfl,Wa.k (k:=Ym nm) (s1.at h2),_,rfl,Yz (fun z=>?_) (fun _=>?_)⟩)⟩)))))⟩)
  ·rw [hv] at z;exact absurd z (by simp)
  exact WSs.last (Zp (Xz (Xc hr) (Ye (pv 0) rfl) (pv 1) (fun _ _=>rfl))) (exR rfl ⟨x,_,dx,_,_,rfl,s1.at h1,T.ao,T.bn,rfl,_,rfl,po,_,rfl,by rw [<-hv];exact Wa.k (k:=Ym nm) (s1.at h2),q H1 s1⟩)
theorem Zbt(T:Tx K mg){k:Nat}(h:2<=k:=by decide):Zu P w K mg base CX0 k T.ak.f T.ak.fd ["self", "name"] (Zqi T):=(Zil T).mono h
def Zw7(T:Tx K mg):Sp:=fun vs H Q _=>∃(x:Addr) (g l:Str) (ps:List Zc) (js:List (Zc×Zc)) (sg:List (Str×Str×Str)),vs=[.ref x,.str g,.str l]/\Ya T H x ps js sg/\Y8 ps js sg/\(("points",g):Zc)∈ps/\(l = "left" \/l = "right")/\∀H',Same H H'->Q .non H'
theorem Zmt(T:Tx K mg):Zu P w K mg base CX0 5 T.bH.f T.bH.fd ["tracks", "points", "lie"] (Zw7 T):=by
 refine T.bH.F.okW Zmw fun a8 A outer s H vs Q E hr h=>?_
 ·obtain ⟨x,g,l,ps,js,sg,rfl,tr,yv,hm,hl,q⟩:=h;intro X;obtain ⟨dx,po,jo,so,si,kp,ks,kj,ko,h1,_⟩:=tr.ex;refine WSs.step (Yj (Zs (Zj2 T) hr rfl T.dP T.aY.F.kp T.aY.b .nil Zk (Zb (pv 0) (Zb (pv 1) Za)))) (exR rfl (exR rfl ⟨x,g,ps,js,sg,rfl,tr,yv,hm,fun H1 s1=>?_⟩));obtain ⟨y,C,hp,hC,⟨dy,hO⟩⟩:=(tr.mono s1).part yv hm;obtain ⟨f1,d1,m1,b1,g1⟩:=hC.lies;refine WSs.last (Z9 (Zq (r:=Zby K) (Zcr hr) (pv 2) Zve (by with_unfolding_all rfl)) Zy Zr) (exR rfl (WE.of (Xb (Z1 (pv 0) T.ao T.cq (Zbt T) hr T.ak.b .nil Zk (Zb (pv 1) Za)) hC.cls.1 m1 (g1 _ _ _ 4 (by decide)) hr b1 .nil Zk) (exR rfl ⟨x,dx,_,rfl,s1.at h1,rfl,_,rfl,x,y,g,rfl,hp,yv.name _ hm,fun H2 s2=>⟨y,dy,_,rfl,s2.at hO,rfl,_,rfl,fun p H3 s3 n3 e3=>.inl ⟨p,_,rfl,.inl (SqL.of e3),rfl,Zax _,_,rfl,?_⟩⟩⟩)));rw [if_pos rfl,Wp,show decide (l∈Zco "points")=true by rcases hl with rfl|rfl <;>decide +kernel];exact Zau (q H3 (s1.trans (s2.trans s3)))
theorem Zo4(T:Tx K mg){k:Nat}(h:5<=k:=by decide):Zu P w K mg base CX0 k T.bH.f T.bH.fd ["tracks", "points", "lie"] (Zw7 T):=(Zmt T).mono h
abbrev TrD:=Str×Nat×List Zc
abbrev WSt:=List TrD×List (Str×Str)×List Zc
def W5(T:Tx K mg)(F:Addr->Prop)(H:Hp)(a:Addr)(d:TrD):Prop:=∃dx l,H a=some (.ins T.cJ dx [("name",.str d.1),("long",.int (d.2.1:Int)),("stands",.ref l)])/\Zo H l d.2.2/\¬F l
def Zv7(T:Tx K mg):Sp:=fun vs H Q _=>∃(H0:Hp) (x dx:Addr) (nm:Str) (n:Nat) (g:Str),vs=[.ref x,.str nm,.int (n:Int),.str g]/\H0 x=none/\Same H0 H/\H x=some (.ins T.cJ dx [])/\∀H' l,Same H0 H'->H0 l=none->l≠x->H' x=some (.ins T.cJ dx [("name",.str nm),("long",.int (n:Int)),("stands",.ref l)])->Zo H' l [(g, "")]->Q .non H'
theorem Zhw(T:Tx K mg):Zu P w K mg base CX0 1 T.aL.f T.aL.fd ["self", "name", "long", "gate"] (Zv7 T):=by
 refine T.aL.F.okW Zhl fun a8 A outer s H vs Q E hr h=>?_
 ·obtain ⟨H0,x,dx,nm,n,g,rfl,h0,sm,hx,q⟩:=h;intro X;refine WSs.step (Zas (pv 0) (pv 1) rfl) (exR rfl (exR rfl ⟨x,_,dx,[],rfl,hx,T.bZ,T.dJ,by simp,?_⟩));refine WSs.step (Zas (pv 0) (pv 2) rfl) (exR rfl (exR rfl ⟨x,_,dx,[("name",.str nm)],rfl,Zf,T.bZ,T.cZ,by simp,?_⟩));refine WSs.last (Zas (pv 0) (Zl (Zb (Zj (Zb (pv 3) (Zb Zd Za))) Za)) rfl) (exR rfl ⟨szA,fun t H1 s1 n1 e1=>⟨szA,fun l H2 s2 n2 e2=>(exR rfl ⟨x,_,dx,[("name",.str nm),("long",.int (n:Int))],rfl,s2.at (s1.at Zf),T.bZ,T.bd,by simp,?_⟩)⟩⟩);have lx:l≠x:=fun z=>by rw [z,s1.at Zf] at n2;cases n2
  have tx:t≠x:=fun z=>by rw [z,Zf] at n1;cases n1
  have off:Same H0 H1:=fun b o e=>s1.at (by rw [Ze (Zi e h0),Ze (Zi e h0)];exact sm.at e)
  refine q _ l (fun b o e=>?_) (off.free n2) lx Zf ⟨[t],?_,.cons ?_ .nil⟩
  ·rw [Ze (Zi e h0)];exact s2.at (off.at e)
  ·rw [Ze lx];exact e2
  ·unfold Zm;rw [Ze tx];exact s2.at e1
theorem Zds(T:Tx K mg){k:Nat}(h:1<=k:=by decide):Zu P w K mg base CX0 k T.aL.f T.aL.fd ["self", "name", "long", "gate"] (Zv7 T):=(Zhw T).mono h
def Zle(T:Tx K mg):List V->Hp->VK->Prop:=fun vs H Q=>∃(nm:Str) (n:Nat) (g:Str),vs=[.str nm,.int (n:Int),.str g]/\∀x dx l H',Same H H'->H x=none->H l=none->l≠x->H' x=some (.ins T.cJ dx [("name",.str nm),("long",.int (n:Int)),("stands",.ref l)])->Zo H' l [(g, "")]->Q (.ref x) H'
theorem Zqx(T:Tx K mg):∀vs H Q,Zle T vs H Q ->
  ∀x dx,H x=none->H dx=none->dx≠x->Zv7 T (.ref x ::(vs++[])) (upd (upd H dx (.own x)) x (.ins T.cJ dx [])) (fun v H2=>v=.non/\Q (.ref x) H2) E0:=by
 rintro vs H Q ⟨nm,n,g,rfl,q⟩ x dx hx hdx ne;refine ⟨H,x,dx,nm,n,g,rfl,hx,fun b o e=>?_,Zf,fun H' l s hl lx h1 h2=>⟨rfl,q x dx l H' s hx hl lx h1 h2⟩⟩;rw [Ze (Zi e hx),Ze (Zi e hdx)];exact e
def trK(as:List Addr)(ts:List TrD):List (Key×V):=(as.zip ts).map fun p=>(Ym p.2.1,V.ref p.1)
set_option genInjectivity false in
set_option genSizeOf false in
structure WAd where
 dx:Addr
 ld:Addr
 td:Addr
 ml:Addr
 as:List Addr
structure WAt(T:Tx K mg)(H0 H:Hp)(F:Addr->Prop)(x tr:Addr)(ad:WAd)(st:WSt):Prop where
 obj:H x=some (.ins T.bE ad.dx [("tracks",.ref tr),("lie_of",.ref ad.ld),("train_of",.ref ad.td),("mishaps",.ref ad.ml)])
 lies:H ad.ld=some (.dK (Wf st.2.1))
 trd:H ad.td=some (.dK (trK ad.as st.1))
 trs:Paired (W5 T F H) ad.as st.1
 mis:Zo H ad.ml st.2.2
 fl:F ad.ld
 ft:F ad.td
 fm:F ad.ml
 ne:ad.ld≠ad.td
 fa:∀a∈ad.as,F a
 nd:ad.as.Nodup
 nx:¬F x
 free:∀b,F b->H0 b=none
 same:Same H0 H
 live:∀b,F b->∃o,H b=some o
theorem W5.mono{T:Tx K mg}{F:Addr->Prop}{H H':Hp}{a:Addr}{d:TrD}(e:Same H H')(h:W5 T F H a d):W5 T F H' a d:=by
 obtain ⟨dx,l,h1,h2,h3⟩:=h;exact ⟨dx,l,e.at h1,h2.mono e,h3⟩
theorem WAt.mono{T:Tx K mg}{H0 H H':Hp}{F:Addr->Prop}{x tr:Addr}{ad:WAd}{st:WSt}(e:Same H H')(h:WAt T H0 H F x tr ad st):WAt T H0 H' F x tr ad st :=
 ⟨e.at h.obj,e.at h.lies,e.at h.trd,Paired.mapP h.trs fun _ _ r=>r.mono e,h.mis.mono e,h.fl,h.ft,h.fm,h.ne,h.fa,h.nd,h.nx,h.free,h.same.trans e,fun b f=>let ⟨o,z⟩:=h.live b f;⟨o,e.at z⟩⟩
theorem Zhx{as:List Addr}{ts:List TrD}(h:as.length=ts.length):(trK as ts).map Prod.fst=ts.map fun d=>Ym d.1:=by
 unfold trK;rw [List.map_map]
 induction as generalizing ts with
 | nil=>cases ts with
  | nil=>rfl
  | cons _ _=>cases h
 | cons a r ih=>cases ts with
  | nil=>cases h
  | cons d t=>exact congrArg _ (ih (Nat.succ.inj h))
def Zzs(T:Tx K mg):Sp:=fun vs H Q _=>∃(H0:Hp) (x dx tr:Addr) (ps:List Zc) (js:List (Zc×Zc)) (sg:List (Str×Str×Str)),vs=[.ref x,.ref tr]/\H0 x=none/\Same H0 H/\H x=some (.ins T.bE dx [])/\Ya T H0 tr ps js sg/\Y8 ps js sg /\
 ∀(gs:List Str) (H':Hp) (F:Addr->Prop) (ad:WAd),gs.Nodup->(∀n,n∈gs↔(("points",n):Zc)∈ps)->gs.length<=40->WAt T H0 H' F x tr ad ([],gs.map fun n=>(n, "left"),[])->Q .non H'
theorem Zha(T:Tx K mg):Zu P w K mg base CX0 5 T.aw.f T.aw.fd ["self", "tracks"] (Zzs T):=by
 refine T.aw.F.okW Zhe fun a8 A outer s H vs Q E hr h=>?_
 ·obtain ⟨H0,x,dx,tr,ps,js,sg,rfl,h0,sm,hx,ht,yv,q⟩:=h;intro X;have up:∀{H1:Hp} {o:HO},Same H0 H1->Same H0 (upd H1 x o):=fun s b o e=>by rw [Ze (Zi e h0)];exact s.at e
  refine WSs.step (Zas (pv 0) (pv 1) rfl) (exR rfl (exR rfl ⟨x,_,dx,[],rfl,hx,T.ac,T.be,by simp,?_⟩));refine WSs.step (Zas (pv 0) (Zs (Zjf T) hr rfl T.dN T.aW.F.kp T.aW.b .nil Zk (Zb (pv 1) Za)) rfl) (exR rfl ⟨tr,ps,js,sg,rfl,ht.mono (up sm),yv,fun gs nd hg hl ld H1 s1 n1 e1=>(exR rfl ⟨x,_,dx,[("tracks",.ref tr)],rfl,s1.at Zf,T.ac,T.cO,by simp,?_⟩)⟩);have m1:Same H0 H1:=(up sm).trans s1;refine WSs.step (Zas (pv 0) Zdr rfl) fun td H2 s2 n2 e2=>(exR rfl ⟨x,_,dx,[("tracks",.ref tr),("lie_of",.ref ld)],rfl,s2.at Zf,T.ac,T.bG,by simp,?_⟩)
  have m2:Same H0 H2:=(up m1).trans s2;refine WSs.last (Zas (pv 0) (Zl Za) rfl) ⟨szA,fun ml H3 s3 n3 e3=>(exR rfl ⟨x,_,dx,[("tracks",.ref tr),("lie_of",.ref ld),("train_of",.ref td)],rfl,s3.at Zf,T.ac,T.cw,by simp,?_⟩)⟩;have m3:Same H0 H3:=(up m2).trans s3;have lx:ld≠x:=fun z=>by rw [z,Zf] at n1;cases n1
  have tx:td≠x:=fun z=>by rw [z,Zf] at n2;cases n2
  have mx:ml≠x:=fun z=>by rw [z,Zf] at n3;cases n3
  have l2:H2 ld=some (.dK (Wf (gs.map fun n=>(n, "left")))):=s2.at (by rw [Ze lx];exact e1);have l3:H3 ld=some (.dK (Wf (gs.map fun n=>(n, "left")))):=s3.at (by rw [Ze lx];exact l2);have t3:H3 td=some (.dK []):=s3.at (by rw [Ze tx];exact e2);have dif:ld≠td:=fun z=>by rw [<-z,Ze lx,e1] at n2;cases n2
  refine q gs _ (fun b=>b=ld\/b=td\/b=ml) ⟨dx,ld,td,ml,[]⟩ nd hg hl ⟨Zf,?_,?_,.nil,⟨[],?_,.nil⟩,.inl rfl,.inr (.inl rfl),.inr (.inr rfl),dif,(fun _ z=>nomatch z),List.nodup_nil,?_,?_,up m3,?_⟩
  ·rw [Ze lx];exact l3
  ·rw [Ze tx];exact t3
  ·rw [Ze mx];exact e3
  ·rintro (z|z|z)
   ·exact lx z.symm
   ·exact tx z.symm
   ·exact mx z.symm
  ·rintro b (rfl|rfl|rfl)
   ·exact (up sm).free n1
   ·exact (up m1).free n2
   ·exact (up m2).free n3
  ·rintro b (rfl|rfl|rfl)
   ·exact ⟨_,by rw [Ze lx];exact l3⟩
   ·exact ⟨_,by rw [Ze tx];exact t3⟩
   ·exact ⟨_,by rw [Ze mx];exact e3⟩
theorem Ww(T:Tx K mg){k:Nat}(h:5<=k:=by decide):Zu P w K mg base CX0 k T.aw.f T.aw.fd ["self", "tracks"] (Zzs T):=(Zha T).mono h
def Ze7(T:Tx K mg):List V->Hp->VK->Prop:=fun vs H Q=>∃(tr:Addr) (ps:List Zc) (js:List (Zc×Zc)) (sg:List (Str×Str×Str)),vs=[.ref tr]/\Ya T H tr ps js sg/\Y8 ps js sg /\
 ∀(x:Addr) (gs:List Str) (H':Hp) (F:Addr->Prop) (ad:WAd),gs.Nodup->(∀n,n∈gs↔(("points",n):Zc)∈ps)->gs.length<=40->H x=none->WAt T H H' F x tr ad ([],gs.map fun n=>(n, "left"),[])->Q (.ref x) H'
theorem Zhj(T:Tx K mg):∀vs H Q,Ze7 T vs H Q ->
  ∀x dx,H x=none->H dx=none->dx≠x->Zzs T (.ref x ::(vs++[])) (upd (upd H dx (.own x)) x (.ins T.bE dx [])) (fun v H2=>v=.non/\Q (.ref x) H2) E0:=by
 rintro vs H Q ⟨tr,ps,js,sg,rfl,ht,yv,q⟩ x dx hx hdx ne;refine ⟨H,x,dx,tr,ps,js,sg,rfl,hx,fun b o e=>?_,Zf,ht,yv,fun gs H' F ad h1 h2 h3 h4=>⟨rfl,q x gs H' F ad h1 h2 h3 hx h4⟩⟩;rw [Ze (Zi e hx),Ze (Zi e hdx)];exact e
theorem Paired.getL{α β:Type}{R:α->β->Prop}{l:List α}{m:List β}{i:Nat}{b:β}(h:Paired R l m)(e:m[i]? =some b):∃a,l[i]? =some a/\R a b:=by
 induction h generalizing i with
 | nil=>cases e
 | cons r t ih=>cases i with
  | zero=>cases e;exact ⟨_,rfl,r⟩
  | succ i=>exact ih e
def Zly(T:Tx K mg):Sp:=fun vs H Q _=>∃(H0:Hp) (F:Addr->Prop) (x tr:Addr) (ad:WAd) (st:WSt),vs=[.ref x]/\WAt T H0 H F x tr ad st/\∀l H',Same H H'->H l=none->Zo H' l st.2.2->Q (.ref l) H'
theorem Zgv(T:Tx K mg):Zu P w K mg base CX0 1 T.am.f T.am.fd ["self"] (Zly T):=by
 refine T.am.F.okW Zg5 fun a8 A outer s H vs Q E hr h=>?_
 ·obtain ⟨H0,F,x,tr,ad,st,rfl,hw,q⟩:=h;intro X;obtain ⟨ts,h1,h2⟩:=hw.mis;exact WSs.last (Zp (Wk (r:=Zsx K) Zg2 (by rfl) T.fU PyProof.Rows.boot_list (Zb (Ye (pv 0) rfl) Za))) (exR rfl ⟨x,_,ad.dx,_,_,rfl,hw.obj,T.ac,T.cw,rfl,ad.ml,_,rfl,.inl (SqL.of h1),fun l H1 s1 n1 e1=>q l H1 s1 n1 ⟨ts,e1,Paired.mapP h2 fun _ _ r=>r.mono s1⟩⟩)
theorem Xl(T:Tx K mg){k:Nat}(h:1<=k:=by decide):Zu P w K mg base CX0 k T.am.f T.am.fd ["self"] (Zly T):=(Zgv T).mono h
def Zy5(T:Tx K mg):Sp:=fun vs H Q _=>∃(H0:Hp) (F:Addr->Prop) (x tr:Addr) (ad:WAd) (st:WSt),vs=[.ref x]/\WAt T H0 H F x tr ad st/\st.1.length<64/\∀ss:List Str,ss.Perm (st.1.map Prod.fst)->PyProof.Rows.sortedS ss=true->New H (.lst (ss.map V.str)) Q
theorem Zji(T:Tx K mg):Zu P w K mg base CX0 1 T.bf.f T.bf.fd ["self"] (Zy5 T):=by
 refine T.bf.F.okW Zjx fun a8 A outer s H vs Q E hr h=>?_
 ·obtain ⟨H0,F,x,tr,ad,st,rfl,hw,hl,q⟩:=h;intro X;refine WSs.last (Zp (Z3 (r:=Zkt) (Zd5 rfl) (by rfl) T.dC PyProof.Rows.boot_sorted (Zb (Ye (pv 0) rfl) Za))) (exR rfl ⟨x,_,ad.dx,_,_,rfl,hw.obj,T.ac,T.bG,rfl,ad.td,_,st.1.map Prod.fst,rfl,.inl hw.trd,?_,by rw [List.length_map];exact hl,q⟩);have:=congrArg (List.map kV) (Zhx (Paired.length hw.trs));rw [List.map_map,List.map_map] at this;rw [List.map_map];exact this
theorem Zfb(T:Tx K mg){k:Nat}(h:1<=k:=by decide):Zu P w K mg base CX0 k T.bf.f T.bf.fd ["self"] (Zy5 T):=(Zji T).mono h
theorem Zhb{as:List Addr}{ts:List TrD}{i:Nat}{a:Addr}{d:TrD}(nd:(ts.map Prod.fst).Nodup)(ha:as[i]? =some a)(hd:ts[i]? =some d):Y6 (trK as ts) (Ym d.1)=some (.ref a):=by
 induction as generalizing ts i with
 | nil=>cases ha
 | cons b r ih=>cases ts with
  | nil=>cases hd
  | cons e t =>
   rw [List.map_cons,List.nodup_cons] at nd;cases i with
   | zero=>cases ha;cases hd;exact Xu rfl
   | succ i =>
    have hm:d.1∈t.map Prod.fst:=List.mem_map.mpr ⟨d,List.mem_of_getElem? (show t[i]? =some d from hd),rfl⟩;have ne:¬Ym e.1=Ym d.1:=fun z=>nd.1 (by rw [Xq _ _ z];exact hm)
    exact (Xp (p:=(Ym e.1,V.ref b)) ne).trans (ih nd.2 ha hd)
def Ybh(T:Tx K mg):Sp:=fun vs H Q _=>∃(H0:Hp) (F:Addr->Prop) (x tr:Addr) (ad:WAd) (st:WSt) (i:Nat) (a:Addr) (d:TrD),vs=[.ref x,.str d.1]/\WAt T H0 H F x tr ad st/\st.1.length<64/\(st.1.map Prod.fst).Nodup/\ad.as[i]? =some a/\st.1[i]? =some d/\∀H',Same H H'->Q (.ref a) H'
theorem Ze3(T:Tx K mg):Zu P w K mg base CX0 2 T.aq.f T.aq.fd ["self", "name"] (Ybh T):=by
 refine T.aq.F.okW Zfa fun a8 A outer s H vs Q E hr h=>?_
 ·obtain ⟨H0,F,x,tr,ad,st,i,a,d,rfl,hw,hl,nd,ha,hd,q⟩:=h;intro X;refine WSs.step (Z9 (Zq (r:=Zby K) (Zcr hr) (pv 1) (Xb (pv 0) T.ac T.de (Zfb T) hr T.bf.b .nil Zk) (by with_unfolding_all rfl)) Zy Zr) (exR rfl (exR rfl ⟨x,ad.dx,_,rfl,hw.obj,rfl,H0,F,x,tr,ad,st,rfl,hw,hl,fun ss hp hs l H1 s1 n1 e1=>.inl ⟨l,_,rfl,.inl (SqL.of e1),rfl,Zax _,_,rfl,?_⟩⟩));rw [if_pos rfl,Wp,decide_eq_true (hp.mem_iff.mpr (List.mem_map.mpr ⟨d,List.mem_of_getElem? hd,rfl⟩))];refine Zau ?_;exact WSs.last (Zp (Xz (Xc hr) (Ye (pv 0) rfl) (pv 1) (fun _ _=>rfl))) (exR rfl ⟨x,_,ad.dx,_,_,rfl,s1.at hw.obj,T.ac,T.bG,rfl,_,rfl,ad.td,_,rfl,by rw [<-Zhb nd ha hd];exact Wa.k (k:=Ym d.1) (s1.at hw.trd),q H1 s1⟩)
theorem Wz(T:Tx K mg){k:Nat}(h:2<=k:=by decide):Zu P w K mg base CX0 k T.aq.f T.aq.fd ["self", "name"] (Ybh T):=(Ze3 T).mono h
def Zdy(T:Tx K mg):Sp:=fun vs H Q _=>∃(H0:Hp) (F:Addr->Prop) (x tr:Addr) (ad:WAd) (st:WSt) (d:TrD),vs=[.ref x,.str d.1]/\WAt T H0 H F x tr ad st/\st.1.length<64/\(st.1.map Prod.fst).Nodup/\d∈st.1/\∀l H',Same H H'->H l=none->Zo H' l d.2.2->Q (.ref l) H'
theorem Zk5(T:Tx K mg):Zu P w K mg base CX0 3 T.aC.f T.aC.fd ["self", "name"] (Zdy T):=by
 refine T.aC.F.okW Zl3 fun a8 A outer s H vs Q E hr h=>?_
 ·obtain ⟨H0,F,x,tr,ad,st,d,rfl,hw,hl,nd,hm,q⟩:=h;intro X;obtain ⟨i,hi⟩:=List.mem_iff_getElem?.mp hm;obtain ⟨a,ha,dx,l0,h1,⟨ts,h2,h3⟩,_⟩:=Paired.getL hw.trs hi;exact WSs.last (Zp (Wk (r:=Zsx K) Zg2 (by rfl) T.fU PyProof.Rows.boot_list (Zb (Ye (Z1 (pv 0) T.ac T.cy (Wz T) hr T.aq.b .nil Zk (Zb (pv 1) Za)) rfl) Za))) (exR rfl ⟨x,ad.dx,_,rfl,hw.obj,rfl,_,rfl,H0,F,x,tr,ad,st,i,a,d,rfl,hw,hl,nd,ha,hi,fun H1 s1=>⟨a,_,dx,_,_,rfl,s1.at h1,T.bZ,T.bd,rfl,l0,_,rfl,.inl (SqL.of (s1.at h2)),fun l H2 s2 n2 e2=>q l H2 (s1.trans s2) (s1.free n2) ⟨ts,e2,Paired.mapP h3 fun _ _ r=>r.mono (s1.trans s2)⟩⟩⟩)
theorem Wi(T:Tx K mg){k:Nat}(h:3<=k:=by decide):Zu P w K mg base CX0 k T.aC.f T.aC.fd ["self", "name"] (Zdy T):=(Zk5 T).mono h
def stood(ts:List TrD):List Str:=ts.flatMap fun d=>d.2.2.map Prod.fst
def Zqj(ss D9:List Str)(kvs:List (Key×V)):Prop:=kvs.length<=ss.length+D9.length/\∀n∈ss,Y6 kvs (Ym n)=some (.bl (decide (n∈D9)))
theorem Zyk{ss:List Str}:Zqj ss [] (ss.map fun n=>(Ym n,V.bl false)):=by
 refine ⟨by rw [List.length_map];exact Nat.le_refl _,fun n hn=>?_⟩
 induction ss with
 | nil=>cases hn
 | cons m r ih =>
  rw [List.map_cons]
  by_cases e:m=n
  ·subst e;exact Xu rfl
  ·exact (Xp (p:=(Ym m,V.bl false)) fun z=>e (Xq _ _ z)).trans (ih ((List.mem_cons.mp hn).resolve_left fun z=>e z.symm))
theorem Ztm{as:List Addr}{ts:List TrD}{i:Nat}{kv:Key×V}(h:(trK as ts)[i]? =some kv):∃a d,as[i]? =some a/\ts[i]? =some d/\kv=(Ym d.1,.ref a):=by
 unfold trK at h;rw [List.getElem?_map] at h;obtain ⟨⟨a,d⟩,h',rfl⟩:=Option.map_eq_some_iff.mp h;obtain ⟨h1,h2⟩:=List.getElem?_zip_eq_some.mp h';exact ⟨a,d,h1,h2,rfl⟩
theorem Zd1{ts:List TrD}{i:Nat}{d:TrD}(h:ts[i]? =some d):stood (ts.take (i+1))=stood (ts.take i)++d.2.2.map Prod.fst:=by
 unfold stood;rw [List.take_add_one,h,List.flatMap_append];simp
theorem Zq5(ts:List TrD)(i:Nat):(stood (ts.take i)).length<=(stood ts).length:=by
 have h:stood ts=stood (ts.take i)++stood (ts.drop i):=by unfold stood;rw [<-List.flatMap_append,List.take_append_drop]
 rw [h,List.length_append];lia
theorem Zqj.put{ss D9:List Str}{kvs:List (Key×V)}{m:Str}(h:Zqj ss D9 kvs):Zqj ss (D9++[m]) (Wg kvs (Ym m) (.bl true)):=by
 refine ⟨?_,fun n hn=>?_⟩
 ·have:=Zbi kvs (Ym m) (.bl true);have:=h.1;rw [List.length_append,List.length_singleton];lia
 ·rw [Zw5]
  by_cases e:n=m
  ·subst e;rw [if_pos rfl,decide_eq_true (List.mem_append.mpr (.inr List.mem_cons_self))]
  ·rw [if_neg fun z=>e (Xq _ _ z),h.2 n hn];congr 2;exact decide_eq_decide.mpr ⟨fun z=>List.mem_append.mpr (.inl z),fun z=>(List.mem_append.mp z).elim id fun z=>absurd (List.mem_singleton.mp z) e⟩
def Ztc(T:Tx K mg):Sp:=fun vs H Q _=>∃(H0:Hp) (F:Addr->Prop) (x tr:Addr) (ad:WAd) (st:WSt) (ps:List Zc) (js:List (Zc×Zc)) (sg:List (Str×Str×Str)),vs=[.ref x]/\WAt T H0 H F x tr ad st/\Ya T H0 tr ps js sg/\Y8 ps js sg/\(stood st.1).length<=400 /\
 ∀ss D kvs H',ss.Perm (ps.map Prod.snd)->Zqj ss (stood st.1) kvs->Same H H'->H D=none->H' D=some (.dK kvs)->Q (.ref D) H'
theorem Zl7(T:Tx K mg):Zu P w K mg base CX0 2 T.ba.f T.ba.fd ["self"] (Ztc T):=by
 refine T.ba.F.okW Zac fun a8 A outer s H vs Q E hr h=>?_
 ·obtain ⟨H0,F,x,tr,ad,st,ps,js,sg,rfl,hw,ht,yv,hz,q⟩:=h;intro X;have tr1:=ht.mono hw.same;obtain ⟨U4,po,jo,so,si,kp,ks,kj,ko,h1,_⟩:=tr1.ex;refine WSs.step (Z0 (i:=1) Zac.nd (Wk (r:=Zrt) (Zkv rfl) (by rfl) T.gq PyProof.Rows.boot_dict (Zb (X4 (N':=["part"]) rfl (Yc.std 1 [] rfl (by trivial) (by trivial) rfl trivial rfl rfl trivial) (Y5 (Xb (Ye (pv 0) rfl) T.ao T.cQ (Zcd T) hr T.aO.b .nil Zk)) (fun _ _ _ _=>(Za4 (i:=0) (by show (["part"]:List Str).Nodup;decide +kernel))) (fun _ _ _ _=>Zbk) (fun _ _ _ _=>(Zj (Zb (pv 0) (Zb Zq4 Za))))) Za))) (exR rfl ⟨x,_,ad.dx,_,_,rfl,hw.obj,T.ac,T.be,rfl,tr,U4,_,rfl,h1,rfl,tr,ps,js,sg,rfl,tr1,yv,fun ss hp hs l H1 s1 n1 e1=>⟨l,rfl,⟨_,SqL.of e1⟩,fun C hC=>X5 (xs:=ss.map V.str) (fun i ys H'=>(∃ts:List Addr,ys=ts.map V.ref/\Paired (fun t (n:Str)=>H' t=some (.tup [.str n,.bl false])) ts (ss.take i))/\H' C=some (.lst ys)/\Same H1 H') ⟨⟨[],rfl,.nil⟩,Zf,Same.new hC⟩ ?_ ?_ ?_⟩⟩)
  ·rintro i ys H' _ ⟨_,_,sm⟩;exact SqL.of (sm.at e1)
  ·rintro j v ys H' hj ⟨⟨ts,rfl,d4⟩,v0,sm⟩;rw [List.getElem?_map] at hj;obtain ⟨n,hy,rfl⟩:=Option.map_eq_some_iff.mp hj;have hl:=Paired.length d4;have hsl:ss.length<=40:=by rw [hp.length_eq,List.length_map];exact yv.len
   rw [List.length_take] at hl;unfold Zb2;refine ⟨W3.set rfl,_,rfl,szA,fun t H2 s2 n2 e2=>⟨s2.at v0,?_,⟨ts++[t],?_,?_⟩,Zf,fun b o e=>?_⟩⟩
   ·rw [List.length_map];exact Zx (by lia)
   ·rw [List.map_append];rfl
   ·rw [List.take_add_one,hy];have off:∀{b:Addr} {xs:List V},H2 b=some (.tup xs)->upd H2 C (.lst (ts.map V.ref++[V.ref t])) b=some (.tup xs):=fun {b xs} z=>by
     rw [Ze fun y=>by rw [y,s2.at v0] at z;cases z];exact z
    exact Paired.append (Paired.mapP d4 fun _ _ r=>off (s2.at r)) (.cons (off e2) .nil)
   ·rw [Ze (Zi e hC)];exact s2.at (sm.at e)
  rintro ys H6 ⟨⟨ts,rfl,d4⟩,hC6,s6⟩;rw [List.length_map,List.take_length] at d4;refine ⟨C,ts,ss.map fun n=>(Ym n,.bl false),rfl,hC6,Zrf d4 fun _ _ r=>r,?_,fun D H7 s7 n7 e7=>?_⟩
  ·rw [List.map_map];exact Zsj Xq (hp.nodup_iff.mpr yv.net.nd)
  have O8:=s1.trans (s6.trans s7);have fD:H D=none:=s1.free (s6.free n7);have dt:D≠ad.td:=fun z=>by rw [z,hw.trd] at fD;cases fD
  have hsl:ss.length<=40:=by rw [hp.length_eq,List.length_map];exact yv.len
  refine WSs.step (Zpg (Xy PassesOwn.never rfl (Zx5 (Ye (pv 0) rfl)) (Y1 (i:=2) Zac.nd) Zy)) (exR rfl ⟨x,_,ad.dx,_,_,rfl,O8.at hw.obj,T.ac,T.bG,rfl,ad.td,_,rfl,O8.at hw.trd,fun o nf=>Zvi (fun i σ H'=>(∃o2 o3,σ=[some (.ref x),some (.ref D),o2,o3])/\Same (upd H ad.td (.frz o (.dK (trK ad.as st.1)))) H'/\∃kvs,H' D=some (.dK kvs)/\Zqj ss (stood (st.1.take i)) kvs) ⟨⟨none,none,rfl⟩,O8.frz,_,by rw [Ze dt];exact e7,Zyk⟩ ?_ ?_ ?_⟩)
  ·rintro i σ H' _ ⟨_,s2,_⟩;exact s2.at Zf
  ·rintro i kv σ H2 hi ⟨⟨o2,o3,rfl⟩,s2,kvs,hD,hT⟩;obtain ⟨a,d,ha,hd,rfl⟩:=Ztm hi;obtain ⟨a',R3,dx,l,ho,⟨j8,hl,d4⟩,_⟩:=Paired.getL hw.trs hd;rw [ha] at R3;cases R3;have up:∀{b:Addr} {u:HO},H b=some u->(∀k,u ≠ .dK k)->H2 b=some u:=fun {b u} z nk=>s2.at (by rw [Ze fun y=>by rw [y,hw.trd] at z;cases z;exact nk _ rfl];exact z)
   have y7:=Zq5 st.1 (i+1);rw [Zd1 hd,List.length_append,List.length_map] at y7;let I20:=fun (j:Nat) (σ:St) (H':Hp)=>(∃o3,σ=[some (.ref x),some (.ref D),some (.ref a),o3])/\Same (upd H ad.td (.frz o (.dK (trK ad.as st.1)))) H'/\∃kvs,H' D=some (.dK kvs)/\Zqj ss (stood (st.1.take i)++(d.2.2.take j).map Prod.fst) kvs
   refine WSs.last (Xy PassesOwn.never rfl (Y5 (Ye (pv 2) rfl)) (Y1 (i:=3) Zac.nd) Zy) (exR rfl ⟨a,_,dx,_,_,rfl,up ho (fun _ z=>nomatch z),T.bZ,T.bd,rfl,l,rfl,⟨_,SqL.of (up hl fun _ z=>nomatch z)⟩,W2 (K:=K) (xs:=j8.map V.ref) I20 ⟨⟨_,rfl⟩,s2,kvs,hD,by rw [List.take_zero,List.map_nil,List.append_nil];exact hT⟩ ?_ ?_ ?_⟩)
   ·rintro j σ H' _ ⟨_,s3,_⟩;exact SqL.of (s3.at (by rw [Ze fun y=>by rw [y,hw.trd] at hl;cases hl];exact hl))
   ·rintro j v σ H3 hj ⟨⟨o3,rfl⟩,s3,kv3,hD3,hT3⟩;rw [List.getElem?_map] at hj;obtain ⟨t,K0,rfl⟩:=Option.map_eq_some_iff.mp hj;obtain ⟨p,hpj,A7⟩:=Paired.get d4 K0;have hpt3:H3 t=some (.tup [.str p.1,.str p.2]):=s3.at (by rw [Ze fun y=>by unfold Zm at A7;rw [y,hw.trd] at A7;cases A7];exact A7);have h3:=hT3.1;rw [List.length_append,List.length_map,List.length_take] at h3;refine WSs.last (Zad (Xc hr) (pv 1) (Zv (K:=K) rfl (pv 3) Zg) Zq4 rfl) (exR rfl (exR rfl (ixT hpt3 0 rfl ⟨D,_,rfl,Zfe.k (k:=Ym p.1) hD3 (Zx (by lia)),⟨_,rfl⟩,fun b u z=>?_,_,Zf,?_⟩)))
    ·rw [Ze (Zi z (by rw [Ze dt];exact fD))];exact s3.at z
    ·rw [List.take_add_one,hpj,List.map_append,<-List.append_assoc];exact hT3.put
   ·rintro σ H3 ⟨⟨o3,rfl⟩,s3,kv3,hD3,hT3⟩;rw [List.length_map,Paired.length d4,List.take_length] at hT3;exact ⟨⟨_,_,rfl⟩,s3,kv3,hD3,by rw [Zd1 hd];exact hT3⟩
  ·rintro σ H2 ⟨⟨o2,o3,rfl⟩,s2,kvs,hD,hT⟩;rw [List.take_of_length_le (by unfold trK;rw [List.length_map,List.length_zip,Paired.length hw.trs,Nat.min_self];exact Nat.le_refl _)] at hT;refine ⟨ad.td,o,_,s2.at Zf,nf,WSs.last (Zp (pv 1)) ⟨_,rfl,q ss D kvs _ hp hT (s2.thaw hw.trd) fD ?_⟩⟩;rw [Ze dt];exact hD
theorem Zc3(T:Tx K mg){k:Nat}(h:2<=k:=by decide):Zu P w K mg base CX0 k T.ba.f T.ba.fd ["self"] (Ztc T):=(Zl7 T).mono h
def liQ(l:List (Str×Str))(n:Str):Option Str:=(l.find? fun p=>decide (p.1=n)).map Prod.snd
def Ys(l:List (Str×Str))(n:Str):Str:=(liQ l n).getD ""
theorem Zkc(l:List (Str×Str))(n:Str):Y6 (Wf l) (Ym n)=(liQ l n).map V.str:=by
 unfold Wf liQ
 induction l with
 | nil=>rfl
 | cons p r ih =>
  rw [List.map_cons,List.find?_cons]
  by_cases e:p.1=n
  ·rw [Xu (by rw [e]),decide_eq_true e];rfl
  ·rw [Xp (fun z=>e (Xq _ _ z)),decide_eq_false e];exact ih
def Zy2(T:Tx K mg):Sp:=fun vs H Q _=>∃(H0:Hp) (F:Addr->Prop) (x tr t:Addr) (ad:WAd) (st:WSt) (ps:List Zc) (js:List (Zc×Zc)) (sg:List (Str×Str×Str)) (k nm e:Str),vs=[.ref x,.ref t]/\WAt T H0 H F x tr ad st/\Ya T H0 tr ps js sg/\Y8 ps js sg/\Zm H t (nm,e)/\((k,nm):Zc)∈ps/\∀H',Same H H'->Q (.str (Xv k e (Ys st.2.1 nm))) H'
theorem Zj1(T:Tx K mg):Zu P w K mg base CX0 3 T.aP.f T.aP.fd ["self", "spot"] (Zy2 T):=by
 refine T.aP.F.okW Zjm fun a8 A outer s H vs Q E hr h=>?_
 ·obtain ⟨H0,F,x,tr,t,ad,st,ps,js,sg,k,nm,e,rfl,hw,ht,yv,hp,hm,q⟩:=h;intro X;have tr1:=ht.mono hw.same;obtain ⟨y,C,hy,hC,⟨dy,hO⟩⟩:=tr1.part yv hm;obtain ⟨U4,po,jo,so,si,kp,ks,kj,ko,h1,_⟩:=tr1.ex;refine WSs.last (Zp (Z1 (Z1 (Ye (pv 0) rfl) T.ao T.cq (Zbt T) hr T.ak.b .nil Zk (Zb (Zv (K:=K) rfl (pv 1) Zg) Za)) hC.cls.1 hC.cls.2.2 (Zok T) hr T.aD.b .nil Zk (Zb (Zv (K:=K) rfl (pv 1) Zg) (Zb (Zb4 (Xc hr) (Ye (pv 0) rfl) (Zv (K:=K) rfl (pv 1) Zg) Zd ⟨rfl,rfl,rfl,rfl⟩) Za)))) (exR rfl ⟨x,_,ad.dx,_,_,rfl,hw.obj,T.ac,T.be,rfl,tr,U4,_,rfl,h1,rfl,_,rfl,(ixT hp 0 rfl ⟨tr,y,nm,rfl,hy,yv.name _ hm,fun H1 s1=>⟨y,dy,_,rfl,s1.at hO,rfl,_,rfl,(ixT (s1.at hp) 1 rfl (exR rfl ⟨x,_,ad.dx,_,_,rfl,s1.at hw.obj,T.ac,T.cO,rfl,ad.ld,rfl,.inl ⟨_,.inl (s1.at hw.lies)⟩,_,rfl,(ixT (s1.at hp) 0 rfl ⟨_,Wa.k (k:=Ym nm) (s1.at hw.lies),k,y,C,nm,e,Ys st.2.1 nm,?_,hC,⟨dy,s1.at hO⟩,fun H2 s2=>q H2 (s1.trans s2)⟩)⟩))⟩⟩)⟩);rw [Zkc];unfold Ys;cases liQ st.2.1 nm <;>rfl
theorem Zcl(T:Tx K mg){k:Nat}(h:3<=k:=by decide):Zu P w K mg base CX0 k T.aP.f T.aP.fd ["self", "spot"] (Zy2 T):=(Zj1 T).mono h
def Xw(st:WSt)(k nm e:Str):Str:=if nm∈stood st.1 then "crash" else if Xv k e (Ys st.2.1 nm) = "" /\¬(k = "gate" \/k = "stop") then "off" else ""
def Zyv(T:Tx K mg):Sp:=fun vs H Q _=>∃(H0:Hp) (F:Addr->Prop) (x tr t:Addr) (ad:WAd) (st:WSt) (ps:List Zc) (js:List (Zc×Zc)) (sg:List (Str×Str×Str)) (k nm e:Str),vs=[.ref x,.ref t]/\WAt T H0 H F x tr ad st/\Ya T H0 tr ps js sg/\Y8 ps js sg/\(stood st.1).length<=400/\Zm H t (nm,e)/\((k,nm):Zc)∈ps/\∀H',Same H H'->Q (.str (Xw st k nm e)) H'
theorem Zsc{ss D9:List Str}{kvs:List (Key×V)}{ps:List Zc}{k nm:Str}(h:Zqj ss D9 kvs)(hp:ss.Perm (ps.map Prod.snd))(hm:((k,nm):Zc)∈ps):Y6 kvs (Ym nm)=some (.bl (decide (nm∈D9))):=h.2 nm (hp.mem_iff.mpr (List.mem_map.mpr ⟨_,hm,rfl⟩))
theorem Zgq(T:Tx K mg):Zu P w K mg base CX0 4 T.aQ.f T.aQ.fd ["self", "spot"] (Zyv T):=by
 refine T.aQ.F.okW Zgf fun a8 A outer s H vs Q E hr h=>?_
 ·obtain ⟨H0,F,x,tr,t,ad,st,ps,js,sg,k,nm,e,rfl,hw,ht,yv,hz,hp,hm,q⟩:=h;intro X;refine WSs.step (Z9 (Xh (Xz (Xc hr) (Xb (pv 0) T.ac T.cU (Zc3 T) hr T.ba.b .nil Zk) (Zv (K:=K) rfl (pv 1) Zg) (fun _ _=>rfl))) Zy Zr) (exR rfl ⟨x,ad.dx,_,rfl,hw.obj,rfl,H0,F,x,tr,ad,st,ps,js,sg,rfl,hw,ht,yv,hz,fun ss D kvs H1 hss hT s1 n1 e1=>(exR rfl (ixT (s1.at hp) 0 rfl ⟨D,_,rfl,by rw [<-Zsc hT hss hm];exact Wa.k (k:=Ym nm) e1,_,rfl,Yz (fun z=>?_) (fun z=>?_)⟩))⟩)
  ·have z:nm∈stood st.1:=of_decide_eq_true z;have:=q H1 s1;unfold Xw at this;rw [if_pos z] at this;exact WSs.last (Zp Zd) this
  ·have z:nm∉stood st.1:=fun y=>z (decide_eq_true y)
   unfold Xw at q;rw [if_neg z] at q;have r6:=hw.mono s1;refine WSs.step (Z9 (PW.pt (Zfk (Zq (r:=X3 K) (X8 hr) (Z1 (pv 0) T.ac T.cS (Zcl T) hr T.aP.b .nil Zk (Zb (pv 1) Za)) Zd (Zw _)) (Zcp (Wo (Xh (Z3 (r:=Zl0 K) Ws (by rfl) T.bo PyProof.Rows.boot_isinstance (Zb (Z1 (Ye (pv 0) rfl) T.ao T.cq (Zbt T) hr T.ak.b .nil Zk (Zb (Zv (K:=K) rfl (pv 1) Zg) Za)) (Zb (Wb (v:=.ref T.bU) (by rfl) T.gQ rfl) Za)))))))) Zy Zr) (exR rfl ⟨x,ad.dx,_,rfl,r6.obj,rfl,_,rfl,H0,F,x,tr,t,ad,st,ps,js,sg,k,nm,e,rfl,r6,ht,yv,s1.at hp,hm,fun H2 s2=>.inl ⟨rfl,_,rfl,Yz (fun y=>?_) (fun y=>?_)⟩⟩)
   ·have y:Xv k e (Ys st.2.1 nm) = "" :=V.str.inj (of_decide_eq_true y);have p0:=r6.mono s2;have tr2:=ht.mono p0.same;obtain ⟨py,C,hy,hC,hO⟩:=tr2.part yv hm;obtain ⟨U4,po,jo,so,si,kp,ks,kj,ko,h1,_⟩:=tr2.ex;refine (exR rfl ⟨x,_,ad.dx,_,_,rfl,p0.obj,T.ac,T.be,rfl,tr,U4,_,rfl,h1,rfl,_,rfl,(ixT (s2.at (s1.at hp)) 0 rfl ⟨tr,py,nm,rfl,hy,yv.name _ hm,fun H3 s3=>?_⟩)⟩);obtain ⟨ty,hty,hkt⟩:=hC.stop (Zde.mono s3 hO);refine ⟨_,_,_,ty,rfl,hty,.inr ⟨_,rfl,hkt⟩,_,rfl,?_⟩
    by_cases g:k = "gate" \/k = "stop"
    ·rw [decide_eq_true g];rw [if_neg fun e=>e.2 g] at q;exact Zau (WSs.last (Zp Zd) (q H3 (s1.trans (s2.trans s3))))
    ·rw [decide_eq_false g];rw [if_pos ⟨y,g⟩] at q;exact Zgn (WSs.last (Zp Zd) (q H3 (s1.trans (s2.trans s3))))
   ·have y:¬Xv k e (Ys st.2.1 nm) = "" :=fun e=>y (decide_eq_true (by rw [e]))
    rw [if_neg fun e=>y e.1] at q;exact WSs.last (Zp Zd) (q H2 (s1.trans s2))
theorem Zhm(T:Tx K mg){k:Nat}(h:4<=k:=by decide):Zu P w K mg base CX0 k T.aQ.f T.aQ.fd ["self", "spot"] (Zyv T):=(Zgq T).mono h
theorem Zo.offB{H:Hp}{l b:Addr}{ps:List Zc}{u o:HO}(h:Zo H l ps)(lb:l≠b)(hb:H b=some u)(nt:∀xs,u ≠ .tup xs):Zo (upd H b o) l ps:=by
 obtain ⟨ts,h1,h2⟩:=h;refine ⟨ts,by rw [Ze lb];exact h1,Paired.mapP h2 fun t p r=>?_⟩;unfold Zm at r ⊢;rw [Ze fun z=>by rw [z,hb] at r;cases r;exact nt _ rfl];exact r
theorem W5.offB{T:Tx K mg}{F:Addr->Prop}{H:Hp}{a b:Addr}{d:TrD}{u o:HO}(h:W5 T F H a d)(ab:a≠b)(fb:F b)(hb:H b=some u)(nt:∀xs,u ≠ .tup xs):W5 T F (upd H b o) a d:=by
 obtain ⟨dx,l,h1,h2,h3⟩:=h;exact ⟨dx,l,by rw [Ze ab];exact h1,h2.offB (fun z=>h3 (z ▸ fb)) hb nt,h3⟩
theorem W5.ins{T:Tx K mg}{F:Addr->Prop}{H:Hp}{a b:Addr}{d:TrD}{u:HO}(h:W5 T F H a d)(hb:H b=some u)(ni:∀C dx fs,u ≠ .ins C dx fs):a≠b:=fun z=>by
 obtain ⟨dx,l,h1,_⟩:=h;rw [z,hb] at h1;cases h1;exact ni _ _ _ rfl
theorem Zbg{F:Addr->Prop}{H:Hp}{c:Addr}{u:HO}(h:∀b,F b->∃o,H b=some o):∀b,F b->∃o,upd H c u b=some o:=fun b f=>by
 by_cases e:b=c
 ·exact ⟨u,by rw [e];exact Zf⟩
 ·obtain ⟨o,z⟩:=h b f;exact ⟨o,by rw [Ze e];exact z⟩
theorem WAt.lie{T:Tx K mg}{H0 H:Hp}{F:Addr->Prop}{x tr:Addr}{ad:WAd}{st:WSt}(h:WAt T H0 H F x tr ad st)(l':List (Str×Str)):WAt T H0 (upd H ad.ld (.dK (Wf l'))) F x tr ad (st.1,l',st.2.2):=by
 obtain ⟨ms,hm,_⟩:=id h.mis;have nt:∀xs,HO.dK (Wf st.2.1) ≠ .tup xs:=fun _ z=>nomatch z
 have xl:x≠ad.ld:=fun z=>h.nx (by rw [z];exact h.fl)
 exact ⟨by rw [Ze xl];exact h.obj,Zf,by rw [Ze h.ne.symm];exact h.trd,Paired.mapP h.trs fun a d r=>r.offB (r.ins h.lies fun _ _ _ z=>nomatch z) h.fl h.lies nt,h.mis.offB (fun z=>by rw [z] at hm;rw [h.lies] at hm;cases hm) h.lies nt,h.fl,h.ft,h.fm,h.ne,h.fa,h.nd,h.nx,h.free,fun b o e=>by rw [Ze (Zi e (h.free _ h.fl))];exact h.same.at e,Zbg h.live⟩
theorem WAt.mish{T:Tx K mg}{H0 H:Hp}{F:Addr->Prop}{x tr t:Addr}{ad:WAd}{st:WSt}{p:Zc}(h:WAt T H0 H F x tr ad st)(ht:Zm H t p):∃ts:List Addr,H ad.ml=some (.lst (ts.map V.ref))/\ts.length=st.2.2.length/\WAt T H0 (upd H ad.ml (.lst (ts.map V.ref++[V.ref t]))) F x tr ad (st.1,st.2.1,st.2.2++[p]):=by
 obtain ⟨ts,hm,hp⟩:=id h.mis;have nt:∀xs,HO.lst (ts.map V.ref) ≠ .tup xs:=fun _ z=>nomatch z
 have off:∀{b:Addr} {q:Zc},Zm H b q->Zm (upd H ad.ml (.lst (ts.map V.ref++[V.ref t]))) b q:=fun {b q} z=>by
  unfold Zm at z ⊢;rw [Ze fun y=>by rw [y,hm] at z;cases z];exact z
 have xm:x≠ad.ml:=fun z=>h.nx (by rw [z];exact h.fm)
 have lm:ad.ld≠ad.ml:=fun z=>by have:=h.lies;rw [z,hm] at this;cases this
 have tm:ad.td≠ad.ml:=fun z=>by have:=h.trd;rw [z,hm] at this;cases this
 exact ⟨ts,hm,Paired.length hp,by rw [Ze xm];exact h.obj,by rw [Ze lm];exact h.lies,by rw [Ze tm];exact h.trd,Paired.mapP h.trs fun a d r=>r.offB (r.ins hm fun _ _ _ z=>nomatch z) h.fm hm nt,⟨ts++[t],by rw [Zf,List.map_append];rfl,Paired.append (Paired.mapP hp fun _ _ r=>off r) (.cons (off ht) .nil)⟩,h.fl,h.ft,h.fm,h.ne,h.fa,h.nd,h.nx,h.free,fun b o e=>by rw [Ze (Zi e (h.free _ h.fm))];exact h.same.at e,Zbg h.live⟩
def Off(F:Addr->Prop)(H H':Hp):Prop:=∀b o,¬F b->H b=some o->H' b=some o
theorem Off.refl{F:Addr->Prop}{H:Hp}:Off F H H:=fun _ _ _ e=>e
theorem Zc6{F:Addr->Prop}{H H':Hp}(s:Same H H'):Off F H H':=fun _ _ _ e=>s.at e
theorem Off.trans{F:Addr->Prop}{H H1 H2:Hp}(a:Off F H H1)(b:Off F H1 H2):Off F H H2:=fun c o n e=>b c o n (a c o n e)
theorem Off.upd{F:Addr->Prop}{H:Hp}{b:Addr}{o:HO}(f:F b):Off F H (upd H b o):=fun c u n e=>by
 have cb:c≠b:=fun z=>n (by rw [z];exact f)
 rw [Ze cb];exact e
def Wd(ad:WAd)(b:Addr):Prop:=b=ad.ld\/b=ad.td\/b=ad.ml\/b∈ad.as
def Zpi(l:List (Str×Str))(n v:Str):List (Str×Str):=l.map fun p=>if p.1=n then (p.1,v) else p
theorem Ztf{l:List (Str×Str)}{n:Str}(h:n∈l.map Prod.fst):∃v,liQ l n=some v:=by
 unfold liQ;obtain ⟨p,hp,e⟩:=List.mem_map.mp h;cases z:l.find? fun p=>decide (p.1=n) with
 | none=>exact absurd (decide_eq_true e) (List.find?_eq_none.mp z p hp)
 | some q=>exact ⟨_,rfl⟩
theorem Zyb{l:List (Str×Str)}{n v:Str}(h:n∈l.map Prod.fst):Wg (Wf l) (Ym n) (.str v)=Wf (Zpi l n v):=by
 obtain ⟨p,hp,e⟩:=List.mem_map.mp h;have U5:((Wf l).any fun kv=>decide (kv.1=Ym n))=true:=List.any_eq_true.mpr ⟨(Ym p.1,.str p.2),List.mem_map.mpr ⟨p,hp,rfl⟩,decide_eq_true (by rw [e])⟩;unfold Wg;rw [if_pos U5];unfold Wf Zpi;rw [List.map_map,List.map_map];refine List.map_congr_left fun q _=>?_
 by_cases z:q.1=n
 ·show (if Ym q.1=Ym n then _ else _)=_;rw [if_pos (by rw [z])];simp [z]
 ·show (if Ym q.1=Ym n then _ else _)=_;rw [if_neg fun y=>z (Xq _ _ y)];simp [z]
def Zi5(st:WSt)(n v:Str):WSt:=(st.1,Zpi st.2.1 n v,if v≠Ys st.2.1 n/\n∈stood st.1 then st.2.2++[(("split",n):Zc)] else st.2.2)
def Zgm(T:Tx K mg):Sp:=fun vs H Q _=>∃(H0:Hp) (F:Addr->Prop) (x tr:Addr) (ad:WAd) (st:WSt) (ps:List Zc) (js:List (Zc×Zc)) (sg:List (Str×Str×Str)) (n v:Str),vs=[.ref x,.str n,.str v]/\WAt T H0 H F x tr ad st/\Ya T H0 tr ps js sg/\Y8 ps js sg/\(stood st.1).length<=400/\st.2.2.length<=400/\st.2.1.length<=400/\(("points",n):Zc)∈ps/\n∈st.2.1.map Prod.fst/\(v = "left" \/v = "right")/\∀H',Off (Wd ad) H H'->WAt T H0 H' F x tr ad (Zi5 st n v)->Q .non H'
theorem Zmk(T:Tx K mg):Zu P w K mg base CX0 6 T.aH.f T.aH.fd ["self", "points", "lie"] (Zgm T):=by
 refine T.aH.F.okW Zmv fun a8 A outer s H vs Q E hr h=>?_
 ·obtain ⟨H0,F,x,tr,ad,st,ps,js,sg,n,v,rfl,hw,ht,yv,hz,hy,hl,hm,hn,hv,q⟩:=h;intro X;refine WSs.step (Yj (Zs (Zo4 T) hr rfl T.fo T.bH.F.kp T.bH.b .nil Zk (Zb (Ye (pv 0) rfl) (Zb (pv 1) (Zb (pv 2) Za))))) (exR rfl ⟨x,_,ad.dx,_,_,rfl,hw.obj,T.ac,T.be,rfl,_,rfl,_,rfl,tr,n,v,ps,js,sg,rfl,ht.mono hw.same,yv,hm,hv,fun H1 s1=>?_⟩);have r6:=hw.mono s1;obtain ⟨l0,Q1⟩:∃l0,liQ st.2.1 n=some l0:=Ztf hn;have hlo:Ys st.2.1 n=l0:=by unfold Ys;rw [Q1];rfl
  have F7:Y6 (Wf st.2.1) (Ym n)=some (.str l0):=by rw [Zkc,Q1];rfl
  let I21:=fun (σ:St) (H2:Hp)=>σ=[some (.ref x),some (.str n),some (.str v)]/\Off (Wd ad) H1 H2/\WAt T H0 H2 F x tr ad (st.1,st.2.1,(Zi5 st n v).2.2)
  refine WSs.cut I21 ?_ ?_
  ·refine WS.of (Z9 (PW.pt (Zfk (Zq (r:=Zcm K) (Zdp hr) (pv 2) (Xz (Xc hr) (Ye (pv 0) rfl) (pv 1) (fun _ _=>rfl)) (Zw _)) (Zcp (Xh (Xz (Xc hr) (Xb (pv 0) T.ac T.cU (Zc3 T) hr T.ba.b .nil Zk) (pv 1) (fun _ _=>rfl)))))) Zy Zr) (exR rfl (exR rfl ⟨x,_,ad.dx,_,_,rfl,r6.obj,T.ac,T.cO,rfl,_,rfl,ad.ld,_,rfl,by rw [<-F7];exact Wa.k (k:=Ym n) r6.lies,.inl ⟨rfl,_,rfl,Yz (fun z=>?_) (fun z=>?_)⟩⟩))
   ·have z:v≠l0:=by simpa using z
    refine (exR rfl ⟨x,ad.dx,_,rfl,r6.obj,rfl,H0,F,x,tr,ad,st,ps,js,sg,rfl,r6,ht,yv,hz,fun ss D kvs H2 hss hT s2 n2 e2=>(exR rfl ⟨D,_,rfl,by rw [<-Zsc hT hss hm];exact Wa.k (k:=Ym n) e2,_,rfl,Yz (fun y=>?_) (fun y=>?_)⟩)⟩)
    ·have y:n∈stood st.1:=of_decide_eq_true y;have p0:=r6.mono s2;refine WSs.last (Yj (Zbw PySem.F.plainAttrs_list PySem.F.slot_list_append PySem.F.type_list_append Xa (Ye (pv 0) rfl) (Zb (Zj (Zb Zd (Zb (pv 1) Za))) Za))) (exR rfl ⟨x,_,ad.dx,_,_,rfl,p0.obj,T.ac,T.cw,rfl,.inl ⟨rfl,_,SqL.of p0.mis.choose_spec.1⟩,_,rfl,szA,fun t H3 s3 n3 e3=>?_⟩);have j0:=p0.mono s3;obtain ⟨ts,d4,d5,u8⟩:=j0.mish (show Zm H3 t ("split",n) from e3);refine ⟨ad.ml,_,_,rfl,rfl,d4,by rw [List.length_map];exact Zx (by lia),rfl,((Zc6 s2).trans (Zc6 s3)).trans (Off.upd (.inr (.inr (.inl rfl)))),?_⟩;unfold Zi5;rw [hlo,if_pos ⟨z,y⟩];exact u8
    ·have y:n∉stood st.1:=fun e=>y (decide_eq_true e)
     refine ⟨rfl,(Zc6 s2),?_⟩;unfold Zi5;rw [if_neg fun e=>y e.2];exact r6.mono s2
   ·have z:v=l0:=by simpa using z
    refine ⟨rfl,Off.refl,?_⟩;unfold Zi5;rw [hlo,if_neg fun e=>e.1 z];exact r6
  ·rintro σ H2 ⟨rfl,o2,p0⟩;refine WSs.last (Zad (Xc hr) (Ye (pv 0) rfl) (pv 1) (pv 2) rfl) (exR rfl (exR rfl ⟨x,_,ad.dx,_,_,rfl,p0.obj,T.ac,T.cO,rfl,_,rfl,ad.ld,_,rfl,Zfe.k (k:=Ym n) p0.lies (Zx (by unfold Wf;rw [List.length_map];show st.2.1.length<=1000;lia)),?_⟩));show Q .non (upd H2 ad.ld (.dK (Wg (Wf st.2.1) (Ym n) (.str v))));rw [Zyb hn];exact q _ (((Zc6 s1).trans o2).trans (Off.upd (.inl rfl))) (p0.lie _)
theorem Wt(T:Tx K mg){k:Nat}(h:6<=k:=by decide):Zu P w K mg base CX0 k T.aH.f T.aH.fd ["self", "points", "lie"] (Zgm T):=(Zmk T).mono h
def Zn3(st:WSt)(nm:Str)(n:Nat)(g:Str):WSt:=if g∈stood st.1 then (st.1,st.2.1,st.2.2++[(("crash",g):Zc)]) else (st.1++[(nm,n,[((g, ""):Zc)])],st.2.1,st.2.2)
theorem W5.more{T:Tx K mg}{F F':Addr->Prop}{H:Hp}{a:Addr}{d:TrD}(h:W5 T F H a d)(m:∀b,F' b->F b\/H b=none):W5 T F' H a d:=by
 obtain ⟨dx,l,h1,⟨ts,h2,h3⟩,h4⟩:=h;exact ⟨dx,l,h1,⟨ts,h2,h3⟩,fun z=>(m l z).elim h4 fun y=>by rw [y] at h2;cases h2⟩
theorem Zp0{as:List Addr}{ts:List TrD}{nm:Str}(h:as.length=ts.length)(n:nm∉ts.map Prod.fst):Y6 (trK as ts) (Ym nm)=none:=by
 cases z:Y6 (trK as ts) (Ym nm) with
 | none=>rfl
 | some v =>
  have:((trK as ts).find? fun kv=>decide (kv.1=Ym nm)).isSome:=by
   unfold Y6 at z;cases y:(trK as ts).find? fun kv=>decide (kv.1=Ym nm) with
   | none=>rw [y] at z;cases z
   | some _=>rfl
  obtain ⟨kv,hm,e⟩:=List.find?_isSome.mp this;have hk:kv.1∈(trK as ts).map Prod.fst:=List.mem_map.mpr ⟨kv,hm,rfl⟩;rw [Zhx h] at hk;obtain ⟨d,hd,e2⟩:=List.mem_map.mp hk;exact absurd (List.mem_map.mpr ⟨d,hd,Xq _ _ (e2.trans (of_decide_eq_true e))⟩) n
theorem Zti{as:List Addr}{ts:List TrD}{nm:Str}{a:Addr}{d:Nat×List Zc}(h:as.length=ts.length)(n:nm∉ts.map Prod.fst):Wg (trK as ts) (Ym nm) (.ref a)=trK (as++[a]) (ts++[(nm,d)]):=by
 unfold Wg;rw [Zb3,Zp0 h n];unfold trK;rw [List.zip_append h,List.map_append]
 rfl
def Zg4(T:Tx K mg):Sp:=fun vs H Q _=>∃(H0:Hp) (F:Addr->Prop) (x tr:Addr) (ad:WAd) (st:WSt) (ps:List Zc) (js:List (Zc×Zc)) (sg:List (Str×Str×Str)) (nm g:Str) (n:Nat),vs=[.ref x,.str nm,.int (n:Int),.str g]/\WAt T H0 H F x tr ad st/\Ya T H0 tr ps js sg/\Y8 ps js sg/\(stood st.1).length<=400/\st.2.2.length<=400/\st.1.length<=400/\X9 nm/\nm∉st.1.map Prod.fst/\(("gate",g):Zc)∈ps/\1<=n/\n<=4 /\
 ∀(H':Hp) (F':Addr->Prop) (V9:WAd),(∀b,F b->F' b)->(∀b,F' b->F b\/H b=none)->(∀b,Wd V9 b->Wd ad b\/H b=none)->Off (Wd ad) H H'->WAt T H0 H' F' x tr V9 (Zn3 st nm n g)->Q .non H'
theorem Zm6(T:Tx K mg):Zu P w K mg base CX0 5 T.aR.f T.aR.fd ["self", "name", "long", "gate"] (Zg4 T):=by
 refine T.aR.F.okW Zmb fun a8 A outer s H vs Q E hr h=>?_
 ·obtain ⟨H0,F,x,tr,ad,st,ps,js,sg,nm,g,n,rfl,hw,ht,yv,hz,hy,hl,C7,i7,hg,h1,h4,q⟩:=h;intro X;have d5:=Paired.length hw.trs;refine WSs.step (Yj (Zs (Zcx T) hr rfl T.cT T.aA.F.kp T.aA.b .nil Zk (Zb (pv 1) (Zb (Ye (pv 0) rfl) Za)))) (exR rfl (exR rfl ⟨x,_,ad.dx,_,_,rfl,hw.obj,T.ac,T.bG,rfl,nm,ad.td,_,rfl,C7,hw.trd,Zp0 d5 i7,fun H1 s1=>?_⟩));have r6:=hw.mono s1;refine WSs.step (Yj (Zs (Zm0 T) hr rfl T.eP T.bv.F.kp T.bv.b .nil Zk (Zb (Ye (pv 0) rfl) (Zb (pv 3) Za)))) (exR rfl ⟨x,_,ad.dx,_,_,rfl,r6.obj,T.ac,T.be,rfl,_,rfl,tr,g,ps,js,sg,rfl,ht.mono r6.same,yv,hg,fun H2 s2=>?_⟩);have p0:=r6.mono s2;refine WSs.step (Yj (Zs (Zjl T) hr rfl T.dO T.aX.F.kp T.aX.b .nil Zk (Zb (pv 2) Za))) (exR rfl ⟨n,rfl,h1,h4,?_⟩);refine WSs.last (Z9 (Xh (Xz (Xc hr) (Xb (pv 0) T.ac T.cU (Zc3 T) hr T.ba.b .nil Zk) (pv 3) (fun _ _=>rfl))) Zy Zy) (exR rfl ⟨x,ad.dx,_,rfl,p0.obj,rfl,H0,F,x,tr,ad,st,ps,js,sg,rfl,p0,ht,yv,hz,fun ss D kvs H3 hss hT s3 n3 e3=>(exR rfl ⟨D,_,rfl,by rw [<-Zsc hT hss hg];exact Wa.k (k:=Ym g) e3,_,rfl,Yz (fun y=>?_) (fun y=>?_)⟩)⟩)
  ·have y:g∈stood st.1:=of_decide_eq_true y;have j0:=p0.mono s3;refine WSs.last (Yj (Zbw PySem.F.plainAttrs_list PySem.F.slot_list_append PySem.F.type_list_append Xa (Ye (pv 0) rfl) (Zb (Zj (Zb Zd (Zb (pv 3) Za))) Za))) (exR rfl ⟨x,_,ad.dx,_,_,rfl,j0.obj,T.ac,T.cw,rfl,.inl ⟨rfl,_,SqL.of j0.mis.choose_spec.1⟩,_,rfl,szA,fun t H4 s4 n4 e4=>?_⟩);obtain ⟨ts,d4,hln,E4⟩:=(j0.mono s4).mish (show Zm H4 t ("crash",g) from e4);refine ⟨ad.ml,_,_,rfl,rfl,d4,by rw [List.length_map];exact Zx (by lia),q _ F ad (fun _ z=>z) (fun _ z=>.inl z) (fun _ z=>.inl z) ((Zc6 (s1.trans (s2.trans (s3.trans s4)))).trans (Off.upd (.inr (.inr (.inl rfl))))) ?_⟩;unfold Zn3;rw [if_pos y];exact E4
  ·have y:g∉stood st.1:=fun e=>y (decide_eq_true e)
   have j0:=p0.mono s3;refine WSs.last (Zad (Xc hr) (Ye (pv 0) rfl) (pv 1) (Y0 (Zle T) T.gG (Zds T) hr rfl T.gK T.aL.b .nil Zk (Zqx T) (Zb (pv 1) (Zb (pv 2) (Zb (pv 3) Za)))) rfl) (exR rfl (exR rfl (exR rfl ⟨nm,n,g,rfl,fun a dx l H4 s4 na nl la ea el=>(exR rfl ⟨x,_,ad.dx,_,_,rfl,s4.at j0.obj,T.ac,T.bG,rfl,_,rfl,ad.td,_,rfl,Zfe.k (k:=Ym nm) (s4.at j0.trd) ?_,?_⟩)⟩)))
   ·unfold trK;rw [List.length_map,List.length_zip];exact Zx (by lia)
   ·rw [Zti (d:=(n,[((g, ""):Zc)])) d5 i7];have j5:=s1.trans (s2.trans s3);have u8:=j0.mono s4;have xt:x≠ad.td:=fun z=>hw.nx (by rw [z];exact hw.ft)
    have P9:a≠ad.td:=fun z=>by rw [z,j0.trd] at na;cases na
    have lt:l≠ad.td:=fun z=>by rw [z,j0.trd] at nl;cases nl
    have mt:ad.ml≠ad.td:=fun z=>by
     obtain ⟨ts,hm,_⟩:=hw.mis;rw [z,hw.trd] at hm;cases hm
    have nt:∀xs,HO.dK (trK ad.as st.1) ≠ .tup xs:=fun _ z=>nomatch z
    have nF:∀b,H3 b=none->¬F b:=fun b z f=>by
     obtain ⟨o,y⟩:=j0.live b f;rw [z] at y;cases y
    have more:∀b,(F b\/b=a)->F b\/H3 b=none:=fun b z=>z.imp id fun e=>by rw [e];exact na
    refine q _ (fun b=>F b\/b=a) ⟨ad.dx,ad.ld,ad.td,ad.ml,ad.as++[a]⟩ (fun _ z=>.inl z) (fun b z=>z.imp id fun e=>by rw [e];exact j5.free na) (fun b z=>by
     rcases z with z|z|z|z
     ·exact .inl (.inl z)
     ·exact .inl (.inr (.inl z))
     ·exact .inl (.inr (.inr (.inl z)))
     ·rcases List.mem_append.mp z with z|z
      ·exact .inl (.inr (.inr (.inr z)))
      ·exact .inr (by rw [List.mem_singleton.mp z];exact j5.free na)) ((Zc6 (j5.trans s4)).trans (Off.upd (.inr (.inl rfl)))) ?_
    unfold Zn3;rw [if_neg y];refine ⟨by rw [Ze xt];exact u8.obj,by rw [Ze hw.ne];exact u8.lies,Zf,?_,u8.mis.offB mt u8.trd nt,.inl hw.fl,.inl hw.ft,.inl hw.fm,hw.ne,?_,?_,?_,?_,?_,?_⟩
    ·refine Paired.append (Paired.mapP j0.trs fun a' d r=>((r.more more).mono s4).offB (r.ins j0.trd fun _ _ _ z=>nomatch z) (.inl hw.ft) u8.trd nt) (.cons ⟨dx,l,by rw [Ze P9];exact ea,el.offB lt u8.trd nt,?_⟩ .nil);rintro (z|z)
     ·exact nF l nl z
     ·exact la z
    ·intro b hb;rcases List.mem_append.mp hb with z|z
     ·exact .inl (hw.fa b z)
     ·exact .inr (List.mem_singleton.mp z)
    ·refine List.nodup_append.mpr ⟨hw.nd,List.pairwise_singleton _ _,fun b hb c hc e=>?_⟩;rw [e,List.mem_singleton.mp hc] at hb;exact nF a na (hw.fa a hb)
    ·rintro (z|z)
     ·exact hw.nx z
     ·rw [<-z,j0.obj] at na;cases na
    ·rintro b (z|z)
     ·exact hw.free b z
     ·rw [z];exact j0.same.free na
    ·intro b o e;rw [Ze (Zi e (hw.free _ hw.ft))];exact u8.same.at e
    ·refine Zbg fun b f=>?_
     rcases f with f|f
     ·exact u8.live b f
     ·exact ⟨_,by rw [f];exact ea⟩
theorem Zai(T:Tx K mg){k:Nat}(h:5<=k:=by decide):Zu P w K mg base CX0 k T.aR.f T.aR.fd ["self", "name", "long", "gate"] (Zg4 T):=(Zm6 T).mono h
def Zhd(n:Nat)(l:List Zc):List Zc:=l.drop (l.length-n)
theorem Zqu(xs:List V)(n:Nat)(h:1<=n):Zgs xs (some (-(n:Int))) none=xs.drop (xs.length-n):=by
 unfold Zgs;rw [HT.sIx_none];have:HT.sIx xs.length 0 (some (-(n:Int)))=xs.length-n:=by
  show (if (-(n:Int))<0 then (-(n:Int)+(xs.length:Int)).toNat else _)=_;rw [if_pos (by lia)];lia
 rw [this,List.take_of_length_le (by rw [List.length_drop];exact Nat.le_refl _)]
def Y3(st:WSt)(i:Nat)(d:TrD)(k nm e:Str):Str×WSt:=if Xw st k nm e ≠ "" then (Xw st k nm e,(st.1,st.2.1,st.2.2++[((Xw st k nm e,nm):Zc)])) else ("went",(st.1.set i (d.1,d.2.1,Zhd d.2.1 (d.2.2++[(nm,e)])),st.2.1,st.2.2))
theorem Zrq{α β:Type}{R R':α->β->Prop}{as:List α}{ts:List β}{i:Nat}{a:α}{d:β}(h:Paired R as ts)(nd:as.Nodup)(ha:as[i]? =some a)(hn:R' a d)(ho:∀b c,b≠a->R b c->R' b c):Paired R' as (ts.set i d):=by
 induction h generalizing i with
 | nil=>cases ha
 | cons r t ih =>
  rw [List.nodup_cons] at nd;cases i with
  | zero =>
   cases ha;refine .cons hn ?_;clear ih r
   induction t with
   | nil=>exact .nil
   | cons r2 t2 ih2 =>
    rw [List.mem_cons,not_or,List.nodup_cons] at nd;exact .cons (ho _ _ (fun z=>nd.1.1 z.symm) r2) (ih2 ⟨nd.1.2,nd.2.2⟩)
  | succ i =>
   rw [List.getElem?_cons_succ] at ha;have hm:=List.mem_of_getElem? ha;exact .cons (ho _ _ (fun z=>nd.1 (by rw [z];exact hm)) r) (ih nd.2 ha)
theorem Zxh{as:List Addr}{ts:List TrD}{i:Nat}{d d':TrD}(hd:ts[i]? =some d)(e:d'.1=d.1):trK as (ts.set i d')=trK as ts:=by
 unfold trK
 induction as generalizing ts i with
 | nil=>rfl
 | cons a r ih=>cases ts with
  | nil=>rfl
  | cons c t=>cases i with
   | zero=>cases hd;simp [e]
   | succ i =>
    rw [List.set_cons_succ,List.zip_cons_cons,List.zip_cons_cons,List.map_cons,List.map_cons];exact congrArg _ (ih (ts:=t) (i:=i) hd)
theorem WAt.train{T:Tx K mg}{H0 H:Hp}{F:Addr->Prop}{x tr a l dx l0:Addr}{ad:WAd}{st:WSt}{i:Nat}{d:TrD}{sp:List Zc}(h:WAt T H0 H F x tr ad st)(ha:ad.as[i]? =some a)(hd:st.1[i]? =some d) (ho:H a=some (.ins T.cJ dx [("name",.str d.1),("long",.int (d.2.1:Int)),("stands",.ref l0)])) (hl:Zo H l sp) (nl:¬F l):WAt T H0 (upd H a (.ins T.cJ dx [("name",.str d.1),("long",.int (d.2.1:Int)),("stands",.ref l)])) F x tr ad (st.1.set i (d.1,d.2.1,sp),st.2.1,st.2.2):=by
 have fa:F a:=h.fa a (List.mem_of_getElem? ha);have xa:x≠a:=fun z=>h.nx (by rw [z];exact fa)
 have la:ad.ld≠a:=fun z=>by rw [<-z,h.lies] at ho;cases ho
 have ta:ad.td≠a:=fun z=>by rw [<-z,h.trd] at ho;cases ho
 have ma:ad.ml≠a:=fun z=>by
  obtain ⟨ts,hm,_⟩:=h.mis;rw [<-z,hm] at ho;cases ho
 have nt:∀xs,HO.ins T.cJ dx [("name",.str d.1),("long",.int (d.2.1:Int)),("stands",.ref l0)] ≠ .tup xs:=fun _ z=>nomatch z
 have lna:l≠a:=fun z=>nl (by rw [z];exact fa)
 refine ⟨by rw [Ze xa];exact h.obj,by rw [Ze la];exact h.lies,?_,Zrq h.trs h.nd ha ⟨dx,l,Zf,hl.offB lna ho nt,nl⟩ fun b c n r=>r.offB n fa ho nt,h.mis.offB ma ho nt,h.fl,h.ft,h.fm,h.ne,h.fa,h.nd,h.nx,h.free,fun b o e=>?_,Zbg h.live⟩
 ·rw [Ze ta,Zxh hd (d':=(d.1,d.2.1,sp)) rfl];exact h.trd
 ·rw [Ze (Zi e (h.free _ fa))];exact h.same.at e
def Zsp(T:Tx K mg):Sp:=fun vs H Q _=>∃(H0:Hp) (F:Addr->Prop) (x tr a t:Addr) (ad:WAd) (st:WSt) (ps:List Zc) (js:List (Zc×Zc)) (sg:List (Str×Str×Str)) (i:Nat) (d:TrD) (k nm e:Str),vs=[.ref x,.ref a,.ref t]/\WAt T H0 H F x tr ad st/\Ya T H0 tr ps js sg/\Y8 ps js sg/\(stood st.1).length<=400/\st.2.2.length<=400/\ad.as[i]? =some a/\st.1[i]? =some d/\1<=d.2.1/\d.2.2.length<=100/\Zm H t (nm,e)/\((k,nm):Zc)∈ps /\
 ∀H',Off (Wd ad) H H'->WAt T H0 H' F x tr ad (Y3 st i d k nm e).2->Q (.str (Y3 st i d k nm e).1) H'
theorem Zmu(T:Tx K mg):Zu P w K mg base CX0 5 T.bI.f T.bI.fd ["self", "train", "spot"] (Zsp T):=by
 refine T.bI.F.okW Zf9 fun a8 A outer s H vs Q E hr h=>?_
 ·obtain ⟨H0,F,x,tr,a,t,ad,st,ps,js,sg,i,d,k,nm,e,rfl,hw,ht,yv,hz,hy,ha,hd,h1,U6,hp,hm,q⟩:=h;intro X;refine WSs.step (Z0 (i:=3) Zf9.nd (Z1 (pv 0) T.ac T.dz (Zhm T) hr T.aQ.b .nil Zk (Zb (pv 2) Za))) (exR rfl ⟨x,ad.dx,_,rfl,hw.obj,rfl,_,rfl,H0,F,x,tr,t,ad,st,ps,js,sg,k,nm,e,rfl,hw,ht,yv,hz,hp,hm,fun H1 s1=>?_⟩);have r6:=hw.mono s1;unfold Y3 at q;refine WSs.step (Z9 (Zq (r:=Zcm K) (Zdp hr) (pv 3) Zd (Zw _)) Zy Zr) (exR rfl (.inl ⟨rfl,_,rfl,Yz (fun z=>?_) (fun z=>?_)⟩))
  ·have z:Xw st k nm e ≠ "" :=by simpa using z
   rw [if_pos z] at q;refine WSs.step (Yj (Zbw PySem.F.plainAttrs_list PySem.F.slot_list_append PySem.F.type_list_append Xa (Ye (pv 0) rfl) (Zb (Zj (Zb (pv 3) (Zb (Zv (K:=K) rfl (pv 2) Zg) Za))) Za))) (exR rfl ⟨x,_,ad.dx,_,_,rfl,r6.obj,T.ac,T.cw,rfl,.inl ⟨rfl,_,SqL.of r6.mis.choose_spec.1⟩,_,rfl,_,rfl,(ixT (s1.at hp) 0 rfl ⟨szA,fun t2 H2 s2 n2 e2=>?_⟩)⟩);obtain ⟨ts,d4,hln,j0⟩:=(r6.mono s2).mish (show Zm H2 t2 (Xw st k nm e,nm) from e2);refine ⟨ad.ml,_,_,rfl,rfl,d4,by rw [List.length_map];exact Zx (by lia),?_⟩;exact WSs.last (Zp (pv 3)) (exR rfl (q _ ((Zc6 (s1.trans s2)).trans (Off.upd (.inr (.inr (.inl rfl))))) j0))
  ·have z:¬Xw st k nm e ≠ "" :=by simpa using z
   rw [if_neg z] at q;obtain ⟨a',R3,dx,l0,ho,⟨ts,Q1,d4⟩,nF⟩:=Paired.getL r6.trs hd;rw [ha] at R3;cases R3;have d5:=Paired.length d4;refine WSs.step (Zas (pv 1) (Wh (r:=Zib K) Zjt (Zt We (Ye (pv 1) rfl) (Zl (Zb (pv 2) Za))) (Wr (Zpu Zkn (Ye (pv 1) rfl))) W6) rfl) (exR rfl ⟨a,_,dx,_,_,rfl,ho,T.bZ,T.bd,rfl,_,rfl,szA,fun l1 H2 s2 n2 e2=>.inr (.inr ⟨l0,l1,_,_,rfl,rfl,s2.at Q1,e2,by rw [List.length_map];exact sz (by simp;lia),fun l2 H3 s3 n3 e3=>(exR rfl ⟨a,_,dx,_,_,rfl,s3.at (s2.at ho),T.bZ,T.cZ,rfl,_,rfl,_,rfl,.inr (.inl ⟨l2,_,rfl,SqL.of e3,fun l3 H4 s4 n4 e4=>(exR rfl ⟨a,_,dx,[("name",.str d.1),("long",.int (d.2.1:Int)),("stands",.ref l0)],rfl,s4.at (s3.at (s2.at ho)),T.bZ,T.bd,by simp,?_⟩)⟩)⟩)⟩)⟩);have s24:=s2.trans (s3.trans s4);have u8:=r6.mono s24;have A7:Zm H4 t (nm,e):=(s1.trans s24).at hp;have m8:Paired (Zm H4) (ts++[t]) (d.2.2++[(nm,e)]):=Paired.append (Paired.mapP d4 fun _ _ r=>r.mono s24) (.cons A7 .nil);have e4':H4 l3=some (.lst (((ts++[t]).drop ((d.2.2++[(nm,e)]).length-d.2.1)).map V.ref)):=by
    rw [e4,show ts.map V.ref++[V.ref t]=(ts++[t]).map V.ref by rw [List.map_append];rfl,Zqu _ _ h1,List.map_drop,List.length_map,Paired.length m8]
   have nl3:¬F l3:=fun f=>by
    obtain ⟨o,y⟩:=(r6.mono (s2.trans s3)).live l3 f;rw [n4] at y;cases y
   have E4:=u8.train ha hd (s24.at ho) ⟨_,e4',Zfq _ m8⟩ nl3;exact WSs.last (Zp Zd) (q _ ((Zc6 (s1.trans s24)).trans (Off.upd (.inr (.inr (.inr (List.mem_of_getElem? ha)))))) E4)
theorem Zhr(T:Tx K mg){k:Nat}(h:5<=k:=by decide):Zu P w K mg base CX0 k T.bI.f T.bI.fd ["self", "train", "spot"] (Zsp T):=(Zmu T).mono h
def Ybr(st:WSt)(kd:Str->Str)(p:Zc):Zc:=(p.1,Xv (kd p.1) p.2 (Ys st.2.1 p.1))
def Zv2(st:WSt)(i:Nat)(d:TrD)(kd:Str->Str):WSt:=(st.1.set i (d.1,d.2.1,d.2.2.reverse.map (Ybr st kd)),st.2.1,st.2.2)
def Zdw(T:Tx K mg):Sp:=fun vs H Q _=>∃(H0:Hp) (F:Addr->Prop) (x tr:Addr) (ad:WAd) (st:WSt) (ps:List Zc) (js:List (Zc×Zc)) (sg:List (Str×Str×Str)) (i:Nat) (d:TrD) (kd:Str->Str),vs=[.ref x,.str d.1]/\WAt T H0 H F x tr ad st/\Ya T H0 tr ps js sg/\Y8 ps js sg/\st.1.length<64/\(st.1.map Prod.fst).Nodup/\st.1[i]? =some d/\d.2.2.length<=100/\(∀p∈d.2.2,((kd p.1,p.1):Zc)∈ps) /\
 ∀H',Off (Wd ad) H H'->WAt T H0 H' F x tr ad (Zv2 st i d kd)->Q .non H'
theorem Zk0(T:Tx K mg):Zu P w K mg base CX0 4 T.bO.f T.bO.fd ["self", "name"] (Zdw T):=by
 refine T.bO.F.okW Zfi fun a8 A outer s H vs Q E hr h=>?_
 ·obtain ⟨H0,F,x,tr,ad,st,ps,js,sg,i,d,kd,rfl,hw,ht,yv,hl,nd,hd,U6,hk,q⟩:=h;intro X;obtain ⟨a,ha,dx,l0,ho,⟨ts,Q1,d4⟩,nF⟩:=Paired.getL hw.trs hd;have d5:=Paired.length d4;refine WSs.step (Z0 (i:=2) Zfi.nd (Z1 (pv 0) T.ac T.cy (Wz T) hr T.aq.b .nil Zk (Zb (pv 1) Za))) (exR rfl ⟨x,ad.dx,_,rfl,hw.obj,rfl,_,rfl,H0,F,x,tr,ad,st,i,a,d,rfl,hw,hl,nd,ha,hd,fun H1 s1=>?_⟩);have r6:=hw.mono s1;refine WSs.last (Zas (pv 2) (X4 (N':=["spot", "self"]) rfl (Yc.std 1 [0] rfl (by trivial) (by trivial) rfl ⟨rfl,trivial⟩ rfl rfl ⟨(exR rfl ⟨rfl,rfl⟩),trivial⟩) (Yal rfl T.gu (Zb (Ye (pv 2) rfl) Za)) (fun _ _ _ _=>(Za4 (i:=0) (by show (["spot", "self"]:List Str).Nodup;decide +kernel))) (fun _ _ _ _=>Zbk) (fun _ _ _ _=>(Zj (Zb (Zv (K:=K) rfl (pv 0) Zg) (Zb (Z1 (pv 1) T.ac T.cS (Zcl T) hr T.aP.b .nil Zk (Zb (pv 0) Za)) Za))))) rfl) (exR rfl ⟨a,_,dx,_,_,rfl,s1.at ho,T.bZ,T.bd,rfl,l0,_,rfl,SqL.of (s1.at Q1),fun D hD=>Zw0 (K:=K) (xs:=ts.map V.ref) (fun j ys H'=>(∃us:List Addr,ys=us.map V.ref/\Paired (Zm H') us ((d.2.2.reverse.take j).map (Ybr st kd)))/\H' D=some (.lst ys)/\Same H1 H') ⟨⟨[],rfl,.nil⟩,Zf,Same.new hD⟩ ?_ ?_ ?_⟩)
  ·rintro j ys H' _ ⟨_,_,sm⟩;exact SqL.of (sm.at (s1.at Q1))
  ·rintro j v ys H2 hj ⟨⟨us,rfl,k9⟩,v5,s2⟩;rw [<-List.map_reverse,List.getElem?_map] at hj;obtain ⟨t,K0,rfl⟩:=Option.map_eq_some_iff.mp hj;obtain ⟨⟨pn,pe⟩,hq,A7⟩:=Paired.get (Zrb d4) K0;have T9:=Paired.length k9;rw [List.length_map,List.length_take,List.length_reverse] at T9;have p0:=r6.mono s2;have hpm:((kd pn,pn):Zc)∈ps:=hk (pn,pe) (List.mem_reverse.mp (List.mem_of_getElem? hq));refine ⟨W3.set rfl,_,rfl,(ixT (s2.at (s1.at A7)) 0 rfl ⟨_,rfl,x,ad.dx,_,rfl,p0.obj,rfl,_,rfl,H0,F,x,tr,t,ad,st,ps,js,sg,kd pn,pn,pe,rfl,p0,ht,yv,s2.at (s1.at A7),hpm,fun H3 s3=>⟨szA,fun t2 H4 s4 n4 e4=>⟨(s3.trans s4).at v5,by rw [List.length_map];exact Zx (by lia),⟨us++[t2],by rw [List.map_append];rfl,?_⟩,Zf,fun b o z=>?_⟩⟩⟩)⟩
   ·rw [List.take_add_one,hq,List.map_append];have Q0:=(s3.trans s4).at v5;have off:∀{b:Addr} {p:Zc},Zm H4 b p->Zm (upd H4 D (.lst (us.map V.ref++[V.ref t2]))) b p:=fun {b p} z=>by
     unfold Zm at z ⊢;rw [Ze fun y=>by rw [y,Q0] at z;cases z];exact z
    exact Paired.append (Paired.mapP k9 fun _ _ r=>off (r.mono (s3.trans s4))) (.cons (off e4) .nil)
   ·rw [Ze (Zi z hD)];exact (s3.trans s4).at (s2.at z)
  ·rintro ys H2 ⟨⟨us,rfl,k9⟩,v5,s2⟩;rw [List.length_map,d5,<-List.length_reverse,List.take_length] at k9;refine (exR rfl ⟨a,_,dx,[("name",.str d.1),("long",.int (d.2.1:Int)),("stands",.ref l0)],rfl,s2.at (s1.at ho),T.bZ,T.bd,by simp,?_⟩);have nD:¬F D:=fun f=>by
    obtain ⟨o,y⟩:=r6.live D f;rw [hD] at y;cases y
   exact q _ ((Zc6 (s1.trans s2)).trans (Off.upd (.inr (.inr (.inr (List.mem_of_getElem? ha)))))) ((r6.mono s2).train ha hd (s2.at (s1.at ho)) ⟨us,v5,k9⟩ nD)
theorem Zmg(T:Tx K mg){k:Nat}(h:4<=k:=by decide):Zu P w K mg base CX0 k T.bO.f T.bO.fd ["self", "name"] (Zdw T):=(Zk0 T).mono h
theorem Zpv:¬X9 "" :=fun z=>absurd z.1 (by trivial)
theorem Znf{α β:Type}{R:α->β->Prop}{l:List α}{m:List β}{b:β}(h:Paired R l (m++[b])):∃l0 a,l=l0++[a]/\R a b:=by
 induction m generalizing l with
 | nil =>
  cases h with
  | cons r t=>cases t;exact ⟨[],_,rfl,r⟩
 | cons c m ih =>
  cases h with
  | cons r t =>
   obtain ⟨l0,a,e,ra⟩:=ih t;exact ⟨_ ::l0,a,by rw [e];rfl,ra⟩
theorem Zni(k e lie:Str) (h:Xv k e lie ≠ ""):Xv k e lie∈Yw k:=by
 unfold Xv at h ⊢
 by_cases hl:lie∈Zco k
 ·rw [if_pos hl] at h ⊢;unfold Zif Yw at *;unfold Zco at hl
  by_cases h1:k = "points"
  ·rw [if_pos h1] at hl h ⊢;rw [if_pos h1];simp only [Zcn] at h ⊢;simp only [List.mem_cons,List.not_mem_nil,or_false] at hl;split
   ·rcases hl with rfl|rfl <;>simp
   ·split
    ·simp
    ·rename_i a b;rw [if_neg a,if_neg b] at h;exact absurd rfl h
  ·rw [if_neg h1] at h ⊢;rw [if_neg h1]
   by_cases h2:k = "cross"
   ·rw [if_pos h2] at h ⊢;rw [if_pos h2];simp only [Zcn] at h ⊢
    repeat' split
    all_goals first | simp | skip
    all_goals simp_all
   ·rw [if_neg h2] at h ⊢;rw [if_neg h2]
    by_cases h3:k = "plain"
    ·rw [if_pos h3] at h ⊢;rw [if_pos h3];simp only [Zcn] at h ⊢
     repeat' split
     all_goals first | simp | skip
     all_goals simp_all
    ·rw [if_neg h3] at h ⊢;rw [if_neg h3];simp only [Zcn] at h ⊢
     repeat' split
     all_goals first | simp | skip
     all_goals simp_all
 ·rw [if_neg hl] at h;exact absurd rfl h
theorem Zxj{js:List (Zc×Zc)}{a b:Zc}(h:(a,b)∈qJ js):(b,a)∈qJ js:=by
 unfold qJ at h ⊢;obtain ⟨j,hj,hm⟩:=List.mem_flatMap.mp h;refine List.mem_flatMap.mpr ⟨j,hj,?_⟩;simp only [List.mem_cons,List.not_mem_nil,or_false,Prod.mk.injEq] at hm ⊢;rcases hm with ⟨rfl,rfl⟩|⟨rfl,rfl⟩
 ·exact .inr ⟨rfl,rfl⟩
 ·exact .inl ⟨rfl,rfl⟩
theorem Y8.part{ps:List Zc}{js:List (Zc×Zc)}{sg:List (Str×Str×Str)}(yv:Y8 ps js sg){a b:Zc}(h:(a,b)∈qJ js):∃k,((k,b.1):Zc)∈ps:=by
 have hm:b∈Xm js:=by rw [<-Za5];exact List.mem_map.mpr ⟨_,Zxj h,rfl⟩
 obtain ⟨p,hp,hq⟩:=List.mem_flatMap.mp (yv.net.flat.mem_iff.mp hm);obtain ⟨e,_,rfl⟩:=List.mem_map.mp hq;exact ⟨p.1,hp⟩
theorem Zsw{sg:List (Str×Str×Str)}{s:Str}{e:Zc}(h:(s,e)∈qS sg):s∈sg.map Prod.fst:=by
 obtain ⟨g,hg,z⟩:=List.mem_map.mp h;exact List.mem_map.mpr ⟨g,hg,congrArg Prod.fst z⟩
def Zj5(P:Program)(w:World)(K:Frag)(mg:Str->Option Value)(base:Heap)(k:Nat)(f:Addr)(H:Hp)(sg:List (Str×Str×Str))(R:Str->Hp->Hp->Prop)(b:Str->Bool):Prop:=FnV K H f/\∀(nm:Str) (H1:Hp) (Q:VK),nm∈sg.map Prod.fst->Same H H1->(∀H2,R nm H1 H2->Q (.bl (b nm)) H2)->Zsl P w K mg base k f H1 [.str nm] Q
structure GoQ(T:Tx K mg)(H0 H:Hp)(F:Addr->Prop)(x tr:Addr)(ad:WAd)(st:WSt)(ps:List Zc)(js:List (Zc×Zc))(sg:List (Str×Str×Str))(i:Nat)(d:TrD)(nm c8:Str)(R:Str->Hp->Hp->Prop)(b:Str->Bool)(Q:VK):Prop where
 fin:c8 = "" ->∀H',Same H H'->Q (.str "end") H'
 stop:c8 ≠ "" ->∀sig:Str,sig ≠ "" ->((sig,(nm,c8)):Str×Zc)∈qS sg->b sig=false->∀H1 H2,Same H H1->R sig H1 H2->Q (.str "stop") H2
 pass:c8 ≠ "" ->∀sig:Str,sig ≠ "" ->((sig,(nm,c8)):Str×Zc)∈qS sg->b sig=true->∀c5 e2 k2:Str,((nm,c8),(c5,e2))∈qJ js->((k2,c5):Zc)∈ps->∀H1 H2 H3,Same H H1->R sig H1 H2->Off (Wd ad) H2 H3->WAt T H0 H3 F x tr ad (Y3 st i d k2 c5 e2).2->Q (.str (Y3 st i d k2 c5 e2).1) H3
 on:c8 ≠ "" ->((nm,c8):Zc)∉sg.map Prod.snd->∀c5 e2 k2:Str,((nm,c8),(c5,e2))∈qJ js->((k2,c5):Zc)∈ps->∀H3,Off (Wd ad) H H3->WAt T H0 H3 F x tr ad (Y3 st i d k2 c5 e2).2->Q (.str (Y3 st i d k2 c5 e2).1) H3
def Zr9(P:Program)(w:World)(base:Heap)(T:Tx K mg):Sp:=fun vs H Q _=>∃(H0:Hp) (F:Addr->Prop) (x tr f:Addr) (ad:WAd) (st:WSt) (ps:List Zc) (js:List (Zc×Zc)) (sg:List (Str×Str×Str)) (i:Nat) (d:TrD) (k nm e:Str) (y9:List Zc) (R:Str->Hp->Hp->Prop) (b:Str->Bool),vs=[.ref x,.str d.1,.ref f]/\WAt T H0 H F x tr ad st/\Ya T H0 tr ps js sg/\Y8 ps js sg/\(stood st.1).length<=400/\st.2.2.length<=400/\st.1.length<64/\(st.1.map Prod.fst).Nodup/\st.1[i]? =some d/\1<=d.2.1/\d.2.2.length<=100/\d.2.2=y9++[(nm,e)]/\((k,nm):Zc)∈ps/\Zj5 P w K mg base 5 f H sg R b /\
 (∀s H1 H2,R s H1 H2->WAt T H0 H1 F x tr ad st->WAt T H0 H2 F x tr ad st/\∀t p,Zm H1 t p->Zm H2 t p)/\GoQ T H0 H F x tr ad st ps js sg i d nm (Xv k e (Ys st.2.1 nm)) R b Q
theorem Zq9(T:Tx K mg):Zu P w K mg base CX0 6 T.az.f T.az.fd ["self", "name", "shows"] (Zr9 P w base T):=by
 refine T.az.F.okW Zbc fun a8 A outer s H vs Q E hr h=>?_
 ·obtain ⟨H0,F,x,tr,f,ad,st,ps,js,sg,i,d,k,nm,e,y9,R,b,rfl,hw,ht,yv,hz,hy,hl,nd,hd,h1,U6,D3,hm,hf,hR,q⟩:=h;intro X;obtain ⟨a,ha,dx,l0,ho,⟨ts,Q1,d4⟩,nF⟩:=Paired.getL hw.trs hd;refine WSs.step (Z0 (i:=3) Zbc.nd (Z1 (pv 0) T.ac T.cy (Wz T) hr T.aq.b .nil Zk (Zb (pv 1) Za))) (exR rfl ⟨x,ad.dx,_,rfl,hw.obj,rfl,_,rfl,H0,F,x,tr,ad,st,i,a,d,rfl,hw,hl,nd,ha,hd,fun H1 s1=>?_⟩);have r6:=hw.mono s1;obtain ⟨t,htt,A7⟩:∃t,atI (ts.map V.ref) (-1)=some (.ref t)/\Zm H t (nm,e):=by
   rw [D3] at d4;obtain ⟨t0,t,rfl,r⟩:=Znf d4;exact ⟨t,by rw [List.map_append];exact Zp8 _ _,r⟩
  refine WSs.step (Z0 (i:=4) Zbc.nd (Zv (K:=K) rfl (Ye (pv 3) rfl) (Zpu Zkn Zg))) (exR rfl ⟨a,_,dx,_,_,rfl,s1.at ho,T.bZ,T.bd,rfl,_,rfl,.inl ⟨l0,_,_,.ref t,rfl,rfl,SqL.of (s1.at Q1),htt,?_⟩⟩);have hp1:Zm H1 t (nm,e):=s1.at A7;refine WSs.step (Z0 (i:=5) Zbc.nd (Zj (Zb (Zv (K:=K) rfl (pv 4) Zg) (Zb (Z1 (pv 0) T.ac T.cS (Zcl T) hr T.aP.b .nil Zk (Zb (pv 4) Za)) Za)))) (exR rfl (ixT hp1 0 rfl (exR rfl ⟨x,ad.dx,_,rfl,r6.obj,rfl,_,rfl,H0,F,x,tr,t,ad,st,ps,js,sg,k,nm,e,rfl,r6,ht,yv,hp1,hm,fun H2 s2=>⟨szA,fun te H3 s3 n3 e3=>?_⟩⟩)));generalize hled:Xv k e (Ys st.2.1 nm)=c8 at q e3 ⊢;have j5:=s1.trans (s2.trans s3);have j0:=hw.mono j5;have L0:Zm H3 te (nm,c8):=e3;refine WSs.step (Z9 (Zq (r:=X3 K) (X8 hr) (Zv (K:=K) rfl (pv 5) Zg) Zd (Zw _)) Zy Zr) (exR rfl (ixT L0 1 rfl (.inl ⟨rfl,_,rfl,Yz (fun z=>?_) (fun z=>?_)⟩)))
  ·exact WSs.last (Zp Zd) (q.fin (V.str.inj (of_decide_eq_true z)) H3 j5)
  have u7:c8 ≠ "" :=fun y=>z (decide_eq_true (by rw [y]))
  have tr3:=ht.mono j0.same;obtain ⟨U4,po,jo,so,si,kp,ks,kj,ko,ht0,_⟩:=id ht.ex;have ht1:=j0.same.at ht0;refine WSs.step (Z0 (i:=6) Zbc.nd (Z1 (Ye (pv 0) rfl) T.ao T.dg (Zgu T) hr T.aJ.b .nil Zk (Zb (pv 5) Za))) (exR rfl ⟨x,_,ad.dx,_,_,rfl,j0.obj,T.ac,T.be,rfl,tr,U4,_,rfl,ht1,rfl,_,rfl,tr,te,(nm,c8),ps,js,sg,rfl,tr3,yv,L0,fun sig hs=>?_⟩);have hin:((nm,c8):Zc)∈Y9 ps:=List.mem_flatMap.mpr ⟨(k,nm),hm,List.mem_map.mpr ⟨c8,hled ▸ Zni k e _ (hled ▸ u7),rfl⟩⟩;have last:∀{H5:Hp} {Q5:VK},WAt T H0 H5 F x tr ad st->Zm H5 te (nm,c8)->(∀c5 e2 k2:Str,((nm,c8),(c5,e2))∈qJ js->((k2,c5):Zc)∈ps->∀H6,Off (Wd ad) H5 H6->WAt T H0 H6 F x tr ad (Y3 st i d k2 c5 e2).2->Q5 (.str (Y3 st i d k2 c5 e2).1) H6)->∀t' e',(((nm,c8),e'):Zc×Zc)∈qJ js->Zm H5 t' e'->Zsp T [.ref x,.ref a,.ref t'] H5 Q5 E0:=by
   intro H5 Q5 E4 hp5 q5 t' e' hq U3;obtain ⟨k2,E2⟩:=yv.part hq;exact ⟨H0,F,x,tr,a,t',ad,st,ps,js,sg,i,d,k2,e'.1,e'.2,rfl,E4,ht,yv,hz,hy,ha,hd,h1,U6,U3,E2,fun H6 o6 v8=>q5 e'.1 e'.2 k2 hq E2 H6 o6 v8⟩
  refine WSs.step (Z9 (PW.pt (Zfk (Zq (r:=Zcm K) (Zdp hr) (pv 6) Zd (Zw _)) (Zcp (Wo (Xh (Zqr (k:=_) hr (pv 2) (Zb (pv 6) Za))))))) Zy Zr) (exR rfl (.inl ⟨rfl,_,rfl,Yz (fun z2=>?_) (fun z2=>?_)⟩))
  ·have z2:sig ≠ "" :=by simpa using z2
   have hq:(sig,(nm,c8))∈qS sg:=(hs.resolve_right fun y=>z2 y.1).1;refine (exR rfl ⟨f,rfl,hf.1.mono j5,_,rfl,hf.1.mono j5,hf.2 sig H3 _ (Zsw hq) j5 fun H4 r4=>(exR rfl ?_)⟩);obtain ⟨u8,hp4⟩:=hR sig H3 H4 r4 j0;cases hb:b sig with
   | false=>exact Zgn (WSs.last (Zp Zd) (q.stop u7 sig z2 hq hb H3 H4 j5 r4))
   | true =>
    refine Zau ?_;exact WSs.last (Zp (Z1 (pv 0) T.ac T.dA (Zhr T) hr T.bI.b .nil Zk (Zb (pv 3) (Zb (Z1 (Ye (pv 0) rfl) T.ao T.cW (Zen T) hr T.aV.b .nil Zk (Zb (pv 5) Za)) Za)))) (exR rfl ⟨x,ad.dx,_,rfl,u8.obj,rfl,_,rfl,_,rfl,x,_,ad.dx,_,_,rfl,u8.obj,T.ac,T.be,rfl,tr,U4,_,rfl,u8.same.at ht0,rfl,_,rfl,tr,te,(nm,c8),ps,js,sg,rfl,ht.mono u8.same,yv,hp4 te _ L0,.inl ⟨hin,last u8 (hp4 te _ L0) fun c5 e2 k2 j1 j2 H6 o6 v8=>q.pass u7 sig z2 hq hb c5 e2 k2 j1 j2 H3 H4 H6 j5 r4 o6 v8⟩⟩)
  ·have z2:sig = "" :=by simpa using z2
   have F5:((nm,c8):Zc)∉sg.map Prod.snd:=by
    rcases hs with ⟨y,hn,_⟩|⟨_,y⟩
    ·rw [z2] at hn;exact absurd hn Zpv
    ·exact y
   exact WSs.last (Zp (Z1 (pv 0) T.ac T.dA (Zhr T) hr T.bI.b .nil Zk (Zb (pv 3) (Zb (Z1 (Ye (pv 0) rfl) T.ao T.cW (Zen T) hr T.aV.b .nil Zk (Zb (pv 5) Za)) Za)))) (exR rfl ⟨x,ad.dx,_,rfl,j0.obj,rfl,_,rfl,_,rfl,x,_,ad.dx,_,_,rfl,j0.obj,T.ac,T.be,rfl,tr,U4,_,rfl,ht1,rfl,_,rfl,tr,te,(nm,c8),ps,js,sg,rfl,tr3,yv,L0,.inl ⟨hin,last j0 L0 fun c5 e2 k2 j1 j2 H6 o6 v8=>q.on u7 F5 c5 e2 k2 j1 j2 H6 ((Zc6 j5).trans o6) v8⟩⟩)
theorem Xt(T:Tx K mg){k:Nat}(h:6<=k:=by decide):Zu P w K mg base CX0 k T.az.f T.az.fd ["self", "name", "shows"] (Zr9 P w base T):=(Zq9 T).mono h
theorem Zsz{κ:Type}[DecidableEq κ]{l:List (κ×V)}{k:κ}(h:k∉l.map (·.1)):Y6 l k=none:=by
 cases e:Y6 l k with
 | none=>rfl
 | some v=>exact absurd (Zx2 e) h
theorem Zng:∀(l B5:List (Key×V)),((B5++l).map (·.1)).Nodup->Ze9 B5 l=B5++l
 | [],B5,_=>by rw [List.append_nil];rfl
 | p ::l,B5,h=>by
  have hn:Y6 B5 p.1=none:=Zsz fun m=>by
   rw [List.map_append,List.nodup_append] at h;exact h.2.2 _ m _ List.mem_cons_self rfl
  show Ze9 (Wg B5 p.1 p.2) l=_;rw [Zki _ hn,Zng l _ (by rw [List.append_assoc];exact h),List.append_assoc]
  rfl
def Ya8(K:Frag):Sp:=fun vs H Q _=>∃k e lie:Str,vs=[.str k,.str e,.str lie]/\lie∈Zco k/\∀H',Same H H'->Q (.str (Xv k e lie)) H'
theorem Zhf{H:Hp}{d:Addr}{l:List (Str×Str)}(e:Str)(hd:H d=none)(nd:(l.map Prod.fst).Nodup):Wa (upd (upd H d (.dK [])) d (.dK (Ze9 [] (Wf l)))) d (.str e) ((liQ l e).map V.str):=by
 have hk:((Wf l).map Prod.fst).Nodup:=by
  unfold Wf;rw [List.map_map];have:=Zsj Xq nd;rw [List.map_map] at this;exact this
 rw [Zng (Wf l) [] (by simpa using hk),<-Zkc];exact Wa.k (k:=Ym e) Zf
theorem Zt5(e:Str):Ys [("a", "b"),("b", "a"),("c", "d"),("d", "c")] e=Zcn e [("a", "b"),("c", "d")]:=by
 unfold Ys liQ;simp only [Zcn,List.find?_cons,List.find?_nil]
 by_cases h1:e = "a"
 ·subst h1;rfl
 by_cases h2:e = "b"
 ·subst h2;rfl
 by_cases h3:e = "c"
 ·subst h3;rfl
 by_cases h4:e = "d"
 ·subst h4;rfl
 rw [decide_eq_false (fun z=>h1 z.symm),decide_eq_false (fun z=>h2 z.symm),decide_eq_false (fun z=>h3 z.symm),decide_eq_false (fun z=>h4 z.symm),if_neg h1,if_neg h2,if_neg h3,if_neg h4]
 rfl
theorem Zu3(e:Str):Ys [("a", "b"),("b", "a")] e=Zcn e [("a", "b")]:=by
 unfold Ys liQ;simp only [Zcn,List.find?_cons,List.find?_nil]
 by_cases h1:e = "a"
 ·subst h1;rfl
 by_cases h2:e = "b"
 ·subst h2;rfl
 rw [decide_eq_false (fun z=>h1 z.symm),decide_eq_false (fun z=>h2 z.symm),if_neg h1,if_neg h2]
 rfl
theorem Zv5(e:Str):Ys [("", "a")] e=Zcn e [("", "a")]:=by
 unfold Ys liQ;simp only [Zcn,List.find?_cons,List.find?_nil]
 by_cases h1:e = ""
 ·subst h1;rfl
 rw [decide_eq_false (fun z=>h1 z.symm),if_neg h1]
 by_cases h2:e = "a"
 ·rw [if_pos h2];rfl
 ·rw [if_neg h2];rfl
theorem Zsq(e lie:Str):Ys [("stem",lie),(lie, "stem")] e=Zcn e [("stem",lie)]:=by
 unfold Ys liQ;simp only [Zcn,List.find?_cons,List.find?_nil]
 by_cases h1:e = "stem"
 ·rw [decide_eq_true h1.symm,if_pos h1];rfl
 rw [decide_eq_false (fun z=>h1 z.symm),if_neg h1]
 by_cases h2:e=lie
 ·rw [decide_eq_true h2.symm,if_pos h2];rfl
 ·rw [decide_eq_false (fun z=>h2 z.symm),if_neg h2];rfl
theorem Zdo(o:Option Str):(o.map V.str).getD (.str "")=V.str (o.getD ""):=by cases o <;>rfl
theorem Zmc(T:Tx K mg):Zu P w K mg base CX0 1 T.bc.f T.bc.fd ["_law_kind_here", "_law_end", "_law_lie"] (Ya8 K):=by
 refine T.bc.F.okW Zm4 fun a8 A outer s H vs Q E hr h=>?_
 ·obtain ⟨k,e,lie,rfl,hl,q⟩:=h;intro X;have se:∀{a b:Str},decide (V.str a=V.str b)=true->a=b:=fun z=>V.str.inj (of_decide_eq_true z)
  have sn:∀{a b:Str},¬decide (V.str a=V.str b)=true->a≠b:=fun z y=>z (decide_eq_true (by rw [y]))
  have nw:∀{d:Addr} {o:HO},H d=none->Same H (upd (upd H d (.dK [])) d o):=fun {d o} hd b u z=>by rw [Ze (Zi z hd),Ze (Zi z hd)];exact z
  unfold Xv at q;rw [if_pos hl] at q;unfold Zif at q;unfold Zco at hl;refine WSs.step (Z9 (Zq (r:=X3 K) (X8 hr) (pv 0) Zd (Zw _)) Zy Zr) (exR rfl (.inl ⟨rfl,_,rfl,Yz (fun z=>?_) (fun z=>?_)⟩))
  ·have z:=se z;rw [if_pos z] at q hl;refine WSs.last (Zp (Zb4 (Xc hr) (Zkg (Zap Zd (pv 2) (Zap (pv 2) Zd Zkf)) rfl rfl (by simp) (by show 2<=15;decide)) (pv 1) Zd ⟨rfl,rfl,rfl,rfl⟩)) fun d hd=>(exR rfl (exR rfl ⟨Zf,Wf [("stem",lie),(lie, "stem")],rfl,(by show 2<=15;decide),d,rfl,.inl ⟨_,.inl Zf⟩,_,rfl,_,Zhf e hd ?_,?_⟩))
   ·simp only [List.mem_cons,List.not_mem_nil,or_false] at hl;rcases hl with rfl|rfl <;>decide +kernel
   ·rw [Zdo,show (liQ [("stem",lie),(lie, "stem")] e).getD "" =Zcn e [("stem",lie)] from Zsq e lie];exact q _ (nw hd)
  have z:=sn z;rw [if_neg z] at q hl;refine WSs.step (Z9 (Zq (r:=X3 K) (X8 hr) (pv 0) Zd (Zw _)) Zy Zr) (exR rfl (.inl ⟨rfl,_,rfl,Yz (fun z2=>?_) (fun z2=>?_)⟩))
  ·have z2:=se z2;rw [if_pos z2] at q;refine WSs.last (Zp (Zb4 (Xc hr) (Zkg (Zap Zd Zd (Zap Zd Zd (Zap Zd Zd (Zap Zd Zd Zkf)))) rfl rfl (by simp) (by show 4<=15;decide)) (pv 1) Zd ⟨rfl,rfl,rfl,rfl⟩)) fun d hd=>⟨Zf,Wf [("a", "b"),("b", "a"),("c", "d"),("d", "c")],rfl,(by show 4<=15;decide),d,rfl,.inl ⟨_,.inl Zf⟩,_,rfl,_,Zhf e hd (by trivial),?_⟩
   rw [Zdo,show (liQ [("a", "b"),("b", "a"),("c", "d"),("d", "c")] e).getD "" =Zcn e [("a", "b"),("c", "d")] from Zt5 e];exact q _ (nw hd)
  have z2:=sn z2;rw [if_neg z2] at q;refine WSs.step (Z9 (Zq (r:=X3 K) (X8 hr) (pv 0) Zd (Zw _)) Zy Zr) (exR rfl (.inl ⟨rfl,_,rfl,Yz (fun z3=>?_) (fun z3=>?_)⟩))
  ·have z3:=se z3;rw [if_pos z3] at q;refine WSs.last (Zp (Zb4 (Xc hr) (Zkg (Zap Zd Zd (Zap Zd Zd Zkf)) rfl rfl (by simp) (by show 2<=15;decide)) (pv 1) Zd ⟨rfl,rfl,rfl,rfl⟩)) fun d hd=>⟨Zf,Wf [("a", "b"),("b", "a")],rfl,(by show 2<=15;decide),d,rfl,.inl ⟨_,.inl Zf⟩,_,rfl,_,Zhf e hd (by trivial),?_⟩
   rw [Zdo,show (liQ [("a", "b"),("b", "a")] e).getD "" =Zcn e [("a", "b")] from Zu3 e];exact q _ (nw hd)
  have z3:=sn z3;rw [if_neg z3] at q;refine WSs.last (Zp (Zb4 (Xc hr) (Zvn Zd Zd) (pv 1) Zd ⟨rfl,rfl,rfl,rfl⟩)) fun d hd=>⟨Zf,Wf [("", "a")],rfl,(by show 1<=15;decide),d,rfl,.inl ⟨_,.inl Zf⟩,_,rfl,_,Zhf e hd (by trivial),?_⟩
  rw [Zdo,show (liQ [("", "a")] e).getD "" =Zcn e [("", "a")] from Zv5 e];exact q _ (nw hd)
theorem Zhc(T:Tx K mg){k:Nat}(h:1<=k:=by decide):Zu P w K mg base CX0 k T.bc.f T.bc.fd ["_law_kind_here", "_law_end", "_law_lie"] (Ya8 K):=(Zmc T).mono h
theorem imP{H':Hp}{u:Addr}{e:Zc}(h:Zm H' u e):Im K H' 1 (trP e) (.ref u):=Im.tup (n:=0) (SqT.of h) (.cons (.str _) (.cons (.str _) .nil))
def Yce(K:Frag):Sp:=fun vs H Q _=>∃(jl t:Addr) (js:List (Zc×Zc)) (e:Zc),vs=[.ref jl,.ref t]/\Yf H jl js/\Zm H t e/\e∈Xm js/\∀t' e',((e,e'):Zc×Zc)∈qJ js->Zm H t' e'->Q (.ref t') H
theorem Zku(T:Tx K mg):Zu P w K mg base CX0 1 T.bA.f T.bA.fd ["_law_joins", "_law_end"] (Yce K):=by
 refine T.bA.F.okW Zch fun a8 A outer s H vs Q E hr h=>?_
 ·obtain ⟨jl,t,js,e,rfl,⟨tj,hj,hjs⟩,ht,hm,q⟩:=h;intro X;let I22:=fun (i:Nat) (σ:St) (H':Hp)=>(∃o2 o3,σ=[some (.ref jl),some (.ref t),o2,o3])/\H'=H/\∀j∈js.take i,j.1≠e/\j.2≠e
  refine WSs.step (Xy PassesOwn.never rfl (Y5 (pv 0)) (W8 rfl (Zz (Y1 (i:=2) Zch.nd) (Zz (Y1 (i:=3) Zch.nd) Xe))) Zy) (exR rfl ⟨jl,rfl,⟨_,SqL.of hj⟩,W2 (xs:=tj.map V.ref) I22 ⟨⟨none,none,rfl⟩,rfl,fun _ z=>nomatch z⟩ ?_ ?_ ?_⟩)
  ·rintro i σ H' _ ⟨_,rfl,_⟩;exact SqL.of hj
  ·rintro i v σ H' hi ⟨⟨o2,o3,rfl⟩,rfl,hn⟩;rw [List.getElem?_map] at hi;obtain ⟨tp,U2,rfl⟩:=Option.map_eq_some_iff.mp hi;obtain ⟨⟨j1,j2⟩,hq,t1,t2,h1,h2,h3⟩:=Paired.get hjs U2;have B3:=List.mem_of_getElem? hq;refine ⟨tp,_,rfl,SqT.of h1,rfl,_,_,rfl,_,_,rfl,rfl,?_⟩;refine WSs.step (Z9 (Zq (r:=X3 K) (X8 hr) (pv 2) (pv 1) (Zw _)) Zy Zr) (exR rfl (exR rfl (.inr (.inl ⟨1,trP j1,trP e,by decide,.inl ⟨_,_,rfl,rfl⟩,imP h2,imP ht,_,rfl,Yz (fun z=>?_) (fun z=>?_)⟩))))
   ·have z:j1=e:=Zj4 (of_decide_eq_true z);subst z;exact WSs.last (Zp (pv 3)) (exR rfl (q t2 j2 (List.mem_flatMap.mpr ⟨_,B3,List.mem_cons_self⟩) h3))
   have z:j1≠e:=fun y=>z (decide_eq_true (by rw [y]))
   refine WSs.last (Z9 (Zq (r:=X3 K) (X8 hr) (pv 3) (pv 1) (Zw _)) Zy Zr) (exR rfl (exR rfl (.inr (.inl ⟨1,trP j2,trP e,by decide,.inl ⟨_,_,rfl,rfl⟩,imP h3,imP ht,_,rfl,Yz (fun y=>?_) (fun y=>?_)⟩))))
   ·have y:j2=e:=Zj4 (of_decide_eq_true y);subst y;exact WSs.last (Zp (pv 2)) (exR rfl (q t1 j1 (List.mem_flatMap.mpr ⟨_,B3,List.mem_cons_of_mem _ List.mem_cons_self⟩) h2))
   have y:j2≠e:=fun x=>y (decide_eq_true (by rw [x]))
   refine ⟨⟨_,_,rfl⟩,rfl,fun j hj'=>?_⟩;rw [List.take_add_one,hq] at hj';rcases List.mem_append.mp hj' with x|x
   ·exact hn j x
   ·rw [List.mem_singleton.mp x];exact ⟨z,y⟩
  ·rintro σ H' ⟨_,rfl,hn⟩;rw [List.length_map,Paired.length hjs,List.take_length] at hn;rw [<-Za5] at hm;obtain ⟨⟨a,b⟩,M3,rfl⟩:=List.mem_map.mp hm;obtain ⟨j,hj',hx⟩:=List.mem_flatMap.mp M3;simp only [List.mem_cons,List.not_mem_nil,or_false,Prod.mk.injEq] at hx;rcases hx with ⟨x,_⟩|⟨x,_⟩
   ·exact absurd x.symm (hn j hj').1
   ·exact absurd x.symm (hn j hj').2
theorem Zmy(T:Tx K mg){k:Nat}(h:1<=k:=by decide):Zu P w K mg base CX0 k T.bA.f T.bA.fd ["_law_joins", "_law_end"] (Yce K):=(Zku T).mono h
def Zyw(K:Frag):Sp:=fun vs H Q _=>∃(sl t:Addr) (sg:List (Str×Str×Str)) (e:Zc),vs=[.ref sl,.ref t]/\Zay H sl sg/\Zm H t e/\(∀nm H',Same H H'->((nm,e):Str×Zc)∈qS sg->Q (.str nm) H')/\(∀H',Same H H'->e∉sg.map Prod.snd->Q (.str "") H')
theorem Zl1(T:Tx K mg):Zu P w K mg base CX0 1 T.bB.f T.bB.fd ["_law_signals", "_law_end"] (Zyw K):=by
 refine T.bB.F.okW Zat fun a8 A outer s H vs Q E hr h=>?_
 ·obtain ⟨sl,t,sg,e,rfl,⟨gs,hg,hgs⟩,ht,q1,q2⟩:=h;intro X;let I23:=fun (i:Nat) (σ:St) (H':Hp)=>(∃o2 o3 o4,σ=[some (.ref sl),some (.ref t),o2,o3,o4])/\Same H H'/\∀g∈sg.take i,g.2≠e
  refine WSs.step (Xy PassesOwn.never rfl (Y5 (pv 0)) (W8 rfl (Zz (Y1 (i:=2) Zat.nd) (Zz (Y1 (i:=3) Zat.nd) (Zz (Y1 (i:=4) Zat.nd) Xe)))) Zy) (exR rfl ⟨sl,rfl,⟨_,SqL.of hg⟩,W2 (xs:=gs.map V.ref) I23 ⟨⟨none,none,none,rfl⟩,Same.refl _,fun _ z=>nomatch z⟩ ?_ ?_ ?_⟩)
  ·rintro i σ H' _ ⟨_,sm,_⟩;exact SqL.of (sm.at hg)
  ·rintro i v σ H' hi ⟨⟨o2,o3,o4,rfl⟩,sm,hn⟩;rw [List.getElem?_map] at hi;obtain ⟨tp,U2,rfl⟩:=Option.map_eq_some_iff.mp hi;obtain ⟨⟨n,p1,p2⟩,hq,h1⟩:=Paired.get hgs U2;have B3:=List.mem_of_getElem? hq;refine ⟨tp,_,rfl,SqT.of (sm.at h1),rfl,_,_,rfl,_,_,rfl,_,_,rfl,rfl,?_⟩;refine WSs.last (Z9 (Zq (r:=X3 K) (X8 hr) (Zj (Zb (pv 3) (Zb (pv 4) Za))) (pv 1) (Zw _)) Zy Zr) (exR rfl (exR rfl ⟨szA,fun t2 H2 s2 n2 e2=>(exR rfl (.inr (.inl ⟨1,trP (p1,p2),trP e,by decide,.inl ⟨_,_,rfl,rfl⟩,imP e2,imP ((sm.trans s2).at ht),_,rfl,Yz (fun z=>?_) (fun z=>?_)⟩)))⟩))
   ·have z:(p1,p2)=e:=Zj4 (of_decide_eq_true z);exact WSs.last (Zp (pv 2)) (exR rfl (q1 n H2 (sm.trans s2) (List.mem_map.mpr ⟨(n,p1,p2),B3,by rw [<-z]⟩)))
   have z:(p1,p2)≠e:=fun y=>z (decide_eq_true (by rw [y]))
   refine ⟨⟨_,_,_,rfl⟩,sm.trans s2,fun g hg'=>?_⟩;rw [List.take_add_one,hq] at hg';rcases List.mem_append.mp hg' with x|x
   ·exact hn g x
   ·rw [List.mem_singleton.mp x];exact z
  ·rintro σ H' ⟨⟨o2,o3,o4,rfl⟩,sm,hn⟩;rw [List.length_map,Paired.length hgs,List.take_length] at hn;exact WSs.last (Zp Zd) (q2 H' sm fun z=>by
    obtain ⟨g,hg',y⟩:=List.mem_map.mp z;exact hn g hg' y)
theorem Zm2(T:Tx K mg){k:Nat}(h:1<=k:=by decide):Zu P w K mg base CX0 k T.bB.f T.bB.fd ["_law_signals", "_law_end"] (Zyw K):=(Zl1 T).mono h
def Zcu(nm:Str)(ps:List Zc):List Str:=(ps.filter fun p=>decide (p.2=nm)).map Prod.fst
def Ybi(K:Frag):Sp:=fun vs H Q _=>∃(yd pl jl sl:Addr) (ps:List Zc) (k nm:Str),vs=[.ref yd,.str nm]/\H yd=some (.tup [.ref pl,.ref jl,.ref sl])/\Zo H pl ps/\ps.length<=100/\(ps.map Prod.snd).Nodup/\((k,nm):Zc)∈ps/\∀H',Same H H'->Q (.str k) H'
theorem Zq6{ps:List Zc}{k nm:Str}(nd:(ps.map Prod.snd).Nodup)(hm:((k,nm):Zc)∈ps):∃r,Zcu nm ps=k ::r:=by
 unfold Zcu;cases z:ps.filter fun p=>decide (p.2=nm) with
 | nil=>exact absurd (List.mem_filter.mpr ⟨hm,decide_eq_true rfl⟩) (by rw [z];exact fun y=>nomatch y)
 | cons p r =>
  have hp:p∈ps.filter fun p=>decide (p.2=nm):=by rw [z];exact List.mem_cons_self
  obtain ⟨h1,h2⟩:=List.mem_filter.mp hp;rw [Zsd nd h1 hm (of_decide_eq_true h2)];exact ⟨_,rfl⟩
theorem Zov(T:Tx K mg):Zu P w K mg base CX0 1 T.bC.f T.bC.fd ["_law_yard", "_law_name"] (Ybi K):=by
 refine T.bC.F.okW Zo5 fun a8 A outer s H vs Q E hr h=>?_
 ·obtain ⟨yd,pl,jl,sl,ps,k,nm,rfl,hy,⟨ts,i6,d4⟩,hz,nd,hm,q⟩:=h;intro X;refine WSs.last (Zp (Zv (K:=K) rfl (X4 (N':=["_law_kind_here", "_law_one", "_law_name"]) rfl (Yc.std 2 [1] rfl (by trivial) (by trivial) rfl ⟨rfl,trivial⟩ rfl rfl ⟨(exR rfl ⟨rfl,rfl⟩),trivial⟩) (Y5 (Zv (K:=K) rfl (pv 0) Zg)) (fun _ _ _ _=>(Zfs (K:=K) (n:=2) rfl rfl (Zz (Za4 (i:=0) (by show (["_law_kind_here", "_law_one", "_law_name"]:List Str).Nodup;decide +kernel)) (Zz (Za4 (i:=1) (by show (["_law_kind_here", "_law_one", "_law_name"]:List Str).Nodup;decide +kernel)) Xe)))) (fun _ _ _ _=>(Zd7 (Zq (r:=X3 K) (X8 hr) (pv 1) (pv 2) (Zw _)))) (fun _ _ _ _=>(pv 0))) Zg)) (exR rfl (ixT hy 0 rfl ⟨pl,rfl,⟨_,SqL.of i6⟩,fun D hD=>X5 (xs:=ts.map V.ref) (fun i ys H'=>ys=(Zcu nm (ps.take i)).map V.str/\H' D=some (.lst ys)/\Same H H') ⟨rfl,Zf,Same.new hD⟩ ?_ ?_ ?_⟩))
  ·rintro i ys H' _ ⟨_,_,sm⟩;exact SqL.of (sm.at i6)
  ·rintro j v ys H' hj ⟨rfl,v0,sm⟩;rw [List.getElem?_map] at hj;obtain ⟨t,K0,rfl⟩:=Option.map_eq_some_iff.mp hj;obtain ⟨⟨k',n'⟩,hq,A7⟩:=Paired.get d4 K0;have hsn:Zcu nm (ps.take (j+1))=Zcu nm (ps.take j)++if n'=nm then [k'] else []:=by
    unfold Zcu;rw [List.take_add_one,hq,List.filter_append,List.map_append,show (some ((k',n'):Zc)).toList=[(k',n')] from rfl,List.filter_cons]
    by_cases z:n'=nm
    ·rw [if_pos (decide_eq_true z),if_pos z];rfl
    ·rw [if_neg (by simpa using z),if_neg z];rfl
   have w4:(Zcu nm (ps.take j)).length<=100:=by
    unfold Zcu;have:=List.length_filter_le (fun p:Zc=>decide (p.2=nm)) (ps.take j);rw [List.length_map];rw [List.length_take] at this;lia
   unfold Zb2;refine ⟨t,_,rfl,SqT.of (sm.at A7),rfl,_,_,rfl,_,_,rfl,rfl,(W3.set rfl).trans (W3.set rfl),_,rfl,_,rfl,.inl ⟨rfl,_,rfl,Yz (fun z=>?_) (fun z=>?_)⟩⟩
   ·have z:n'=nm:=V.str.inj (of_decide_eq_true z);rw [hsn,if_pos z];refine (exR rfl ⟨v0,by rw [List.length_map];exact Zx (by lia),by rw [List.map_append];rfl,Zf,fun b o y=>?_⟩);rw [Ze (Zi y hD)];exact sm.at y
   ·have z:n'≠nm:=fun y=>z (decide_eq_true (by rw [y]))
    rw [hsn,if_neg z,List.append_nil];exact ⟨rfl,v0,sm⟩
  ·rintro ys H6 ⟨rfl,y8,s6⟩;rw [List.length_map,Paired.length d4,List.take_length] at y8;obtain ⟨r,e⟩:=Zq6 nd hm;rw [e] at y8;exact .inl ⟨D,_,0,.str k,rfl,rfl,SqL.of y8,Yr (j:=0) rfl,q H6 s6⟩
theorem Zi0(T:Tx K mg){k:Nat}(h:1<=k:=by decide):Zu P w K mg base CX0 k T.bC.f T.bC.fd ["_law_yard", "_law_name"] (Ybi K):=(Zov T).mono h
structure LAd where
 d0:Addr
 d1:Addr
 m:Addr
 ts:List Addr
def Zhh(G:Addr->Prop)(H:Hp)(t:Addr)(d:TrD):Prop:=∃l,H t=some (.tup [.int (d.2.1:Int),.ref l])/\Zo H l d.2.2/\¬G l
structure LAt(H:Hp)(G:Addr->Prop)(sl:Addr)(ad:LAd)(st:WSt):Prop where
 obj:H sl=some (.lst [.ref ad.d0,.ref ad.d1,.ref ad.m])
 trd:H ad.d0=some (.dK (trK ad.ts st.1))
 recs:Paired (Zhh G H) ad.ts st.1
 lies:H ad.d1=some (.dK (Wf st.2.1))
 mis:Zo H ad.m st.2.2
 g0:G ad.d0
 g1:G ad.d1
 gm:G ad.m
 ne:ad.d0≠ad.d1
 nx:¬G sl
 live:∀b,G b->∃o,H b=some o
theorem Zhh.mono{G:Addr->Prop}{H H':Hp}{t:Addr}{d:TrD}(e:Same H H')(h:Zhh G H t d):Zhh G H' t d:=by
 obtain ⟨l,h1,h2,h3⟩:=h;exact ⟨l,e.at h1,h2.mono e,h3⟩
theorem LAt.mono{H H':Hp}{G:Addr->Prop}{sl:Addr}{ad:LAd}{st:WSt}(e:Same H H')(h:LAt H G sl ad st):LAt H' G sl ad st :=
 ⟨e.at h.obj,e.at h.trd,Paired.mapP h.recs fun _ _ r=>r.mono e,e.at h.lies,h.mis.mono e,h.g0,h.g1,h.gm,h.ne,h.nx,fun b f=>let ⟨o,z⟩:=h.live b f;⟨o,e.at z⟩⟩
theorem Zo.offF{F:Addr->Prop}{H H':Hp}{l:Addr}{ps:List Zc}(o:Off F H H')(h:Zo H l ps)(nl:¬F l)(nt:∀t xs,H t=some (.tup xs)->¬F t):Zo H' l ps:=by
 obtain ⟨ts,h1,h2⟩:=h;exact ⟨ts,o _ _ nl h1,Paired.mapP h2 fun t p r=>o _ _ (nt t _ r) r⟩
def Zst(K:Frag):Sp:=fun vs H Q _=>∃(G:Addr->Prop) (sl:Addr) (ad:LAd) (st:WSt),vs=[.ref sl]/\LAt H G sl ad st/\(st.1.map Prod.fst).Nodup/\(stood st.1).length<=400/\∀l H',Same H H'->H l=none->H' l=some (.lst ((stood st.1).map V.str))->Q (.ref l) H'
theorem Zmx(T:Tx K mg):Zu P w K mg base CX0 1 T.bM.f T.bM.fd ["_law_state"] (Zst K):=by
 refine T.bM.F.okW Za7 fun a8 A outer s H vs Q E hr h=>?_
 ·obtain ⟨G,sl,ad,st,rfl,hs,nd,hz,q⟩:=h;intro X;have sd:sl≠ad.d0:=fun z=>hs.nx (by rw [z];exact hs.g0)
  refine WSs.step (Z0 (i:=1) Za7.nd (Zl Za)) ⟨szA,fun l0 H1 s1 n1 e1=>?_⟩;have l0d:l0≠ad.d0:=fun z=>by rw [z,hs.trd] at n1;cases n1
  refine WSs.step (Zpg (Xy PassesOwn.never rfl (Zxb (Zv (K:=K) rfl (pv 0) Zg)) (Y1 (i:=2) Za7.nd) Zy)) (exR rfl (.inl ⟨sl,_,0,_,rfl,rfl,SqL.of (s1.at hs.obj),Yr (j:=0) rfl,ad.d0,_,rfl,s1.at hs.trd,fun o nf=>Zvr (fun i σ H'=>∃lf,(∃o2,σ=[some (.ref sl),some (.ref lf),o2])/\lf≠ad.d0/\H lf=none/\Same (upd H ad.d0 (.frz o (.dK (trK ad.ts st.1)))) H'/\H' lf=some (.lst ((stood (st.1.take i)).map V.str))) ⟨l0,⟨none,rfl⟩,l0d,n1,s1.frz,by rw [Ze l0d];exact e1⟩ ?_ ?_ ?_⟩))
  ·rintro i σ H' _ ⟨_,_,_,_,s2,_⟩;exact s2.at Zf
  ·rintro i kv σ H2 hi ⟨lf,⟨o2,rfl⟩,lfd,nlf,s2,E3⟩;obtain ⟨t,d,K0,hd,rfl⟩:=Ztm hi;obtain ⟨t',U3,l,h1,⟨us,h2,h3⟩,_⟩:=Paired.getL hs.recs hd;rw [K0] at U3;cases U3;have up:∀{b:Addr} {u:HO},H b=some u->(∀k,u ≠ .dK k)->H2 b=some u:=fun {b u} z nk=>s2.at (by rw [Ze fun y=>by rw [y,hs.trd] at z;cases z;exact nk _ rfl];exact z)
   have y7:=Zq5 st.1 (i+1);rw [Zd1 hd,List.length_append,List.length_map] at y7;refine WSs.last (Z0 (i:=1) Za7.nd (Zt We (pv 1) (X4 (N':=["_law_part_here", "_law_end"]) rfl (Yc.std 2 [] rfl (by trivial) (by trivial) rfl trivial rfl rfl trivial) (Y5 (Zv (K:=K) rfl (Xz (Xc hr) (Zv (K:=K) rfl (pv 0) Zg) (pv 2) (fun _ _=>rfl)) Zg)) (fun _ _ _ _=>(Zfs (K:=K) (n:=2) rfl rfl (Zz (Za4 (i:=0) (by show (["_law_part_here", "_law_end"]:List Str).Nodup;decide +kernel)) (Zz (Za4 (i:=1) (by show (["_law_part_here", "_law_end"]:List Str).Nodup;decide +kernel)) Xe)))) (fun _ _ _ _=>Zbk) (fun _ _ _ _=>(pv 0))))) (exR rfl (exR rfl (.inl ⟨sl,_,0,_,rfl,rfl,SqL.of (up hs.obj fun _ z=>nomatch z),Yr (j:=0) rfl,_,rfl,ad.d0,_,rfl,by rw [<-Zhb nd K0 hd];exact .inl ⟨_,Ym d.1,.inr ⟨o,s2.at Zf⟩,rfl,rfl⟩,(ixT (up h1 fun _ z=>nomatch z) 1 rfl ⟨l,rfl,⟨_,SqL.of (up h2 fun _ z=>nomatch z)⟩,fun D hD=>X5 (xs:=us.map V.ref) (fun j ys H'=>ys=((d.2.2.take j).map Prod.fst).map V.str/\H' D=some (.lst ys)/\Same H2 H') ⟨rfl,Zf,Same.new hD⟩ ?_ ?_ ?_⟩)⟩)))
   ·rintro j ys H' _ ⟨_,_,sm⟩;exact SqL.of (sm.at (up h2 fun _ z=>nomatch z))
   ·rintro j v ys H' hj ⟨rfl,v0,sm⟩;rw [List.getElem?_map] at hj;obtain ⟨u,hu,rfl⟩:=Option.map_eq_some_iff.mp hj;obtain ⟨p,hq,A7⟩:=Paired.get h3 hu;unfold Zb2;refine ⟨u,_,rfl,SqT.of (sm.at (up A7 fun _ z=>nomatch z)),rfl,_,_,rfl,_,_,rfl,rfl,(W3.set rfl).trans (W3.set rfl),_,rfl,v0,?_,?_,Zf,fun b o' y=>?_⟩
    ·rw [List.length_map,List.length_map,List.length_take];exact Zx (by lia)
    ·rw [List.take_add_one,hq,List.map_append,List.map_append];rfl
    ·rw [Ze (Zi y hD)];exact sm.at y
   ·rintro ys H6 ⟨rfl,y8,s6⟩;rw [List.length_map,Paired.length h3,List.take_length] at y8;refine .inr (.inr ⟨lf,D,_,_,rfl,rfl,s6.at E3,y8,?_,fun l2 H7 s7 n7 e7=>⟨l2,⟨_,rfl⟩,?_,?_,s2.trans (s6.trans s7),?_⟩⟩)
    ·rw [List.length_map,List.length_map,List.length_map];exact sz (by lia)
    ·exact fun z=>by rw [z,s6.at (s2.at Zf)] at n7;cases n7
    ·have:=s2.free (s6.free n7)
     by_cases z:l2=ad.d0
     ·rw [z,Zf] at this;cases this
     ·rw [Ze z] at this;exact this
    ·rw [e7,Zd1 hd,List.map_append]
  ·rintro σ H2 ⟨lf,⟨o2,rfl⟩,lfd,nlf,s2,E3⟩;rw [List.take_of_length_le (by unfold trK;rw [List.length_map,List.length_zip,Paired.length hs.recs,Nat.min_self];exact Nat.le_refl _)] at E3;refine ⟨ad.d0,o,_,s2.at Zf,nf,WSs.last (Zp (pv 1)) ⟨_,rfl,q lf _ (s2.thaw hs.trd) nlf ?_⟩⟩;rw [Ze lfd];exact E3
theorem Zoj(T:Tx K mg){k:Nat}(h:1<=k:=by decide):Zu P w K mg base CX0 k T.bM.f T.bM.fd ["_law_state"] (Zst K):=(Zmx T).mono h
theorem Zhh.offB{G:Addr->Prop}{H:Hp}{t b:Addr}{d:TrD}{u o:HO}(h:Zhh G H t d)(gb:G b)(hb:H b=some u)(nt:∀xs,u ≠ .tup xs):Zhh G (upd H b o) t d:=by
 obtain ⟨l,h1,h2,h3⟩:=h;have tb:t≠b:=fun z=>by rw [z,hb] at h1;cases h1;exact nt _ rfl
 have lb:l≠b:=fun z=>h3 (by rw [z];exact gb)
 exact ⟨l,by rw [Ze tb];exact h1,h2.offB lb hb nt,h3⟩
theorem LAt.mish{H:Hp}{G:Addr->Prop}{sl t:Addr}{ad:LAd}{st:WSt}{p:Zc}(h:LAt H G sl ad st)(ht:Zm H t p):∃ts:List Addr,H ad.m=some (.lst (ts.map V.ref))/\ts.length=st.2.2.length/\LAt (upd H ad.m (.lst (ts.map V.ref++[V.ref t]))) G sl ad (st.1,st.2.1,st.2.2++[p]):=by
 obtain ⟨ts,hm,hp⟩:=id h.mis;have nt:∀xs,HO.lst (ts.map V.ref) ≠ .tup xs:=fun _ z=>nomatch z
 have off:∀{b:Addr} {q:Zc},Zm H b q->Zm (upd H ad.m (.lst (ts.map V.ref++[V.ref t]))) b q:=fun {b q} z=>by
  unfold Zm at z ⊢;rw [Ze fun y=>by rw [y,hm] at z;cases z];exact z
 have xm:sl≠ad.m:=fun z=>h.nx (by rw [z];exact h.gm)
 have dm:ad.d0≠ad.m:=fun z=>by have:=h.trd;rw [z,hm] at this;cases this
 have em:ad.d1≠ad.m:=fun z=>by have:=h.lies;rw [z,hm] at this;cases this
 exact ⟨ts,hm,Paired.length hp,by rw [Ze xm];exact h.obj,by rw [Ze dm];exact h.trd,Paired.mapP h.recs fun _ _ r=>r.offB h.gm hm nt,by rw [Ze em];exact h.lies,⟨ts++[t],by rw [Zf,List.map_append];rfl,Paired.append (Paired.mapP hp fun _ _ r=>off r) (.cons (off ht) .nil)⟩,h.g0,h.g1,h.gm,h.ne,h.nx,Zbg h.live⟩
theorem Zx3{ts:List Addr}{l:List TrD}{i:Nat}{d d':TrD}{a:Addr}(hl:ts.length=l.length)(nd:(l.map Prod.fst).Nodup)(hd:l[i]? =some d)(e:d'.1=d.1):Wg (trK ts l) (Ym d.1) (.ref a)=trK (ts.set i a) (l.set i d'):=by
 have U5:((trK ts l).any fun kv=>decide (kv.1=Ym d.1))=true:=by
  have hm:Ym d.1∈(trK ts l).map Prod.fst:=by rw [Zhx hl];exact List.mem_map.mpr ⟨d,List.mem_of_getElem? hd,rfl⟩
  obtain ⟨kv,h1,h2⟩:=List.mem_map.mp hm;exact List.any_eq_true.mpr ⟨kv,h1,decide_eq_true h2⟩
 unfold Wg;rw [if_pos U5];clear U5;unfold trK
 induction ts generalizing l i with
 | nil=>rfl
 | cons t r ih=>cases l with
  | nil=>cases hl
  | cons c m =>
   rw [List.map_cons,List.nodup_cons] at nd;cases i with
   | zero =>
    cases hd;rw [List.set_cons_zero,List.set_cons_zero,List.zip_cons_cons,List.zip_cons_cons,List.map_cons,List.map_cons,List.map_cons,if_pos rfl,e];congr 1;rw [List.map_map];refine List.map_congr_left fun q hq=>?_
    have hq2:q.2∈m:=(List.of_mem_zip hq).2;show (if Ym q.2.1=Ym d.1 then _ else _)=_;rw [if_neg fun z=>nd.1 (List.mem_map.mpr ⟨q.2,hq2,Xq _ _ z⟩)]
   | succ i =>
    have hm:d.1∈m.map Prod.fst:=List.mem_map.mpr ⟨d,List.mem_of_getElem? (show m[i]? =some d from hd),rfl⟩;rw [List.set_cons_succ,List.set_cons_succ,List.zip_cons_cons,List.zip_cons_cons,List.map_cons,List.map_cons,List.map_cons,if_neg fun z=>nd.1 (by have:=Xq _ _ z;simp only at this;rw [this];exact hm)];congr 1;exact ih (Nat.succ.inj hl) nd.2 hd
theorem Zt3{α β:Type}{R:α->β->Prop}{as:List α}{ts:List β}{i:Nat}{a:α}{d:β}(h:Paired R as ts)(hn:R a d):Paired R (as.set i a) (ts.set i d):=by
 induction h generalizing i with
 | nil=>exact .nil
 | cons r t ih=>cases i with
  | zero=>exact .cons hn t
  | succ i=>exact .cons r ih
theorem LAt.train{H:Hp}{G:Addr->Prop}{sl t l:Addr}{ad:LAd}{st:WSt}{i:Nat}{d:TrD}{sp:List Zc}(h:LAt H G sl ad st)(nd:(st.1.map Prod.fst).Nodup)(hd:st.1[i]? =some d)(ht:H t=some (.tup [.int (d.2.1:Int),.ref l]))(hl:Zo H l sp)(nl:¬G l):LAt (upd H ad.d0 (.dK (Wg (trK ad.ts st.1) (Ym d.1) (.ref t)))) G sl ⟨ad.d0,ad.d1,ad.m,ad.ts.set i t⟩ (st.1.set i (d.1,d.2.1,sp),st.2.1,st.2.2):=by
 obtain ⟨ms,hm,_⟩:=id h.mis;have nt:∀xs,HO.dK (trK ad.ts st.1) ≠ .tup xs:=fun _ z=>nomatch z
 have xd:sl≠ad.d0:=fun z=>h.nx (by rw [z];exact h.g0)
 have md:ad.m≠ad.d0:=fun z=>by rw [z] at hm;rw [h.trd] at hm;cases hm
 have new:Zhh G H t (d.1,d.2.1,sp):=⟨l,ht,hl,nl⟩
 exact ⟨by rw [Ze xd];exact h.obj,by rw [Zf,Zx3 (d':=(d.1,d.2.1,sp)) (Paired.length h.recs) nd hd rfl],Zt3 (Paired.mapP h.recs fun _ _ r=>r.offB h.g0 h.trd nt) (new.offB h.g0 h.trd nt),by rw [Ze h.ne.symm];exact h.lies,h.mis.offB md h.trd nt,h.g0,h.g1,h.gm,h.ne,h.nx,Zbg h.live⟩
def Zah(ad:LAd)(b:Addr):Prop:=b=ad.d0\/b=ad.d1\/b=ad.m
def Zt9(H:Hp)(yd:Addr)(ps:List Zc)(js:List (Zc×Zc))(sg:List (Str×Str×Str)):Prop:=∃pl jl gl,H yd=some (.tup [.ref pl,.ref jl,.ref gl])/\Zo H pl ps/\Yf H jl js/\Zay H gl sg
theorem Zt9.mono{H H':Hp}{yd:Addr}{ps:List Zc}{js:List (Zc×Zc)}{sg:List (Str×Str×Str)}(e:Same H H')(h:Zt9 H yd ps js sg):Zt9 H' yd ps js sg:=by
 obtain ⟨pl,jl,gl,h1,h2,h3,h4⟩:=h;exact ⟨pl,jl,gl,e.at h1,h2.mono e,h3.mono e,h4.mono e⟩
theorem LAt.get{H:Hp}{G:Addr->Prop}{sl:Addr}{ad:LAd}{st:WSt}(h:LAt H G sl ad st)(e:Str):Wa H ad.d1 (.str e) ((liQ st.2.1 e).map V.str):=by
 rw [<-Zkc];exact Wa.k (k:=Ym e) h.lies
structure Yb8(H:Hp)(G:Addr->Prop)(sl:Addr)(ad:LAd)(st:WSt)(ps:List Zc)(js:List (Zc×Zc))(sg:List (Str×Str×Str))(i:Nat)(d:TrD)(nm c8:Str)(R:Str->Hp->Hp->Prop)(b:Str->Bool)(Q:VK):Prop where
 fin:c8 = "" ->∀H',Same H H'->Q (.str "end") H'
 stop:c8 ≠ "" ->∀sig:Str,sig ≠ "" ->((sig,(nm,c8)):Str×Zc)∈qS sg->b sig=false->∀H1 H2,Same H H1->R sig H1 H2->Q (.str "stop") H2
 pass:c8 ≠ "" ->∀sig:Str,sig ≠ "" ->((sig,(nm,c8)):Str×Zc)∈qS sg->b sig=true->∀c5 e2 k2:Str,((nm,c8),(c5,e2))∈qJ js->((k2,c5):Zc)∈ps->∀H1 H2 H3 ts,Same H H1->R sig H1 H2->Off (Zah ad) H2 H3->LAt H3 G sl ⟨ad.d0,ad.d1,ad.m,ts⟩ (Y3 st i d k2 c5 e2).2->Q (.str (Y3 st i d k2 c5 e2).1) H3
 on:c8 ≠ "" ->((nm,c8):Zc)∉sg.map Prod.snd->∀c5 e2 k2:Str,((nm,c8),(c5,e2))∈qJ js->((k2,c5):Zc)∈ps->∀H3 ts,Off (Zah ad) H H3->LAt H3 G sl ⟨ad.d0,ad.d1,ad.m,ts⟩ (Y3 st i d k2 c5 e2).2->Q (.str (Y3 st i d k2 c5 e2).1) H3
def Zw3(P:Program)(w:World)(K:Frag)(mg:Str->Option Value)(base:Heap):Sp:=fun vs H Q _=>∃(H0:Hp) (G:Addr->Prop) (yd sl f:Addr) (ad:LAd) (st:WSt) (ps:List Zc) (js:List (Zc×Zc)) (sg:List (Str×Str×Str)) (i:Nat) (d:TrD) (k nm e:Str) (y9:List Zc) (R:Str->Hp->Hp->Prop) (b:Str->Bool),vs=[.ref yd,.ref sl,.str d.1,.ref f]/\LAt H G sl ad st/\Same H0 H/\Zt9 H0 yd ps js sg/\Y8 ps js sg/\ps.length<=100/\(stood st.1).length<=400/\st.2.2.length<=400/\st.1.length<64/\(st.1.map Prod.fst).Nodup/\st.1[i]? =some d/\1<=d.2.1/\d.2.2.length<=100/\d.2.2=y9++[(nm,e)]/\((k,nm):Zc)∈ps/\(∀p∈ps,Ys st.2.1 p.2∈Zco p.1)/\Zj5 P w K mg base 5 f H sg R b /\
 (∀s H1 H2,R s H1 H2->LAt H1 G sl ad st->Same H0 H1->LAt H2 G sl ad st/\Same H0 H2/\∀t xs,H1 t=some (.tup xs)->H2 t=some (.tup xs))/\Yb8 H G sl ad st ps js sg i d nm (Xv k e (Ys st.2.1 nm)) R b Q
theorem Zog(T:Tx K mg):Zu P w K mg base CX0 6 T.bR.f T.bR.fd ["_law_yard", "_law_state", "_law_name", "_law_passes"] (Zw3 P w K mg base):=by
 refine T.bR.F.okW Xr fun a8 A outer s H vs Q E hr h=>?_
 ·obtain ⟨H0,G,yd,sl,f,ad,st,ps,js,sg,i,d,k,nm,e,y9,R,b,rfl,hs,sH0,hy0,yv,hp100,hz,hy,h64,nd,hd,h1,U6,D3,hm,Q2,hf,hR,q⟩:=h;intro X;obtain ⟨t,K0,l,N7,⟨us,Q1,k9⟩,ngl⟩:=Paired.getL hs.recs hd;have ul:=Paired.length k9;refine WSs.step (Zpr (Xz (Xc hr) (Zv (K:=K) rfl (pv 1) Zg) (pv 2) (fun _ _=>rfl)) (W8 rfl (Zz (Y1 (i:=4) Xr.nd) (Zz (Y1 (i:=5) Xr.nd) Xe)))) (exR rfl (.inl ⟨sl,_,0,_,rfl,rfl,SqL.of hs.obj,Yr (j:=0) rfl,_,rfl,ad.d0,_,rfl,by rw [<-Zhb nd K0 hd];exact Wa.k (k:=Ym d.1) hs.trd,t,_,rfl,SqT.of N7,rfl,_,_,rfl,_,_,rfl,rfl,?_⟩));obtain ⟨te,L1,A7⟩:∃te,atI (us.map V.ref) (-1)=some (.ref te)/\Zm H te (nm,e):=by
   rw [D3] at k9;obtain ⟨t0,te,rfl,r⟩:=Znf k9;exact ⟨te,by rw [List.map_append];exact Zp8 _ _,r⟩
  refine WSs.step (Zpr (Zv (K:=K) rfl (pv 5) (Zpu Zkn Zg)) (W8 rfl (Zz (Y1 (i:=6) Xr.nd) (Zz (Y1 (i:=7) Xr.nd) Xe)))) (exR rfl (exR rfl (.inl ⟨l,_,_,.ref te,rfl,rfl,SqL.of Q1,L1,te,_,rfl,SqT.of A7,rfl,_,_,rfl,_,_,rfl,rfl,?_⟩)));have hyd:=hy0.mono sH0;obtain ⟨pl,jl,gl,y1,y2,y3,y4⟩:=id hyd;refine WSs.step (Z0 (i:=8) Xr.nd (Zs (Zhc T) hr rfl T.di T.bc.F.kp T.bc.b .nil Zk (Zb (Zs (Zi0 T) hr rfl T.dG T.bC.F.kp T.bC.b .nil Zk (Zb (pv 0) (Zb (pv 6) Za))) (Zb (pv 7) (Zb (Zb4 (Xc hr) (Zv (K:=K) rfl (pv 1) Zg) (pv 6) Zd ⟨rfl,rfl,rfl,rfl⟩) Za))))) (exR rfl (exR rfl ⟨yd,pl,jl,gl,ps,k,nm,rfl,y1,y2,hp100,yv.net.nd,hm,fun H1 s1=>(exR rfl (exR rfl (.inl ⟨sl,_,1,_,rfl,rfl,SqL.of (s1.at hs.obj),Yr (j:=1) rfl,ad.d1,rfl,.inl ⟨_,.inl (s1.at hs.lies)⟩,_,rfl,_,(hs.mono s1).get nm,k,e,Ys st.2.1 nm,by rw [Zdo];rfl,Q2 _ hm,fun H2 s2=>?_⟩)))⟩));have u0:=s1.trans s2;generalize hled:Xv k e (Ys st.2.1 nm)=c8 at q ⊢;refine WSs.step (Z9 (Zq (r:=X3 K) (X8 hr) (pv 8) Zd (Zw _)) Zy Zr) (exR rfl (.inl ⟨rfl,_,rfl,Yz (fun z=>?_) (fun z=>?_)⟩))
  ·exact WSs.last (Zp Zd) (q.fin (V.str.inj (of_decide_eq_true z)) H2 u0)
  have u7:c8 ≠ "" :=fun y=>z (decide_eq_true (by rw [y]))
  have hin:((nm,c8):Zc)∈Y9 ps:=List.mem_flatMap.mpr ⟨(k,nm),hm,List.mem_map.mpr ⟨c8,hled ▸ Zni k e _ (hled ▸ u7),rfl⟩⟩;let I24:=fun (σ:St) (H':Hp)=>∃sig:Str,σ=[some (.ref yd),some (.ref sl),some (.str d.1),some (.ref f),some (.int (d.2.1:Int)),some (.ref l),some (.str nm),some (.str e),some (.str c8),some (.str sig),none,none]/\Same H H'/\((sig ≠ "" /\((sig,(nm,c8)):Str×Zc)∈qS sg)\/(sig = "" /\((nm,c8):Zc)∉sg.map Prod.snd))
  refine WSs.cut I24 ?_ ?_
  ·refine WS.of (Z0 (i:=9) Xr.nd (Zs (Zm2 T) hr rfl T.eT T.bB.F.kp T.bB.b .nil Zk (Zb (Zv (K:=K) rfl (pv 0) Zg) (Zb (Zj (Zb (pv 6) (Zb (pv 8) Za))) Za)))) (exR rfl (ixT (u0.at y1) 2 rfl (exR rfl (exR rfl ⟨szA,fun t3 H3 s3 n3 e3=>⟨gl,t3,sg,(nm,c8),rfl,y4.mono (u0.trans s3),e3,fun sig H4 s4 hq=>⟨sig,rfl,u0.trans (s3.trans s4),.inl ⟨fun z=>?_,hq⟩⟩,fun H4 s4 hq=>⟨"",rfl,u0.trans (s3.trans s4),.inr ⟨rfl,hq⟩⟩⟩⟩))));obtain ⟨g,hg,V6⟩:=List.mem_map.mp hq;have hn:=yv.sigs.name g hg;rw [show g.1 = "" by rw [<-z];exact congrArg Prod.fst V6] at hn;exact Zpv hn
  rintro σ H3 ⟨sig,rfl,s3,hsig⟩;have hs3:=hs.mono s3;have hyd3:=sH0.trans s3;let I25:=fun (σ:St) (H':Hp)=>σ=[some (.ref yd),some (.ref sl),some (.str d.1),some (.ref f),some (.int (d.2.1:Int)),some (.ref l),some (.str nm),some (.str e),some (.str c8),some (.str sig),none,none]/\LAt H' G sl ad st/\Same H0 H'/\(∀t xs,H t=some (.tup xs)->H' t=some (.tup xs))/\∀c5 e2 k2:Str,((nm,c8),(c5,e2))∈qJ js->((k2,c5):Zc)∈ps->∀H6 ts,Off (Zah ad) H' H6->LAt H6 G sl ⟨ad.d0,ad.d1,ad.m,ts⟩ (Y3 st i d k2 c5 e2).2->Q (.str (Y3 st i d k2 c5 e2).1) H6
  refine WSs.cut I25 ?_ ?_
  ·refine WS.of (Z9 (PW.pt (Zfk (Zq (r:=Zcm K) (Zdp hr) (pv 9) Zd (Zw _)) (Zcp (Wo (Xh (Zqr (k:=_) hr (pv 3) (Zb (pv 9) Za))))))) Zy Zr) (exR rfl (.inl ⟨rfl,_,rfl,Yz (fun z2=>?_) (fun z2=>?_)⟩))
   ·have z2:sig ≠ "" :=by simpa using z2
    have hq:(sig,(nm,c8))∈qS sg:=(hsig.resolve_right fun y=>z2 y.1).2;refine (exR rfl ⟨f,rfl,hf.1.mono s3,_,rfl,hf.1.mono s3,hf.2 sig H3 _ (Zsw hq) s3 fun H4 r4=>(exR rfl ?_)⟩);obtain ⟨hs4,hyd4,ht4⟩:=hR sig H3 H4 r4 hs3 hyd3;cases hb:b sig with
    | false=>exact Zgn (WSs.last (Zp Zd) (q.stop u7 sig z2 hq hb H3 H4 s3 r4))
    | true=>exact Zau ⟨rfl,hs4,hyd4,fun t xs z=>ht4 t xs (s3.at z),fun c5 e2 k2 j1 j2 H6 ts o6 v8=>q.pass u7 sig z2 hq hb c5 e2 k2 j1 j2 H3 H4 H6 ts s3 r4 o6 v8⟩
   ·have z2:sig = "" :=by simpa using z2
    have F5:((nm,c8):Zc)∉sg.map Prod.snd:=(hsig.resolve_left fun y=>y.1 z2).2;exact ⟨rfl,hs3,hyd3,fun t xs z=>s3.at z,fun c5 e2 k2 j1 j2 H6 ts o6 v8=>q.on u7 F5 c5 e2 k2 j1 j2 H6 ts ((Zc6 s3).trans o6) v8⟩
  rintro σ H5 ⟨rfl,hs5,hyd5,ht5,q5⟩;clear q hyd3 hs3 hyd y1 y2 y3 y4;obtain ⟨pl,jl,gl,y1,y2,y3,y4⟩:=hy0.mono hyd5;have hrec5:Zo H5 l d.2.2/\¬G l:=by
   obtain ⟨t',U3,l',z1,z2,z3⟩:=Paired.getL hs5.recs hd;rw [K0] at U3;cases U3;rw [ht5 _ _ N7] at z1;cases z1;exact ⟨z2,z3⟩
  have hto5:=ht5 _ _ N7;have O6:((nm,c8):Zc)∈Xm js:=yv.net.flat.mem_iff.mpr hin;refine WSs.step (Z0 (i:=10) Xr.nd (Zs (Zmy T) hr rfl T.eS T.bA.F.kp T.bA.b .nil Zk (Zb (Zv (K:=K) rfl (pv 0) Zg) (Zb (Zj (Zb (pv 6) (Zb (pv 8) Za))) Za)))) (exR rfl (ixT y1 1 rfl (exR rfl (exR rfl ⟨szA,fun t6 H6 s6 n6 e6=>⟨jl,t6,js,(nm,c8),rfl,y3.mono s6,e6,O6,fun t2 e2' hq2 N2=>?_⟩⟩))));obtain ⟨c5,e2⟩:=e2';obtain ⟨k2,E2⟩:=yv.part hq2;have hs6:=hs5.mono s6;refine WSs.step (Z9 (Zq (r:=Zoc K) (Zqs hr) (Zv (K:=K) rfl (pv 10) Zg) (Zs (Zoj T) hr rfl T.fA T.bM.F.kp T.bM.b .nil Zk (Zb (pv 1) Za)) (by with_unfolding_all rfl)) Zy Zr) (exR rfl (ixT N2 0 rfl (exR rfl ⟨G,sl,ad,st,rfl,hs6,nd,hz,fun lf H7 s7 n7 e7=>.inl ⟨lf,_,rfl,.inl (SqL.of e7),rfl,Zax _,_,rfl,Yz (fun z7=>?_) (fun z7=>?_)⟩⟩)))
  ·have z7:c5∈stood st.1:=by rw [show (if false=true then !inV (V.str c5) ((stood st.1).map V.str) else inV (V.str c5) ((stood st.1).map V.str))=_ from Wp c5 (stood st.1)] at z7;exact of_decide_eq_true z7
   have hs7:=hs6.mono s7;have hmv:Y3 st i d k2 c5 e2=(("crash" :Str),(st.1,st.2.1,st.2.2++[(("crash",c5):Zc)])):=by
    unfold Y3 Xw;rw [if_pos z7,if_pos (by decide)]
   refine WSs.step (Yj (Zbw PySem.F.plainAttrs_list PySem.F.slot_list_append PySem.F.type_list_append Xa (Zv (K:=K) rfl (pv 1) Zg) (Zb (Zj (Zb Zd (Zb (Zv (K:=K) rfl (pv 10) Zg) Za))) Za))) (exR rfl (.inl ⟨sl,_,2,_,rfl,rfl,SqL.of hs7.obj,Yr (j:=2) rfl,.inl ⟨rfl,_,SqL.of hs7.mis.choose_spec.1⟩,_,rfl,(ixT (s7.at N2) 0 rfl ⟨szA,fun t8 H8 s8 n8 e8=>?_⟩)⟩));obtain ⟨ts,d4,hln,hs9⟩:=(hs7.mono s8).mish (show Zm H8 t8 ("crash",c5) from e8);refine ⟨ad.m,_,_,rfl,rfl,d4,by rw [List.length_map];exact Zx (by lia),?_⟩;have q6:=q5 c5 e2 k2 hq2 E2 _ ad.ts ((Zc6 (s6.trans (s7.trans s8))).trans (Off.upd (.inr (.inr rfl)))) (by rw [hmv];exact hs9);rw [hmv] at q6;exact WSs.last (Zp Zd) q6
  have z7:c5∉stood st.1:=fun y=>z7 (by show inV (V.str c5) ((stood st.1).map V.str)=true;rw [Wp];exact decide_eq_true y)
  have hs7:=hs6.mono s7;have s67:=s6.trans s7;refine WSs.step (Z0 (i:=11) Xr.nd (Zs (Zi0 T) hr rfl T.dG T.bC.F.kp T.bC.b .nil Zk (Zb (pv 0) (Zb (Zv (K:=K) rfl (pv 10) Zg) Za)))) (exR rfl (exR rfl (ixT (s7.at N2) 0 rfl ⟨yd,pl,jl,gl,ps,k2,c5,rfl,s67.at y1,y2.mono s67,hp100,yv.net.nd,E2,fun H8 s8=>?_⟩)));have ht8:Zm H8 t2 (c5,e2):=s8.at (s7.at N2);have hs8:=hs7.mono s8;let I26:=fun (σ:St) (H':Hp)=>σ=[some (.ref yd),some (.ref sl),some (.str d.1),some (.ref f),some (.int (d.2.1:Int)),some (.ref l),some (.str nm),some (.str e),some (.str c8),some (.str sig),some (.ref t2),some (.str k2)]/\Same H8 H'/\Xw st k2 c5 e2 = ""
  refine WSs.cut I26 ?_ ?_
  ·refine WS.of (Z9 (PW.pt (Zfk (Zq (r:=X3 K) (X8 hr) (Zs (Zhc T) hr rfl T.di T.bc.F.kp T.bc.b .nil Zk (Zb (pv 11) (Zb (Zv (K:=K) rfl (pv 10) Zg) (Zb (Zb4 (Xc hr) (Zv (K:=K) rfl (pv 1) Zg) (Zv (K:=K) rfl (pv 10) Zg) Zd ⟨rfl,rfl,rfl,rfl⟩) Za)))) Zd (Zw _)) (Zcp (Zq (r:=Zby K) (Zcr hr) (pv 11) (Zj (Zb Zd (Zb Zd Za))) (by with_unfolding_all rfl))))) Zy Zr) (exR rfl (exR rfl (ixT ht8 1 rfl (exR rfl (.inl ⟨sl,_,1,_,rfl,rfl,SqL.of hs8.obj,Yr (j:=1) rfl,ad.d1,rfl,.inl ⟨_,.inl hs8.lies⟩,_,rfl,(ixT ht8 0 rfl ⟨_,hs8.get c5,k2,e2,Ys st.2.1 c5,by rw [Zdo];rfl,Q2 _ E2,fun H9 s9=>.inl ⟨rfl,_,rfl,Yz (fun z9=>?_) (fun z9=>?_)⟩⟩)⟩)))))
   ·have z9:Xv k2 e2 (Ys st.2.1 c5) = "" :=V.str.inj (of_decide_eq_true z9);refine (exR rfl ⟨szA,fun tt HA sA nA eA=>.inl ⟨tt,_,rfl,.inr (SqT.of eA),rfl,rfl,_,rfl,Yz (fun zA=>?_) (fun zA=>?_)⟩⟩)
    ·have zA:¬(k2 = "gate" \/k2 = "stop"):=by
      rw [show (if true=true then !inV (V.str k2) [V.str "stop",V.str "gate"] else inV (V.str k2) [V.str "stop",V.str "gate"])=_ from congrArg (!·) (Wp k2 ["stop", "gate"])] at zA;simp only [List.mem_cons,List.not_mem_nil,or_false,Bool.not_eq_true',decide_eq_false_iff_not] at zA;exact fun y=>zA y.symm
     have hmi:Xw st k2 c5 e2 = "off" :=by
      unfold Xw;rw [if_neg z7,if_pos ⟨z9,zA⟩]
     have hmv:Y3 st i d k2 c5 e2=(("off" :Str),(st.1,st.2.1,st.2.2++[(("off",c5):Zc)])):=by
      unfold Y3;rw [hmi,if_pos (by decide)]
     have s8A:=s9.trans sA;have hsA:=hs8.mono s8A;refine WSs.step (Yj (Zbw PySem.F.plainAttrs_list PySem.F.slot_list_append PySem.F.type_list_append Xa (Zv (K:=K) rfl (pv 1) Zg) (Zb (Zj (Zb Zd (Zb (Zv (K:=K) rfl (pv 10) Zg) Za))) Za))) (exR rfl (.inl ⟨sl,_,2,_,rfl,rfl,SqL.of hsA.obj,Yr (j:=2) rfl,.inl ⟨rfl,_,SqL.of hsA.mis.choose_spec.1⟩,_,rfl,(ixT (s8A.at ht8) 0 rfl ⟨szA,fun tB HB sB nB eB=>?_⟩)⟩));obtain ⟨ts,d4,hln,hsC⟩:=(hsA.mono sB).mish (show Zm HB tB ("off",c5) from eB);refine ⟨ad.m,_,_,rfl,rfl,d4,by rw [List.length_map];exact Zx (by lia),?_⟩;have q6:=q5 c5 e2 k2 hq2 E2 _ ad.ts ((Zc6 (s67.trans (s8.trans (s8A.trans sB)))).trans (Off.upd (.inr (.inr rfl)))) (by rw [hmv];exact hsC);rw [hmv] at q6;exact WSs.last (Zp Zd) q6
    ·have zA:k2 = "gate" \/k2 = "stop" :=by
      rw [show (if true=true then !inV (V.str k2) [V.str "stop",V.str "gate"] else inV (V.str k2) [V.str "stop",V.str "gate"])=_ from congrArg (!·) (Wp k2 ["stop", "gate"])] at zA;simp only [List.mem_cons,List.not_mem_nil,or_false,Bool.not_eq_true',decide_eq_false_iff_not,Classical.not_not] at zA;exact zA.symm
     refine ⟨rfl,s9.trans sA,?_⟩;unfold Xw;rw [if_neg z7,if_neg fun y=>y.2 zA]
   ·have z9:Xv k2 e2 (Ys st.2.1 c5) ≠ "" :=fun y=>z9 (decide_eq_true (by rw [y]))
    refine ⟨rfl,s9,?_⟩;unfold Xw;rw [if_neg z7,if_neg fun y=>z9 y.1]
  rintro σ H9 ⟨rfl,s9,hmi⟩;have s59:=s67.trans (s8.trans s9);have hs9:=hs5.mono s59;obtain ⟨us9,hl9,hus9⟩:=hrec5.1.mono s59;have ul9:=Paired.length hus9;have ht9:Zm H9 t2 (c5,e2):=s9.at ht8;refine WSs.step (Zad (Xc hr) (Zv (K:=K) rfl (pv 1) Zg) (pv 2) (Zj (Zb (pv 4) (Zb (Wh (r:=Zib K) Zjt (Zt We (pv 5) (Zl (Zb (pv 10) Za))) (Wr (Zpu Zkn (pv 4))) W6) Za))) rfl) (exR rfl (exR rfl (exR rfl ⟨szA,fun l1 HA sA nA eA=>.inr (.inr ⟨l,l1,_,_,rfl,rfl,sA.at hl9,eA,by rw [List.length_map];exact sz (by simp;lia),fun l2 HB sB nB eB=>(exR rfl (exR rfl (exR rfl (.inr (.inl ⟨l2,_,rfl,SqL.of eB,fun l3 HC sC nC eC=>⟨szA,fun tt HD sD nD eD=>(exR rfl (.inl ⟨sl,_,0,_,rfl,rfl,SqL.of ((sA.trans (sB.trans (sC.trans sD))).at hs9.obj),Yr (j:=0) rfl,_,rfl,ad.d0,_,rfl,Zfe.k (k:=Ym d.1) ((sA.trans (sB.trans (sC.trans sD))).at hs9.trd) ?_,?_⟩))⟩⟩)))))⟩)⟩)))
  ·unfold trK;rw [List.length_map,List.length_zip];exact Zx (by lia)
  have s9D:=sA.trans (sB.trans (sC.trans sD));have hsD:=hs9.mono s9D;have m8:Paired (Zm HD) (us9++[t2]) (d.2.2++[(c5,e2)]):=Paired.append (Paired.mapP hus9 fun _ _ r=>r.mono s9D) (.cons (s9D.at ht9) .nil);have eC':HC l3=some (.lst (((us9++[t2]).drop ((d.2.2++[(c5,e2)]).length-d.2.1)).map V.ref)):=by
   rw [eC,show us9.map V.ref++[V.ref t2]=(us9++[t2]).map V.ref by rw [List.map_append];rfl,Zqu _ _ h1,List.map_drop,List.length_map,Paired.length m8]
  have nl3:¬G l3:=fun z=>by
   obtain ⟨o,y⟩:=(hs9.mono (sA.trans sB)).live l3 z;rw [nC] at y;cases y
  have hsE:=hsD.train nd hd eD (sp:=Zhd d.2.1 (d.2.2++[(c5,e2)])) ⟨_,sD.at eC',Zfq _ m8⟩ nl3;have hmv:Y3 st i d k2 c5 e2=(("went" :Str),(st.1.set i (d.1,d.2.1,Zhd d.2.1 (d.2.2++[(c5,e2)])),st.2.1,st.2.2)):=by
   unfold Y3;rw [if_neg fun z=>z hmi]
  have q6:=q5 c5 e2 k2 hq2 E2 _ (ad.ts.set i tt) ((Zc6 (s59.trans s9D)).trans (Off.upd (.inl rfl))) (by rw [hmv];exact hsE);rw [hmv] at q6;exact WSs.last (Zp Zd) q6
theorem Zrc(T:Tx K mg){k:Nat}(h:6<=k:=by decide):Zu P w K mg base CX0 k T.bR.f T.bR.fd ["_law_yard", "_law_state", "_law_name", "_law_passes"] (Zw3 P w K mg base):=(Zog T).mono h
def Zhy(c:Int)(nm:Str):Bool:=decide (0<((nm.length:Int)+((nm.cps.getD 1 0:Nat):Int)+c)%4)
def Zig(T:Tx K mg)(H:Hp)(fl:Addr)(c:Int)(al:Addr):Prop:=∃c1 c2,Zm7 H T.cM fl "_law_passes" (("_law_shows" :Str) ++ ".<locals>." ++ "_law_passes") (Xk (Zkh Yu)) (Y2 (Zkh Yu)) (Zh (Zkh Yu)) [("_law_cell",c1),("_law_asked",c2)]/\Zd8 H c1 (.int c)/\Zd8 H c2 (.ref al)/\c1≠c2
def Zs6(T:Tx K mg):Sp:=fun vs H Q _=>∃(c:Int) (al:Addr),vs=[.int c,.ref al]/\Zq3 T H/\∀fl H',Same H H'->H fl=none->Zig T H' fl c al->Q (.ref fl) H'
theorem Zm8(T:Tx K mg):Zu P w K mg base CX0 1 T.aS.f T.aS.fd ["_law_cell", "_law_asked"] (Zs6 T):=by
 refine T.aS.F.okD (n := "_law_passes") (i:=2) T.fg Zmd (fun vs H Q E h=>?_) rfl rfl rfl rfl rfl (fun _=>rfl) (by decide) (by decide) (fun a8 A outer s H vs Q E h=>?_)
 ·obtain ⟨c,al,rfl,_⟩:=h
  rfl
 ·obtain ⟨c,al,rfl,ht,q⟩:=h;refine (exR rfl ⟨rfl,ht._law_shows,fun fl H' sm hn cl cs=>q fl H' sm hn ⟨_,_,cl,(cs 0 "_law_cell" (.int c) _ rfl rfl rfl rfl).2,(cs 1 "_law_asked" (.ref al) _ rfl rfl rfl rfl).2,by show s.heap.objs.size+1≠s.heap.objs.size+1+1;lia⟩⟩)
theorem Zh1(T:Tx K mg){k:Nat}(h:1<=k:=by decide):Zu P w K mg base CX0 k T.aS.f T.aS.fd ["_law_cell", "_law_asked"] (Zs6 T):=(Zm8 T).mono h
def shR(al:Addr)(nm:Str)(H1 H2:Hp):Prop:=H1 al=some (.lst [])/\Off (· =al) H1 H2/\H2 al=some (.lst [.str nm])
theorem Zig.mono{T:Tx K mg}{H H':Hp}{fl al:Addr}{c:Int}(e:Same H H')(h:Zig T H fl c al):Zig T H' fl c al:=by
 obtain ⟨c1,c2,h1,h2,h3,h4⟩:=h;exact ⟨c1,c2,h1.mono e,h2.mono e,h3.mono e,h4⟩
theorem Zig.shows{T:Tx K mg}{H:Hp}{fl al:Addr}{c:Int}{sg:List (Str×Str×Str)}(h:Zig T H fl c al)(hal:H al=some (.lst []))(hn:∀q∈sg,2<=q.1.length/\q.1.length<=6):Zj5 P w K mg base 5 fl H sg (shR al) (Zhy c):=by
 refine ⟨.inl h.choose_spec.choose_spec.1.fn,fun nm H1 Q hm sm q=>?_⟩;obtain ⟨c1,c2,cl,e1,e2,ne⟩:=h.mono sm;obtain ⟨g,hg,rfl⟩:=List.mem_map.mp hm;obtain ⟨hn1,hn2⟩:=hn g hg;have L:Lit H1 (Zh (Zkh Yu)) [("_law_cell",c1),("_law_asked",c2)] ["_law_asked", "_law_cell"] [.ref al,.int c]:=⟨.cons ⟨rfl,c2,rfl,e2⟩ (.cons ⟨rfl,c1,rfl,e1⟩ .nil),by simp,(by decide:[("_law_cell" :Str), "_law_asked"].Nodup),by simpa using ne⟩
 have hal1:=sm.at hal;refine Zp9 (g := "_law_signal_here") cl L (fun _ _ _ _ _=>rfl) rfl (by decide) (by trivial) (by trivial) rfl rfl rfl fun a8 A outer s hr=>?_
 refine WSs.step (Yj (Zbw PySem.F.plainAttrs_list PySem.F.slot_list_append PySem.F.type_list_append Xa (pv 1) (Zb (pv 0) Za))) (exR rfl ⟨.inl ⟨rfl,_,SqL.of (L.soft hal1 trivial)⟩,_,rfl,al,_,_,rfl,rfl,L.soft hal1 trivial,Zx (by simp),?_⟩);have h6:∀{n:Nat},n<=6->n<=sizeLine:=fun h=>sz (Nat.le_trans h (by decide))
 obtain ⟨c0,R4⟩:∃c0,g.1.cps.toList[1]? =some c0:=by
  have:1<g.1.cps.toList.length:=by rw [Array.length_toList];exact hn1
  exact ⟨_,List.getElem?_eq_getElem this⟩
 have hgd:g.1.cps.getD 1 0=c0:=by
  rw [Array.getElem?_toList] at R4;rw [Array.getD_eq_getD_getElem?,R4];rfl
 refine WSs.last (Zp (Wc Zkz (Zt Yv (Zt We (Zt We (Z3 (r:=Zav K) Zbh (by rfl) T.cL PySem.boot_len (Zb (pv 0) Za)) (Z3 Zvu (by rfl) T.ij PyProof.Rows.boot_ord (Zb (Zv (K:=K) rfl (pv 0) Zg) Za))) (pv 2)) Zg) Zg (Zw _))) (exR rfl (.inr (.inl (exR rfl ⟨h6 hn2,_,rfl,.inr (.inr ⟨_,1,c0,rfl,rfl,h6 hn2,Yr (j:=1) R4,_,rfl,rfl,.inl (exQ rfl rfl (exR rfl (.inl (exQ rfl rfl (exQ rfl rfl ⟨(by show (0:Int)<4;decide),_,_,rfl,rfl,fun H2 s2 N1=>?_⟩)))))⟩)⟩))));have hv:decide ((0:Int)<(((g.1.length:Int)+(((⟨#[c0]⟩:Str).cps.getD 0 0:Nat):Int))+c)%4)=Zhy c g.1:=by
  unfold Zhy;rw [hgd];rfl
 show Q (.bl (decide ((0:Int)<(((g.1.length:Int)+(((⟨#[c0]⟩:Str).cps.getD 0 0:Nat):Int))+c)%4))) H2;rw [hv];refine q H2 ⟨hal1,fun b o n e=>?_,s2.at Zf⟩
 by_cases z:b∈List.map Prod.snd [(("_law_cell" :Str),c1),("_law_asked",c2)]
 ·rw [N1 b z];exact e
 ·exact s2.at (by rw [Ze n,Zfy z];exact e)
theorem Paired.memL{α β:Type}{R:α->β->Prop}{l:List α}{m:List β}{a:α}(h:Paired R l m)(e:a∈l):∃b,R a b:=by
 obtain ⟨i,hi⟩:=List.mem_iff_getElem?.mp e;obtain ⟨b,_,r⟩:=Paired.get h hi;exact ⟨b,r⟩
theorem WAt.nt{T:Tx K mg}{H0 H:Hp}{F:Addr->Prop}{x tr:Addr}{ad:WAd}{st:WSt}(h:WAt T H0 H F x tr ad st){b:Addr}{xs:List V}(e:H b=some (.tup xs)):¬Wd ad b:=by
 rintro (z|z|z|z)
 ·rw [z,h.lies] at e;cases e
 ·rw [z,h.trd] at e;cases e
 ·obtain ⟨ts,hm,_⟩:=h.mis;rw [z,hm] at e;cases e
 ·obtain ⟨d,dx,l,h1,_⟩:=Paired.memL h.trs z;rw [h1] at e;cases e
theorem WAt.inF{T:Tx K mg}{H0 H:Hp}{F:Addr->Prop}{x tr:Addr}{ad:WAd}{st:WSt}(h:WAt T H0 H F x tr ad st){b:Addr}(e:Wd ad b):F b:=by
 rcases e with z|z|z|z
 ·rw [z];exact h.fl
 ·rw [z];exact h.ft
 ·rw [z];exact h.fm
 ·exact h.fa b z
theorem LAt.nt{H:Hp}{G:Addr->Prop}{sl:Addr}{ad:LAd}{st:WSt}(h:LAt H G sl ad st){b:Addr}(e:Zah ad b):(∃xs,H b=some (.lst xs))\/∃kvs,H b=some (.dK kvs):=by
 rcases e with z|z|z
 ·exact .inr ⟨_,by rw [z];exact h.trd⟩
 ·exact .inr ⟨_,by rw [z];exact h.lies⟩
 ·obtain ⟨ts,hm,_⟩:=h.mis;exact .inl ⟨_,by rw [z];exact hm⟩
theorem LAt.inG{H:Hp}{G:Addr->Prop}{sl:Addr}{ad:LAd}{st:WSt}(h:LAt H G sl ad st){b:Addr}(e:Zah ad b):G b:=by
 rcases e with z|z|z
 ·rw [z];exact h.g0
 ·rw [z];exact h.g1
 ·rw [z];exact h.gm
theorem Zo.offW{W:Addr->Prop}{H H':Hp}{l:Addr}{ps:List Zc}(o:Off W H H')(h:Zo H l ps)(nl:¬W l)(nt:∀t xs,H t=some (.tup xs)->¬W t):Zo H' l ps:=h.offF o nl nt
theorem WAt.off{T:Tx K mg}{H0 H H':Hp}{F W:Addr->Prop}{x tr:Addr}{ad:WAd}{st:WSt}(h:WAt T H0 H F x tr ad st)(o:Off W H H')(sub:∀b,W b->F b)(ap:∀b,W b->¬Wd ad b)(nt:∀b,W b->(∃xs,H b=some (.lst xs))\/∃kvs,H b=some (.dK kvs))(lv:∀b,W b->∃o,H' b=some o):WAt T H0 H' F x tr ad st:=by
 have tup:∀t xs,H t=some (.tup xs)->¬W t:=fun t xs e w=>by
  rcases nt t w with ⟨_,z⟩|⟨_,z⟩ <;>(rw [e] at z;cases z)
 refine ⟨o _ _ (fun w=>h.nx (sub x w)) h.obj,o _ _ (fun w=>ap _ w (.inl rfl)) h.lies,o _ _ (fun w=>ap _ w (.inr (.inl rfl))) h.trd,Paired.mapP h.trs fun a d r=>?_,h.mis.offW o (fun w=>ap _ w (.inr (.inr (.inl rfl)))) tup,h.fl,h.ft,h.fm,h.ne,h.fa,h.nd,h.nx,h.free,fun b u e=>o _ _ (fun w=>?_) (h.same.at e),fun b f=>?_⟩
 ·obtain ⟨dx,l,h1,h2,h3⟩:=r;refine ⟨dx,l,o _ _ (fun w=>?_) h1,h2.offW o (fun w=>h3 (sub l w)) tup,h3⟩;rcases nt a w with ⟨_,z⟩|⟨_,z⟩ <;>(rw [h1] at z;cases z)
 ·have:=h.free b (sub b w);rw [e] at this;cases this
 ·by_cases w:W b
  ·exact lv b w
  ·obtain ⟨u,e⟩:=h.live b f;exact ⟨u,o _ _ w e⟩
theorem LAt.off{H H':Hp}{G W:Addr->Prop}{sl:Addr}{ad:LAd}{st:WSt}(h:LAt H G sl ad st)(o:Off W H H')(sub:∀b,W b->G b)(ap:∀b,W b->¬Zah ad b)(tup:∀t xs,H t=some (.tup xs)->¬W t)(lv:∀b,W b->∃o,H' b=some o):LAt H' G sl ad st:=by
 refine ⟨o _ _ (fun w=>h.nx (sub _ w)) h.obj,o _ _ (fun w=>ap _ w (.inl rfl)) h.trd,Paired.mapP h.recs fun t d r=>?_,o _ _ (fun w=>ap _ w (.inr (.inl rfl))) h.lies,h.mis.offW o (fun w=>ap _ w (.inr (.inr rfl))) tup,h.g0,h.g1,h.gm,h.ne,h.nx,fun b f=>?_⟩
 ·obtain ⟨l,h1,h2,h3⟩:=r;exact ⟨l,o _ _ (tup _ _ h1) h1,h2.offW o (fun w=>h3 (sub l w)) tup,h3⟩
 ·by_cases w:W b
  ·exact lv b w
  ·obtain ⟨u,e⟩:=h.live b f;exact ⟨u,o _ _ w e⟩
theorem WAt.grow{T:Tx K mg}{H0 H H':Hp}{F F':Addr->Prop}{x tr:Addr}{ad:WAd}{st:WSt}(h:WAt T H0 H F x tr ad st)(s:Same H H')(m:∀b,F b->F' b)(n:∀b,F' b->F b\/(H b=none/\∃o,H' b=some o)):WAt T H0 H' F' x tr ad st:=by
 have h':=h.mono s;refine ⟨h'.obj,h'.lies,h'.trd,Paired.mapP h.trs fun _ _ r=>(r.more fun b z=>(n b z).imp id And.left).mono s,h'.mis,m _ h.fl,m _ h.ft,m _ h.fm,h.ne,fun a z=>m _ (h.fa a z),h.nd,fun z=>?_,fun b z=>?_,h'.same,fun b z=>?_⟩
 ·rcases n x z with y|y
  ·exact h.nx y
  ·rw [h.obj] at y;cases y.1
 ·rcases n b z with y|y
  ·exact h.free b y
  ·exact h.same.free y.1
 ·rcases n b z with y|y
  ·exact h'.live b y
  ·exact y.2
theorem LAt.grow{H H':Hp}{G G':Addr->Prop}{sl:Addr}{ad:LAd}{st:WSt}(h:LAt H G sl ad st)(s:Same H H')(m:∀b,G b->G' b)(n:∀b,G' b->G b\/(H b=none/\∃o,H' b=some o)):LAt H' G' sl ad st:=by
 have h':=h.mono s;refine ⟨h'.obj,h'.trd,Paired.mapP h.recs fun t d r=>?_,h'.lies,h'.mis,m _ h.g0,m _ h.g1,m _ h.gm,h.ne,fun z=>?_,fun b z=>?_⟩
 ·obtain ⟨l,h1,⟨us,h2,h2'⟩,h3⟩:=r;refine ⟨l,s.at h1,⟨us,s.at h2,Paired.mapP h2' fun _ _ r=>r.mono s⟩,fun z=>?_⟩;rcases n l z with y|y
  ·exact h3 y
  ·rw [h2] at y;cases y.1
 ·rcases n sl z with y|y
  ·exact h.nx y
  ·rw [h.obj] at y;cases y.1
 ·rcases n b z with y|y
  ·exact h'.live b y
  ·exact y.2
inductive Zeo(c:Int)(ts:List TrD)(ll:List (Str×Str))(ms:List Zc)(ps:List Zc)(js:List (Zc×Zc))(sg:List (Str×Str×Str))(i:Nat)(d:TrD)(nm c8:Str):Str->List Str->List TrD->List Zc->Prop
 | fin:c8 = "" ->Zeo c ts ll ms ps js sg i d nm c8 "end" [] ts ms
 | stop (sig:Str):c8 ≠ "" ->((sig,(nm,c8)):Str×Zc)∈qS sg->Zhy c sig=false->Zeo c ts ll ms ps js sg i d nm c8 "stop" [sig] ts ms
 | pass (sig c5 e2 k2:Str):c8 ≠ "" ->((sig,(nm,c8)):Str×Zc)∈qS sg->Zhy c sig=true->((nm,c8),(c5,e2))∈qJ js->((k2,c5):Zc)∈ps->Zeo c ts ll ms ps js sg i d nm c8 (Y3 (ts,ll,ms) i d k2 c5 e2).1 [sig] (Y3 (ts,ll,ms) i d k2 c5 e2).2.1 (Y3 (ts,ll,ms) i d k2 c5 e2).2.2.2
 | on (c5 e2 k2:Str):c8 ≠ "" ->((nm,c8):Zc)∉sg.map Prod.snd->((nm,c8),(c5,e2))∈qJ js->((k2,c5):Zc)∈ps->Zeo c ts ll ms ps js sg i d nm c8 (Y3 (ts,ll,ms) i d k2 c5 e2).1 [] (Y3 (ts,ll,ms) i d k2 c5 e2).2.1 (Y3 (ts,ll,ms) i d k2 c5 e2).2.2.2
theorem Zfx(ts:List TrD)(ll:List (Str×Str))(ms:List Zc)(i:Nat)(d:TrD)(k nm e:Str):(Y3 (ts,ll,ms) i d k nm e).2=((Y3 (ts,ll,ms) i d k nm e).2.1,ll,(Y3 (ts,ll,ms) i d k nm e).2.2.2):=by
 unfold Y3;split <;>rfl
theorem Zn4(ts:List TrD){ll lw:List (Str×Str)}(ms:List Zc)(i:Nat)(d:TrD)(k nm e:Str)(h:∀n,Ys ll n=Ys lw n):(Y3 (ts,ll,ms) i d k nm e).1=(Y3 (ts,lw,ms) i d k nm e).1/\(Y3 (ts,ll,ms) i d k nm e).2.1=(Y3 (ts,lw,ms) i d k nm e).2.1/\(Y3 (ts,ll,ms) i d k nm e).2.2.2=(Y3 (ts,lw,ms) i d k nm e).2.2.2:=by
 have:Xw (ts,ll,ms) k nm e=Xw (ts,lw,ms) k nm e:=by unfold Xw;simp only [h]
 unfold Y3;rw [this];split <;>exact ⟨rfl,rfl,rfl⟩
theorem Zww{α β:Type}{l:List (α×β)}{a:α}{b c:β}(nd:(l.map Prod.fst).Nodup)(h1:(a,b)∈l)(h2:(a,c)∈l):b=c:=by
 induction l with
 | nil=>cases h1
 | cons p l ih =>
  rw [List.map_cons,List.nodup_cons] at nd;rcases List.mem_cons.mp h1 with z1|z1 <;>rcases List.mem_cons.mp h2 with z2|z2
  ·exact (Prod.mk.inj (z1.trans z2.symm)).2
  ·exact absurd (List.mem_map.mpr ⟨_,z2,by rw [<-z1]⟩) nd.1
  ·exact absurd (List.mem_map.mpr ⟨_,z1,by rw [<-z2]⟩) nd.1
  ·exact ih nd.2 z1 z2
theorem Y8.jfun{ps:List Zc}{js:List (Zc×Zc)}{sg:List (Str×Str×Str)}(yv:Y8 ps js sg){a b c:Zc}(h1:(a,b)∈qJ js)(h2:(a,c)∈qJ js):b=c :=
 Zww (by rw [Za5];exact yv.net.flat.nodup_iff.mpr (Za2 yv.net.nd)) h1 h2
theorem Y8.sfun{ps:List Zc}{js:List (Zc×Zc)}{sg:List (Str×Str×Str)}(yv:Y8 ps js sg){s t:Str}{e:Zc}(h1:(s,e)∈qS sg)(h2:(t,e)∈qS sg):s=t:=by
 refine Zww (l:=qO sg) (by rw [Zoo];exact yv.sigs.one) (a:=e) ?_ ?_
 ·obtain ⟨g,hg,z⟩:=List.mem_map.mp h1;exact List.mem_map.mpr ⟨g,hg,by rw [<-(Prod.mk.inj z).1,<-(Prod.mk.inj z).2]⟩
 ·obtain ⟨g,hg,z⟩:=List.mem_map.mp h2;exact List.mem_map.mpr ⟨g,hg,by rw [<-(Prod.mk.inj z).1,<-(Prod.mk.inj z).2]⟩
theorem Y8.kfun{ps:List Zc}{js:List (Zc×Zc)}{sg:List (Str×Str×Str)}(yv:Y8 ps js sg){k l n:Str}(h1:((k,n):Zc)∈ps)(h2:((l,n):Zc)∈ps):k=l:=by
 have:=Zsd yv.net.nd h1 h2 rfl;exact (Prod.mk.inj this).1
theorem Zpe{sg:List (Str×Str×Str)}{s:Str}{e:Zc}(h:(s,e)∈qS sg):e∈sg.map Prod.snd:=by
 obtain ⟨g,hg,z⟩:=List.mem_map.mp h;exact List.mem_map.mpr ⟨g,hg,(Prod.mk.inj z).2⟩
theorem Zeo.uniq{c:Int}{ts:List TrD}{ll lw:List (Str×Str)}{ms ps:List Zc}{js:List (Zc×Zc)}{sg:List (Str×Str×Str)}{i:Nat}{d:TrD}{nm c8 wd wd':Str}{du du':List Str}{ts1 ts2:List TrD}{ms1 ms2:List Zc}(yv:Y8 ps js sg)(hl:∀n,Ys ll n=Ys lw n)
  (h1:Zeo c ts ll ms ps js sg i d nm c8 wd du ts1 ms1) (h2:Zeo c ts lw ms ps js sg i d nm c8 wd' du' ts2 ms2):wd=wd'/\du=du'/\ts1=ts2/\ms1=ms2:=by
 cases h1 with
 | fin z=>cases h2 with
  | fin _=>exact ⟨rfl,rfl,rfl,rfl⟩
  | stop _ n=>exact absurd z n
  | pass _ _ _ _ n=>exact absurd z n
  | on _ _ _ n=>exact absurd z n
 | stop s n m b=>cases h2 with
  | fin z=>exact absurd z n
  | stop s' _ m' _=>rw [yv.sfun m m'];exact ⟨rfl,rfl,rfl,rfl⟩
  | pass s' _ _ _ _ m' b'=>rw [yv.sfun m m',b'] at b;cases b
  | on _ _ _ _ o=>exact absurd (Zpe m) o
 | pass s n2 e2 k2 n m b j p=>cases h2 with
  | fin z=>exact absurd z n
  | stop s' _ m' b'=>rw [yv.sfun m m',b'] at b;cases b
  | pass s' n3 e3 k3 _ m' b' j' p' =>
   have ej:=yv.jfun j j';cases ej;have ek:=yv.kfun p p';cases ek;obtain ⟨x1,x2,x3⟩:=Zn4 ts ms i d k2 n2 e2 hl;exact ⟨x1,by rw [yv.sfun m m'],x2,x3⟩
  | on _ _ _ _ o=>exact absurd (Zpe m) o
 | on n2 e2 k2 n o j p=>cases h2 with
  | fin z=>exact absurd z n
  | stop s' _ m'=>exact absurd (Zpe m') o
  | pass s' _ _ _ _ m'=>exact absurd (Zpe m') o
  | on n3 e3 k3 _ _ j' p' =>
   have ej:=yv.jfun j j';cases ej;have ek:=yv.kfun p p';cases ek;obtain ⟨x1,x2,x3⟩:=Zn4 ts ms i d k2 n2 e2 hl;exact ⟨x1,rfl,x2,x3⟩
theorem shR.off{al:Addr}{s:Str}{H1 H2:Hp}{Z W:Addr->Prop}(r:shR al s H1 H2)(w:W al):Off W H1 H2:=fun b o n e=>r.2.1 b o (fun z=>n (by rw [z];exact w)) e
theorem Zz5{T:Tx K mg}{H0 H:Hp}{Z:Addr->Prop}{x tr al:Addr}{ad:WAd}{ts:List TrD}{lw:List (Str×Str)}{ms ps:List Zc}{js:List (Zc×Zc)}{sg:List (Str×Str×Str)}{i:Nat}{d:TrD}{nm c8:Str}{c:Int}{Q:VK}(hw:WAt T H0 H Z x tr ad (ts,lw,ms))(hal:H al=some (.lst []))(za:Z al)(na:¬Wd ad al)
  (q:∀wd du j8 C4 H',Zeo c ts lw ms ps js sg i d nm c8 wd du j8 C4->WAt T H0 H' Z x tr ad (j8,lw,C4)->Off (fun b=>Wd ad b\/b=al) H H'->H' al=some (.lst (du.map V.str))->Q (.str wd) H'):GoQ T H0 H Z x tr ad (ts,lw,ms) ps js sg i d nm c8 (shR al) (Zhy c) Q:=by
 have hR:∀s H1 H2,Same H H1->shR al s H1 H2->WAt T H0 H2 Z x tr ad (ts,lw,ms):=fun s H1 H2 s1 r=>(hw.mono s1).off (W:=(· =al)) r.2.1 (fun b z=>by rw [z];exact za) (fun b z=>by rw [z];exact na) (fun b z=>.inl ⟨_,(congrArg H1 z).trans r.1⟩) (fun b z=>⟨_,(congrArg H2 z).trans r.2.2⟩)
 have hO:∀s H1 H2,Same H H1->shR al s H1 H2->Off (fun b=>Wd ad b\/b=al) H H2:=fun s H1 H2 s1 r=>(Zc6 s1).trans (r.off (Z:=Z) (.inr rfl))
 have big:∀{H1 H2:Hp},Off (Wd ad) H1 H2->Off (fun b=>Wd ad b\/b=al) H1 H2:=fun o b u n e=>o b u (fun z=>n (.inl z)) e
 refine ⟨fun z H' s=>q _ _ _ _ H' (.fin z) (hw.mono s) (Zc6 s) (s.at hal),fun n sig _ m b H1 H2 s1 r=>q _ _ _ _ H2 (.stop sig n m b) (hR sig H1 H2 s1 r) (hO sig H1 H2 s1 r) r.2.2,fun n sig _ m b c5 e2 k2 j p H1 H2 H3 s1 r o j0=>?_,fun n no c5 e2 k2 j p H3 o j0=>?_⟩
 ·rw [Zfx] at j0;exact q _ _ _ _ H3 (.pass sig c5 e2 k2 n m b j p) j0 ((hO sig H1 H2 s1 r).trans (big o)) (o _ _ na r.2.2)
 ·rw [Zfx] at j0;exact q _ _ _ _ H3 (.on c5 e2 k2 n no j p) j0 (big o) (o _ _ na hal)
theorem Zxt{H:Hp}{Z:Addr->Prop}{sl ul:Addr}{la:LAd}{ts:List TrD}{ll:List (Str×Str)}{ms ps:List Zc}{js:List (Zc×Zc)}{sg:List (Str×Str×Str)}{i:Nat}{d:TrD}{nm c8:Str}{c:Int}{Q:VK}(hl:LAt H Z sl la (ts,ll,ms))(T9:H ul=some (.lst []))(za:Z ul)(na:¬Zah la ul)
  (q:∀wd du j8 C4 H' rs,Zeo c ts ll ms ps js sg i d nm c8 wd du j8 C4->LAt H' Z sl ⟨la.d0,la.d1,la.m,rs⟩ (j8,ll,C4)->Off (fun b=>Zah la b\/b=ul) H H'->H' ul=some (.lst (du.map V.str))->Q (.str wd) H'):Yb8 H Z sl la (ts,ll,ms) ps js sg i d nm c8 (shR ul) (Zhy c) Q:=by
 have hR:∀s H1 H2,Same H H1->shR ul s H1 H2->LAt H2 Z sl la (ts,ll,ms):=fun s H1 H2 s1 r=>(hl.mono s1).off (W:=(· =ul)) r.2.1 (fun b z=>by rw [z];exact za) (fun b z=>by rw [z];exact na) (fun t xs e z=>by rw [z,r.1] at e;cases e) (fun b z=>⟨_,(congrArg H2 z).trans r.2.2⟩)
 have hO:∀s H1 H2,Same H H1->shR ul s H1 H2->Off (fun b=>Zah la b\/b=ul) H H2:=fun s H1 H2 s1 r=>(Zc6 s1).trans (r.off (Z:=Z) (.inr rfl))
 have big:∀{H1 H2:Hp},Off (Zah la) H1 H2->Off (fun b=>Zah la b\/b=ul) H1 H2:=fun o b u n e=>o b u (fun z=>n (.inl z)) e
 refine ⟨fun z H' s=>q _ _ _ _ H' la.ts (.fin z) (hl.mono s) (Zc6 s) (s.at T9),fun n sig _ m b H1 H2 s1 r=>q _ _ _ _ H2 la.ts (.stop sig n m b) (hR sig H1 H2 s1 r) (hO sig H1 H2 s1 r) r.2.2,fun n sig _ m b c5 e2 k2 j p H1 H2 H3 rs s1 r o hl3=>?_,fun n no c5 e2 k2 j p H3 rs o hl3=>?_⟩
 ·rw [Zfx] at hl3;exact q _ _ _ _ H3 rs (.pass sig c5 e2 k2 n m b j p) hl3 ((hO sig H1 H2 s1 r).trans (big o)) (o _ _ na r.2.2)
 ·rw [Zfx] at hl3;exact q _ _ _ _ H3 rs (.on c5 e2 k2 n no j p) hl3 (big o) (o _ _ na T9)
theorem Yq{H:Hp}{l:Addr}{ps:List Zc}(h:Zo H l ps):Im K H 2 (.lst (ps.map trP)) (.ref l):=by
 obtain ⟨ts,h1,h2⟩:=h;refine Im.lst (n:=1) (SqL.of h1) ?_;clear h1
 induction h2 with
 | nil=>exact .nil
 | cons r _ ih=>exact .cons (imP r) ih
theorem Zba{H:Hp}{l:Addr}{ss:List Str}(h:H l=some (.lst (ss.map V.str))):Im K H 1 (.lst (ss.map Tr.str)) (.ref l):=Im.lst (n:=0) (SqL.of h) (Paired.strs _)
structure Zei(ps:List Zc)(ts:List TrD):Prop where
 nd:(ts.map Prod.fst).Nodup
 len:ts.length<=2
 ok:∀d∈ts,1<=d.2.1/\d.2.1<=4/\d.2.2≠[]/\d.2.2.length<=4/\∀p∈d.2.2,∃k,((k,p.1):Zc)∈ps
theorem Zei.stood{ps:List Zc}{ts:List TrD}(h:Zei ps ts):(stood ts).length<=400:=by
 obtain ⟨_,h2,h3⟩:=h;unfold K53.stood;rcases ts with _|⟨a,_|⟨b,_|_⟩⟩
 ·decide
 ·have:=(h3 a (by simp)).2.2.2.1;simp;lia
 ·have h1:=(h3 a (by simp)).2.2.2.1;have h2:=(h3 b (by simp)).2.2.2.1;simp;lia
 ·simp at h2
theorem Zei.set{ps:List Zc}{ts:List TrD}{i:Nat}{d:TrD}{sp:List Zc}(h:Zei ps ts)(hd:ts[i]? =some d)(h1:sp≠[])(h2:sp.length<=4)(h3:∀p∈sp,∃k,((k,p.1):Zc)∈ps):Zei ps (ts.set i (d.1,d.2.1,sp))/\(ts.set i (d.1,d.2.1,sp)).map Prod.fst=ts.map Prod.fst:=by
 have e:(ts.set i (d.1,d.2.1,sp)).map Prod.fst=ts.map Prod.fst:=by
  rw [List.map_set];refine List.ext_getElem? fun j=>?_
  rw [List.getElem?_set];split
  ·rename_i z;subst z;rw [List.getElem?_map,hd];have:=(List.getElem?_eq_some_iff.mp hd).1;simp [this]
  ·rfl
 refine ⟨⟨by rw [e];exact h.nd,by rw [List.length_set];exact h.len,fun c hc=>?_⟩,e⟩;rcases List.mem_or_eq_of_mem_set hc with z|z
 ·exact h.ok c z
 ·obtain ⟨y1,y2,_⟩:=h.ok d (List.mem_of_getElem? hd);rw [z];exact ⟨y1,y2,h1,h2,h3⟩
theorem Zpz{ps:List Zc}{ts:List TrD}{ll:List (Str×Str)}{ms:List Zc}{i:Nat}{d:TrD}{k nm e:Str}(h:Zei ps ts)(hd:ts[i]? =some d)(hk:((k,nm):Zc)∈ps):Zei ps (Y3 (ts,ll,ms) i d k nm e).2.1/\(Y3 (ts,ll,ms) i d k nm e).2.1.map Prod.fst=ts.map Prod.fst/\(Y3 (ts,ll,ms) i d k nm e).2.2.2.length<=ms.length+1:=by
 unfold Y3;split
 ·exact ⟨h,rfl,by simp⟩
 ·obtain ⟨y1,y2,y3,y4,y5⟩:=h.ok d (List.mem_of_getElem? hd);have hl:(Zhd d.2.1 (d.2.2++[(nm,e)])).length=min d.2.1 (d.2.2.length+1):=by
   unfold Zhd;rw [List.length_drop,List.length_append];simp;lia
  obtain ⟨z1,z2⟩:=h.set hd (sp:=Zhd d.2.1 (d.2.2++[(nm,e)])) (fun z=>by rw [z] at hl;simp at hl;lia) (by lia) (fun p hp=>by
   rcases List.mem_append.mp (List.mem_of_mem_drop hp) with y|y
   ·exact y5 p y
   ·rw [List.mem_singleton.mp y];exact ⟨k,hk⟩)
  exact ⟨z1,z2,by simp⟩
theorem Zeo.ok{c:Int}{ts:List TrD}{ll:List (Str×Str)}{ms ps:List Zc}{js:List (Zc×Zc)}{sg:List (Str×Str×Str)}{i:Nat}{d:TrD}{nm c8 wd:Str}{du:List Str}{ts1:List TrD}{ms1:List Zc}(h:Zeo c ts ll ms ps js sg i d nm c8 wd du ts1 ms1)(ht:Zei ps ts)(hd:ts[i]? =some d):Zei ps ts1/\ts1.map Prod.fst=ts.map Prod.fst/\ms1.length<=ms.length+1:=by
 cases h with
 | fin _=>exact ⟨ht,rfl,by lia⟩
 | stop=>exact ⟨ht,rfl,by lia⟩
 | pass sig c5 e2 k2 _ _ _ _ p=>exact Zpz ht hd p
 | on c5 e2 k2 _ _ _ p=>exact Zpz ht hd p
structure Gnd(T:Tx K mg)(H0:Hp)(tr yd:Addr)(ps:List Zc)(js:List (Zc×Zc))(sg:List (Str×Str×Str))(lw ll:List (Str×Str)):Prop where
 tr:Ya T H0 tr ps js sg
 yd:Zt9 H0 yd ps js sg
 yv:Y8 ps js sg
 tabs:Zq3 T H0
 sg2:∀q∈sg,2<=q.1.length/\q.1.length<=6
 li:∀p∈ps,Ys ll p.2∈Zco p.1
 le:∀n,Ys ll n=Ys lw n
structure Zl9(T:Tx K mg)(H0 H:Hp)(Z:Addr->Prop)(x tr sl:Addr)(ad:WAd)(la:LAd)(ts:List TrD)(lw ll:List (Str×Str))(ms:List Zc):Prop where
 w:WAt T H0 H Z x tr ad (ts,lw,ms)
 l:LAt H Z sl la (ts,ll,ms)
 ap:∀b,Wd ad b->¬Zah la b
def Zzc(T:Tx K mg):Sp:=fun vs H Q _=>∃(H0:Hp) (Z:Addr->Prop) (x tr yd sl:Addr) (ad:WAd) (la:LAd) (ts:List TrD) (lw ll:List (Str×Str)) (ms ps:List Zc) (js:List (Zc×Zc)) (sg:List (Str×Str×Str)) (i:Nat) (d:TrD) (cell:Int),vs=[.ref x,.ref yd,.ref sl,.str d.1,.int cell]/\Zl9 T H0 H Z x tr sl ad la ts lw ll ms/\Gnd T H0 tr yd ps js sg lw ll/\Zei ps ts/\ms.length<=300/\ts[i]? =some d /\
 ∀Z' la' j8 C4 H',Zl9 T H0 H' Z' x tr sl ad la' j8 lw ll C4->Zei ps j8->j8.map Prod.fst=ts.map Prod.fst->C4.length<=ms.length+1->Off (fun b=>Wd ad b\/Zah la b) H H'->(∀b,Zah la' b->Zah la b)->(∀b,Z b->Z' b)->(∀b,Z' b->Z b\/H b=none)->Q (.bl true) H'
theorem Zr7(T:Tx K mg):Zu P w K mg base CX0 7 T.cE.f T.cE.fd ["_law_world", "_law_yard", "_law_state", "_law_name", "_law_cell"] (Zzc T):=by
 refine T.cE.F.okW Zeg fun a8 A outer s H vs Q E hr h=>?_
 ·obtain ⟨H0,Z,x,tr,yd,sl,ad,la,ts,lw,ll,ms,ps,js,sg,i,d,cell,rfl,⟨hw,hl,ap⟩,g,tok,U7,hd,q⟩:=h;intro X;refine WSs.step (Z0 (i:=5) Zeg.nd (Zl Za)) ⟨szA,fun al H1 s1 n1 e1=>?_⟩;refine WSs.step (Z0 (i:=6) Zeg.nd (Zl Za)) ⟨szA,fun ul H2 s2 n2 e2=>?_⟩;have u0:=s1.trans s2;have au:al≠ul:=fun z=>by rw [<-z,e1] at n2;cases n2
  have hal2:=s2.at e1;have zn:∀b,(Z b\/b=al\/b=ul)->Z b\/(H b=none/\∃o,H2 b=some o):=fun b z=>by
   rcases z with z|z|z
   ·exact .inl z
   ·exact .inr ⟨by rw [z];exact n1,_,by rw [z];exact hal2⟩
   ·exact .inr ⟨by rw [z];exact s1.free n2,_,by rw [z];exact e2⟩
  have p0:WAt T H0 H2 (fun b=>Z b\/b=al\/b=ul) x tr ad (ts,lw,ms):=hw.grow u0 (fun b z=>.inl z) zn;have D4:LAt H2 (fun b=>Z b\/b=al\/b=ul) sl la (ts,ll,ms):=hl.grow u0 (fun b z=>.inl z) zn;generalize hZ:(fun b=>Z b\/b=al\/b=ul)=Z2 at p0 D4;have za:Z2 al:=by rw [<-hZ];exact .inr (.inl rfl)
  have zu:Z2 ul:=by rw [<-hZ];exact .inr (.inr rfl)
  have nw:∀b,H b=none->¬Wd ad b:=fun b z y=>by
   obtain ⟨o,e⟩:=hw.live b (hw.inF y);rw [z] at e;cases e
  have nl:∀b,H b=none->¬Zah la b:=fun b z y=>by
   obtain ⟨o,e⟩:=hl.live b (hl.inG y);rw [z] at e;cases e
  have ul0:=s1.free n2;obtain ⟨y1,y2,y3,y4,y5⟩:=tok.ok d (List.mem_of_getElem? hd);obtain ⟨y9,⟨nm,e⟩,D3⟩:∃y9 p,d.2.2=y9++[p]:=⟨_,_,(List.dropLast_concat_getLast y3).symm⟩
  obtain ⟨k,hk⟩:=y5 (nm,e) (by rw [D3];simp);have hz:=tok.stood;have h2:=tok.len;have yl:=g.yv.len;generalize hc:cell / 8=c;let I27:=fun (σ:St) (H':Hp)=>∃(wd:Str) (du:List Str) (j8:List TrD) (C4:List Zc) (rs:List Addr),σ=[some (.ref x),some (.ref yd),some (.ref sl),some (.str d.1),some (.int cell),some (.ref al),some (.ref ul),some (.str wd)]/\Zeo c ts ll ms ps js sg i d nm (Xv k e (Ys ll nm)) wd du j8 C4/\WAt T H0 H' Z2 x tr ad (ts,lw,ms)/\LAt H' Z2 sl ⟨la.d0,la.d1,la.m,rs⟩ (j8,ll,C4)/\H' al=some (.lst [])/\H' ul=some (.lst (du.map V.str))/\Off (fun b=>Wd ad b\/Zah la b) H H'
  refine WSs.cut I27 ?_ ?_
  ·refine WS.of (Z0 (i:=7) Zeg.nd (Zs (Zrc T) hr rfl T.gd T.bR.F.kp T.bR.b .nil Zk (Zb (pv 1) (Zb (pv 2) (Zb (pv 3) (Zb (Zs (Zh1 T) hr rfl T.dk T.aS.F.kp T.aS.b .nil Zk (Zb (Zt Yt (pv 4) Zg) (Zb (pv 6) Za))) Za)))))) (exR rfl (exR rfl (exR rfl (exR rfl (exQ rfl rfl ⟨⟨by decide,by decide⟩,_,rfl,_,ul,rfl,g.tabs.mono p0.same,fun fl H3 s3 n3 sf=>⟨H0,Z2,yd,sl,fl,la,(ts,ll,ms),ps,js,sg,i,d,k,nm,e,y9,shR ul,Zhy c,rfl,D4.mono s3,p0.same.trans s3,g.yd,g.yv,by lia,hz,by show ms.length<=400;lia,by show ts.length<64;lia,tok.nd,hd,y1,by lia,D3,hk,g.li,?_,?_,?_⟩⟩)))))
   ·have:=sf.shows (P:=P) (w:=w) (base:=base) (s3.at e2) g.sg2;rw [<-hc];exact this
   ·exact fun s Ha Hb r hla sm=>⟨hla.off (W:=(· =ul)) r.2.1 (fun b z=>by rw [z];exact zu) (fun b z=>by rw [z];exact nl ul ul0) (fun t xs e z=>by rw [z,r.1] at e;cases e) (fun b z=>⟨_,(congrArg Hb z).trans r.2.2⟩),fun b o e=>r.2.1 b o (fun z=>by rw [z,p0.free ul zu] at e;cases e) (sm.at e),fun t xs e=>r.2.1 t _ (fun z=>by rw [z,r.1] at e;cases e) e⟩
   ·refine Zxt (D4.mono s3) (s3.at e2) zu (nl ul ul0) fun wd du j8 C4 H' rs gr C5 o hu=>⟨wd,du,j8,C4,rs,rfl,gr,(p0.mono s3).off o ?_ ?_ ?_ ?_,C5,o _ _ ?_ (s3.at hal2),hu,fun b u n z=>o _ _ ?_ ((u0.trans s3).at z)⟩
    ·rintro b (z|z)
     ·exact D4.inG z
     ·rw [z];exact zu
    ·rintro b (z|z)
     ·exact fun y=>ap b y z
     ·rw [z];exact nw ul ul0
    ·rintro b (z|z)
     ·exact (D4.mono s3).nt z
     ·exact .inl ⟨_,(congrArg H3 z).trans (s3.at e2)⟩
    ·rintro b (z|z)
     ·exact C5.live b (D4.inG z)
     ·exact ⟨_,(congrArg H' z).trans hu⟩
    ·rintro (z|z)
     ·exact nl al n1 z
     ·exact au z
    ·rintro (y|y)
     ·exact n (.inr y)
     ·rw [y,ul0] at z;cases z
  rintro σ H4 ⟨wd,du,j8,C4,rs,rfl,gr,u8,hl4,hal4,hul4,o4⟩;obtain ⟨D8,tnm,tms⟩:=gr.ok tok hd;rw [g.le] at gr;let I28:=fun (σ:St) (H':Hp)=>σ=[some (.ref x),some (.ref yd),some (.ref sl),some (.str d.1),some (.int cell),some (.ref al),some (.ref ul),some (.str wd)]/\WAt T H0 H' Z2 x tr ad (j8,lw,C4)/\LAt H' Z2 sl ⟨la.d0,la.d1,la.m,rs⟩ (j8,ll,C4)/\Off (fun b=>Wd ad b\/Zah la b) H H'
  refine WSs.cut I28 ?_ ?_
  ·refine WS.of (Z9 (PW.pt (Zf7 (Zq (r:=Zcm K) (Zdp hr) (Z1 (pv 0) T.ac T.bD (Xt T) hr T.az.b .nil Zk (Zb (pv 3) (Zb (Zs (Zh1 T) hr rfl T.dk T.aS.F.kp T.aS.b .nil Zk (Zb (Zt Yt (pv 4) Zg) (Zb (pv 5) Za))) Za))) (pv 7) (Zw _)) (Zeh (Zq (r:=Zcm K) (Zdp hr) (pv 5) (pv 6) (Zw _))))) Zy Zr) (exR rfl ⟨x,ad.dx,_,rfl,u8.obj,rfl,_,rfl,_,rfl,_,_,rfl,rfl,⟨by decide,by decide⟩,_,rfl,_,al,rfl,g.tabs.mono u8.same,fun fl H5 s5 n5 sf=>⟨H0,Z2,x,tr,fl,ad,(ts,lw,ms),ps,js,sg,i,d,k,nm,e,y9,shR al,Zhy c,rfl,u8.mono s5,g.tr,g.yv,hz,by show ms.length<=400;lia,by show ts.length<64;lia,tok.nd,hd,y1,by lia,D3,hk,?_,?_,Zz5 (u8.mono s5) (s5.at hal4) za (nw al n1) fun wd2 du2 ts2 ms2 H6 gr2 v8 o6 ha6=>(exR rfl (.inl ⟨rfl,_,rfl,?_⟩))⟩⟩)
   ·have:=sf.shows (P:=P) (w:=w) (base:=base) (s5.at hal4) g.sg2;rw [<-hc];exact this
   ·exact fun s Ha Hb r hwa=>⟨hwa.off (W:=(· =al)) r.2.1 (fun b z=>by rw [z];exact za) (fun b z=>by rw [z];exact nw al n1) (fun b z=>.inl ⟨_,(congrArg Ha z).trans r.1⟩) (fun b z=>⟨_,(congrArg Hb z).trans r.2.2⟩),fun t p e=>r.2.1 t _ (fun z=>by unfold Zm at e;rw [z,r.1] at e;cases e) e⟩
   ·obtain ⟨rfl,rfl,rfl,rfl⟩:=gr.uniq g.yv g.le gr2;have hu6:H6 ul=some (.lst (du.map V.str)):=o6 _ _ (by
     rintro (z|z)
     ·exact nw ul ul0 z
     ·exact au z.symm) (s5.at hul4)
    have M8:LAt H6 Z2 sl ⟨la.d0,la.d1,la.m,rs⟩ (j8,ll,C4):=by
     refine (hl4.mono s5).off o6 ?_ ?_ ?_ ?_
     ·rintro b (z|z)
      ·exact u8.inF z
      ·rw [z];exact za
     ·rintro b (z|z)
      ·exact ap b z
      ·rw [z];exact nl al n1
     ·rintro t xs e (z|z)
      ·exact (u8.mono s5).nt e z
      ·rw [z,s5.at hal4] at e;cases e
     ·rintro b (z|z)
      ·exact v8.live b (u8.inF z)
      ·exact ⟨_,(congrArg H6 z).trans ha6⟩
    rw [show (!decide (V.str wd=V.str wd))=false by rw [decide_eq_true rfl];rfl];refine Zau ⟨_,rfl,_,rfl,.inr (.inl ⟨1,_,_,by decide,.inr ⟨_,_,rfl,rfl⟩,Zba ha6,Zba hu6,_,rfl,?_⟩)⟩;rw [decide_eq_true rfl];refine Zau ⟨rfl,v8,M8,fun b u n z=>o6 _ _ ?_ (s5.at (o4 b u n z))⟩;rintro (y|y)
    ·exact n (.inl y)
    ·rw [y,n1] at z;cases z
  rintro σ H6 ⟨rfl,v8,M8,o6⟩;let I29:=fun (σ:St) (H':Hp)=>σ=[some (.ref x),some (.ref yd),some (.ref sl),some (.str d.1),some (.int cell),some (.ref al),some (.ref ul),some (.str wd)]/\Same H6 H'
  refine WSs.cut I29 ?_ ?_
  ·refine WS.of (Z9 (PW.pt (Zfk (Zq (r:=X3 K) (X8 hr) (Zt Yv (Zt Yt (pv 4) Zg) Zg) Zg (Zw _)) (Zcp (Zq (r:=Zcm K) (Zdp hr) (Xb (pv 0) T.ac T.bi (Xl T) hr T.am.b .nil Zk) (Zv (K:=K) rfl (pv 2) Zg) (Zw _))))) Zy Zr) (exR rfl (exQ rfl rfl ⟨⟨by decide,by decide⟩,_,_,rfl,rfl,(by show (0:Int)<2;decide),.inl ⟨rfl,_,rfl,Yz (fun _=>?_) (fun _=>⟨rfl,Same.refl _⟩)⟩⟩));refine (exR rfl ⟨x,ad.dx,_,rfl,v8.obj,rfl,H0,Z2,x,tr,ad,_,rfl,v8,fun l H7 s7 n7 p7=>(exR rfl (.inl ⟨sl,_,2,_,rfl,rfl,SqL.of (s7.at M8.obj),Yr (j:=2) rfl,.inr (.inl ⟨2,_,_,by decide,.inr ⟨_,_,rfl,rfl⟩,Yq p7,Yq (M8.mono s7).mis,_,rfl,?_⟩)⟩))⟩);rw [decide_eq_true rfl];exact Zau ⟨rfl,s7⟩
  rintro σ H7 ⟨rfl,s7⟩;have N4:=v8.mono s7;have N8:=M8.mono s7;obtain ⟨d1,hd1,e1'⟩:∃d1,j8[i]? =some d1/\d1.1=d.1:=by
   have:=congrArg (fun l=>l[i]?) tnm;simp only [List.getElem?_map,hd] at this;cases z:j8[i]? with
   | none=>rw [z] at this;cases this
   | some d1=>rw [z] at this;exact ⟨d1,rfl,Option.some.inj this⟩
  obtain ⟨t,K0,l1,N7,hl1,_⟩:=Paired.getL N8.recs hd1;have h2':=D8.len;refine WSs.last (Zp (Zdz (Wc (r:=X3 K) (X8 hr) (Z1 (pv 0) T.ac T.bX (Wi T) hr T.aC.b .nil Zk (Zb (pv 3) Za)) (Zv (K:=K) rfl (Xz (Xc hr) (Zv (K:=K) rfl (pv 2) Zg) (pv 3) (fun _ _=>rfl)) Zg) (Zw _)) (Zgl (Wc (r:=X3 K) (X8 hr) (Xb (pv 0) T.ac T.bi (Xl T) hr T.am.b .nil Zk) (Zv (K:=K) rfl (pv 2) Zg) (Zw _))))) (exR rfl ⟨x,ad.dx,_,rfl,N4.obj,rfl,_,rfl,H0,Z2,x,tr,ad,(j8,lw,C4),d1,by rw [e1'];rfl,N4,by show j8.length<64;lia,D8.nd,List.mem_of_getElem? hd1,fun l H8 s8 n8 p8=>(exR rfl (.inl ⟨sl,_,0,_,rfl,rfl,SqL.of (s8.at N8.obj),Yr (j:=0) rfl,_,rfl,la.d0,_,rfl,by rw [<-e1',<-Zhb D8.nd K0 hd1];exact Wa.k (k:=Ym d1.1) (s8.at N8.trd),(ixT (s8.at N7) 1 rfl (.inr (.inl ⟨2,_,_,by decide,.inr ⟨_,_,rfl,rfl⟩,Yq p8,Yq (hl1.mono s8),?_⟩)))⟩))⟩);rw [decide_eq_true rfl];refine ⟨true,rfl,Zgn ⟨_,rfl,x,ad.dx,_,rfl,(N4.mono s8).obj,rfl,H0,Z2,x,tr,ad,_,rfl,N4.mono s8,fun l2 H9 s9 n9 p9=>⟨_,rfl,.inl ⟨sl,_,2,_,rfl,rfl,SqL.of ((s8.trans s9).at N8.obj),Yr (j:=2) rfl,.inr (.inl ⟨2,_,_,by decide,.inr ⟨_,_,rfl,rfl⟩,Yq p9,Yq (N8.mono (s8.trans s9)).mis,?_⟩)⟩⟩⟩⟩;rw [decide_eq_true rfl];have R6:=s8.trans s9;refine q Z2 ⟨la.d0,la.d1,la.m,rs⟩ j8 C4 H9 ⟨N4.mono R6,N8.mono R6,ap⟩ D8 tnm tms (o6.trans ((Zc6 s7).trans (Zc6 R6))) (fun _ z=>z) (fun b z=>by rw [<-hZ];exact .inl z) fun b z=>?_
  rw [<-hZ] at z;rcases z with z|z|z
  ·exact .inl z
  ·exact .inr (by rw [z];exact n1)
  ·exact .inr (by rw [z];exact ul0)
theorem Ztz(T:Tx K mg){k:Nat}(h:7<=k:=by decide):Zu P w K mg base CX0 k T.cE.f T.cE.fd ["_law_world", "_law_yard", "_law_state", "_law_name", "_law_cell"] (Zzc T):=(Zr7 T).mono h
theorem Zde.offL{H:Hp}{c x C:Addr}{o:HO}{xs:List V}{nm:Str}(h:Zde H C x nm)(hc:H c=some (.lst xs)):Zde (upd H c o) C x nm:=by
 obtain ⟨dx,h⟩:=h;exact ⟨dx,(Ze fun z=>by rw [z,hc] at h;cases h).trans h⟩
def Zz1(H:Hp)(t:Addr)(ps:List Zc)(js:List (Zc×Zc))(sg:List (Str×Str×Str)):Prop:=∃pl jl sl,H t=some (.tup [.ref pl,.ref jl,.ref sl])/\Zo H pl ps/\Yf H jl js/\Zay H sl sg
def Zzb(T:Tx K mg):Sp:=fun vs H Q _=>∃(t:Addr) (ps:List Zc) (js:List (Zc×Zc)) (sg:List (Str×Str×Str)),vs=[.ref t]/\Zz1 H t ps js sg/\Y8 ps js sg/\∀x H',Same H H'->H x=none->Ya T H' x ps js sg->Q (.ref x) H'
theorem Zkx(T:Tx K mg):Zu P w K mg base CX0 7 T.bz.f T.bz.fd ["_law_yard"] (Zzb T):=by
 refine T.bz.F.okW Zlq fun a8 A outer s H vs Q E hr h=>?_
 ·obtain ⟨t,ps,js,sg,rfl,⟨pl,jl,sl,ht,⟨ts,i6,d4⟩,u4,hsl⟩,yv,q⟩:=h;intro X;have T8:=Paired.length d4;have ylen:=yv.len;refine WSs.last (Zp (Y0 (Znx T) T.dw (Wm T) hr rfl T.dS T.aj.b .nil Zk (Zuv T) (Zb (X4 (N':=["_law_kind_here", "_law_name"]) rfl (Yc.std 2 [] rfl (by trivial) (by trivial) rfl trivial rfl rfl trivial) (Y5 (Zv (K:=K) rfl (pv 0) Zg)) (fun _ _ _ _=>(Zfs (K:=K) (n:=2) rfl rfl (Zz (Za4 (i:=0) (by show (["_law_kind_here", "_law_name"]:List Str).Nodup;decide +kernel)) (Zz (Za4 (i:=1) (by show (["_law_kind_here", "_law_name"]:List Str).Nodup;decide +kernel)) Xe)))) (fun _ _ _ _=>Zbk) (fun _ _ _ _=>(Zs (Zpx T) hr rfl T.gc T.bQ.F.kp T.bQ.b .nil Zk (Zb (pv 0) (Zb (pv 1) Za))))) (Zb (Zv (K:=K) rfl (pv 0) Zg) (Zb (Zv (K:=K) rfl (pv 0) Zg) Za))))) (exR rfl (ixT ht 0 rfl ⟨pl,rfl,⟨_,SqL.of i6⟩,fun D hD=>X5 (K:=K) (xs:=ts.map V.ref) (fun i ys H'=>(∃xs:List Addr,ys=xs.map V.ref/\Paired (PO T H') xs (ps.take i))/\H' D=some (.lst ys)/\Same H H') ⟨⟨[],rfl,.nil⟩,Zf,Same.new hD⟩ ?_ ?_ ?_⟩))
  ·rintro i ys H' _ ⟨_,_,sm⟩;exact SqL.of (sm.at i6)
  ·rintro i v ys H1 hi ⟨⟨xs,rfl,D1⟩,K9,s1⟩;rw [List.getElem?_map] at hi;obtain ⟨u,hu,rfl⟩:=Option.map_eq_some_iff.mp hi;obtain ⟨p,hp,hpu⟩:=Paired.get d4 hu;have hpu:H u=some (.tup [.str p.1,.str p.2]):=hpu;have hm:p∈ps:=List.mem_of_getElem? hp;have hxl:xs.length<=100:=by
    have:=Paired.length D1;rw [List.length_take] at this;lia
   refine ⟨u,_,rfl,SqT.of (s1.at hpu),rfl,_,_,rfl,_,_,rfl,rfl,(W3.set rfl).trans (W3.set rfl),_,rfl,_,rfl,p.1,p.2,rfl,yv.net.kind p hm,(yv.name p hm).2.1,fun x C H2 s2 n2 hC hO=>⟨s2.at K9,by rw [List.length_map];exact Zx (by lia),⟨xs++[x],by rw [List.map_append];rfl,?_⟩,Zf,fun b o z=>?_⟩⟩
   ·rw [List.take_add_one,hp];exact Paired.append (Paired.mapP D1 fun _ _ ⟨C,z1,z2⟩=>⟨C,z1,(z2.mono s2).offL (s2.at K9)⟩) (.cons ⟨C,hC,hO.offL (s2.at K9)⟩ .nil)
   ·rw [Ze (Zi z hD)];exact s2.at (s1.at z)
  ·rintro ys H1 ⟨⟨xs,rfl,D1⟩,K9,s1⟩;rw [List.length_map,T8,List.take_length] at D1;exact ⟨_,rfl,(ixT (s1.at ht) 1 rfl ⟨_,rfl,(ixT (s1.at ht) 2 rfl ⟨D,jl,sl,xs,ps,js,sg,rfl,K9,D1,u4.mono s1,hsl.mono s1,yv,fun x H2 s2 n2 tr=>q x H2 (s1.trans s2) (s1.free n2) tr⟩)⟩)⟩
theorem Zna(T:Tx K mg){k:Nat}(h:7<=k:=by decide):Zu P w K mg base CX0 k T.bz.f T.bz.fd ["_law_yard"] (Zzb T):=(Zkx T).mono h
theorem Zxq(T:Tx K mg){H:Hp}{k:Nat}:Zj5 P w K mg base k T.av.f H [] (fun _ _ _=>False) (fun _=>true):=by
 obtain ⟨oc,od,kV,i5,pm,an,a8,ct,E5,_,lk,_⟩:=T.av.F.ex;exact ⟨.inr ⟨_,_,_,_,lk⟩,fun nm _ _ hm=>nomatch hm⟩
def GoA(ps:List Zc)(st:WSt)(i:Nat)(d:TrD)(k nm e:Str)(y9:List Zc):Prop:=(stood st.1).length<=400/\st.2.2.length<=400/\st.1.length<64/\(st.1.map Prod.fst).Nodup/\st.1[i]? =some d/\1<=d.2.1/\d.2.2.length<=100/\d.2.2=y9++[(nm,e)]/\((k,nm):Zc)∈ps
def GoB(ps:List Zc)(js:List (Zc×Zc))(st:WSt)(i:Nat)(d:TrD)(nm c8 c5 e2 k2 wd:Str)(i9:WSt):Prop:=(c8 = "" /\wd = "end" /\i9=st)\/(c8 ≠ "" /\(((nm,c8),(c5,e2)):Zc×Zc)∈qJ js/\((k2,c5):Zc)∈ps/\Y3 st i d k2 c5 e2=(wd,i9))
instance dTr:DecidableEq TrD:=instDecidableEqProd
instance dWs:DecidableEq WSt:=instDecidableEqProd
instance {ps:List Zc} {st:WSt} {i:Nat} {d:TrD} {k nm e:Str} {y9:List Zc}:Decidable (GoA ps st i d k nm e y9):=by
 unfold GoA
 infer_instance
instance {ps:List Zc} {js:List (Zc×Zc)} {st:WSt} {i:Nat} {d:TrD} {nm c8 c5 e2 k2 wd:Str} {i9:WSt}:Decidable (GoB ps js st i d nm c8 c5 e2 k2 wd i9):=by
 unfold GoB
 infer_instance
abbrev GoF(ps:List Zc)(js:List (Zc×Zc))(st:WSt)(i:Nat)(d:TrD)(k nm e c5 e2 k2 wd:Str)(y9:List Zc)(i9:WSt):Prop:=GoA ps st i d k nm e y9/\GoB ps js st i d nm (Xv k e (Ys st.2.1 nm)) c5 e2 k2 wd i9
theorem Zm9{T:Tx K mg}{H0 H:Hp}{F:Addr->Prop}{x tr:Addr}{ad:WAd}{st i9:WSt}{ps:List Zc}{js:List (Zc×Zc)}{i:Nat}{d:TrD}{k nm e c5 e2 k2 wd:Str}{y9:List Zc}{vs:List V}{Q:VK}{E:XK}(g:GoF ps js st i d k nm e c5 e2 k2 wd y9 i9)(hw:WAt T H0 H F x tr ad st)(ht:Ya T H0 tr ps js [])(yv:Y8 ps js [])(hv:vs=[.ref x,.str d.1,.ref T.av.f])
  (q:∀H',Off (Wd ad) H H'->WAt T H0 H' F x tr ad i9->Q (.str wd) H'):Zr9 P w base T vs H Q E:=by
 obtain ⟨⟨g1,g2,g3,g4,g5,g6,g7,g8,g9⟩,g10⟩:=g;refine ⟨H0,F,x,tr,_,ad,st,ps,js,[],i,d,k,nm,e,y9,_,_,hv,hw,ht,yv,g1,g2,g3,g4,g5,g6,g7,g8,g9,Zxq T,fun s H1 H2 r=>r.elim,?_⟩;refine ⟨fun z H' s=>?_,fun _ _ _ m=>absurd m (fun z=>nomatch z),fun _ _ _ m=>absurd m (fun z=>nomatch z),fun z _ nm3 e3 k3 j p H3 o j0=>?_⟩
 ·rcases g10 with ⟨_,rfl,rfl⟩|⟨y,_⟩
  ·exact q H' (Zc6 s) (hw.mono s)
  ·exact absurd z y
 ·rcases g10 with ⟨y,_⟩|⟨_,j2,p2,mv⟩
  ·exact absurd y z
  ·cases yv.jfun j2 j;cases yv.kfun p2 p;rw [mv] at j0;rw [mv];exact q H3 o j0
def LO(l o:Str):Prop:=(l = "left" /\o = "right")\/(l = "right" /\o = "left")
def psB:List Zc:=[("gate", "g"),("gate", "h"),("gate", "k"),("points", "p")]
def jsB(l o:Str):List (Zc×Zc):=[(("g", "a"),("p",l)),(("p",o),("h", "a")),(("k", "a"),("p", "stem"))]
def BS(l:Str)(a b ms:List Zc):WSt:=([("ta",1,a),("tb",2,b)],[("p",l)],ms)
theorem yvB{l o:Str}(h:LO l o):Y8 psB (jsB l o) []:=by
 rcases h with ⟨rfl,rfl⟩|⟨rfl,rfl⟩
 ·exact ⟨⟨by trivial,by trivial,by trivial,by trivial⟩,by decide,by unfold X9;decide +kernel,⟨by simp,by simp,by simp,by simp,by simp⟩⟩
 ·exact ⟨⟨by trivial,by trivial,by trivial,by trivial⟩,by decide,by unfold X9;decide +kernel,⟨by simp,by simp,by simp,by simp,by simp⟩⟩
theorem Zvs{gs:List Str}{ps:List Zc}(nd:gs.Nodup) (h:∀n,n∈gs↔(("points",n):Zc)∈ps) (hp:(("points", "p"):Zc)∈ps) (ho:∀p∈ps,p.1 = "points" ->p.2 = "p"):gs=[("p" :Str)]:=by
 have all:∀n∈gs,n = "p" :=fun n hn=>ho _ ((h n).mp hn) rfl
 have hm:=(h "p").mpr hp;rcases gs with _|⟨a,_|⟨b,r⟩⟩
 ·cases hm
 ·rw [all a (by simp)]
 ·have e1:=all a (by simp);have e2:=all b (by simp);rw [e1,e2] at nd;exact absurd nd (by simp)
@[reducible] def TuF (ps:List Zc) (st:WSt) (n v:Str) (i9:WSt):Prop:=(stood st.1).length<=400/\st.2.2.length<=400/\st.2.1.length<=400/\(("points",n):Zc)∈ps/\n∈st.2.1.map Prod.fst/\(v = "left" \/v = "right")/\Zi5 st n v=i9
theorem Zl8{T:Tx K mg}{H0 H:Hp}{F:Addr->Prop}{x tr:Addr}{ad:WAd}{st i9:WSt}{ps:List Zc}{js:List (Zc×Zc)}{sg:List (Str×Str×Str)}{n v:Str}{vs:List V}{Q:VK}{E:XK}(g:TuF ps st n v i9)(hw:WAt T H0 H F x tr ad st)(ht:Ya T H0 tr ps js sg)(yv:Y8 ps js sg)(hv:vs=[.ref x,.str n,.str v])
  (q:∀H',Off (Wd ad) H H'->WAt T H0 H' F x tr ad i9->Q .non H'):Zgm T vs H Q E:=by
 obtain ⟨g1,g2,g3,g4,g5,g6,rfl⟩:=g;exact ⟨H0,F,x,tr,ad,st,ps,js,sg,n,v,hv,hw,ht,yv,g1,g2,g3,g4,g5,g6,q⟩
@[reducible] def CoF (ps:List Zc) (st:WSt) (nm:Str) (n:Nat) (g:Str) (i9:WSt):Prop:=(stood st.1).length<=400/\st.2.2.length<=400/\st.1.length<=400/\nm∉st.1.map Prod.fst/\(("gate",g):Zc)∈ps/\1<=n/\n<=4/\Zn3 st nm n g=i9
theorem Zpm{T:Tx K mg}{H0 H:Hp}{F:Addr->Prop}{x tr:Addr}{ad:WAd}{st i9:WSt}{ps:List Zc}{js:List (Zc×Zc)}{sg:List (Str×Str×Str)}{nm gt:Str}{n:Nat}{vs:List V}{Q:VK}{E:XK}(g:CoF ps st nm n gt i9)(hn:X9 nm)(hw:WAt T H0 H F x tr ad st)(ht:Ya T H0 tr ps js sg)(yv:Y8 ps js sg)(hv:vs=[.ref x,.str nm,.int (n:Int),.str gt])
  (q:∀H' F' V9,WAt T H0 H' F' x tr V9 i9->Q .non H'):Zg4 T vs H Q E:=by
 obtain ⟨g1,g2,g3,g4,g5,g6,g7,rfl⟩:=g;exact ⟨H0,F,x,tr,ad,st,ps,js,sg,nm,gt,n,hv,hw,ht,yv,g1,g2,g3,hn,g4,g5,g6,g7,fun H' F' V9 _ _ _ _ h=>q H' F' V9 h⟩
@[reducible] def AbF (ps:List Zc) (st:WSt) (i:Nat) (d:TrD) (kd:Str->Str) (i9:WSt):Prop:=st.1.length<64/\(st.1.map Prod.fst).Nodup/\st.1[i]? =some d/\d.2.2.length<=100/\(∀p∈d.2.2,((kd p.1,p.1):Zc)∈ps)/\Zv2 st i d kd=i9
theorem Zxc{T:Tx K mg}{H0 H:Hp}{F:Addr->Prop}{x tr:Addr}{ad:WAd}{st i9:WSt}{ps:List Zc}{js:List (Zc×Zc)}{sg:List (Str×Str×Str)}{i:Nat}{d:TrD}{kd:Str->Str}{vs:List V}{Q:VK}{E:XK}(g:AbF ps st i d kd i9)(hw:WAt T H0 H F x tr ad st)(ht:Ya T H0 tr ps js sg)(yv:Y8 ps js sg)(hv:vs=[.ref x,.str d.1])
  (q:∀H',Off (Wd ad) H H'->WAt T H0 H' F x tr ad i9->Q .non H'):Zdw T vs H Q E:=by
 obtain ⟨g1,g2,g3,g4,g5,rfl⟩:=g;exact ⟨H0,F,x,tr,ad,st,ps,js,sg,i,d,kd,hv,hw,ht,yv,g1,g2,g3,g4,g5,q⟩
theorem nTa:X9 "ta" :=by unfold X9;decide +kernel
theorem nTb:X9 "tb" :=by unfold X9;decide +kernel
theorem gB1{l o:Str}(h:LO l o):GoF psB (jsB l o) (BS l [("k", "")] [("h", "")] []) 0 ("ta",1,[("k", "")]) "gate" "k" "" "p" "stem" "points" "went" [] (BS l [("p", "stem")] [("h", "")] []):=by
 rcases h with ⟨rfl,rfl⟩|⟨rfl,rfl⟩ <;>decide +kernel
theorem gB2{l o:Str}(h:LO l o):GoF psB (jsB l o) (BS l [("p", "stem")] [("h", "")] []) 1 ("tb",2,[("h", "")]) "gate" "h" "" "p" o "points" "crash" [] (BS l [("p", "stem")] [("h", "")] [("crash", "p")]):=by
 rcases h with ⟨rfl,rfl⟩|⟨rfl,rfl⟩ <;>decide +kernel
theorem gB3{l o:Str}(h:LO l o):GoF psB (jsB l o) (BS l [("p", "stem")] [("h", "")] [("crash", "p")]) 0 ("ta",1,[("p", "stem")]) "points" "p" "stem" "g" "a" "gate" "went" [] (BS l [("g", "a")] [("h", "")] [("crash", "p")]):=by
 rcases h with ⟨rfl,rfl⟩|⟨rfl,rfl⟩ <;>decide +kernel
theorem gB4{l o:Str}(h:LO l o):GoF psB (jsB l o) (BS l [("g", "a")] [("h", "")] [("crash", "p")]) 1 ("tb",2,[("h", "")]) "gate" "h" "" "p" o "points" "off" [] (BS l [("g", "a")] [("h", "")] [("crash", "p"),("off", "p")]):=by
 rcases h with ⟨rfl,rfl⟩|⟨rfl,rfl⟩ <;>decide +kernel
theorem gB5{l o:Str}(h:LO l o):GoF psB (jsB l o) (BS o [("g", "a")] [("h", "")] [("crash", "p"),("off", "p")]) 1 ("tb",2,[("h", "")]) "gate" "h" "" "p" o "points" "went" [] (BS o [("g", "a")] [("h", ""),("p",o)] [("crash", "p"),("off", "p")]):=by
 rcases h with ⟨rfl,rfl⟩|⟨rfl,rfl⟩ <;>decide +kernel
theorem gB6{l o:Str}(h:LO l o):GoF psB (jsB l o) (BS o [("g", "a")] [("h", ""),("p",o)] [("crash", "p"),("off", "p")]) 0 ("ta",1,[("g", "a")]) "gate" "g" "a" "" "" "" "end" [] (BS o [("g", "a")] [("h", ""),("p",o)] [("crash", "p"),("off", "p")]):=by
 rcases h with ⟨rfl,rfl⟩|⟨rfl,rfl⟩ <;>decide +kernel
def FS(l:Str)(a ms:List Zc):WSt:=([("ta",1,a)],[("p",l)],ms)
theorem gF1{l o:Str}(h:LO l o):GoF psB (jsB l o) (FS l [("g", "")] []) 0 ("ta",1,[("g", "")]) "gate" "g" "" "p" l "points" "went" [] (FS l [("p",l)] []):=by
 rcases h with ⟨rfl,rfl⟩|⟨rfl,rfl⟩ <;>decide +kernel
theorem gF2{l o:Str}(h:LO l o):GoF psB (jsB l o) (FS o [("p", "")] [("split", "p")]) 0 ("ta",1,[("p", "")]) "points" "p" "" "" "" "" "end" [] (FS o [("p", "")] [("split", "p")]):=by
 rcases h with ⟨rfl,rfl⟩|⟨rfl,rfl⟩ <;>decide +kernel
theorem tB1{l o:Str}(h:LO l o):TuF psB ([],[("p", "left")],[]) "p" l ([],[("p",l)],[]):=by
 rcases h with ⟨rfl,rfl⟩|⟨rfl,rfl⟩ <;>decide +kernel
theorem tB2{l o:Str}(h:LO l o):TuF psB (BS l [("g", "a")] [("h", "")] [("crash", "p"),("off", "p")]) "p" o (BS o [("g", "a")] [("h", "")] [("crash", "p"),("off", "p")]):=by
 rcases h with ⟨rfl,rfl⟩|⟨rfl,rfl⟩ <;>decide +kernel
theorem tB3{l o:Str}(h:LO l o):TuF psB (FS l [("p",l)] []) "p" o (FS o [("p",l)] [("split", "p")]):=by
 rcases h with ⟨rfl,rfl⟩|⟨rfl,rfl⟩ <;>decide +kernel
theorem aB{l o:Str}(h:LO l o):AbF psB (FS o [("p",l)] [("split", "p")]) 0 ("ta",1,[("p",l)]) (fun _ => "points") (FS o [("p", "")] [("split", "p")]):=by
 rcases h with ⟨rfl,rfl⟩|⟨rfl,rfl⟩ <;>decide +kernel
theorem cB1{l o:Str}(h:LO l o):CoF psB ([],[("p",l)],[]) "ta" 1 "k" ([("ta",1,[("k", "")])],[("p",l)],[]):=by
 rcases h with ⟨rfl,rfl⟩|⟨rfl,rfl⟩ <;>decide +kernel
theorem cB2{l o:Str}(h:LO l o):CoF psB ([("ta",1,[("k", "")])],[("p",l)],[]) "tb" 2 "h" (BS l [("k", "")] [("h", "")] []):=by
 rcases h with ⟨rfl,rfl⟩|⟨rfl,rfl⟩ <;>decide +kernel
theorem cB3{l o:Str}(h:LO l o):CoF psB ([],[("p",l)],[]) "ta" 1 "g" (FS l [("g", "")] []):=by
 rcases h with ⟨rfl,rfl⟩|⟨rfl,rfl⟩ <;>decide +kernel
theorem Zka{T:Tx K mg}{H0 H:Hp}{F:Addr->Prop}{x tr:Addr}{ad:WAd}{st:WSt}(d:TrD){vs:List V}{Q:VK}{E:XK}(g:st.1.length<64/\(st.1.map Prod.fst).Nodup/\d∈st.1)(hw:WAt T H0 H F x tr ad st)(hv:vs=[.ref x,.str d.1])
  (q:∀l H',Same H H'->Zo H' l d.2.2->Q (.ref l) H'):Zdy T vs H Q E:=⟨H0,F,x,tr,ad,st,d,hv,hw,g.1,g.2.1,g.2.2,fun l H' s _ p=>q l H' s p⟩
theorem Zta{T:Tx K mg}{H0 H:Hp}{F:Addr->Prop}{x tr:Addr}{ad:WAd}{st:WSt}{vs:List V}{Q:VK}{E:XK}(hw:WAt T H0 H F x tr ad st)(hv:vs=[.ref x])
  (q:∀l H',Same H H'->Zo H' l st.2.2->Q (.ref l) H'):Zly T vs H Q E:=⟨H0,F,x,tr,ad,st,hv,hw,fun l H' s _ p=>q l H' s p⟩
theorem sB1{o:Str}{a b ms:List Zc}:(BS o a b ms).1.length<64/\((BS o a b ms).1.map Prod.fst).Nodup:=by
 unfold BS;exact ⟨by simp,(by decide:[("ta" :Str), "tb"].Nodup)⟩
theorem sF1{o:Str}{a ms:List Zc}:(FS o a ms).1.length<64/\((FS o a ms).1.map Prod.fst).Nodup:=by
 unfold FS;exact ⟨by simp,(by decide:[("ta" :Str)].Nodup)⟩
def Zv0(K:Frag):Sp:=fun vs H Q _=>∃n:Nat,vs=[.int (n:Int)]/\∀H',Same H H'->Q (.bl true) H'
theorem Zgh(T:Tx K mg):Zu P w K mg base CX0 3 T.aF.f T.aF.fd ["_law_long"] (Zv0 K):=by
 refine T.aF.F.okW Zb7 fun a8 A outer s H vs Q E hr h=>?_
 ·obtain ⟨n,rfl,q⟩:=h;intro X;refine WSs.step (Z0 (i:=1) Zb7.nd (Y0 (Zle T) T.gG (Zds T) hr rfl T.gK T.aL.b .nil Zk (Zqx T) (Zb Zd (Zb (pv 0) (Zb Zd Za))))) (exR rfl ⟨"ta",n, "g",rfl,fun x dx l H1 s1 nx nl lx ex el=>?_⟩);refine WSs.last (Zp (Wc (r:=X3 K) (X8 hr) (Zl (Zb (Ye (pv 1) rfl) (Zb (Ye (pv 1) rfl) (Zb (Ye (pv 1) rfl) Za)))) (Zl (Zb Zd (Zb (pv 0) (Zb (Zl (Zb (Zj (Zb Zd (Zb Zd Za))) Za)) Za)))) (Zw _))) (exR rfl ⟨x,_,dx,_,_,rfl,ex,T.bZ,T.dJ,rfl,_,rfl,x,_,dx,_,_,rfl,ex,T.bZ,T.cZ,rfl,_,rfl,x,_,dx,_,_,rfl,ex,T.bZ,T.bd,rfl,szA,fun l1 H2 s2 n2 e2=>(exR rfl ⟨szA,fun t3 H3 s3 n3 e3=>⟨szA,fun l4 H4 s4 n4 e4=>⟨szA,fun l5 H5 s5 n5 e5=>.inr (.inl ⟨3,_,_,by decide,.inr ⟨_,_,rfl,rfl⟩,Im.lst (n:=2) (SqL.of ((s3.trans (s4.trans s5)).at e2)) (.cons (.str _) (.cons (.int _) (.cons (Yq (el.mono (s2.trans (s3.trans (s4.trans s5))))) .nil))),Im.lst (n:=2) (SqL.of e5) (.cons (.str _) (.cons (.int _) (.cons (Yq (ps:=[("g", "")]) ⟨[t3],s5.at e4,.cons ((s4.trans s5).at e3) .nil⟩) .nil))),?_⟩)⟩⟩⟩)⟩);rw [decide_eq_true rfl];exact q H5 (s1.trans (s2.trans (s3.trans (s4.trans s5))))
theorem Zhi(T:Tx K mg){k:Nat}(h:3<=k:=by decide):Zu P w K mg base CX0 k T.aF.f T.aF.fd ["_law_long"] (Zv0 K):=(Zgh T).mono h
seal Zgm Zg4 Zr9 Zdw Zdy Zly
def Zvz(K:Frag):Sp:=fun vs H Q _=>∃l o:Str,vs=[.str l,.str o]/\LO l o/\∀H',Same H H'->Q (.bl true) H'
theorem Ze0(T:Tx K mg):Zu P w K mg base CX0 8 T.ax.f T.ax.fd ["_law_lie", "_law_other"] (Zvz K):=by
 refine T.ax.F.okW Yg fun a8 A outer s H vs Q E hr h=>?_
 ·obtain ⟨l,o,rfl,lo,q⟩:=h;intro X;have yv:=yvB lo;let I30:=fun (σ:St) (H':Hp)=>∃(pl:Addr) (xs:List Addr),σ=[some (.str l),some (.str o),some (.ref pl),none,none,none,none]/\Same H H'/\H' pl=some (.lst (xs.map V.ref))/\Paired (PO T H') xs psB
  refine WSs.cut I30 ?_ ?_
  ·refine WS.of (Z0 (i:=2) Yg.nd (Zl (Zb (Y0 (Zfw T) T.ef (Yn T) hr rfl T.fi T.ag.b .nil Zk (Zht T) (Zb Zd Za)) (Zb (Y0 (Zfw T) T.ef (Yn T) hr rfl T.fi T.ag.b .nil Zk (Zht T) (Zb Zd Za)) (Zb (Y0 (Zfw T) T.ef (Yn T) hr rfl T.fi T.ag.b .nil Zk (Zht T) (Zb Zd Za)) (Zb (Y0 (Zf1 T) T.eg (Yn T) hr rfl T.dR T.ag.b .nil Zk (Zh6 T) (Zb Zd Za)) Za)))))) ⟨"g",rfl,fun x1 H1 s1 n1 o1=>⟨"h",rfl,fun x2 H2 s2 n2 o2=>⟨"k",rfl,fun x3 H3 s3 n3 o3=>⟨"p",rfl,fun x4 H4 s4 n4 o4=>⟨szA,fun pl H5 s5 n5 e5=>⟨pl,[x1,x2,x3,x4],rfl,s1.trans (s2.trans (s3.trans (s4.trans s5))),e5,.cons ⟨_,.inr (.inr (.inl ⟨rfl,rfl⟩)),o1.mono (s2.trans (s3.trans (s4.trans s5)))⟩ (.cons ⟨_,.inr (.inr (.inl ⟨rfl,rfl⟩)),o2.mono (s3.trans (s4.trans s5))⟩ (.cons ⟨_,.inr (.inr (.inl ⟨rfl,rfl⟩)),o3.mono (s4.trans s5)⟩ (.cons ⟨_,.inl ⟨rfl,rfl⟩,o4.mono s5⟩ .nil)))⟩⟩⟩⟩⟩⟩
  rintro σ HA ⟨pl,xs,rfl,sA,i6,D1⟩;let I31:=fun (σ:St) (H':Hp)=>∃jl:Addr,σ=[some (.str l),some (.str o),some (.ref pl),some (.ref jl),none,none,none]/\Same HA H'/\Yf H' jl (jsB l o)
  refine WSs.cut I31 ?_ ?_
  ·refine WS.of (Z0 (i:=3) Yg.nd (Zl (Zb (Zj (Zb (Zj (Zb Zd (Zb Zd Za))) (Zb (Zj (Zb Zd (Zb (pv 0) Za))) Za))) (Zb (Zj (Zb (Zj (Zb Zd (Zb (pv 1) Za))) (Zb (Zj (Zb Zd (Zb Zd Za))) Za))) (Zb (Zj (Zb (Zj (Zb Zd (Zb Zd Za))) (Zb (Zj (Zb Zd (Zb Zd Za))) Za))) Za))))) ⟨szA,fun a1 H1 s1 n1 e1=>(exR rfl ⟨szA,fun a2 H2 s2 n2 e2=>⟨szA,fun j1 H3 s3 n3 e3=>(exR rfl ⟨szA,fun b1 H4 s4 n4 e4=>⟨szA,fun b2 H5 s5 n5 e5=>⟨szA,fun j2 H6 s6 n6 e6=>⟨szA,fun c1 H7 s7 n7 e7=>⟨szA,fun c2 H8 s8 n8 e8=>⟨szA,fun j3 H9 s9 n9 e9=>⟨szA,fun jl HB sB nB eB=>⟨jl,rfl,s1.trans (s2.trans (s3.trans (s4.trans (s5.trans (s6.trans (s7.trans (s8.trans (s9.trans sB)))))))),[j1,j2,j3],eB,?_⟩⟩⟩⟩⟩⟩⟩⟩)⟩⟩)⟩;have s9B:=s9.trans sB;have s8B:=s8.trans s9B;have s7B:=s7.trans s8B;have s6B:=s6.trans s7B;have s5B:=s5.trans s6B;have s4B:=s4.trans s5B;have s3B:=s3.trans s4B;have s2B:=s2.trans s3B;exact .cons ⟨a1,a2,s4B.at e3,s2B.at e1,s3B.at e2⟩ (.cons ⟨b1,b2,s7B.at e6,s5B.at e4,s6B.at e5⟩ (.cons ⟨c1,c2,sB.at e9,s8B.at e7,s9B.at e8⟩ .nil))
  rintro σ HB ⟨jl,rfl,sB,u4⟩;have hpB:=sB.at i6;have hxB:Paired (PO T HB) xs psB:=Paired.mapP D1 fun _ _ r=>r.mono sB
  refine WSs.step (Z0 (i:=4) Yg.nd (Y0 (Ze7 T) T.dU (Ww T) hr rfl T.fT T.aw.b .nil Zk (Zhj T) (Zb (Y0 (Zed T) T.dw (Wm T) hr rfl T.dS T.aj.b1 (.cons T.aj.r .nil) Zk (Zg6 T) (Zb (pv 2) (Zb (pv 3) Za))) Za))) (exR rfl (exR rfl ⟨pl,jl,xs,psB,jsB l o,rfl,hpB,hxB,u4,yv,fun tr HC sC nC ht=>⟨tr,psB,jsB l o,[],rfl,ht,yv,fun x gs HD F ad nd hg hl hx hw=>?_⟩⟩));cases Zvs nd hg (by trivial) (by trivial);refine WSs.step (Yj (Z1 (pv 4) T.ac T.cx (Wt T) hr T.aH.b .nil Zk (Zb Zd (Zb (pv 0) Za)))) (exR rfl ⟨x,ad.dx,_,rfl,hw.obj,rfl,_,rfl,Zl8 (tB1 lo) hw ht yv rfl fun H1 o1 r6=>?_⟩);refine WSs.step (Yj (Z1 (pv 4) T.ac T.cK (Zai T) hr T.aR.b .nil Zk (Zb Zd (Zb Zg (Zb Zd Za))))) (exR rfl ⟨x,ad.dx,_,rfl,r6.obj,rfl,Zpm (cB1 lo) nTa r6 ht yv rfl fun H2 F2 ad2 p0=>?_⟩);refine WSs.step (Yj (Z1 (pv 4) T.ac T.cK (Zai T) hr T.aR.b .nil Zk (Zb Zd (Zb Zg (Zb Zd Za))))) (exR rfl ⟨x,ad2.dx,_,rfl,p0.obj,rfl,Zpm (cB2 lo) nTb p0 ht yv rfl fun H3 F3 N3 j0=>?_⟩);clear r6 p0 hw o1;refine WSs.step (Z0 (i:=5) Yg.nd (Zl (Zb (Z1 (pv 4) T.ac T.bD (Xt T) hr T.az.b .nil Zk (Zb Zd (Zb (Wb (v:=.ref T.av.f) (by rfl) T.aM rfl) Za))) (Zb (Z1 (pv 4) T.ac T.bD (Xt T) hr T.az.b .nil Zk (Zb Zd (Zb (Wb (v:=.ref T.av.f) (by rfl) T.aM rfl) Za))) (Zb (Z1 (pv 4) T.ac T.bD (Xt T) hr T.az.b .nil Zk (Zb Zd (Zb (Wb (v:=.ref T.av.f) (by rfl) T.aM rfl) Za))) Za))))) (exR rfl ⟨x,N3.dx,_,rfl,j0.obj,rfl,Zm9 (gB1 lo) j0 ht yv rfl fun H4 o4 u8=>(exR rfl ⟨x,N3.dx,_,rfl,u8.obj,rfl,Zm9 (gB2 lo) u8 ht yv rfl fun H5 o5 E4=>(exR rfl ⟨x,N3.dx,_,rfl,E4.obj,rfl,Zm9 (gB3 lo) E4 ht yv rfl fun H6 o6 v8=>⟨szA,fun l1 H7 s7 n7 e7=>?_⟩⟩)⟩)⟩);have fresh:∀{Hx:Hp} {b:Addr} {st:WSt},WAt T HC Hx F3 x tr N3 st->Hx b=none->¬Wd N3 b:=fun hwx z y=>by
   obtain ⟨u,e⟩:=hwx.live _ (hwx.inF y);rw [z] at e;cases e
  have nl1:=fresh v8 n7;have N4:=v8.mono s7;refine WSs.step (Z0 (i:=5) Yg.nd (Zt We (pv 5) (Zl (Zb (Z1 (pv 4) T.ac T.bD (Xt T) hr T.az.b .nil Zk (Zb Zd (Zb (Wb (v:=.ref T.av.f) (by rfl) T.aM rfl) Za))) Za)))) (exR rfl (exR rfl ⟨x,N3.dx,_,rfl,N4.obj,rfl,Zm9 (gB4 lo) N4 ht yv rfl fun H8 o8 hw8=>⟨szA,fun l2 H9 s9 n9 e9=>.inr (.inr ⟨l1,l2,_,_,rfl,rfl,s9.at (o8 _ _ nl1 e7),e9,szA,fun l3 HE sE nE eE=>?_⟩)⟩⟩));have nl3:=fresh (hw8.mono s9) nE;have hwE:=hw8.mono (s9.trans sE);refine WSs.step (Yj (Z1 (pv 4) T.ac T.cx (Wt T) hr T.aH.b .nil Zk (Zb Zd (Zb (pv 1) Za)))) (exR rfl ⟨x,N3.dx,_,rfl,hwE.obj,rfl,_,rfl,Zl8 (tB2 lo) hwE ht yv rfl fun HF oF hwF=>?_⟩);refine WSs.step (Z0 (i:=5) Yg.nd (Zt We (pv 5) (Zl (Zb (Z1 (pv 4) T.ac T.bD (Xt T) hr T.az.b .nil Zk (Zb Zd (Zb (Wb (v:=.ref T.av.f) (by rfl) T.aM rfl) Za))) (Zb (Z1 (pv 4) T.ac T.bD (Xt T) hr T.az.b .nil Zk (Zb Zd (Zb (Wb (v:=.ref T.av.f) (by rfl) T.aM rfl) Za))) Za))))) (exR rfl (exR rfl ⟨x,N3.dx,_,rfl,hwF.obj,rfl,Zm9 (gB5 lo) hwF ht yv rfl fun HG oG S1=>(exR rfl ⟨x,N3.dx,_,rfl,S1.obj,rfl,Zm9 (gB6 lo) S1 ht yv rfl fun HI oI hwI=>⟨szA,fun l4 HJ sJ nJ eJ=>.inr (.inr ⟨l3,l4,_,_,rfl,rfl,sJ.at (oI _ _ nl3 (oG _ _ nl3 (oF _ _ nl3 eE))),eJ,szA,fun l5 HK sK nK eK=>?_⟩)⟩⟩)⟩));have hwK:=hwI.mono (sJ.trans sK);refine WSs.step (Z9 (Zq (r:=Zcm K) (Zdp hr) (pv 5) (Zl (Zb Zd (Zb Zd (Zb Zd (Zb Zd (Zb Zd (Zb Zd Za))))))) (Zw _)) Zy Zr) (exR rfl ⟨szA,fun l6 HL sL nL eL=>.inr (.inl ⟨1,_,_,by decide,.inr ⟨_,_,rfl,rfl⟩,Zba (ss:=["went", "crash", "went", "off", "went", "end"]) (sL.at eK),Zba (ss:=["went", "crash", "went", "off", "went", "end"]) eL,_,rfl,?_⟩)⟩);rw [decide_eq_true rfl];refine Zau ?_;have hwL:=hwK.mono sL;let I32:=fun (σ:St) (H':Hp)=>σ=[some (.str l),some (.str o),some (.ref pl),some (.ref jl),some (.ref x),some (.ref l5),none]/\Same HL H'
  refine WSs.cut I32 ?_ ?_
  ·refine WS.of (Z9 (PW.pt (Zf7 (Zq (r:=Zcm K) (Zdp hr) (Z1 (pv 4) T.ac T.bX (Wi T) hr T.aC.b .nil Zk (Zb Zd Za)) (Zl (Zb (Zj (Zb Zd (Zb Zd Za))) (Zb (Zj (Zb Zd (Zb (pv 1) Za))) Za))) (Zw _)) (Zeh (Zq (r:=Zcm K) (Zdp hr) (Z1 (pv 4) T.ac T.bX (Wi T) hr T.aC.b .nil Zk (Zb Zd Za)) (Zl (Zb (Zj (Zb Zd (Zb Zd Za))) Za)) (Zw _))))) Zy Zr) (exR rfl ⟨x,N3.dx,_,rfl,hwL.obj,rfl,Zka ("tb",2,[("h", ""),("p",o)]) ⟨sB1.1,sB1.2,by unfold BS;simp⟩ hwL rfl fun m1 J1 t1 p1=>⟨szA,fun m2 J2 t2 n2 e2=>(exR rfl ⟨szA,fun m3 J3 t3 n3 e3=>⟨szA,fun m4 J4 t4 n4 e4=>.inr (.inl ⟨2,_,_,by decide,.inr ⟨_,_,rfl,rfl⟩,Yq (p1.mono (t2.trans (t3.trans t4))),Yq (ps:=[("h", ""),("p",o)]) ⟨[m2,m3],e4,.cons ((t3.trans t4).at e2) (.cons (t4.at e3) .nil)⟩,_,rfl,?_⟩)⟩⟩)⟩⟩);rw [decide_eq_true rfl];have t14:=t1.trans (t2.trans (t3.trans t4));refine Zau ⟨_,rfl,x,N3.dx,_,rfl,(hwL.mono t14).obj,rfl,Zka ("ta",1,[("g", "a")]) ⟨sB1.1,sB1.2,by unfold BS;simp⟩ (hwL.mono t14) rfl fun m5 J5 t5 p5=>⟨szA,fun m6 J6 t6 n6 e6=>⟨szA,fun m7 J7 t7 n7 e7=>.inr (.inl ⟨2,_,_,by decide,.inr ⟨_,_,rfl,rfl⟩,Yq (p5.mono (t6.trans t7)),Yq (ps:=[("g", "a")]) ⟨[m6],e7,.cons (t7.at e6) .nil⟩,_,rfl,?_⟩)⟩⟩⟩;rw [decide_eq_true rfl];exact Zau ⟨rfl,t14.trans (t5.trans (t6.trans t7))⟩
  rintro σ HM ⟨rfl,sM⟩;have hwM:=hwL.mono sM;let I33:=fun (σ:St) (H':Hp)=>σ=[some (.str l),some (.str o),some (.ref pl),some (.ref jl),some (.ref x),some (.ref l5),none]/\Same HM H'
  refine WSs.cut I33 ?_ ?_
  ·refine WS.of (Z9 (Zq (r:=Zcm K) (Zdp hr) (Xb (pv 4) T.ac T.bi (Xl T) hr T.am.b .nil Zk) (Zl (Zb (Zj (Zb Zd (Zb Zd Za))) (Zb (Zj (Zb Zd (Zb Zd Za))) Za))) (Zw _)) Zy Zr) (exR rfl ⟨x,N3.dx,_,rfl,hwM.obj,rfl,Zta hwM rfl fun m1 J1 t1 p1=>⟨szA,fun m2 J2 t2 n2 e2=>⟨szA,fun m3 J3 t3 n3 e3=>⟨szA,fun m4 J4 t4 n4 e4=>.inr (.inl ⟨2,_,_,by decide,.inr ⟨_,_,rfl,rfl⟩,Yq (ps:=[("crash", "p"),("off", "p")]) (p1.mono (t2.trans (t3.trans t4))),Yq (ps:=[("crash", "p"),("off", "p")]) ⟨[m2,m3],e4,.cons ((t3.trans t4).at e2) (.cons (t4.at e3) .nil)⟩,_,rfl,?_⟩)⟩⟩⟩⟩);rw [decide_eq_true rfl];exact Zau ⟨rfl,t1.trans (t2.trans (t3.trans t4))⟩
  rintro σ HN ⟨rfl,sN⟩;have sBN:Same HB HN:=sC.trans (hwM.same.trans sN);refine WSs.step (Z0 (i:=6) Yg.nd (Y0 (Ze7 T) T.dU (Ww T) hr rfl T.fT T.aw.b .nil Zk (Zhj T) (Zb (Y0 (Zed T) T.dw (Wm T) hr rfl T.dS T.aj.b1 (.cons T.aj.r .nil) Zk (Zg6 T) (Zb (pv 2) (Zb (pv 3) Za))) Za))) (exR rfl (exR rfl ⟨pl,jl,xs,psB,jsB l o,rfl,sBN.at hpB,Paired.mapP hxB fun _ _ r=>r.mono sBN,u4.mono sBN,yv,fun tr2 HO sO nO N2=>⟨tr2,psB,jsB l o,[],rfl,N2,yv,fun y gs2 HP G ae nd2 hg2 D4 hy hv=>?_⟩⟩));cases Zvs nd2 hg2 (by trivial) (by trivial);refine WSs.step (Yj (Z1 (pv 6) T.ac T.cx (Wt T) hr T.aH.b .nil Zk (Zb Zd (Zb (pv 0) Za)))) (exR rfl ⟨y,ae.dx,_,rfl,hv.obj,rfl,_,rfl,Zl8 (tB1 lo) hv N2 yv rfl fun J1 o1 hv1=>?_⟩);refine WSs.step (Yj (Z1 (pv 6) T.ac T.cK (Zai T) hr T.aR.b .nil Zk (Zb Zd (Zb Zg (Zb Zd Za))))) (exR rfl ⟨y,ae.dx,_,rfl,hv1.obj,rfl,Zpm (cB3 lo) nTa hv1 N2 yv rfl fun J2 G2 af hv2=>?_⟩);refine WSs.step (Z0 (i:=5) Yg.nd (Zl (Zb (Z1 (pv 6) T.ac T.bD (Xt T) hr T.az.b .nil Zk (Zb Zd (Zb (Wb (v:=.ref T.av.f) (by rfl) T.aM rfl) Za))) (Zb (Z1 (pv 6) T.ac T.cx (Wt T) hr T.aH.b .nil Zk (Zb Zd (Zb (pv 1) Za))) (Zb (Z1 (pv 6) T.ac T.ff (Zmg T) hr T.bO.b .nil Zk (Zb Zd Za)) (Zb (Z1 (pv 6) T.ac T.bD (Xt T) hr T.az.b .nil Zk (Zb Zd (Zb (Wb (v:=.ref T.av.f) (by rfl) T.aM rfl) Za))) Za)))))) (exR rfl ⟨y,af.dx,_,rfl,hv2.obj,rfl,Zm9 (gF1 lo) hv2 N2 yv rfl fun J3 o3 hv3=>(exR rfl ⟨y,af.dx,_,rfl,hv3.obj,rfl,_,rfl,Zl8 (tB3 lo) hv3 N2 yv rfl fun J4 o4 hv4=>(exR rfl ⟨y,af.dx,_,rfl,hv4.obj,rfl,Zxc (aB lo) hv4 N2 yv rfl fun J5 o5 hv5=>(exR rfl ⟨y,af.dx,_,rfl,hv5.obj,rfl,Zm9 (gF2 lo) hv5 N2 yv rfl fun J6 o6 hv6=>⟨szA,fun l7 J7 t7 n7 e7=>?_⟩⟩)⟩)⟩)⟩);have hv7:=hv6.mono t7;let I34:=fun (σ:St) (H':Hp)=>σ=[some (.str l),some (.str o),some (.ref pl),some (.ref jl),some (.ref x),some (.ref l7),some (.ref y)]/\Same J7 H'
  refine WSs.cut I34 ?_ ?_
  ·refine WS.of (Z9 (PW.pt (Zf7 (Zq (r:=Zcm K) (Zdp hr) (pv 5) (Zl (Zb Zd (Zb Zsg (Zb Zsg (Zb Zd Za))))) (Zw _)) (Zeh (Zq (r:=Zcm K) (Zdp hr) (Z1 (pv 6) T.ac T.bX (Wi T) hr T.aC.b .nil Zk (Zb Zd Za)) (Zl (Zb (Zj (Zb Zd (Zb Zd Za))) Za)) (Zw _))))) Zy Zr) (exR rfl ⟨szA,fun m1 J8 t8 n8 e8=>.inr (.inl ⟨1,.lst [.str "went",.non,.non,.str "end"],.lst [.str "went",.non,.non,.str "end"],by decide,.inr ⟨_,_,rfl,rfl⟩,Im.lst (n:=0) (SqL.of (t8.at e7)) (.cons (.str _) (.cons .non (.cons .non (.cons (.str _) .nil)))),Im.lst (n:=0) (SqL.of e8) (.cons (.str _) (.cons .non (.cons .non (.cons (.str _) .nil)))),_,rfl,?_⟩)⟩);rw [decide_eq_true rfl];refine Zau ⟨_,rfl,y,af.dx,_,rfl,(hv7.mono t8).obj,rfl,Zka ("ta",1,[("p", "")]) ⟨sF1.1,sF1.2,by unfold FS;simp⟩ (hv7.mono t8) rfl fun m5 J9 t9 p9=>⟨szA,fun m6 JA tA nA eA=>⟨szA,fun m7 JB tB nB eB=>.inr (.inl ⟨2,_,_,by decide,.inr ⟨_,_,rfl,rfl⟩,Yq (p9.mono (tA.trans tB)),Yq (ps:=[("p", "")]) ⟨[m6],eB,.cons (tB.at eA) .nil⟩,_,rfl,?_⟩)⟩⟩⟩;rw [decide_eq_true rfl];exact Zau ⟨rfl,t8.trans (t9.trans (tA.trans tB))⟩
  rintro σ J8 ⟨rfl,t8⟩;have hv8:=hv7.mono t8;refine WSs.last (Zp (Wc (r:=X3 K) (X8 hr) (Xb (pv 6) T.ac T.bi (Xl T) hr T.am.b .nil Zk) (Zl (Zb (Zj (Zb Zd (Zb Zd Za))) Za)) (Zw _))) (exR rfl ⟨y,af.dx,_,rfl,hv8.obj,rfl,Zta hv8 rfl fun m1 J9 t9 p9=>⟨szA,fun m2 JA tA nA eA=>⟨szA,fun m3 JB tB nB eB=>.inr (.inl ⟨2,_,_,by decide,.inr ⟨_,_,rfl,rfl⟩,Yq (ps:=[("split", "p")]) (p9.mono (tA.trans tB)),Yq (ps:=[("split", "p")]) ⟨[m2],eB,.cons (tB.at eA) .nil⟩,?_⟩)⟩⟩⟩);rw [decide_eq_true rfl];exact q JB (sA.trans (sB.trans (sBN.trans (sO.trans (hv8.same.trans (t9.trans (tA.trans tB)))))))
theorem Zf5(T:Tx K mg){k:Nat}(h:8<=k:=by decide):Zu P w K mg base CX0 k T.ax.f T.ax.fd ["_law_lie", "_law_other"] (Zvz K):=(Ze0 T).mono h
unseal Zgm Zg4 Zr9 Zdw Zdy Zly
def psR:List Zc:=[("gate", "g"),("points", "p"),("plain", "q")]
def jsR:List (Zc×Zc):=[(("g", "a"),("p", "stem")),(("p", "left"),("q", "a")),(("q", "b"),("p", "right"))]
def RdS(l:Str)(n:Nat)(a ms:List Zc):WSt:=([("ta",n,a)],[("p",l)],ms)
theorem yvR:Y8 psR jsR []:=⟨⟨by trivial,by trivial,by trivial,by trivial⟩,by decide,by unfold X9;decide +kernel,⟨by simp,by simp,by simp,by simp,by simp⟩⟩
def rA(n:Nat):Nat->List Zc
 | 0=>[("g", "")]
 | 1=>Zhd n [("g", ""),("p", "stem")]
 | _=>Zhd n (Zhd n [("g", ""),("p", "stem")]++[(("q", "a"):Zc)])
def rW(n:Nat)(i:Nat):Str:=if i=2 then (if n=1 then "off" else "crash") else "went"
def rS(n i:Nat):WSt:=RdS "left" n (rA n i) (if i=3 then [(rW n 2, "p")] else [])
def tA:Nat->List Zc
 | 0=>[("q", "a")]
 | 1=>[("p", "right")]
 | _=>[("g", "a")]
def tW(i:Nat):Str:=if i=2 then "end" else "went"
def tS(i:Nat):WSt:=RdS "right" 1 (tA i) [("off", "p")]
theorem gR{n i:Nat}(hn:n=1\/n=2\/n=3\/n=4)(hi:i<3):∃(d:TrD) (k nm e c5 e2 k2:Str) (y9:List Zc),d.1=("ta" :Str)/\GoF psR jsR (rS n i) 0 d k nm e c5 e2 k2 (rW n i) y9 (rS n (i+1)):=by
 rcases (by lia:i=0\/i=1\/i=2) with rfl|rfl|rfl
 ·exact ⟨("ta",n,rA n 0), "gate", "g", "", "p", "stem", "points",[],rfl,by rcases hn with rfl|rfl|rfl|rfl <;>decide +kernel⟩
 ·exact ⟨("ta",n,rA n 1), "points", "p", "stem", "q", "a", "plain",(rA n 1).dropLast,rfl,by rcases hn with rfl|rfl|rfl|rfl <;>decide +kernel⟩
 ·exact ⟨("ta",n,rA n 2), "plain", "q", "a", "p", "right", "points",(rA n 2).dropLast,rfl,by rcases hn with rfl|rfl|rfl|rfl <;>decide +kernel⟩
theorem gT{i:Nat}(hi:i<3):∃(d:TrD) (k nm e c5 e2 k2:Str) (y9:List Zc),d.1=("ta" :Str)/\GoF psR jsR (tS i) 0 d k nm e c5 e2 k2 (tW i) y9 (tS (i+1)):=by
 rcases (by lia:i=0\/i=1\/i=2) with rfl|rfl|rfl
 ·exact ⟨("ta",1,tA 0), "plain", "q", "a", "p", "right", "points",[],rfl,by trivial⟩
 ·exact ⟨("ta",1,tA 1), "points", "p", "right", "g", "a", "gate",[],rfl,by trivial⟩
 ·exact ⟨("ta",1,tA 2), "gate", "g", "a", "", "", "",[],rfl,by trivial⟩
theorem cR{n:Nat}(hn:n=1\/n=2\/n=3\/n=4):CoF psR ([],[("p", "left")],[]) "ta" n "g" (rS n 0):=by rcases hn with rfl|rfl|rfl|rfl <;>decide +kernel
theorem tR:TuF psR (rS 1 3) "p" "right" (tS 0):=by trivial
def Zys(K:Frag):Sp:=fun vs H Q _=>∃n:Nat,vs=[.int (n:Int)]/\(n=1\/n=2\/n=3\/n=4)/\∀H',Same H H'->Q (.bl true) H'
seal Zgm Zg4 Zr9 Zdw Zdy Zly
theorem Zme(T:Tx K mg):Zu P w K mg base CX0 8 T.bN.f T.bN.fd ["_law_long"] (Zys K):=by
 refine T.bN.F.okW Wj fun a8 A outer s H vs Q E hr h=>?_
 ·obtain ⟨n,rfl,hn,q⟩:=h;intro X;have yv:=yvR;let I35:=fun (σ:St) (H':Hp)=>∃(pl:Addr) (xs:List Addr),σ=[some (.int (n:Int)),some (.ref pl),none,none,none]/\Same H H'/\H' pl=some (.lst (xs.map V.ref))/\Paired (PO T H') xs psR
  refine WSs.cut I35 ?_ ?_
  ·refine WS.of (Z0 (i:=1) Wj.nd (Zl (Zb (Y0 (Zfw T) T.ef (Yn T) hr rfl T.fi T.ag.b .nil Zk (Zht T) (Zb Zd Za)) (Zb (Y0 (Zf1 T) T.eg (Yn T) hr rfl T.dR T.ag.b .nil Zk (Zh6 T) (Zb Zd Za)) (Zb (Y0 (Zlb T) T.gD (Yn T) hr rfl T.gJ T.ag.b .nil Zk (Zra T) (Zb Zd Za)) Za))))) ⟨"g",rfl,fun x1 H1 s1 n1 o1=>⟨"p",rfl,fun x2 H2 s2 n2 o2=>⟨"q",rfl,fun x3 H3 s3 n3 o3=>⟨szA,fun pl H5 s5 n5 e5=>⟨pl,[x1,x2,x3],rfl,s1.trans (s2.trans (s3.trans s5)),e5,.cons ⟨_,.inr (.inr (.inl ⟨rfl,rfl⟩)),o1.mono (s2.trans (s3.trans s5))⟩ (.cons ⟨_,.inl ⟨rfl,rfl⟩,o2.mono (s3.trans s5)⟩ (.cons ⟨_,.inr (.inr (.inr (.inr ⟨rfl,.inr rfl⟩))),o3.mono s5⟩ .nil))⟩⟩⟩⟩⟩
  rintro σ HA ⟨pl,xs,rfl,sA,i6,D1⟩;let I36:=fun (σ:St) (H':Hp)=>∃jl:Addr,σ=[some (.int (n:Int)),some (.ref pl),some (.ref jl),none,none]/\Same HA H'/\Yf H' jl jsR
  refine WSs.cut I36 ?_ ?_
  ·refine WS.of (Z0 (i:=2) Wj.nd (Zl (Zb (Zj (Zb (Zj (Zb Zd (Zb Zd Za))) (Zb (Zj (Zb Zd (Zb Zd Za))) Za))) (Zb (Zj (Zb (Zj (Zb Zd (Zb Zd Za))) (Zb (Zj (Zb Zd (Zb Zd Za))) Za))) (Zb (Zj (Zb (Zj (Zb Zd (Zb Zd Za))) (Zb (Zj (Zb Zd (Zb Zd Za))) Za))) Za))))) ⟨szA,fun a1 H1 s1 n1 e1=>⟨szA,fun a2 H2 s2 n2 e2=>⟨szA,fun j1 H3 s3 n3 e3=>⟨szA,fun b1 H4 s4 n4 e4=>⟨szA,fun b2 H5 s5 n5 e5=>⟨szA,fun j2 H6 s6 n6 e6=>⟨szA,fun c1 H7 s7 n7 e7=>⟨szA,fun c2 H8 s8 n8 e8=>⟨szA,fun j3 H9 s9 n9 e9=>⟨szA,fun jl HB sB nB eB=>⟨jl,rfl,s1.trans (s2.trans (s3.trans (s4.trans (s5.trans (s6.trans (s7.trans (s8.trans (s9.trans sB)))))))),[j1,j2,j3],eB,?_⟩⟩⟩⟩⟩⟩⟩⟩⟩⟩⟩;have s9B:=s9.trans sB;have s8B:=s8.trans s9B;have s7B:=s7.trans s8B;have s6B:=s6.trans s7B;have s5B:=s5.trans s6B;have s4B:=s4.trans s5B;have s3B:=s3.trans s4B;have s2B:=s2.trans s3B;exact .cons ⟨a1,a2,s4B.at e3,s2B.at e1,s3B.at e2⟩ (.cons ⟨b1,b2,s7B.at e6,s5B.at e4,s6B.at e5⟩ (.cons ⟨c1,c2,sB.at e9,s8B.at e7,s9B.at e8⟩ .nil))
  rintro σ HB ⟨jl,rfl,sB,u4⟩;refine WSs.step (Z0 (i:=3) Wj.nd (Y0 (Ze7 T) T.dU (Ww T) hr rfl T.fT T.aw.b .nil Zk (Zhj T) (Zb (Y0 (Zed T) T.dw (Wm T) hr rfl T.dS T.aj.b1 (.cons T.aj.r .nil) Zk (Zg6 T) (Zb (pv 1) (Zb (pv 2) Za))) Za))) (exR rfl (exR rfl ⟨pl,jl,xs,psR,jsR,rfl,sB.at i6,Paired.mapP D1 fun _ _ r=>r.mono sB,u4,yv,fun tr HC sC nC ht=>⟨tr,psR,jsR,[],rfl,ht,yv,fun x gs HD F0 ad0 nd hg hl hx hw=>?_⟩⟩));cases Zvs nd hg (by trivial) (by trivial);refine WSs.step (Yj (Z1 (pv 3) T.ac T.cK (Zai T) hr T.aR.b .nil Zk (Zb Zd (Zb (pv 0) (Zb Zd Za))))) (exR rfl ⟨x,ad0.dx,_,rfl,hw.obj,rfl,_,rfl,Zpm (cR hn) nTa hw ht yv rfl fun H1 F ad r6=>?_⟩);clear hw;have fresh:∀{Hx:Hp} {b:Addr} {st:WSt},WAt T HC Hx F x tr ad st->Hx b=none->¬Wd ad b:=fun hwx z y=>by
   obtain ⟨u,e⟩:=hwx.live _ (hwx.inF y);rw [z] at e;cases e
  refine WSs.step (Zb6 (i:=4) (N':=["_law_k", "_law_world"]) Wj.nd rfl (Or.inl rfl) rfl (Yc.std 1 [3] rfl (by trivial) (by trivial) rfl ⟨rfl,trivial⟩ rfl rfl ⟨(exR rfl ⟨rfl,rfl⟩),trivial⟩) (Zio rfl T.dB (Zb Zg Za)) (fun _ _ _ _=>(Za4 (i:=0) (by show (["_law_k", "_law_world"]:List Str).Nodup;decide +kernel))) (fun _ _ _ _=>Zbk) (fun _ _ _ _=>(Z1 (pv 1) T.ac T.bD (Xt (P:=P) (w:=w) (base:=base) (k:=7) T) hr T.az.b .nil Zk (Zb Zd (Zb (Wb (v:=.ref T.av.f) (by rfl) T.aM rfl) Za))))) ⟨3,rfl,by decide,by decide,fun D hD=>Zg3 (lo:=0) (n:=3) (fun i ys H'=>ys=(List.range i).map (fun j=>V.str (rW n j))/\H' D=some (.lst ys)/\WAt T HC H' (fun b=>F b\/b=D) x tr ad (rS n i)) ⟨rfl,Zf,r6.grow (Same.new hD) (fun b z=>.inl z) (fun b z=>z.imp id fun e=>⟨(congrArg H1 e).trans hD,_,(congrArg _ e).trans Zf⟩)⟩ ?_ ?_⟩
  ·rintro i ys H2 hi ⟨rfl,v5,p0⟩;obtain ⟨d,k,nm,e,c5,e2,k2,y9,hd,g⟩:=gR hn hi;have nD:=fresh r6 hD;refine ⟨W3.set rfl,_,rfl,x,ad.dx,_,rfl,p0.obj,rfl,Zm9 g p0 ht yv (by rw [hd];rfl) fun H3 o3 j0=>⟨o3 _ _ nD v5,Zx (by rw [List.length_map,List.length_range];lia),by rw [List.range_succ,List.map_append];rfl,Zf,?_⟩⟩;exact j0.off (W:=(· =D)) (Off.upd rfl) (fun b z=>.inr z) (fun b z=>by rw [z];exact nD) (fun b z=>.inl ⟨_,(congrArg H3 z).trans (o3 _ _ nD v5)⟩) (fun b z=>⟨_,(congrArg _ z).trans Zf⟩)
  rintro ys H2 ⟨rfl,v5,p0⟩;have nD:=fresh r6 hD;refine WSs.step (Z9 (Zq Zkz (pv 0) Zg (Zw _)) Zy Zr) (exR rfl (exQ rfl rfl (exR rfl (Yz (fun z=>?_) (fun z=>?_)))))
  ·have z:1<n:=by
    have:=of_decide_eq_true z;lia
   have z1:n≠1:=by lia
   have hws:(List.range 3).map (fun j=>V.str (rW n j))=([("went" :Str), "went", "crash"]).map V.str:=by
    rcases hn with rfl|rfl|rfl|rfl
    ·exact absurd rfl z1
    all_goals rfl
   have U7:rS n 3=RdS "left" n (rA n 3) [("crash", "p")]:=by
    rcases hn with rfl|rfl|rfl|rfl
    ·exact absurd rfl z1
    all_goals rfl
   rw [hws] at v5;rw [U7] at p0;refine WSs.last (Zp (Zdz (Wc (r:=X3 K) (X8 hr) (pv 4) (Zl (Zb Zd (Zb Zd (Zb Zd Za)))) (Zw _)) (Zgl (Wc (r:=X3 K) (X8 hr) (Xb (pv 3) T.ac T.bi (Xl T) hr T.am.b .nil Zk) (Zl (Zb (Zj (Zb Zd (Zb Zd Za))) Za)) (Zw _))))) (exR rfl ⟨szA,fun l1 H3 s3 n3 e3=>.inr (.inl ⟨1,_,_,by decide,.inr ⟨_,_,rfl,rfl⟩,Zba (ss:=["went", "went", "crash"]) (s3.at v5),Zba (ss:=["went", "went", "crash"]) e3,?_⟩)⟩);rw [decide_eq_true rfl];have j0:=p0.mono s3;refine ⟨true,rfl,Zgn ⟨_,rfl,x,ad.dx,_,rfl,j0.obj,rfl,Zta j0 rfl fun m1 J9 t9 p9=>⟨szA,fun m2 JA tA nA eA=>⟨szA,fun m3 JB tB nB eB=>.inr (.inl ⟨2,_,_,by decide,.inr ⟨_,_,rfl,rfl⟩,Yq (ps:=[("crash", "p")]) (p9.mono (tA.trans tB)),Yq (ps:=[("crash", "p")]) ⟨[m2],eB,.cons (tB.at eA) .nil⟩,?_⟩)⟩⟩⟩⟩;rw [decide_eq_true rfl];exact q JB (sA.trans (sB.trans (sC.trans (j0.same.trans (t9.trans (tA.trans tB))))))
  have z:n=1:=by
   have:¬(1:Int)<(n:Int):=fun y=>z (decide_eq_true y)
   lia
  subst z;have v5:H2 D=some (.lst (([("went" :Str), "went", "off"]).map V.str)):=v5;refine WSs.step (Yj (Z1 (pv 3) T.ac T.cx (Wt T) hr T.aH.b .nil Zk (Zb Zd (Zb Zd Za)))) (exR rfl ⟨x,ad.dx,_,rfl,p0.obj,rfl,Zl8 tR p0 ht yv rfl fun H3 o3 j0=>?_⟩);have hD3:=o3 _ _ nD v5;refine WSs.step (Z0 (i:=4) Wj.nd (Zt We (pv 4) (X4 (N':=["_law_k", "_law_world"]) rfl (Yc.std 1 [3] rfl (by trivial) (by trivial) rfl ⟨rfl,trivial⟩ rfl rfl ⟨(exR rfl ⟨rfl,rfl⟩),trivial⟩) (Zio rfl T.dB (Zb Zg Za)) (fun _ _ _ _=>(Za4 (i:=0) (by show (["_law_k", "_law_world"]:List Str).Nodup;decide +kernel))) (fun _ _ _ _=>Zbk) (fun _ _ _ _=>(Z1 (pv 1) T.ac T.bD (Xt (P:=P) (w:=w) (base:=base) (k:=7) T) hr T.az.b .nil Zk (Zb Zd (Zb (Wb (v:=.ref T.av.f) (by rfl) T.aM rfl) Za))))))) (exR rfl ⟨3,rfl,by decide,by decide,fun D2 hE=>Zg3 (lo:=0) (n:=3) (fun i ys H'=>ys=(List.range i).map (fun j=>V.str (tW j))/\H' D2=some (.lst ys)/\H' D=some (.lst (([("went" :Str), "went", "off"]).map V.str))/\WAt T HC H' (fun b=>(F b\/b=D)\/b=D2) x tr ad (tS i)) ⟨rfl,Zf,(Same.new hE).at hD3,j0.grow (Same.new hE) (fun b z=>.inl z) (fun b z=>z.imp id fun e=>⟨(congrArg H3 e).trans hE,_,(congrArg _ e).trans Zf⟩)⟩ ?_ ?_⟩)
  ·rintro i ys H4 hi ⟨rfl,hE4,Q0,u8⟩;obtain ⟨d,k,nm,e,c5,e2,k2,y9,hd,g⟩:=gT hi;have nE:¬Wd ad D2:=fun y=>by
    obtain ⟨u,e⟩:=j0.live _ (j0.inF y);rw [hE] at e;cases e
   have ne:D≠D2:=fun y=>by rw [y,hE] at hD3;cases hD3
   refine ⟨W3.set rfl,_,rfl,x,ad.dx,_,rfl,u8.obj,rfl,Zm9 g u8 ht yv (by rw [hd];rfl) fun H5 o5 E4=>⟨o5 _ _ nE hE4,Zx (by rw [List.length_map,List.length_range];lia),by rw [List.range_succ,List.map_append];rfl,Zf,by rw [Ze ne];exact o5 _ _ nD Q0,?_⟩⟩;exact E4.off (W:=(· =D2)) (Off.upd rfl) (fun b z=>.inr z) (fun b z=>by rw [z];exact nE) (fun b z=>.inl ⟨_,(congrArg H5 z).trans (o5 _ _ nE hE4)⟩) (fun b z=>⟨_,(congrArg _ z).trans Zf⟩)
  rintro ys H4 ⟨rfl,hE4,Q0,u8⟩;refine .inr (.inr ⟨D,D2,_,_,rfl,rfl,Q0,hE4,szA,fun l5 H5 s5 n5 e5=>?_⟩);refine WSs.step (Z9 (Zq (r:=Zcm K) (Zdp hr) (pv 4) (Zl (Zb Zd (Zb Zd (Zb Zd (Zb Zd (Zb Zd (Zb Zd Za))))))) (Zw _)) Zy Zr) (exR rfl ⟨szA,fun l6 H6 s6 n6 e6=>.inr (.inl ⟨1,_,_,by decide,.inr ⟨_,_,rfl,rfl⟩,Zba (ss:=["went", "went", "off", "went", "went", "end"]) (s6.at e5),Zba (ss:=["went", "went", "off", "went", "went", "end"]) e6,_,rfl,?_⟩)⟩);rw [decide_eq_true rfl];refine Zau ?_;have v8:=u8.mono (s5.trans s6);refine WSs.last (Zp (Zdz (Wc (r:=X3 K) (X8 hr) (Xb (pv 3) T.ac T.bi (Xl T) hr T.am.b .nil Zk) (Zl (Zb (Zj (Zb Zd (Zb Zd Za))) Za)) (Zw _)) (Zgl (Wc (r:=X3 K) (X8 hr) (Z1 (pv 3) T.ac T.bX (Wi T) hr T.aC.b .nil Zk (Zb Zd Za)) (Zl (Zb (Zj (Zb Zd (Zb Zd Za))) Za)) (Zw _))))) (exR rfl ⟨x,ad.dx,_,rfl,v8.obj,rfl,Zta v8 rfl fun m1 J9 t9 p9=>⟨szA,fun m2 JA tA nA eA=>⟨szA,fun m3 JB tB nB eB=>.inr (.inl ⟨2,_,_,by decide,.inr ⟨_,_,rfl,rfl⟩,Yq (ps:=[("off", "p")]) (p9.mono (tA.trans tB)),Yq (ps:=[("off", "p")]) ⟨[m2],eB,.cons (tB.at eA) .nil⟩,?_⟩)⟩⟩⟩);rw [decide_eq_true rfl];have t9B:=t9.trans (tA.trans tB);have hwB:=v8.mono t9B;refine ⟨true,rfl,Zgn ⟨_,rfl,x,ad.dx,_,rfl,hwB.obj,rfl,Zka ("ta",1,[("g", "a")]) (by trivial) hwB rfl fun m4 J1 t1 p1=>⟨szA,fun m5 J2 t2 n2 e2=>⟨szA,fun m6 J3 t3 n3 e3=>.inr (.inl ⟨2,_,_,by decide,.inr ⟨_,_,rfl,rfl⟩,Yq (ps:=[("g", "a")]) (p1.mono (t2.trans t3)),Yq (ps:=[("g", "a")]) ⟨[m5],e3,.cons (t3.at e2) .nil⟩,?_⟩)⟩⟩⟩⟩;rw [decide_eq_true rfl];exact q J3 (sA.trans (sB.trans (sC.trans (hwB.same.trans (t1.trans (t2.trans t3))))))
theorem Zpd(T:Tx K mg){k:Nat}(h:8<=k:=by decide):Zu P w K mg base CX0 k T.bN.f T.bN.fd ["_law_long"] (Zys K):=(Zme T).mono h
unseal Zgm Zg4 Zr9 Zdw Zdy Zly
theorem WAt.offL{T:Tx K mg}{H0 H H':Hp}{Z:Addr->Prop}{x tr sl:Addr}{ad:WAd}{la la':LAd}{st O1 N5:WSt}(hw:WAt T H0 H Z x tr ad st)(hl:LAt H Z sl la O1)(C5:LAt H' Z sl la' N5)(o:Off (Zah la) H H')(ap:∀b,Wd ad b->¬Zah la b):WAt T H0 H' Z x tr ad st :=
 hw.off o (fun _ z=>hl.inG z) (fun b z y=>ap b y z) (fun _ z=>hl.nt z) (fun b z=>C5.live b (hl.inG z))
theorem LAt.offW{T:Tx K mg}{H0 H H':Hp}{Z Z':Addr->Prop}{x tr sl:Addr}{ad V9:WAd}{la:LAd}{st O1 N5:WSt}(hl:LAt H Z sl la st)(hw:WAt T H0 H Z x tr ad O1)(hw':WAt T H0 H' Z' x tr V9 N5)(m:∀b,Z b->Z' b)(o:Off (Wd ad) H H')(ap:∀b,Wd ad b->¬Zah la b):LAt H' Z sl la st :=
 hl.off o (fun _ z=>hw.inF z) ap (fun _ _ e z=>hw.nt e z) (fun b z=>hw'.live b (m b (hw.inF z)))
theorem LAt.lie{H:Hp}{G:Addr->Prop}{sl:Addr}{ad:LAd}{st:WSt}(h:LAt H G sl ad st)(l':List (Str×Str)):LAt (upd H ad.d1 (.dK (Wf l'))) G sl ad (st.1,l',st.2.2):=by
 obtain ⟨ms,hm,_⟩:=id h.mis;have nt:∀xs,HO.dK (Wf st.2.1) ≠ .tup xs:=fun _ z=>nomatch z
 have xl:sl≠ad.d1:=fun z=>h.nx (by rw [z];exact h.g1)
 exact ⟨by rw [Ze xl];exact h.obj,by rw [Ze h.ne];exact h.trd,Paired.mapP h.recs fun _ _ r=>r.offB h.g1 h.lies nt,Zf,h.mis.offB (fun z=>by rw [z] at hm;rw [h.lies] at hm;cases hm) h.lies nt,h.g0,h.g1,h.gm,h.ne,h.nx,Zbg h.live⟩
theorem LAt.come{H:Hp}{G:Addr->Prop}{sl t l:Addr}{ad:LAd}{st:WSt}{nm:Str}{n:Nat}{sp:List Zc}(h:LAt H G sl ad st)(hn:nm∉st.1.map Prod.fst)(ht:H t=some (.tup [.int (n:Int),.ref l]))(hl:Zo H l sp)(nl:¬G l):LAt (upd H ad.d0 (.dK (Wg (trK ad.ts st.1) (Ym nm) (.ref t)))) G sl ⟨ad.d0,ad.d1,ad.m,ad.ts++[t]⟩ (st.1++[(nm,n,sp)],st.2.1,st.2.2):=by
 obtain ⟨ms,hm,_⟩:=id h.mis;have nt:∀xs,HO.dK (trK ad.ts st.1) ≠ .tup xs:=fun _ z=>nomatch z
 have xd:sl≠ad.d0:=fun z=>h.nx (by rw [z];exact h.g0)
 have md:ad.m≠ad.d0:=fun z=>by rw [z] at hm;rw [h.trd] at hm;cases hm
 have new:Zhh G H t (nm,n,sp):=⟨l,ht,hl,nl⟩
 exact ⟨by rw [Ze xd];exact h.obj,by rw [Zf,Zti (d:=(n,sp)) (Paired.length h.recs) hn],Paired.append (Paired.mapP h.recs fun _ _ r=>r.offB h.g0 h.trd nt) (.cons (new.offB h.g0 h.trd nt) .nil),by rw [Ze h.ne.symm];exact h.lies,h.mis.offB md h.trd nt,h.g0,h.g1,h.gm,h.ne,h.nx,Zbg h.live⟩
open Classical in
noncomputable def still (Z:Addr->Prop) (H:Hp):Hp:=fun b=>if Z b then none else H b
theorem Zsb{Z:Addr->Prop}{H:Hp}:Same (still Z H) H:=fun b o e=>by
 unfold still at e
 by_cases z:Z b
 ·rw [if_pos z] at e;cases e
 ·rw [if_neg z] at e;exact e
theorem Zlw{Z:Addr->Prop}{H:Hp}{b:Addr}{o:HO}(e:H b=some o)(n:¬Z b):still Z H b=some o:=(if_neg n).trans e
theorem WAt.still{T:Tx K mg}{H0 H:Hp}{F:Addr->Prop}{x tr:Addr}{ad:WAd}{st:WSt}(h:WAt T H0 H F x tr ad st):WAt T (still F H) H F x tr ad st/\Same H0 (K53.still F H) :=
 ⟨⟨h.obj,h.lies,h.trd,h.trs,h.mis,h.fl,h.ft,h.fm,h.ne,h.fa,h.nd,h.nx,fun _ z=>if_pos z,Zsb,h.live⟩,fun b o e=>Zlw (h.same.at e) fun z=>by rw [h.free b z] at e;cases e⟩
def W7(k:Str)(ps:List Zc):List Str:=(ps.filter fun p=>decide (p.1=k)).map Prod.snd
theorem Zlk{k n:Str}{ps:List Zc}:n∈W7 k ps↔((k,n):Zc)∈ps:=by
 unfold W7
 constructor
 ·intro h;obtain ⟨p,hp,rfl⟩:=List.mem_map.mp h;obtain ⟨h1,h2⟩:=List.mem_filter.mp hp;rw [<-of_decide_eq_true h2];exact h1
 ·intro h;exact List.mem_map.mpr ⟨_,List.mem_filter.mpr ⟨h,decide_eq_true rfl⟩,rfl⟩
theorem Znz{k:Str}{ps:List Zc}(nd:(ps.map Prod.snd).Nodup):(W7 k ps).Nodup:=nd.sublist (List.filter_sublist.map _)
theorem Zg0(k:Str)(ps:List Zc):(W7 k ps).length<=ps.length:=by
 unfold W7;rw [List.length_map];exact List.length_filter_le _ _
theorem Zp5{k:Str}{ps:List Zc}{i:Nat}{p:Zc}(h:ps[i]? =some p):W7 k (ps.take (i+1))=W7 k (ps.take i)++if p.1=k then [p.2] else []:=by
 unfold W7;rw [List.take_add_one,h,List.filter_append,List.map_append,show (some p).toList=[p] from rfl,List.filter_cons]
 by_cases z:p.1=k
 ·rw [if_pos (decide_eq_true z),if_pos z];rfl
 ·rw [if_neg (by simpa using z),if_neg z];rfl
theorem Zyn{l:List (Str×Str)}{n v:Str}(h:n∉l.map Prod.fst):Wg (Wf l) (Ym n) (.str v)=Wf (l++[(n,v)]):=by
 have:Y6 (Wf l) (Ym n)=none:=Zsz fun m=>by
  unfold Wf at m;rw [List.map_map] at m;obtain ⟨q,hq,e⟩:=List.mem_map.mp m;exact h (List.mem_map.mpr ⟨q,hq,Xq _ _ e⟩)
 rw [Zki _ this];unfold Wf;rw [List.map_append]
 rfl
theorem Zqb{l:List (Str×Str)}{n:Str}(h:n∉l.map Prod.fst):liQ l n=none:=by
 unfold liQ;cases z:l.find? fun p=>decide (p.1=n) with
 | none=>rfl
 | some q=>exact absurd (List.mem_map.mpr ⟨q,List.mem_of_find?_eq_some z,by have:=List.find?_some z;exact of_decide_eq_true this⟩) h
theorem Zln{l:List (Str×Str)}{n:Str}(h:n∉l.map Prod.fst):Ys l n = "" :=by
 unfold Ys;rw [Zqb h];rfl
theorem Zs5{l:List (Str×Str)}{n v m:Str}(h:n∉l.map Prod.fst):liQ (l++[(n,v)]) m=if m=n then some v else liQ l m:=by
 by_cases z:m=n
 ·rw [if_pos z,z];unfold liQ;rw [List.find?_append];have:=Zqb h;unfold liQ at this;rw [Option.map_eq_none_iff] at this;rw [this];simp
 ·rw [if_neg z];unfold liQ;rw [List.find?_append];have:([(n,v)]:List (Str×Str)).find? (fun p=>decide (p.1=m))=none:=by
   rw [List.find?_cons,decide_eq_false fun y=>z (by simpa using y.symm)];rfl
  rw [this];simp
theorem Zu9(l:List (Str×Str))(n v:Str):(Zpi l n v).map Prod.fst=l.map Prod.fst:=by
 unfold Zpi;rw [List.map_map];refine List.map_congr_left fun q _=>?_
 show (if q.1=n then (q.1,v) else q).1=q.1;split <;>rfl
theorem Ztw{l:List (Str×Str)}{n v m:Str}(h:n∈l.map Prod.fst):Ys (Zpi l n v) m=if m=n then v else Ys l m:=by
 unfold Ys liQ Zpi
 induction l with
 | nil=>cases h
 | cons p l ih =>
  rw [List.map_cons,List.find?_cons,List.find?_cons]
  by_cases z:p.1=n
  ·rw [if_pos z]
   by_cases y:m=n
   ·rw [if_pos y,decide_eq_true (by show p.1=m;rw [z,y])];rfl
   ·have e1:decide (p.1=m)=false:=decide_eq_false fun x=>y (by rw [<-x,z])
    show (Option.map Prod.snd (match decide (p.1=m) with | true=>some (p.1,v) | false=>_)).getD "" =_;rw [e1,if_neg y];show _=(Option.map Prod.snd (List.find? (fun p=>decide (p.1=m)) l)).getD "";have key:∀l:List (Str×Str),(Option.map Prod.snd (List.find? (fun p=>decide (p.1=m)) (l.map fun p=>if p.1=n then (p.1,v) else p)))=Option.map Prod.snd (List.find? (fun p=>decide (p.1=m)) l):=fun l=>by
     induction l with
     | nil=>rfl
     | cons q l ih2 =>
      rw [List.map_cons,List.find?_cons,List.find?_cons]
      by_cases w:q.1=n
      ·rw [if_pos w];have e2:decide (q.1=m)=false:=decide_eq_false fun x=>y (by rw [<-x,w])
       show Option.map Prod.snd (match decide (q.1=m) with | true=>some (q.1,v) | false=>_)=_;rw [e2];exact ih2
      ·rw [if_neg w];cases decide (q.1=m) with
       | true=>rfl
       | false=>exact ih2
    exact congrArg (fun o:Option Str=>o.getD "") (key l)
  ·rw [if_neg z];have hn:n∈l.map Prod.fst:=(List.mem_cons.mp h).resolve_left fun y=>z y.symm
   cases e:decide (p.1=m) with
   | true =>
    have:m≠n:=fun y=>z (by rw [<-y];exact of_decide_eq_true e)
    rw [if_neg this]
   | false=>exact ih hn
theorem LAt.offG{H H':Hp}{G G' W:Addr->Prop}{sl:Addr}{ad:LAd}{st:WSt}(h:LAt H G sl ad st)(o:Off W H H')(sub:∀b,W b->G b)(ap:∀b,W b->¬Zah ad b)(tup:∀t xs,H t=some (.tup xs)->¬W t)(m:∀b,G b->G' b)(n:∀b,G' b->G b\/H b=none)(lv:∀b,G' b->∃o,H' b=some o):LAt H' G' sl ad st:=by
 refine ⟨o _ _ (fun w=>h.nx (sub _ w)) h.obj,o _ _ (fun w=>ap _ w (.inl rfl)) h.trd,Paired.mapP h.recs fun t d r=>?_,o _ _ (fun w=>ap _ w (.inr (.inl rfl))) h.lies,h.mis.offW o (fun w=>ap _ w (.inr (.inr rfl))) tup,m _ h.g0,m _ h.g1,m _ h.gm,h.ne,fun z=>?_,lv⟩
 ·obtain ⟨l,h1,⟨us,h2,h2'⟩,h3⟩:=r;refine ⟨l,o _ _ (tup _ _ h1) h1,Zo.offW o ⟨us,h2,h2'⟩ (fun w=>h3 (sub l w)) tup,fun z=>?_⟩;rcases n l z with y|y
  ·exact h3 y
  ·rw [h2] at y;cases y
 ·rcases n sl z with y|y
  ·exact h.nx y
  ·rw [h.obj] at y;cases y
theorem Zuc(ts:List TrD)(d:TrD):stood (ts++[d])=stood ts++d.2.2.map Prod.fst:=by
 unfold stood;rw [List.flatMap_append];simp
theorem Zei.add{ps:List Zc}{ts:List TrD}{nm g:Str}{n:Nat}(h:Zei ps ts)(hl:ts.length<=1)(hn:nm∉ts.map Prod.fst)(h1:1<=n)(h4:n<=4) (hg:(("gate",g):Zc)∈ps):Zei ps (ts++[(nm,n,[((g, ""):Zc)])]):=by
 refine ⟨?_,by rw [List.length_append];show ts.length+1<=2;lia,fun d hd=>?_⟩
 ·rw [List.map_append,List.nodup_append];refine ⟨h.nd,by simp,fun b hb c hc z=>?_⟩;have hc:c=nm:=by simpa using hc
  rw [z,hc] at hb;exact hn hb
 ·rcases List.mem_append.mp hd with z|z
  ·exact h.ok d z
  ·rw [List.mem_singleton.mp z];exact ⟨h1,h4,by simp,by simp,fun p hp=>⟨"gate",by rw [List.mem_singleton.mp hp];exact hg⟩⟩
theorem Zuu{L:Nat}(h:2<=L)(a:Int):((a+1)%(L:Int)).toNat≠(a%(L:Int)).toNat:=fun z=>by
 have hL:(0:Int)<(L:Int):=by lia
 have h1:=Int.emod_nonneg a (show (L:Int)≠0 by lia);have h2:=Int.emod_nonneg (a+1) (show (L:Int)≠0 by lia);have e:(a+1)%(L:Int)=a%(L:Int):=by lia
 have:=Int.emod_emod_of_dvd 0 (Int.dvd_refl (L:Int));have d:=Int.emod_eq_emod_iff_emod_sub_eq_zero.mp e;rw [show a+1-a=1 by lia,Int.emod_eq_of_lt (by decide) (by lia)] at d;cases d
theorem Zp6{j7:List Str}(nd:j7.Nodup)(h:2<=j7.length)(a:Int):j7.getD ((a+1)%(j7.length:Int)).toNat "" ≠ j7.getD (a%(j7.length:Int)).toNat "" :=fun z=>by
 have b1:=Int.emod_nonneg a (show (j7.length:Int)≠0 by lia);have b2:=Int.emod_lt_of_pos a (show (0:Int)<(j7.length:Int) by lia);have b3:=Int.emod_nonneg (a+1) (show (j7.length:Int)≠0 by lia);have b4:=Int.emod_lt_of_pos (a+1) (show (0:Int)<(j7.length:Int) by lia);have u7:=Zuu h a;generalize (a+1)%(j7.length:Int)=i at *;generalize a%(j7.length:Int)=j at *;have hi:i.toNat<j7.length:=by lia
 have hj:j.toNat<j7.length:=by lia
 rw [List.getD_eq_getElem?_getD,List.getD_eq_getElem?_getD,List.getElem?_eq_getElem hi,List.getElem?_eq_getElem hj] at z;exact u7 ((List.getElem_inj nd).mp z)
theorem Ztt{pl D:Addr}{ts:List Addr}{ps:List Zc}{k:Str}{H1:Hp}{Q:VK}{σ:St}(hl:H1 pl=some (.lst (ts.map V.ref)))(hp:Paired (Zm H1) ts ps)(hn:ps.length<=100)(hD:H1 D=none)(q:∀H',Same H1 H'->H' D=some (.lst ((W7 k ps).map V.str))->Q (.ref D) H'){fr:St->St}(L9:fr σ=[none,none]){tf:TT}(htf:tf=fun σ H Q=>∃v,σ[0]? =some (some v)/\X3 K v (.str k) H fun x H1=>∃b,x=.bl b/\Q b H1){te:TE}(L1:te=Zjh 1) :
  Zet (Itl K pl) fr (Zzr K 2 (Zwk (Zeq 0) (Zwk (Zeq 1) Ybu))) tf te Q σ H1 D:=by
 refine X5 (xs:=ts.map V.ref) (fun i ys H'=>ys=(W7 k (ps.take i)).map V.str/\H' D=some (.lst ys)/\Same H1 H') ⟨rfl,Zf,Same.new hD⟩ ?_ ?_ ?_
 ·rintro i ys H' _ ⟨_,_,sm⟩;exact SqL.of (sm.at hl)
 ·rintro j v ys H' hj ⟨rfl,v0,sm⟩;rw [List.getElem?_map] at hj;obtain ⟨t,K0,rfl⟩:=Option.map_eq_some_iff.mp hj;obtain ⟨⟨k',n'⟩,hq,A7⟩:=Paired.get hp K0;have w4:=Zg0 k (ps.take j);rw [List.length_take] at w4;have hsn:W7 k (ps.take (j+1))=W7 k (ps.take j)++if k'=k then [n'] else []:=Zp5 hq
  unfold Zb2;rw [L9,htf,L1];refine ⟨t,_,rfl,SqT.of (sm.at A7),rfl,_,_,rfl,_,_,rfl,rfl,(W3.set rfl).trans (W3.set rfl),_,rfl,.inl ⟨rfl,_,rfl,Yz (fun z=>?_) (fun z=>?_)⟩⟩
  ·have z:k'=k:=V.str.inj (of_decide_eq_true z);rw [hsn,if_pos z];refine (exR rfl ⟨v0,by rw [List.length_map];exact Zx (by lia),by rw [List.map_append];rfl,Zf,fun b o y=>?_⟩);rw [Ze (Zi y hD)];exact sm.at y
  ·have z:k'≠k:=fun y=>z (decide_eq_true (by rw [y]))
   rw [hsn,if_neg z,List.append_nil];exact ⟨rfl,v0,sm⟩
 ·rintro ys H6 ⟨rfl,y8,s6⟩;refine q H6 s6 ?_;rw [y8,List.length_map,Paired.length hp,List.take_length]
def Zbs(H:Hp)(Z:Addr->Prop)(us:List Addr):Prop:=∀u∈us,∃l1 l2 sp,H u=some (.tup [.ref l1,.ref l2])/\Zo H l1 sp/\Zo H l2 sp/\¬Z l1/\¬Z l2
theorem Zbs.mono{H H':Hp}{Z:Addr->Prop}{us:List Addr}(e:Same H H')(h:Zbs H Z us):Zbs H' Z us:=fun u hu=>by
 obtain ⟨l1,l2,sp,h1,h2,h3,h4⟩:=h u hu;exact ⟨l1,l2,sp,e.at h1,h2.mono e,h3.mono e,h4⟩
theorem Zbs.off{H H':Hp}{Z Z' W:Addr->Prop}{us:List Addr}(h:Zbs H Z us)(o:Off W H H')(sub:∀b,W b->Z b)(nt:∀t xs,H t=some (.tup xs)->¬W t)(n:∀b,Z' b->Z b\/H b=none):Zbs H' Z' us:=fun u hu=>by
 obtain ⟨l1,l2,sp,h1,h2,h3,h4,h5⟩:=h u hu;have nn:∀{l:Addr},Zo H l sp->¬Z l->¬Z' l:=fun {l} z y w=>by
  obtain ⟨ts,z1,_⟩:=z;rcases n l w with u|u
  ·exact y u
  ·rw [z1] at u;cases u
 exact ⟨l1,l2,sp,o _ _ (nt _ _ h1) h1,h2.offW o (fun w=>h4 (sub _ w)) nt,h3.offW o (fun w=>h5 (sub _ w)) nt,nn h2 h4,nn h3 h5⟩
theorem Zp7{as:List Addr}{ts:List TrD}(h:as.length=ts.length):(trK as ts).map (fun kv=>kV kv.1)=(ts.map Prod.fst).map V.str:=by
 have:=congrArg (List.map kV) (Zhx h);rw [List.map_map,List.map_map] at this;rw [List.map_map];exact this
theorem Yam{f:Addr}{fd:FuncData} (F:Fun K "law" "law" Zhk f fd) (T:Tx K mg):Zu P w K mg base CX0 9 f fd ["_law_script"] (Zk3 K T.tabs):=by
 refine F.okW Wl fun a8 A outer s H vs Q E hr h=>?_
 ·obtain ⟨a,ns,rfl,hS,S0,htb,q⟩:=h;intro X;have tb:=Zq3.of htb;refine WSs.step (Z0 (i:=1) Wl.nd (Zs (Zk8 T) hr rfl T.dW T.bh.F.kp T.bh.b .nil Zk (Zb (Zs (Zpb T) hr rfl T.fq T.bJ.F.kp T.bJ.b .nil Zk (Zb (pv 0) (Zb Zg (Zb Zg Za)))) (Zb (Zs (Xi T) hr rfl T.bg T.ah.F.kp T.ah.b .nil Zk (Zb (pv 0) (Zb Zg Za))) Za)))) (exR rfl ⟨a,ns,26,40,rfl,hS,S0,by decide,by decide,fun cl H1 cs s1 n1 e1 hc v6=>(exR rfl ⟨a,ns,0,rfl,s1.seq hS,cl,_,cs,rfl,SqL.of e1,fun c h=>(hc c h).1,v6,fun t pl jl gl H2 ps js sg s2 ht hP hJ hG yo sg2=>?_⟩)⟩);have u0:=s1.trans s2;have yv:=yo.v;have ylen:=yv.len;let I37:=fun (σ:St) (H':Hp)=>∃(lx:Addr) (l o:Str),σ=[some (.ref a),some (.ref t),some (.ref lx),none,none,none,none,none,none,none,none,none,none,none]/\Same H2 H'/\H' lx=some (.lst [.str l,.str o])/\LO l o
  refine WSs.cut I37 ?_ ?_
  ·obtain ⟨j,hj,hj2⟩:=Zbz (a:=Xd ns 1 / 7) (n:=2) (by decide);refine WS.of (Z0 (i:=2) Wl.nd (Zv (K:=K) rfl (Zl (Zb (Zl (Zb Zd (Zb Zd Za))) (Zb (Zl (Zb Zd (Zb Zd Za))) Za))) (Zt Yv (Zt Yt (Zs (Xi T) hr rfl T.bg T.ah.F.kp T.ah.b .nil Zk (Zb (pv 0) (Zb Zg Za))) Zg) Zg))) ⟨szA,fun la H3 s3 n3 e3=>⟨szA,fun lb H4 s4 n4 e4=>⟨szA,fun lc H5 s5 n5 e5=>(exR rfl ⟨a,ns,1,rfl,(u0.trans (s3.trans (s4.trans s5))).seq hS,_,_,rfl,rfl,⟨by decide,by decide⟩,_,_,rfl,rfl,(by show (0:Int)<2;decide),.inl ⟨lc,_,_,if j=0 then .ref la else .ref lb,rfl,rfl,SqL.of e5,?_,?_⟩⟩)⟩⟩⟩
   ·show atI [V.ref la,V.ref lb] (Xd ns 1 / 7%2)=_;have hj:Xd ns 1 / 7%2=(j:Int):=hj;rw [hj];rcases (by lia:j=0\/j=1) with rfl|rfl <;>rfl
   ·have s35:=s3.trans (s4.trans s5);rcases (by lia:j=0\/j=1) with rfl|rfl
    ·exact ⟨la, "left", "right",rfl,s35,(s4.trans s5).at e3,.inl ⟨rfl,rfl⟩⟩
    ·exact ⟨lb, "right", "left",rfl,s35,s5.at e4,.inr ⟨rfl,rfl⟩⟩
  rintro σ H3 ⟨lx,l,o,rfl,s3,elx,lo⟩;refine WSs.step (Z9 (Wo (Xh (Zs (Zf5 T) hr rfl T.df T.ax.F.kp T.ax.b .nil Zk (Zb (Zv (K:=K) rfl (pv 2) Zg) (Zb (Zv (K:=K) rfl (pv 2) Zg) Za))))) Zy Zr) (exR rfl (.inl ⟨lx,_,0,_,rfl,rfl,SqL.of elx,Yr (j:=0) rfl,_,rfl,.inl ⟨lx,_,1,_,rfl,rfl,SqL.of elx,Yr (j:=1) rfl,l,o,rfl,lo,fun H4 s4=>(exR rfl (Zau ?_))⟩⟩));let I38:=fun (σ:St) (H':Hp)=>∃n:Nat,σ=[some (.ref a),some (.ref t),some (.ref lx),some (.int (n:Int)),none,none,none,none,none,none,none,none,none,none]/\H'=H4/\(n=1\/n=2\/n=3\/n=4)
  refine WSs.cut I38 ?_ ?_
  ·obtain ⟨j,hj,hj4⟩:=Zbz (a:=Xd ns 1 / 14) (n:=4) (by decide);have hj:Xd ns 1 / 14%4=(j:Int):=hj;refine WS.of (Z0 (i:=3) Wl.nd (Zt We Zg (Zt Yv (Zt Yt (Zs (Xi T) hr rfl T.bg T.ah.F.kp T.ah.b .nil Zk (Zb (pv 0) (Zb Zg Za))) Zg) Zg))) (exR rfl ⟨a,ns,1,rfl,(u0.trans (s3.trans s4)).seq hS,_,_,rfl,rfl,⟨by decide,by decide⟩,_,_,rfl,rfl,(by show (0:Int)<4;decide),.inl (exQ rfl rfl ⟨1+j,?_,rfl,by lia⟩)⟩);show [some (V.ref a),some (V.ref t),some (V.ref lx),some (V.int (1+Xd ns 1 / 14%4)),none,none,none,none,none,none,none,none,none,none]=_;rw [hj]
   rfl
  rintro σ H5 ⟨n,rfl,rfl,hn⟩;refine WSs.step (Z9 (PW.pt (Zf7 (Wo (Xh (Zs (Zpd T) hr rfl T.fB T.bN.F.kp T.bN.b .nil Zk (Zb (pv 3) Za)))) (Zeh (Wo (Xh (Zs (Zhi T) hr rfl T.dl T.aF.F.kp T.aF.b .nil Zk (Zb (pv 3) Za))))))) Zy Zr) (exR rfl ⟨n,rfl,hn,fun H6 s6=>(exR rfl (Zau (exR rfl ⟨n,rfl,fun H7 s7=>(exR rfl (Zau ?_))⟩)))⟩);have s27:=s3.trans (s4.trans (s6.trans s7));refine WSs.step (Z0 (i:=4) Wl.nd (Y0 (Ze7 T) T.dU (Ww T) hr rfl T.fT T.aw.b .nil Zk (Zhj T) (Zb (Zs (Zna T) hr rfl T.eR T.bz.F.kp T.bz.b .nil Zk (Zb (pv 1) Za)) Za))) (exR rfl ⟨t,ps,js,sg,rfl,⟨pl,jl,gl,s27.at ht,hP.mono s27,hJ.mono s27,hG.mono s27⟩,yv,fun tr H0 s0 n0 ht0=>⟨tr,ps,js,sg,rfl,ht0,yv,fun x gs H8 F ad gnd hg hgl hx hw=>?_⟩⟩);have V8:=s27.trans s0;have hyd0:Zt9 H0 t ps js sg:=⟨pl,jl,gl,V8.at ht,hP.mono V8,hJ.mono V8,hG.mono V8⟩
  have hS0:=(u0.trans V8).seq hS;have tb0:=tb.mono (u0.trans V8);let I39:=fun (σ:St) (H':Hp)=>∃(sl:Addr) (la:LAd) (Z:Addr->Prop),σ=[some (.ref a),some (.ref t),some (.ref lx),some (.int (n:Int)),some (.ref x),some (.ref sl),none,none,none,none,none,none,none,none]/\Zl9 T H0 H' Z x tr sl ad la [] (gs.map fun n=>(n, "left")) [] []
  refine WSs.cut I39 ?_ ?_
  ·refine WS.of (Z0 (i:=5) Wl.nd (Zl (Zb Zdr (Zb Zdr (Zb (Zl Za) Za))))) fun d0 H9 s9 n9 e9=>fun d1 HA sA nA eA=>⟨szA,fun m HB sB nB eB=>⟨szA,fun sl HC sC nC eC=>?_⟩⟩
   have s8C:=s9.trans (sA.trans (sB.trans sC));have f0:=(sA.trans (sB.trans sC)).at e9;have f1:=(sB.trans sC).at eA;have fm:=sC.at eB;have nF:∀b,H8 b=none->¬F b:=fun b z y=>by
    obtain ⟨u,e⟩:=hw.live b y;rw [z] at e;cases e
   have z1:=s9.free nA;have z2:=s9.free (sA.free nB);refine ⟨sl,⟨d0,d1,m,[]⟩,fun b=>F b\/(b=d0\/b=d1\/b=m),rfl,hw.grow s8C (fun b z=>.inl z) (fun b z=>z.imp id fun y=>?_),⟨eC,f0,.nil,f1,⟨[],fm,.nil⟩,.inr (.inl rfl),.inr (.inr (.inl rfl)),.inr (.inr (.inr rfl)),fun z=>?_,?_,fun b z=>?_⟩,fun b z y=>?_⟩
   ·rcases y with rfl|rfl|rfl
    ·exact ⟨n9,_,f0⟩
    ·exact ⟨z1,_,f1⟩
    ·exact ⟨z2,_,fm⟩
   ·have z:d0=d1:=z;rw [<-z,e9] at nA;cases nA
   ·have hc:∀{b:Addr} {u:HO},HB b=some u->sl≠b:=fun e z=>by rw [z,e] at nC;cases nC
    rintro (z|z|z|z)
    ·exact nF sl (s9.free (sA.free (sB.free nC))) z
    ·exact hc ((sA.trans sB).at e9) z
    ·exact hc (sB.at eA) z
    ·exact hc eB z
   ·rcases z with z|rfl|rfl|rfl
    ·exact (hw.mono s8C).live b z
    ·exact ⟨_,f0⟩
    ·exact ⟨_,f1⟩
    ·exact ⟨_,fm⟩
   ·have hb:=hw.inF z;rcases y with rfl|rfl|rfl
    ·exact nF _ n9 hb
    ·exact nF _ z1 hb
    ·exact nF _ z2 hb
  rintro σ HC ⟨sl,la,Z,rfl,hB⟩;obtain ⟨pl,jl,gl,y1,⟨us,y2,y2'⟩,y3,y4⟩:=id hyd0;have hpnd:=yv.net.nd;have gC:=hB.w.same;have yl100:ps.length<=100:=by lia
  let I40:=fun (σ:St) (H':Hp)=>(∃o6 o7 o8,σ=[some (.ref a),some (.ref t),some (.ref lx),some (.int (n:Int)),some (.ref x),some (.ref sl),o6,o7,o8,none,none,none,none,none])/\∃lw ll,Zl9 T H0 H' Z x tr sl ad la [] lw ll []/\(∀p∈ps,Ys ll p.2∈Zco p.1)/\∀n,Ys ll n=Ys lw n
  refine WSs.cut I40 ?_ ?_
  ·refine WS.of (Xy PassesOwn.never rfl (Zf2 rfl T.cF (Zb (X4 (N':=["_law_kind_here", "_law_name"]) rfl (Yc.std 2 [] rfl (by trivial) (by trivial) rfl trivial rfl rfl trivial) (Y5 (Zv (K:=K) rfl (pv 1) Zg)) (fun _ _ _ _=>(Zfs (K:=K) (n:=2) rfl rfl (Zz (Za4 (i:=0) (by show (["_law_kind_here", "_law_name"]:List Str).Nodup;decide +kernel)) (Zz (Za4 (i:=1) (by show (["_law_kind_here", "_law_name"]:List Str).Nodup;decide +kernel)) Xe)))) (fun _ _ _ _=>(Zd7 (Zq (r:=X3 K) (X8 hr) (pv 0) Zd (Zw _)))) (fun _ _ _ _=>(pv 1))) Za)) (W8 rfl (Zz (Y1 (i:=7) Wl.nd) (Zz (Y1 (i:=8) Wl.nd) Xe))) Zy) (exR rfl (ixT (gC.at y1) 0 rfl ⟨pl,rfl,⟨_,SqL.of (gC.at y2)⟩,fun D hD=>Ztt (k := "points") (gC.at y2) (Paired.mapP y2' fun _ _ r=>r.mono gC) yl100 hD (fun HD sD eD=>?qq) ?aa ?bb ?cc⟩))
   case aa=>rfl
   case bb=>rfl
   case cc=>rfl
   generalize hpts:W7 "points" ps=pts at eD;have B3:∀m,m∈pts↔(("points",m):Zc)∈ps:=fun m=>by rw [<-hpts];exact Zlk
   have pnd:pts.Nodup:=by rw [<-hpts];exact Znz hpnd
   have plen:=Zg0 "points" ps;rw [hpts] at plen;have nDW:¬Wd ad D:=fun y=>by
    obtain ⟨u,e⟩:=hB.w.live _ (hB.w.inF y);rw [hD] at e;cases e
   have nDL:¬Zah la D:=fun y=>by
    obtain ⟨u,e⟩:=hB.l.live _ (hB.l.inG y);rw [hD] at e;cases e
   have hgs:(gs.map fun n=>(n,("left" :Str))).map Prod.fst=gs:=by rw [List.map_map];exact List.map_id _
   let I41:=fun (i:Nat) (σ:St) (H':Hp)=>(∃o7 o8,σ=[some (.ref a),some (.ref t),some (.ref lx),some (.int (n:Int)),some (.ref x),some (.ref sl),none,o7,o8,none,none,none,none,none])/\H' D=some (.lst (pts.map V.str))/\∃lw ll,Zl9 T H0 H' Z x tr sl ad la [] lw ll []/\ll.map Prod.fst=pts.take i/\(∀q∈ll,q.2 = "left" \/q.2 = "right")/\lw.map Prod.fst=gs/\∀m∈pts.take i,Ys ll m=Ys lw m
   refine ⟨D,rfl,⟨_,SqL.of eD⟩,Zdl (K:=K) (xs:=pts.map V.str) I41 ⟨⟨none,none,rfl⟩,eD,_,[],⟨hB.w.mono sD,hB.l.mono sD,hB.ap⟩,rfl,(fun _ z=>nomatch z),hgs,fun _ z=>nomatch z⟩ ?_ ?_ ?_⟩
   ·rintro i σ H' _ ⟨_,z,_⟩;exact SqL.of z
   ·rintro i v σ H4 hi ⟨⟨o7,o8,rfl⟩,Q0,lw,ll,C8,L8,hlr,hlw,w4⟩ p H5 s5 n5 e5;rw [List.getElem?_map] at hi;obtain ⟨nm,C7,rfl⟩:=Option.map_eq_some_iff.mp hi;have hnp:nm∈pts:=List.mem_of_getElem? C7;have O4:=(List.getElem?_eq_some_iff.mp C7).1;have i7:nm∉ll.map Prod.fst:=by rw [L8];exact Zfu pnd C7
    have hsn:pts.take (i+1)=pts.take i++[nm]:=by rw [List.take_add_one,C7];rfl
    have lll:ll.length<=40:=by
     have:=congrArg List.length L8;rw [List.length_map,List.length_take] at this;lia
    refine ⟨p,_,rfl,SqT.of e5,rfl,_,_,rfl,_,_,rfl,rfl,?_⟩;obtain ⟨j,hj,hj2⟩:=Zbz (a:=Zdq (Xd ns 1) ((i:Nat):Int)) (n:=2) (by decide);have hj:Zdq (Xd ns 1) ((i:Nat):Int)%2=(j:Int):=hj;obtain ⟨v,hv,hvl⟩:∃v:Str,atI [V.str "left",V.str "right"] (j:Int)=some (.str v)/\(v = "left" \/v = "right"):=by
     rcases (by lia:j=0\/j=1) with rfl|rfl
     ·exact ⟨"left",rfl,.inl rfl⟩
     ·exact ⟨"right",rfl,.inr rfl⟩
    refine WSs.step (Zad (Xc hr) (Zv (K:=K) rfl (pv 5) Zg) (pv 8) (Zv (K:=K) rfl (Zl (Zb Zd (Zb Zd Za))) (Zt Yv (Zs (Zao T) hr rfl T.cH T.ar.F.kp T.ar.b .nil Zk (Zb (Zs (Xi T) hr rfl T.bg T.ah.F.kp T.ah.b .nil Zk (Zb (pv 0) (Zb Zg Za))) (Zb (pv 7) Za))) Zg)) rfl) ⟨szA,fun lr H6 s6 n6 e6=>(exR rfl ⟨a,ns,1,rfl,(C8.w.same.trans (s5.trans s6)).seq hS0,_,rfl,_,_,rfl,_,_,rfl,rfl,(by show (0:Int)<2;decide),.inl ⟨lr,_,_,.str v,rfl,rfl,SqL.of e6,?_,_,rfl,.inl ⟨sl,_,1,_,rfl,rfl,SqL.of ((s5.trans s6).at C8.l.obj),Yr (j:=1) rfl,_,rfl,la.d1,_,rfl,Zfe.k (k:=Ym nm) ((s5.trans s6).at C8.l.lies) ?_,?_⟩⟩⟩)⟩
    ·show atI [V.str "left",V.str "right"] (Zdq (Xd ns 1) ((i:Nat):Int)%2)=_;rw [hj];exact hv
    ·unfold Wf;rw [List.length_map];exact Zx (by show ll.length<=_;lia)
    have s56:=s5.trans s6;have M8:=(C8.l.mono s56).lie (ll++[(nm,v)]);show WSs _ _ _ _ (upd H6 la.d1 (.dK (Wg (Wf ll) (Ym nm) (.str v))));rw [Zyn i7];have v8:=(C8.w.mono s56).offL (C8.l.mono s56) M8 (Off.upd (.inr (.inl rfl))) C8.ap;have y8:upd H6 la.d1 (.dK (Wf (ll++[(nm,v)]))) D=some (.lst (pts.map V.str)):=by rw [Ze fun z=>nDL (.inr (.inl z))];exact s56.at Q0
    generalize upd H6 la.d1 (.dK (Wf (ll++[(nm,v)])))=H7 at M8 v8 y8;have hgv:Wa H7 la.d1 (.str nm) (some (.str v)):=by
     have:=M8.get nm;rw [show liQ (ll++[(nm,v)]) nm=some v by rw [Zs5 i7,if_pos rfl]] at this;exact this
    have hng:nm∈lw.map Prod.fst:=by rw [hlw];exact (hg nm).mpr ((B3 nm).mp hnp)
    have hlwl:lw.length<=400:=by
     have:=congrArg List.length hlw;rw [List.length_map] at this;lia
    refine WSs.last (Yj (Z1 (pv 4) T.ac T.cx (Wt T) hr T.aH.b .nil Zk (Zb (pv 8) (Zb (Xz (Xc hr) (Zv (K:=K) rfl (pv 5) Zg) (pv 8) (fun _ _=>rfl)) Za)))) (exR rfl ⟨x,ad.dx,_,rfl,v8.obj,rfl,_,rfl,_,rfl,.inl ⟨sl,_,1,_,rfl,rfl,SqL.of M8.obj,Yr (j:=1) rfl,_,rfl,la.d1,_,rfl,hgv,H0,Z,x,tr,ad,([],lw,[]),ps,js,sg,nm,v,rfl,v8,ht0,yv,Nat.zero_le _,Nat.zero_le _,hlwl,(B3 nm).mp hnp,hng,hvl,fun H8 o8 hw8=>?_⟩⟩);have e8:Zi5 ([],lw,[]) nm v=([],Zpi lw nm v,[]):=by
     unfold Zi5;rw [if_neg fun z=>nomatch z.2]
    rw [e8] at hw8;refine ⟨⟨_,_,rfl⟩,o8 _ _ nDW y8,Zpi lw nm v,ll++[(nm,v)],⟨hw8,M8.offW v8 hw8 (fun _ z=>z) o8 C8.ap,C8.ap⟩,?_,?_,by rw [Zu9];exact hlw,?_⟩
    ·rw [List.map_append,L8,hsn];rfl
    ·intro q hq;rcases List.mem_append.mp hq with z|z
     ·exact hlr q z
     ·rw [List.mem_singleton.mp z];exact hvl
    ·intro m hm;rw [hsn] at hm;rw [Ztw hng];unfold Ys;rw [Zs5 i7]
     by_cases z:m=nm
     ·rw [if_pos z,if_pos z];rfl
     ·rw [if_neg z,if_neg z];rcases List.mem_append.mp hm with y|y
      ·exact w4 m y
      ·exact absurd (List.mem_singleton.mp y) z
   ·rintro σ H4 ⟨⟨o7,o8,rfl⟩,Q0,lw,ll,C8,L8,hlr,hlw,w4⟩;rw [List.length_map,List.take_length] at L8 w4;have F5:∀m,m∉pts->Ys ll m = "" :=fun m hm=>Zln (by rw [L8];exact hm)
    refine ⟨⟨none,_,_,rfl⟩,lw,ll,C8,fun p hp=>?_,fun m=>?_⟩
    ·by_cases z:p.1 = "points"
     ·have hm:p.2∈ll.map Prod.fst:=by rw [L8];exact (B3 _).mpr (by rw [<-z];exact hp)
      obtain ⟨v,hv⟩:=Ztf hm;unfold Ys Zco;rw [hv,if_pos z];unfold liQ at hv;obtain ⟨q,hq,e⟩:=Option.map_eq_some_iff.mp hv;have:=hlr q (List.mem_of_find?_eq_some hq);rw [e] at this;simpa using this
     ·have hm:p.2∉pts:=fun y=>z (yv.kfun hp ((B3 _).mp y))
      rw [F5 _ hm];unfold Zco;rw [if_neg z];simp
    ·by_cases z:m∈pts
     ·exact w4 m z
     ·rw [F5 m z,Zln (by rw [hlw];exact fun y=>z ((B3 m).mpr ((hg m).mp y)))]
  rintro σ HE ⟨⟨o6,o7,o8,rfl⟩,lw,ll,hBE,Q2,w4⟩;clear hB;have gE:=hBE.w.same;let I42:=fun (σ:St) (H':Hp)=>∃gl:Addr,σ=[some (.ref a),some (.ref t),some (.ref lx),some (.int (n:Int)),some (.ref x),some (.ref sl),o6,o7,o8,some (.ref gl),none,none,none,none]/\HE gl=none/\Same HE H'/\H' gl=some (.lst ((W7 "gate" ps).map V.str))
  refine WSs.cut I42 ?_ ?_
  ·refine WS.of (Zb6 (i:=9) (N':=["_law_kind_here", "_law_name"]) Wl.nd rfl (Or.inl rfl) rfl (Yc.std 2 [] rfl (by trivial) (by trivial) rfl trivial rfl rfl trivial) (Y5 (Zv (K:=K) rfl (pv 1) Zg)) (fun _ _ _ _=>(Zfs (K:=K) (n:=2) rfl rfl (Zz (Za4 (i:=0) (by show (["_law_kind_here", "_law_name"]:List Str).Nodup;decide +kernel)) (Zz (Za4 (i:=1) (by show (["_law_kind_here", "_law_name"]:List Str).Nodup;decide +kernel)) Xe)))) (fun _ _ _ _=>(Zd7 (Zq (r:=X3 K) (X8 hr) (pv 0) Zd (Zw _)))) (fun _ _ _ _=>(pv 1))) (exR rfl (ixT (gE.at y1) 0 rfl ⟨pl,rfl,⟨_,SqL.of (gE.at y2)⟩,fun D hD=>Ztt (k := "gate") (gE.at y2) (Paired.mapP y2' fun _ _ r=>r.mono gE) yl100 hD (fun HD sD eD=>⟨D,rfl,hD,sD,eD⟩) ?aa ?bb ?cc⟩))
   case aa=>rfl
   case bb=>rfl
   case cc=>rfl
  rintro σ HF ⟨gl,rfl,ngl,sF,egl⟩;generalize hgts:W7 "gate" ps=j7 at egl;have gmem:∀m,m∈j7↔(("gate",m):Zc)∈ps:=fun m=>by rw [<-hgts];exact Zlk
  have gtnd:j7.Nodup:=by rw [<-hgts];exact Znz hpnd
  have gtlen:=Zg0 "gate" ps;rw [hgts] at gtlen;have gF:=gE.trans sF;let I43:=fun (σ:St) (H':Hp)=>∃(nl:Addr) (U8:List Str),σ=[some (.ref a),some (.ref t),some (.ref lx),some (.int (n:Int)),some (.ref x),some (.ref sl),o6,o7,o8,some (.ref gl),some (.ref nl),none,none,none]/\HF nl=none/\Same HF H'/\H' nl=some (.lst (U8.map V.str))/\(U8=[("ta" :Str)]\/U8=[("ta" :Str), "tb"])
  refine WSs.cut I43 ?_ ?_
  ·obtain ⟨j,hj,hj2⟩:=Zbz (a:=Xd ns 2) (n:=2) (by decide);have hj:Xd ns 2%2=(j:Int):=hj;refine WS.of (Z0 (i:=10) Wl.nd (Wh (r:=Zib K) Zjt (Zl (Zb Zd (Zb Zd Za))) W6 (Wr (Zt We Zg (Zt Yv (Zs (Xi T) hr rfl T.bg T.ah.F.kp T.ah.b .nil Zk (Zb (pv 0) (Zb Zg Za))) Zg))))) ⟨szA,fun l1 H1 s1 n1 e1=>(exR rfl ⟨a,ns,2,rfl,(gF.trans s1).seq hS0,_,_,rfl,rfl,(by show (0:Int)<2;decide),.inl (exQ rfl rfl (exR rfl (.inr (.inl ⟨l1,_,rfl,SqL.of e1,fun l2 H2 s2 n2 e2=>⟨l2,if j=0 then [("ta" :Str)] else [("ta" :Str), "tb"],rfl,s1.free n2,s1.trans s2,?_,?_⟩⟩))))⟩)⟩
   ·rw [e2];show some (HO.lst (Zgs [V.str "ta",V.str "tb"] none (some (1+Xd ns 2%2))))=_;rw [hj,show (1:Int)+(j:Int)=((1+j:Nat):Int) by lia,Zid];rcases (by lia:j=0\/j=1) with rfl|rfl <;>rfl
   ·rcases (by lia:j=0\/j=1) with rfl|rfl
    ·exact .inl rfl
    ·exact .inr rfl
  rintro σ HG ⟨nl,U8,rfl,nnl,sG,enl,hnms⟩;have nZ:∀b,HE b=none->¬Z b:=fun b z y=>by
   obtain ⟨u,e⟩:=hBE.w.live b y;rw [z] at e;cases e
  obtain ⟨S1,sZ⟩:=(hBE.w.mono (sF.trans sG)).still;have hlG:=hBE.l.mono (sF.trans sG);have U9:still Z HG gl=some (.lst (j7.map V.str)):=Zlw (sG.at egl) (nZ gl ngl);have enlZ:still Z HG nl=some (.lst (U8.map V.str)):=Zlw enl (nZ nl (sF.free nnl));generalize still Z HG=HZ at S1 sZ U9 enlZ;have gnd:Gnd T HZ tr t ps js sg lw ll:=⟨ht0.mono sZ,hyd0.mono sZ,yv,tb0.mono sZ,fun q hq=>⟨sg2 q hq,(yv.sigs.name q hq).2.1⟩,Q2,w4⟩
  have hSZ:=sZ.seq hS0;have apE:=hBE.ap;clear hBE Q2 w4 sZ;have nnd:U8.Nodup:=by rcases hnms with rfl|rfl <;>decide
  have nval:∀m∈U8,X9 m:=fun m hm=>by
   rcases hnms with rfl|rfl
   ·rw [List.mem_singleton.mp hm];exact nTa
   ·rcases List.mem_cons.mp hm with rfl|hm
    ·exact nTa
    ·rw [List.mem_singleton.mp hm];exact nTb
  have nlen:U8.length<=2:=by rcases hnms with rfl|rfl <;>decide
  let I44:=fun (σ:St) (H':Hp)=>(∃o3 o6 o7 M6,σ=[some (.ref a),some (.ref t),some (.ref lx),o3,some (.ref x),some (.ref sl),o6,o7,o8,some (.ref gl),some (.ref nl),M6,none,none])/\∃Z ad la ts,Zl9 T HZ H' Z x tr sl ad la ts lw ll []/\Zei ps ts
  refine WSs.cut I44 ?_ ?_
  ·refine WS.of (Xy PassesOwn.never rfl (Zf2 rfl T.cF (Zb (Wh (r:=Zib K) Zjt (pv 10) W6 (Wr (Z3 (r:=Zav K) Zbh (by rfl) T.cL PySem.boot_len (Zb (pv 9) Za)))) Za)) (W8 rfl (Zz (Y1 (i:=7) Wl.nd) (Zz (Y1 (i:=6) Wl.nd) Xe))) Zy) (exR rfl (exR rfl (.inl ⟨gl,_,rfl,.inl (SqL.of (S1.same.at U9)),_,rfl,.inr (.inl ⟨nl,_,rfl,SqL.of (S1.same.at enlZ),fun l3 HI sI nI eI=>?_⟩)⟩)));rw [List.length_map,Zid,<-List.map_take] at eI;generalize D1:U8.take j7.length=xs at eI;have xnd:xs.Nodup:=by rw [<-D1];exact nnd.sublist (List.take_sublist _ _)
   have xlen:xs.length<=2/\xs.length<=j7.length:=by rw [<-D1,List.length_take];lia
   have xval:∀m∈xs,X9 m:=fun m hm=>nval m (by rw [<-D1] at hm;exact List.mem_of_mem_take hm)
   have nZ3:¬Z l3:=fun y=>by
    obtain ⟨u,e⟩:=S1.live l3 y;rw [nI] at e;cases e
   let I45:=fun (i:Nat) (σ:St) (H':Hp)=>(∃o3 o6 o7 M6,σ=[some (.ref a),some (.ref t),some (.ref lx),o3,some (.ref x),some (.ref sl),o6,o7,o8,some (.ref gl),some (.ref nl),M6,none,none])/\H' l3=some (.lst (xs.map V.str))/\∃Z ad la ts,Zl9 T HZ H' Z x tr sl ad la ts lw ll []/\Zei ps ts/\¬Z l3/\ts.map Prod.fst=xs.take i/\stood ts=(List.range i).map fun k:Nat=>j7.getD ((Xd ns 2 / 2+(k:Int))%(j7.length:Int)).toNat ""
   refine ⟨l3,rfl,⟨_,SqL.of eI⟩,Zdl (K:=K) (xs:=xs.map V.str) I45 ⟨⟨_,_,_,_,rfl⟩,eI,Z,ad,la,[],⟨S1.mono sI,hlG.mono sI,apE⟩,⟨by simp,by simp,fun _ z=>nomatch z⟩,nZ3,rfl,rfl⟩ ?_ ?_ ?_⟩
   ·rintro i σ H' _ ⟨_,z,_⟩;exact SqL.of z
   ·rintro i v σ H4 hi ⟨⟨o3,o6,o7,M6,rfl⟩,hl4,Z4,ad4,la4,ts,C8,tok,nz4,htn,y7⟩ p H5 s5 n5 e5;rw [List.getElem?_map] at hi;obtain ⟨nm,C7,rfl⟩:=Option.map_eq_some_iff.mp hi;have O4:=(List.getElem?_eq_some_iff.mp C7).1;refine ⟨p,_,rfl,SqT.of e5,rfl,_,_,rfl,_,_,rfl,rfl,?_⟩;have hLp:0<j7.length:=by lia
    have i0:=Int.emod_nonneg (Xd ns 2 / 2+(i:Int)) (show (j7.length:Int)≠0 by lia);have i1:=Int.emod_lt_of_pos (Xd ns 2 / 2+(i:Int)) (show (0:Int)<(j7.length:Int) by lia);obtain ⟨j,hj⟩:∃j:Nat,(Xd ns 2 / 2+(i:Int))%(j7.length:Int)=(j:Int):=⟨_,(Int.toNat_of_nonneg i0).symm⟩
    have hjL:j<j7.length:=by lia
    have V0:=C8.w.same.trans s5;refine WSs.step (Z0 (i:=11) Wl.nd (Zv (K:=K) rfl (pv 9) (Zt Yv (Zt We (Zt Yt (Zs (Xi T) hr rfl T.bg T.ah.F.kp T.ah.b .nil Zk (Zb (pv 0) (Zb Zg Za))) Zg) (pv 7)) (Z3 (r:=Zav K) Zbh (by rfl) T.cL PySem.boot_len (Zb (pv 9) Za))))) (exR rfl (exR rfl ⟨a,ns,2,rfl,V0.seq hSZ,_,_,rfl,rfl,⟨by decide,by decide⟩,_,rfl,.inl (exQ rfl rfl (exR rfl (.inl ⟨gl,_,rfl,.inl (SqL.of (V0.at U9)),_,_,rfl,rfl,?_,.inl ⟨gl,_,_,.str j7[j],rfl,rfl,SqL.of (V0.at U9),?_,?_⟩⟩)))⟩))
    ·show (0:Int)<((j7.map V.str).length:Int);rw [List.length_map];lia
    ·show atI (j7.map V.str) ((Xd ns 2 / 2+(i:Int))%((j7.map V.str).length:Int))=_;rw [List.length_map,hj];exact Yr (by rw [List.getElem?_map,List.getElem?_eq_getElem hjL];rfl)
    obtain ⟨j4,hj4,hj44⟩:=Zbz (a:=Xd ns 3 / ((i:Int)+1)) (n:=4) (by decide);have hj4:Xd ns 3 / ((i:Int)+1)%4=(j4:Int):=hj4;let I46:=fun (σ:St) (H':Hp)=>∃n:Nat,σ=[some (.ref a),some (.ref t),some (.ref lx),some (.int (n:Int)),some (.ref x),some (.ref sl),some (.str nm),some (.int (i:Int)),o8,some (.ref gl),some (.ref nl),some (.str j7[j]),none,none]/\H'=H5/\1<=n/\n<=4
    refine WSs.cut I46 ?_ ?_
    ·refine WS.of (Z0 (i:=3) Wl.nd (Zt We Zg (Zt Yv (Zt Yt (Zs (Xi T) hr rfl T.bg T.ah.F.kp T.ah.b .nil Zk (Zb (pv 0) (Zb Zg Za))) (Zt We (pv 7) Zg)) Zg))) (exR rfl ⟨a,ns,3,rfl,V0.seq hSZ,_,rfl,.inl (exQ rfl rfl (exQ rfl rfl ⟨⟨by show (0:Int)<(i:Int)+1;lia,by show (i:Int)+1<1073741824;lia⟩,_,_,rfl,rfl,(by show (0:Int)<4;decide),.inl (exQ rfl rfl ⟨1+j4,?_,rfl,by lia,by lia⟩)⟩))⟩);show [some (V.ref a),some (V.ref t),some (V.ref lx),some (V.int (1+Xd ns 3 / ((i:Int)+1)%4)),some (V.ref x),some (V.ref sl),some (V.str nm),some (V.int (i:Int)),o8,some (V.ref gl),some (V.ref nl),some (V.str j7[j]),none,none]=_;rw [hj4]
     rfl
    rintro σ H6 ⟨n4,rfl,rfl,hn1,hn4⟩;have T8:ts.length=i:=by
     have:=congrArg List.length htn;rw [List.length_map,List.length_take] at this;lia
    have i7:nm∉ts.map Prod.fst:=by rw [htn];exact Zfu xnd C7
    have hgm:(("gate",j7[j]):Zc)∈ps:=(gmem _).mp (List.getElem_mem hjL);have hgt:j7.getD ((Xd ns 2 / 2+(i:Int))%(j7.length:Int)).toNat "" =j7[j]:=by
     rw [hj,Int.toNat_natCast,List.getD_eq_getElem?_getD,List.getElem?_eq_getElem hjL];rfl
    have A3:j7[j]∉stood ts:=by
     rw [y7,<-hgt];rcases (by lia:i=0\/i=1) with rfl|rfl
     ·exact fun z=>nomatch z
     ·intro z;have z:=List.mem_singleton.mp z;have hL2:2<=j7.length:=by lia
      exact Zp6 gtnd hL2 (Xd ns 2 / 2) (by simpa using z)
    have hcm:Zn3 (ts,lw,[]) nm n4 j7[j]=(ts++[(nm,n4,[((j7[j], ""):Zc)])],lw,[]):=by
     unfold Zn3;rw [if_neg A3]
    have E4:=C8.w.mono s5;have hl5:=C8.l.mono s5;refine WSs.step (Yj (Z1 (pv 4) T.ac T.cK (Zai T) hr T.aR.b .nil Zk (Zb (pv 6) (Zb (pv 3) (Zb (pv 11) Za))))) (exR rfl ⟨x,ad4.dx,_,rfl,E4.obj,rfl,_,rfl,_,rfl,_,rfl,HZ,Z4,x,tr,ad4,(ts,lw,[]),ps,js,sg,nm,j7[j],n4,rfl,E4,gnd.tr,yv,tok.stood,Nat.zero_le _,by show ts.length<=400;lia,xval nm (List.mem_of_getElem? C7),i7,hgm,hn1,hn4,fun H7 Z7 ad7 m1 m2 m3 o7' N4=>?_⟩);rw [hcm] at N4;have N8:LAt H7 Z7 sl la4 (ts,ll,[]):=hl5.offG o7' (fun b z=>E4.inF z) C8.ap (fun t xs e z=>E4.nt e z) m1 m2 N4.live;have ap7:∀b,Wd ad7 b->¬Zah la4 b:=fun b z y=>by
     rcases m3 b z with u|u
     ·exact C8.ap b u y
     ·obtain ⟨o,e⟩:=hl5.live b (hl5.inG y);rw [u] at e;cases e
    have hl3:H7 l3=some (.lst (xs.map V.str)):=o7' _ _ (fun z=>nz4 (E4.inF z)) (s5.at hl4);have nz7:¬Z7 l3:=fun z=>by
     rcases m2 l3 z with u|u
     ·exact nz4 u
     ·rw [s5.at hl4] at u;cases u
    refine WSs.last (Zad (Xc hr) (Zv (K:=K) rfl (pv 5) Zg) (pv 6) (Zj (Zb (pv 3) (Zb (Zl (Zb (Zj (Zb (pv 11) (Zb Zd Za))) Za)) Za))) rfl) (exR rfl (exR rfl ⟨szA,fun t1 J1 u1 v1 w1=>⟨szA,fun l4 J2 u2 v2 w2=>⟨szA,fun t2 J3 u3 v3 w3=>(exR rfl (.inl ⟨sl,_,0,_,rfl,rfl,SqL.of ((u1.trans (u2.trans u3)).at N8.obj),Yr (j:=0) rfl,_,rfl,la4.d0,_,rfl,Zfe.k (k:=Ym nm) ((u1.trans (u2.trans u3)).at N8.trd) ?_,?_⟩))⟩⟩⟩))
    ·unfold trK;rw [List.length_map,List.length_zip];exact Zx (by show min _ ts.length<=_;lia)
    have u13:=u1.trans (u2.trans u3);have hlJ:=N8.mono u13;have nzl4:¬Z7 l4:=fun z=>by
     obtain ⟨o,e⟩:=(N8.mono u1).live l4 z;rw [v2] at e;cases e
    have hlK:=hlJ.come (nm:=nm) (n:=n4) (sp:=[((j7[j], ""):Zc)]) i7 w3 ⟨[t1],u3.at w2,.cons ((u2.trans u3).at w1) .nil⟩ nzl4;have hwK:=(N4.mono u13).offL hlJ hlK (Off.upd (.inl rfl)) ap7;refine ⟨⟨_,_,_,_,rfl⟩,?_,Z7,ad7,_,_,⟨hwK,hlK,ap7⟩,tok.add (by lia) i7 hn1 hn4 hgm,nz7,?_,?_⟩
    ·rw [Ze fun z=>nz7 (by rw [z];exact N8.g0)];exact u13.at hl3
    ·rw [List.map_append,htn,List.take_add_one,C7];rfl
    ·rw [Zuc,y7,List.range_succ,List.map_append];exact congrArg (fun z=>(List.range i).map (fun k:Nat=>j7.getD ((Xd ns 2 / 2+(k:Int))%(j7.length:Int)).toNat "")++[z]) hgt.symm
   ·rintro σ H4 ⟨h1,_,Z4,ad4,la4,ts,C8,tok,_⟩;exact ⟨h1,Z4,ad4,la4,ts,C8,tok⟩
  rintro σ HI ⟨⟨o3,o6,o7,M6,rfl⟩,Z,ad,la,ts,hB,tok⟩;clear S1 hlG apE;refine WSs.step (Z0 (i:=12) Wl.nd (Zl Za)) ⟨szA,fun hl HJ sJ nJ eJ=>?_⟩;have zn:∀b,(Z b\/b=hl)->Z b\/(HI b=none/\∃o,HJ b=some o):=fun b z=>z.imp id fun y=>⟨(congrArg HI y).trans nJ,_,(congrArg HJ y).trans eJ⟩
  let I47:=fun (σ:St) (H':Hp)=>(∃o6 o7 o13,σ=[some (.ref a),some (.ref t),some (.ref lx),o3,some (.ref x),some (.ref sl),o6,o7,o8,some (.ref gl),some (.ref nl),M6,some (.ref hl),o13])/\∃(Z:Addr->Prop) (ad:WAd) (la:LAd) (ts:List TrD) (ms:List Zc) (us:List Addr),Zl9 T HZ H' Z x tr sl ad la ts lw ll ms/\Zei ps ts/\Z hl/\H' hl=some (.lst (us.map V.ref))/\us.length<=100/\Zbs H' Z us
  refine WSs.cut I47 ?_ ?_
  ·let I48:=fun (i:Nat) (σ:St) (H':Hp)=>(∃o6 o7 o13,σ=[some (.ref a),some (.ref t),some (.ref lx),o3,some (.ref x),some (.ref sl),o6,o7,o8,some (.ref gl),some (.ref nl),M6,some (.ref hl),o13])/\∃(Z:Addr->Prop) (ad:WAd) (la:LAd) (ts:List TrD) (ms:List Zc) (us:List Addr),Zl9 T HZ H' Z x tr sl ad la ts lw ll ms/\Zei ps ts/\ms.length<=i/\Z hl/\¬Wd ad hl/\¬Zah la hl/\H' hl=some (.lst (us.map V.ref))/\us.length<=i/\Zbs H' Z us
   refine WS.of (Xy PassesOwn.never rfl (Znc rfl T.dB (Zb Zg (Zb Zg Za))) (Y1 (i:=7) Wl.nd) Zy) ⟨4,24,rfl,by decide,Zob (lo:=4) (n:=20) I48 ⟨⟨_,_,_,rfl⟩,fun b=>Z b\/b=hl,ad,la,ts,[],[],⟨hB.w.grow sJ (fun _ z=>.inl z) zn,hB.l.grow sJ (fun _ z=>.inl z) zn,hB.ap⟩,tok,Nat.le_refl _,.inr rfl,fun z=>?_,fun z=>?_,eJ,Nat.le_refl _,fun _ z=>nomatch z⟩ ?_ ?_⟩
   ·obtain ⟨o,e⟩:=hB.w.live hl (hB.w.inF z);rw [nJ] at e;cases e
   ·obtain ⟨o,e⟩:=hB.l.live hl (hB.l.inG z);rw [nJ] at e;cases e
   ·clear hB tok zn eJ nJ sJ;rintro i σ H1 hi ⟨⟨o6,o7,o13,rfl⟩,Z,ad,la,ts,ms,us,hB,tok,U7,zh,V1,V2,eh,k9,A8⟩;have hsm:=hB.w.same;refine WSs.step (Z0 (i:=13) Wl.nd (Zs (Xi T) hr rfl T.bg T.ah.F.kp T.ah.b .nil Zk (Zb (pv 0) (Zb (pv 7) Za)))) (exR rfl (exR rfl ⟨a,ns,4+i,rfl,hsm.seq hSZ,?_⟩));generalize Xd ns (4+i)=cell;obtain ⟨j,hj,hj2⟩:=Zbz (a:=cell) (n:=2) (by decide);have hj:cell%2=(j:Int):=hj;have tl:=tok.len;refine WSs.last (Xy PassesOwn.never rfl (Y5 (Wh (r:=Zib K) Zjt (Wh (r:=Zib K) Zjt (Z3 (r:=Zkt) (Zd5 rfl) (by rfl) T.dC PyProof.Rows.boot_sorted (Zb (Zv (K:=K) rfl (pv 5) Zg) Za)) (Wr (Zt Yv (pv 13) Zg)) W6) W6 (Wr Zg))) (Y1 (i:=6) Wl.nd) Zy) (exR rfl (.inl ⟨sl,_,0,_,rfl,rfl,SqL.of hB.l.obj,Yr (j:=0) rfl,la.d0,_,ts.map Prod.fst,rfl,.inl hB.l.trd,Zp7 (Paired.length hB.l.recs),by rw [List.length_map];lia,fun ss hp hsrt l1 H2 s2 n2 e2=>(exR rfl (exQ rfl rfl ⟨(by show (0:Int)<2;decide),_,rfl,.inr (.inl ⟨l1,_,rfl,SqL.of e2,fun l2 H3 s3 n3 e3=>(exR rfl (.inr (.inl ⟨l2,_,rfl,SqL.of e3,fun l3 H4 s4 n4 e4=>?_⟩)))⟩)⟩))⟩));have e4:H4 l3=some (.lst (((ss.drop j).take 1).map V.str)):=by
     rw [e4,hj,Zfg,show (1:Int)=((1:Nat):Int) from rfl,Zid,<-List.map_drop,<-List.map_take]
    have k8:=s2.trans (s3.trans s4);have ymem:∀m∈(ss.drop j).take 1,m∈ts.map Prod.fst:=fun m hm=>hp.mem_iff.mp (List.mem_of_mem_drop (List.mem_of_mem_take hm))
    have ylen1:((ss.drop j).take 1).length<=1:=by rw [List.length_take];lia
    generalize (ss.drop j).take 1=ys at e4 ymem ylen1;have nz3:¬Z l3:=fun z=>by
     obtain ⟨o,e⟩:=(hB.w.mono (s2.trans s3)).live l3 z;rw [n4] at e;cases e
    let I49:=fun (r:Nat) (σ:St) (H':Hp)=>(∃o6,σ=[some (.ref a),some (.ref t),some (.ref lx),o3,some (.ref x),some (.ref sl),o6,some (.int (4+(i:Int))),o8,some (.ref gl),some (.ref nl),M6,some (.ref hl),some (.int cell)])/\H' l3=some (.lst (ys.map V.str))/\∃(Z:Addr->Prop) (ad:WAd) (la:LAd) (j8:List TrD) (ms:List Zc) (us:List Addr),Zl9 T HZ H' Z x tr sl ad la j8 lw ll ms/\Zei ps j8/\j8.map Prod.fst=ts.map Prod.fst/\¬Z l3/\ms.length<=i+r/\Z hl/\¬Wd ad hl/\¬Zah la hl/\H' hl=some (.lst (us.map V.ref))/\us.length<=i+r/\Zbs H' Z us
    refine ⟨l3,rfl,⟨_,SqL.of e4⟩,W2 (K:=K) (xs:=ys.map V.str) I49 ⟨⟨_,rfl⟩,e4,Z,ad,la,ts,ms,us,⟨hB.w.mono k8,hB.l.mono k8,hB.ap⟩,tok,rfl,nz3,U7,zh,V1,V2,k8.at eh,k9,A8.mono k8⟩ ?_ ?_ ?_⟩
    ·rintro r σ H' _ ⟨_,z,_⟩;exact SqL.of z
    ·clear A8 eh V2 V1 zh U7 hB nz3 e2 e3 e4 k8 s4 n4 n3 n2 s3 s2 hsm k9;rintro r v σ H5 hv ⟨⟨o6,rfl⟩,hl5,Z,ad,la,j8,ms,us,hB,D8,tnm,nz3,U7,zh,V1,V2,eh,k9,A8⟩;rw [List.getElem?_map] at hv;obtain ⟨nm,C7,rfl⟩:=Option.map_eq_some_iff.mp hv;have P2:=(List.getElem?_eq_some_iff.mp C7).1;obtain ⟨i0,d,hd,rfl⟩:∃(i0:Nat) (d:TrD),j8[i0]? =some d/\d.1=nm:=by
      have:=ymem nm (List.mem_of_getElem? C7);rw [<-tnm] at this;obtain ⟨d,hd,e⟩:=List.mem_map.mp this;obtain ⟨i0,hi0⟩:=List.mem_iff_getElem?.mp hd;exact ⟨i0,d,hi0,e⟩
     refine WSs.step (Z9 (Wo (Xh (Zs (Ztz T) hr rfl T.gH T.cE.F.kp T.cE.b .nil Zk (Zb (pv 4) (Zb (pv 1) (Zb (pv 5) (Zb (pv 6) (Zb (Zt Yt (pv 13) Zg) Za)))))))) Zy Zr) (exR rfl (exR rfl (exR rfl (exR rfl (exR rfl (exQ rfl rfl ⟨⟨by decide,by decide⟩,HZ,Z,x,tr,t,sl,ad,la,j8,lw,ll,ms,ps,js,sg,i0,d,_,rfl,hB,gnd,D8,by lia,hd,fun Z6 la6 ts6 ms6 H6 S2 S3 tnm6 tms6 o6' lc6 m1 m2=>(exR rfl (Zau ?_))⟩))))));have wz:∀b,(Wd ad b\/Zah la b)->Z b:=fun b z=>z.elim hB.w.inF hB.l.inG
     have wt:∀t xs,H5 t=some (.tup xs)->¬(Wd ad t\/Zah la t):=fun t xs e z=>by
      rcases z with z|z
      ·exact hB.w.nt e z
      ·rcases hB.l.nt z with ⟨_,y⟩|⟨_,y⟩ <;>(rw [e] at y;cases y)
     have M8:H6 l3=some (.lst (ys.map V.str)):=o6' _ _ (fun z=>nz3 (wz _ z)) hl5;have nz6:¬Z6 l3:=fun z=>by
      rcases m2 l3 z with y|y
      ·exact nz3 y
      ·rw [hl5] at y;cases y
     have eh6:H6 hl=some (.lst (us.map V.ref)):=o6' _ _ (fun z=>z.elim V1 V2) eh;have held6:Zbs H6 Z6 us:=A8.off o6' wz wt m2;have nhl6:¬Zah la6 hl:=fun z=>V2 (lc6 _ z)
     have zh6:=m1 _ zh;obtain ⟨d6,hd6,e6⟩:∃d6:TrD,ts6[i0]? =some d6/\d6.1=d.1:=by
      have:=congrArg (fun l=>l[i0]?) tnm6;simp only [List.getElem?_map,hd] at this;cases z:ts6[i0]? with
      | none=>rw [z] at this;cases this
      | some d1=>rw [z] at this;exact ⟨d1,rfl,Option.some.inj this⟩
     obtain ⟨tt,htt,lr,N7,⟨rs,hlr,M4⟩,nzr⟩:=Paired.getL S2.l.recs hd6;have tl6:=S3.len;clear A8 eh V2 zh hl5 nz3 hB o6' m2 m1 lc6 wz wt;refine WSs.last (Yj (Zbw PySem.F.plainAttrs_list PySem.F.slot_list_append PySem.F.type_list_append Xa (pv 12) (Zb (Zj (Zb (Z1 (pv 4) T.ac T.bX (Wi T) hr T.aC.b .nil Zk (Zb (pv 6) Za)) (Zb (Wk (r:=Zsx K) Zg2 (by rfl) T.fU PyProof.Rows.boot_list (Zb (Zv (K:=K) rfl (Xz (Xc hr) (Zv (K:=K) rfl (pv 5) Zg) (pv 6) (fun _ _=>rfl)) Zg) Za)) Za))) Za))) (exR rfl ⟨.inl ⟨rfl,_,SqL.of eh6⟩,_,rfl,x,ad.dx,_,rfl,S2.w.obj,rfl,_,rfl,HZ,Z6,x,tr,ad,(ts6,lw,ms6),d6,by rw [e6];rfl,S2.w,by show ts6.length<64;lia,S3.nd,List.mem_of_getElem? hd6,fun l7 H7 s7 n7 p7=>(exR rfl (.inl ⟨sl,_,0,_,rfl,rfl,SqL.of (s7.at S2.l.obj),Yr (j:=0) rfl,_,rfl,la6.d0,_,rfl,by rw [<-e6,<-Zhb S3.nd htt hd6];exact Wa.k (k:=Ym d6.1) (s7.at S2.l.trd),(ixT (s7.at N7) 1 rfl ⟨lr,_,rfl,.inl (SqL.of (s7.at hlr)),fun l8 H8 s8 n8 e8=>⟨szA,fun u H9 s9 n9 e9=>⟨hl,_,_,rfl,rfl,(s7.trans (s8.trans s9)).at eh6,by rw [List.length_map];exact Zx (by lia),?_⟩⟩⟩)⟩))⟩);have R6:=s7.trans (s8.trans s9);have hw9:=S2.w.mono R6;have hl9:=S2.l.mono R6;have eh9:=R6.at eh6;have hO:Off (· =hl) H9 (upd H9 hl (.lst (us.map V.ref++[V.ref u]))):=Off.upd rfl;have nt9:∀t xs,H9 t=some (.tup xs)->¬(t=hl):=fun t xs e z=>by rw [z,eh9] at e;cases e
     have sub9:∀b,b=hl->Z6 b:=fun b z=>by rw [z];exact zh6
     have nnone:∀{b:Addr} {Hx:Hp},Same H6 Hx->Hx b=none->¬Z6 b:=fun sx z y=>by
      obtain ⟨o,e⟩:=(S2.w.mono sx).live _ y;rw [z] at e;cases e
     have new:Zbs H9 Z6 [u]:=fun v hv=>by
      rw [List.mem_singleton.mp hv];exact ⟨l7,l8,d6.2.2,e9,p7.mono (s8.trans s9),⟨rs,s9.at e8,Paired.mapP M4 fun _ _ r=>r.mono R6⟩,nnone (Same.refl _) n7,nnone s7 n8⟩
     have all:Zbs H9 Z6 (us++[u]):=fun v hv=>(List.mem_append.mp hv).elim (held6.mono R6 v) (new v)
     refine ⟨⟨_,rfl⟩,?_,Z6,ad,la6,ts6,ms6,us++[u],⟨hw9.off hO sub9 (fun b z=>by rw [z];exact V1) (fun b z=>.inl ⟨_,(congrArg H9 z).trans eh9⟩) (fun b z=>⟨_,(congrArg _ z).trans Zf⟩),hl9.off hO sub9 (fun b z=>by rw [z];exact nhl6) nt9 (fun b z=>⟨_,(congrArg _ z).trans Zf⟩),S2.ap⟩,S3,tnm6.trans tnm,nz6,by lia,zh6,V1,nhl6,by rw [Zf,List.map_append];rfl,by rw [List.length_append];show us.length+1<=_;lia,all.off hO sub9 nt9 fun b z=>.inl z⟩;rw [Ze fun z=>nz6 (by rw [z];exact zh6)];exact R6.at M8
    ·rintro σ H5 ⟨⟨o6,rfl⟩,_,Z,ad,la,j8,ms,us,hB,D8,tnm,_,U7,zh,V1,V2,eh,k9,A8⟩;rw [List.length_map] at U7 k9;exact ⟨⟨_,_,_,rfl⟩,Z,ad,la,j8,ms,us,hB,D8,by lia,zh,V1,V2,eh,by lia,A8⟩
   ·rintro σ H1 ⟨h1,Z,ad,la,ts,ms,us,hB,tok,U7,zh,V1,V2,eh,k9,A8⟩;exact ⟨h1,Z,ad,la,ts,ms,us,hB,tok,zh,eh,by lia,A8⟩
  clear hB tok zn eJ nJ sJ;rintro σ HK ⟨⟨o6,o7,o13,rfl⟩,Z,ad,la,ts,ms,us,hB,tok,zh,eh,k9,A8⟩;have tl:=tok.len;refine WSs.last (Zp (Zdz (Wc (r:=X3 K) (X8 hr) (X4 (N':=["_law_pair"]) rfl (Yc.std 1 [] rfl (by trivial) (by trivial) rfl trivial rfl rfl trivial) (Y5 (pv 12)) (fun _ _ _ _=>(Za4 (i:=0) (by show (["_law_pair"]:List Str).Nodup;decide +kernel))) (fun _ _ _ _=>(Zd7 (Zq (r:=Zcm K) (Zdp hr) (Zv (K:=K) rfl (pv 0) Zg) (Zv (K:=K) rfl (pv 0) Zg) (Zw _)))) (fun _ _ _ _=>(pv 0))) (Zl Za) (Zw _)) (Zgl (Wc (r:=X3 K) (X8 hr) (Xb (pv 4) T.ac T.de (Zfb T) hr T.bf.b .nil Zk) (Z3 (r:=Zkt) (Zd5 rfl) (by rfl) T.dC PyProof.Rows.boot_sorted (Zb (Zv (K:=K) rfl (pv 5) Zg) Za)) (Zw _))))) (exR rfl ⟨hl,rfl,⟨_,SqL.of eh⟩,fun D hD=>X5 (K:=K) (xs:=us.map V.ref) (fun i ys H'=>ys=[]/\H' D=some (.lst [])/\Same HK H') ⟨rfl,Zf,Same.new hD⟩ ?_ ?_ ?_⟩)
  ·rintro i ys H' _ ⟨_,_,sm⟩;exact SqL.of (sm.at eh)
  ·rintro i v ys H' hi ⟨rfl,v0,sm⟩;rw [List.getElem?_map] at hi;obtain ⟨u,hu,rfl⟩:=Option.map_eq_some_iff.mp hi;obtain ⟨l1,l2,sp,h1,h2,h3,_⟩:=A8 u (List.mem_of_getElem? hu);refine ⟨W3.set rfl,_,rfl,(ixT (sm.at h1) 0 rfl ⟨_,rfl,(ixT (sm.at h1) 1 rfl (.inr (.inl ⟨2,_,_,by decide,.inr ⟨_,_,rfl,rfl⟩,Yq (h2.mono sm),Yq (h3.mono sm),_,rfl,?_⟩)))⟩)⟩;rw [decide_eq_true rfl];exact Zau ⟨rfl,v0,sm⟩
  ·rintro ys H1 ⟨rfl,K9,s1⟩;refine ⟨szA,fun le H2 s2 n2 e2=>.inr (.inl ⟨1,.lst [],.lst [],by decide,.inr ⟨_,_,rfl,rfl⟩,Im.lst (n:=0) (SqL.of (s2.at K9)) .nil,Im.lst (n:=0) (SqL.of e2) .nil,?_⟩)⟩;rw [decide_eq_true rfl];have u0:=s1.trans s2;have p0:=hB.w.mono u0;have D4:=hB.l.mono u0;refine ⟨true,rfl,Zgn ⟨_,rfl,x,ad.dx,_,rfl,p0.obj,rfl,HZ,Z,x,tr,ad,_,rfl,p0,by show ts.length<64;lia,fun ss1 hp1 hs1 l1 H3 s3 n3 e3=>⟨_,rfl,.inl ⟨sl,_,0,_,rfl,rfl,SqL.of (s3.at D4.obj),Yr (j:=0) rfl,la.d0,_,ts.map Prod.fst,rfl,.inl (s3.at D4.trd),Zp7 (Paired.length D4.recs),by rw [List.length_map];lia,fun ss2 hp2 hs2 l2 H4 s4 n4 e4=>.inr (.inl ⟨1,_,_,by decide,.inr ⟨_,_,rfl,rfl⟩,Zba (s4.at e3),Zba e4,?_⟩)⟩⟩⟩⟩;rw [Zr3 hs1 hs2 (hp1.trans hp2.symm),decide_eq_true rfl];exact q H4
end
end K53
end
namespace K53
open PySem L2 NM YM
section
end
theorem Ya9{α:Type}{us:List α}(h:us.length=1):∃a,us=[a]:=by
 rcases us with _|⟨a,_|_⟩ <;>first|exact ⟨_,rfl⟩|cases h
theorem Zvg{α:Type}{us:List α}(h:us.length=2):∃a b,us=[a,b]:=by
 rcases us with _|⟨a,_|⟨b,_|_⟩⟩ <;>first|exact ⟨_,_,rfl⟩|cases h
theorem Zv8{α:Type}{us:List α}(h:us.length=3):∃a b c,us=[a,b,c]:=by
 rcases us with _|⟨a,_|⟨b,_|⟨c,_|_⟩⟩⟩ <;>first|exact ⟨_,_,_,rfl⟩|cases h
theorem Zy0{α:Type}{us:List α}(h:us.length=4):∃a b c d,us=[a,b,c,d]:=by
 rcases us with _|⟨a,_|⟨b,_|⟨c,_|⟨d,_|_⟩⟩⟩⟩ <;>first|exact ⟨_,_,_,_,rfl⟩|cases h
def NI(K:Frag)(x:Str)(f:Addr):Prop:=nsIn K mainGlobals x=some (some (.ref f))
inductive FG(K:Frag)(f:Addr)(x:Str)(st:Stmt):Prop
 | mk {oc od kV dc pm an cd ct sl} (a:nsIn K mainGlobals x=some (some (.ref f))) (l:K.lookup f=some ⟨oc,od,.func (fnOf x x (Xk st) (Y2 st) (Zh st) .none kV dc pm an cd ct),sl⟩) (e:codeIn K cd x=true) (k:keepIn K (.ref f)=true)
inductive FM(K:Frag)(f c:Addr)(x q:Str)(st:Stmt):Prop
 | mk {oc od kV dc pm an cd ct sl} (a:findIn K (.ref c) x=some (some (.ref f))) (l:K.lookup f=some ⟨oc,od,.func (fnOf x q (Xk st) (Y2 st) (Zh st) .none kV dc pm an cd ct),sl⟩) (e:codeIn K cd q=true) (k:keepIn K (.ref f)=true)
theorem FG.ex{K:Frag}{f:Addr}{x:Str}{st:Stmt}(h:FG K f x st):∃fd,Fun K x x st f fd:=let ⟨_,l,e,k⟩:=h;⟨_,Zlp l e k⟩
theorem FM.ex{K:Frag}{f c:Addr}{x q:Str}{st:Stmt}(h:FM K f c x q st):∃fd,Fun K x q st f fd:=let ⟨_,l,e,k⟩:=h;⟨_,Zlp l e k⟩
theorem FG.m{K:Frag}{f:Addr}{x:Str}{st:Stmt}{h:Heap}{mg:Str->Option Value}(X:K.In h)(G:h.Ns mainGlobals mg)(h:FG K f x st):mg x=some (.ref f):=let ⟨a,_,_,_⟩:=h;mg_of X G a
noncomputable def Zag {K:Frag} {f:Addr} {x q:Str} {st:Stmt} {p1:Str} (h:∃fd,Fun K x q st f fd) (b:∀kV i5 pm an a8 ct a1,bindArgs (fnOf x q (Xk st) (Y2 st) (Zh st) .none kV i5 pm an a8 ct) ⟨[a1],[]⟩=pure ([p1].zip [a1]):=by intros;rfl):Dn K x q st [p1]:=⟨f,Classical.choose h,Classical.choose_spec h,(Classical.choose_spec h).binds fun _ _ _ _ _ _ _ hl=>by obtain ⟨_,rfl⟩:=Ya9 hl;exact b _ _ _ _ _ _ _⟩
noncomputable def Zab {K:Frag} {f:Addr} {x q:Str} {st:Stmt} {p1 p2:Str} (h:∃fd,Fun K x q st f fd) (b:∀kV i5 pm an a8 ct a1 a2,bindArgs (fnOf x q (Xk st) (Y2 st) (Zh st) .none kV i5 pm an a8 ct) ⟨[a1,a2],[]⟩=pure ([p1,p2].zip [a1,a2]):=by intros;rfl):Dn K x q st [p1,p2]:=⟨f,Classical.choose h,Classical.choose_spec h,(Classical.choose_spec h).binds fun _ _ _ _ _ _ _ hl=>by obtain ⟨_,_,rfl⟩:=Zvg hl;exact b _ _ _ _ _ _ _ _⟩
noncomputable def Zo1 {K:Frag} {f:Addr} {x q:Str} {st:Stmt} {p1 p2 p3:Str} (h:∃fd,Fun K x q st f fd) (b:∀kV i5 pm an a8 ct a1 a2 a3,bindArgs (fnOf x q (Xk st) (Y2 st) (Zh st) .none kV i5 pm an a8 ct) ⟨[a1,a2,a3],[]⟩=pure ([p1,p2,p3].zip [a1,a2,a3]):=by intros;rfl):Dn K x q st [p1,p2,p3]:=⟨f,Classical.choose h,Classical.choose_spec h,(Classical.choose_spec h).binds fun _ _ _ _ _ _ _ hl=>by obtain ⟨_,_,_,rfl⟩:=Zv8 hl;exact b _ _ _ _ _ _ _ _ _⟩
noncomputable def Zxm {K:Frag} {f:Addr} {x q:Str} {st:Stmt} {p1 p2 p3 p4:Str} (h:∃fd,Fun K x q st f fd) (b:∀kV i5 pm an a8 ct a1 a2 a3 a4,bindArgs (fnOf x q (Xk st) (Y2 st) (Zh st) .none kV i5 pm an a8 ct) ⟨[a1,a2,a3,a4],[]⟩=pure ([p1,p2,p3,p4].zip [a1,a2,a3,a4]):=by intros;rfl):Dn K x q st [p1,p2,p3,p4]:=⟨f,Classical.choose h,Classical.choose_spec h,(Classical.choose_spec h).binds fun _ _ _ _ _ _ _ hl=>by obtain ⟨_,_,_,_,rfl⟩:=Zy0 hl;exact b _ _ _ _ _ _ _ _ _ _⟩
theorem Ya3{α:Type}{us:List α}(h:us.length=5):∃a b c d e,us=[a,b,c,d,e]:=by
 rcases us with _|⟨a,_|⟨b,_|⟨c,_|⟨d,_|⟨e,_|_⟩⟩⟩⟩⟩ <;>first|exact ⟨_,_,_,_,_,rfl⟩|cases h
noncomputable def Ycn {K:Frag} {f:Addr} {x q:Str} {st:Stmt} {p1 p2 p3 p4 p5:Str} (h:∃fd,Fun K x q st f fd) (b:∀kV i5 pm an a8 ct a1 a2 a3 a4 a5,bindArgs (fnOf x q (Xk st) (Y2 st) (Zh st) .none kV i5 pm an a8 ct) ⟨[a1,a2,a3,a4,a5],[]⟩=pure ([p1,p2,p3,p4,p5].zip [a1,a2,a3,a4,a5]):=by intros;rfl):Dn K x q st [p1,p2,p3,p4,p5]:=⟨f,Classical.choose h,Classical.choose_spec h,(Classical.choose_spec h).binds fun _ _ _ _ _ _ _ hl=>by obtain ⟨_,_,_,_,_,rfl⟩:=Ya3 hl;exact b _ _ _ _ _ _ _ _ _ _ _⟩
theorem all_mk{l:PySem.W.OpenLaw}{w:World}{K:Frag}{h:Heap}{mg:Str->Option Value}{fa f0 f1 f2 f3 f4 f5 f6 f7 f8 f9 f10 f11 f12 f13 f14 f15 f16 f17 f18 f19 f20 f21 f22 f23 f24 f25 f26 f27 f28 f29 f30 f31 f32 f33 f34 f35 f36 f37 f38 f39 f40 f41 f42 f43 f44 f45 f46 f47 f48 f49 f50 f51 f52 f53 f54 f55 f56 f57 f58 f59 f60 f61 f62 f63 f64 f65 f66 f67 f68 f69 f70 f71 f72 f73 f74 f75 f76 d8 i3 d7 d9 b8 d3 c6 u6 b7:Addr}(X:K.In h)(G:h.Ns mainGlobals mg) (hfa:mg "law" =some (.ref fa)) {od5 an5:Option Addr} {sl5:Array (Option Value)} {oc5 kV5 dc5 pm5 cd5 ct5:Value} {td5:Addr} {dod5:Option Addr} {dsl5:Array (Option Value)} {doc5:Value} {dn5:Nat} {dtk5:Tok} {od25 an25:Option Addr} {sl25:Array (Option Value)} {oc25 kV25 dc25 pm25 cd25 ct25:Value} {td25:Addr} {dod25:Option Addr} {dsl25:Array (Option Value)} {doc25:Value} {dn25:Nat} {od70 an70:Option Addr} {sl70:Array (Option Value)} {oc70 kV70 dc70 pm70 cd70 ct70:Value} {od76 an76:Option Addr} {sl76:Array (Option Value)} {oc76 kV76 dc76 pm76 cd76 ct76:Value} {K3:Tok} {K4:Tok} {z6:Tok} {B4:Tok} {z8:Tok} {x0:Tok} {Q6 M9:Addr} {cod70:Option Addr} {cvs70:Array Value} {csl70:Array (Option Value)}
  (z_aa:NI K "Part" d8) (z_ab:NI K "Plain" i3) (z_ac:NI K "Stop" d7) (z_ad:NI K "Gate" d9) (z_ae:NI K "Points" b8) (z_af:NI K "Cross" d3) (z_ag:NI K "Tracks" c6) (z_ah:NI K "Train" u6) (z_ai:NI K "World" b7) (l0:FG K f0 "is_name" Zir) (l1:FM K f1 d8 "__init__" "Part.__init__" Zbp) (l2:FM K f2 d8 "ends" "Part.ends" Zfm) (l3:FM K f3 d8 "lies" "Part.lies" Zfn) (l4:FM K f4 d8 "pairs" "Part.pairs" Zem) (l6:FM K f6 d8 "bears" "Part.bears" Zd4) (l7:FM K f7 d7 "ends" "Stop.ends" Ze2) (l8:FM K f8 d7 "pairs" "Stop.pairs" Zd0) (l9:FM K f9 b8 "ends" "Points.ends" Zcz) (l10:FM K f10 b8 "lies" "Points.lies" Zc0) (l11:FM K f11 b8 "pairs" "Points.pairs" Zca) (l12:FM K f12 b8 "bears" "Points.bears" Zcg) (l13:FM K f13 d3 "ends" "Cross.ends" Zel) (l14:FM K f14 d3 "pairs" "Cross.pairs" Zdg) (l15:FM K f15 d3 "bears" "Cross.bears" Zda) (l16:FG K f16 "is_pair" Zij) (l17:FG K f17 "is_known" Zgj) (l18:FG K f18 "refuse_name" Zdd) (l19:FG K f19 "parts_by_name" Zbn) (l20:FG K f20 "ends_to_parts" Zbr) (l21:FG K f21 "refuse_join" Zc1) (l22:FG K f22 "joined_ends" Zc4) (l23:FG K f23 "refuse_post" Zcy) (l24:FG K f24 "posts_of" Zgx) (l26:FM K f26 c6 "names" "Tracks.names" Zb1) (l27:FM K f27 c6 "named" "Tracks.named" Zcc) (l28:FM K f28 c6 "beyond" "Tracks.beyond" Zbq) (l29:FM K f29 c6 "signal_at" "Tracks.signal_at" Zaa) (l30:FG K f30 "gates_of" Zgp) (l31:FG K f31 "points_of" Ze1) (l32:FG K f32 "lies_at_first" Zbo) (l33:FG K f33 "refuse_gate" Zdc) (l34:FG K f34 "refuse_length" Zbm) (l35:FG K f35 "refuse_points" Zbl) (l36:FG K f36 "refuse_lie" Zd2) (l37:FM K f37 u6 "__init__" "Train.__init__" Za0) (l38:FM K f38 b7 "__init__" "World.__init__" Zaw) (l39:FM K f39 b7 "train_there" "World.train_there" W0) (l40:FM K f40 b7 "led_to" "World.led_to" Zcb) (l41:FM K f41 b7 "mishap_at" "World.mishap_at" Zaf) (l42:FM K f42 b7 "move" "World.move" Zd6) (l43:FM K f43 b7 "come" "World.come" Zd9) (l44:FM K f44 b7 "go" "World.go" Zgw) (l45:FM K f45 b7 "about" "World.about" Zdi) (l46:FM K f46 b7 "turn" "World.turn" Zec) (l47:FM K f47 b7 "spots" "World.spots" Zc9) (l48:FM K f48 b7 "trains" "World.trains" Zcf) (l49:FM K f49 b7 "taken" "World.taken" Zdj) (l50:FM K f50 b7 "accidents" "World.accidents" Zal) (l51:FG K f51 "_law_mixed" Zeb) (l52:FG K f52 "_law_cell_at" Zce) (l53:FG K f53 "_law_cells" Zd3) (l54:FG K f54 "_law_ends" Zey) (l55:FG K f55 "_law_name_by" Zb9) (l56:FG K f56 "_law_block" Zdu) (l57:FG K f57 "_law_line" Zfp) (l58:FG K f58 "_law_closed" Zc2) (l59:FG K f59 "_law_drawn" Zee) (l60:FG K f60 "_law_signals_by" Zaj) (l61:FG K f61 "_law_yard_by" Zck) (l62:FG K f62 "_law_part" Zfd) (l63:FG K f63 "_law_tracks" Zc5) (l64:FG K f64 "_law_leads" Zdx) (l65:FG K f65 "_law_beyond" Zc7) (l66:FG K f66 "_law_signal" Zdb) (l67:FG K f67 "_law_kind" Zeu) (l68:FG K f68 "_law_gone" Zex) (l69:FG K f69 "_law_stood" Zek) (l71:FG K f71 "_law_go" Zis) (l72:FG K f72 "_law_always" Zga) (l73:FG K f73 "_law_both_at_once" Wy) (l74:FG K f74 "_law_round" Zdv) (l75:FG K f75 "_law_train_told" Zaq) (a5:findIn K (.ref d8) "leads" =some (some (.ref f5))) (l5:K.lookup f5=some ⟨oc5,od5,.func (fnOf "leads" "Part.leads" (Xk Wu) (Y2 Wu) (Zh Wu) (.ref td5) kV5 dc5 pm5 an5 cd5 ct5),sl5⟩) (ld5:K.lookup td5=some ⟨doc5,dod5,.seq #[.str "" dtk5] dn5,dsl5⟩) (e5:codeIn K cd5 "Part.leads" =true) (k5:keepIn K (.ref f5)=true) (a25:findIn K (.ref c6) "__init__" =some (some (.ref f25))) (l25:K.lookup f25=some ⟨oc25,od25,.func (fnOf "__init__" "Tracks.__init__" (Xk Xj) (Y2 Xj) (Zh Xj) (.ref td25) kV25 dc25 pm25 an25 cd25 ct25),sl25⟩) (ld25:K.lookup td25=some ⟨doc25,dod25,.seq #[.none] dn25,dsl25⟩) (e25:codeIn K cd25 "Tracks.__init__" =true) (k25:keepIn K (.ref f25)=true) (a70:nsIn K mainGlobals "_law_shows" =some (some (.ref f70))) (l70:K.lookup f70=some ⟨oc70,od70,.func (fnOf "_law_shows" "_law_shows" (Xk Yu) (Y2 Yu) (Zh Yu) .none kV70 dc70 pm70 an70 cd70 ct70),sl70⟩) (e70:codeIn K cd70 "_law_shows" =true) (k70:keepIn K (.ref f70)=true) (a76:nsIn K mainGlobals "law" =some (some (.ref f76))) (l76:K.lookup f76=some ⟨oc76,od76,.func (fnOf "law" "law" (Xk Zhk) (Y2 Zhk) (Zh Zhk) .none kV76 dc76 pm76 an76 cd76 ct76),sl76⟩) (e76:codeIn K cd76 "law" =true) (k76:keepIn K (.ref f76)=true) (z_aj:Cls K d8) (z_ak:Cls K i3) (z_al:Cls K d7) (z_am:Cls K d9) (z_an:Cls K b8) (z_ao:Cls K d3) (z_ap:Cls K c6) (z_aq:Cls K u6) (z_ar:Cls K b7) (z_as:Mk K d8 f1) (z_at:Mk K i3 f1) (z_au:Mk K d7 f1) (z_av:Mk K d9 f1) (z_aw:Mk K b8 f1) (z_ax:Mk K d3 f1) (z_ay:Mk K c6 f25) (z_az:Mk K u6 f37) (z_a0:Mk K b7 f38) (z_a1:Yb K d8 "ends" f2) (z_a2:Yb K d8 "lies" f3) (z_a3:Yb K d8 "pairs" f4) (z_a4:Yb K d8 "bears" f6) (z_a5:Yb K d8 "leads" f5) (z_a6:Yb K i3 "ends" f2) (z_a7:Yb K i3 "lies" f3) (z_a8:Yb K i3 "pairs" f4) (z_a9:Yb K i3 "bears" f6) (z_ba:Yb K i3 "leads" f5) (z_bb:Yb K d7 "ends" f7) (z_bc:Yb K d7 "lies" f3) (z_bd:Yb K d7 "pairs" f8) (z_be:Yb K d7 "bears" f6) (z_bf:Yb K d7 "leads" f5) (z_bg:Yb K d9 "ends" f7) (z_bh:Yb K d9 "lies" f3) (z_bi:Yb K d9 "pairs" f8) (z_bj:Yb K d9 "bears" f6) (z_bk:Yb K d9 "leads" f5) (z_bl:Yb K b8 "ends" f9) (z_bm:Yb K b8 "lies" f10) (z_bn:Yb K b8 "pairs" f11) (z_bo:Yb K b8 "bears" f12) (z_bp:Yb K b8 "leads" f5) (z_bq:Yb K d3 "ends" f13) (z_br:Yb K d3 "lies" f3) (z_bs:Yb K d3 "pairs" f14) (z_bt:Yb K d3 "bears" f15) (z_bu:Yb K d3 "leads" f5) (z_bv:Yb K c6 "names" f26) (z_bw:Yb K c6 "named" f27) (z_bx:Yb K c6 "beyond" f28) (z_by:Yb K c6 "signal_at" f29) (z_bz:Yb K b7 "train_there" f39) (z_b0:Yb K b7 "led_to" f40) (z_b1:Yb K b7 "mishap_at" f41) (z_b2:Yb K b7 "move" f42) (z_b3:Yb K b7 "come" f43) (z_b4:Yb K b7 "go" f44) (z_b5:Yb K b7 "about" f45) (z_b6:Yb K b7 "turn" f46) (z_b7:Yb K b7 "spots" f47) (z_b8:Yb K b7 "trains" f48) (z_b9:Yb K b7 "taken" f49) (z_ca:Yb K b7 "accidents" f50) (z_cb:findIn K (.ref d8) "name" =some none) (z_cc:findIn K (.ref i3) "name" =some none) (z_cd:findIn K (.ref d7) "name" =some none) (z_ce:findIn K (.ref d9) "name" =some none) (z_cf:findIn K (.ref b8) "name" =some none) (z_cg:findIn K (.ref d3) "name" =some none) (z_ch:findIn K (.ref c6) "part_of" =some none) (z_ci:findIn K (.ref c6) "joined" =some none) (z_cj:findIn K (.ref c6) "post_of" =some none) (z_ck:findIn K (.ref c6) "signal_on" =some none) (z_cl:findIn K (.ref u6) "name" =some none) (z_cm:findIn K (.ref u6) "long" =some none) (z_cn:findIn K (.ref u6) "stands" =some none) (z_co:findIn K (.ref b7) "tracks" =some none) (z_cp:findIn K (.ref b7) "lie_of" =some none) (z_cq:findIn K (.ref b7) "train_of" =some none) (z_cr:findIn K (.ref b7) "mishaps" =some none) (z_cs:nsIn K mainGlobals "len" =some none) (z_ct:nsIn K mainGlobals "range" =some none) (z_cu:nsIn K mainGlobals "isinstance" =some none) (z_cv:nsIn K mainGlobals "list" =some none) (z_cw:nsIn K mainGlobals "dict" =some none) (z_cx:nsIn K mainGlobals "tuple" =some none) (z_cy:nsIn K mainGlobals "str" =some none) (z_cz:nsIn K mainGlobals "enumerate" =some none) (z_c0:nsIn K mainGlobals "max" =some none) (z_c1:nsIn K mainGlobals "min" =some none) (z_c2:nsIn K mainGlobals "sum" =some none) (z_c3:nsIn K mainGlobals "sorted" =some none) (z_c4:nsIn K mainGlobals "all" =some none) (z_c5:nsIn K mainGlobals "reversed" =some none) (z_c6:nsIn K mainGlobals "bool" =some none) (z_c7:nsIn K mainGlobals "int" =some none) (z_c8:nsIn K mainGlobals "ord" =some none) (z_c9:nsIn K mainGlobals "LETTERS" =some (some (.str "abcdefghijklmnopqrstuvwxyz" K3))) (z_da:nsIn K mainGlobals "FIGURES" =some (some (.str "0123456789" K4))) (z_db:nsIn K mainGlobals "LONGEST_NAME" =some (some (.int 6 z6))) (z_dc:nsIn K mainGlobals "MOST_PARTS" =some (some (.int 40 B4))) (z_dd:nsIn K mainGlobals "MOST_SIGNALS" =some (some (.int 40 z8))) (z_de:nsIn K mainGlobals "LONGEST_TRAIN" =some (some (.int 4 x0))) (tG:PySem.W.specialIn K (.builtin "object.__class__") "__get__" =some (some (.builtin "getset_descriptor.__get__"))) (tK:PySem.W.takesIn K (.builtin "object.__class__")=some true) (z_df:findIn K (.ref d8) "__class__" =some (some (.builtin "object.__class__"))) (z_dg:findIn K (.ref i3) "__class__" =some (some (.builtin "object.__class__"))) (z_dh:findIn K (.ref d7) "__class__" =some (some (.builtin "object.__class__"))) (z_di:findIn K (.ref d9) "__class__" =some (some (.builtin "object.__class__"))) (z_dj:findIn K (.ref b8) "__class__" =some (some (.builtin "object.__class__"))) (z_dk:findIn K (.ref d3) "__class__" =some (some (.builtin "object.__class__"))) (z_dl:PySem.W.mroIn K d8 (.type "object")=some true) (z_dm:PySem.W.mroIn K i3 (.type "object")=some true) (z_dn:PySem.W.mroIn K d7 (.type "object")=some true) (z_do:PySem.W.mroIn K d9 (.type "object")=some true) (z_dp:PySem.W.mroIn K b8 (.type "object")=some true) (z_dq:PySem.W.mroIn K d3 (.type "object")=some true) (z_dr:kitOne K (.type "tuple") (.type "tuple")=some true) (z_ds:kitOne K (.type "str") (.type "str")=some true) (z_dt:kitOne K (.type "int") (.type "int")=some true) (z_du:kitOne K (.type "int") (.type "bool")=some false) (z_dv:kitOne K (.ref d8) (.ref d7)=some false) (z_dw:kitOne K (.ref i3) (.ref d7)=some false) (z_dx:kitOne K (.ref d7) (.ref d7)=some true) (z_dy:kitOne K (.ref d9) (.ref d7)=some true) (z_dz:kitOne K (.ref b8) (.ref d7)=some false) (z_d0:kitOne K (.ref d3) (.ref d7)=some false) (z_d1:kitOne K (.ref d8) (.ref d9)=some false) (z_d2:kitOne K (.ref i3) (.ref d9)=some false) (z_d3:kitOne K (.ref d7) (.ref d9)=some false) (z_d4:kitOne K (.ref d9) (.ref d9)=some true) (z_d5:kitOne K (.ref b8) (.ref d9)=some false) (z_d6:kitOne K (.ref d3) (.ref d9)=some false) (z_d7:kitOne K (.ref d8) (.ref b8)=some false) (z_d8:kitOne K (.ref i3) (.ref b8)=some false) (z_d9:kitOne K (.ref d7) (.ref b8)=some false) (z_ea:kitOne K (.ref d9) (.ref b8)=some false) (z_eb:kitOne K (.ref b8) (.ref b8)=some true) (z_ec:kitOne K (.ref d3) (.ref b8)=some false) (ce70:cd70=.ref Q6) (cv70:K.lookup Q6=some ⟨.type "code",cod70,.fields cvs70,csl70⟩) (cp70:cvs70[11]? =some (.ref M9)) (ch70:PySem.W.codeHdIn K Q6 M9=true) (tm:∀p∈([M9]:List Addr),h.get? p=some (PySem.W.tabObj #[])) (tn:([M9]:List Addr).Nodup) (tq:PySem.W.noTabs K=true)
  :∃(fd:FuncData) (tabs:List (Addr×Array Value)),Zk7 K h tabs/\(∀(s:Shared) (v:Value),BindsTo s fd ⟨[v],[]⟩ [("_law_script",v)])/\∀base:Heap,K.In base->base.Ns mainGlobals mg->Zu l.prog w K mg base CX0 9 fa fd ["_law_script"] (Zk3 K tabs):=by
 have e:=hfa.symm.trans (mg_of X G a76);cases e;let T:Tx K mg:=⟨Zag l0.ex,l0.m X G,Zab l1.ex,Zag l2.ex,Zag l3.ex,Zab l4.ex,⟨f5,_,_,Zte (st:=Wu) l5 e5 k5,fun s us KX hl=>by
   rw [List.append_nil] at hl ⊢;obtain ⟨_,_,_,rfl⟩:=Zv8 hl;exact BindsTo.of_defaults rfl (KX _ _ ld5) rfl rfl rfl,.str "" dtk5,⟨dtk5,rfl⟩,fun s us KX hl=>by
   have h2:us.length=2:=by simpa using hl
   obtain ⟨_,_,rfl⟩:=Zvg h2;exact BindsTo.of_defaults rfl (KX _ _ ld5) rfl rfl rfl⟩,Zag l6.ex,Zag l7.ex,Zab l8.ex,Zag l9.ex,Zag l10.ex,Zab l11.ex,Zag l12.ex,Zag l13.ex,Zab l14.ex,Zag l15.ex,Zag l16.ex,l16.m X G,Zab l17.ex,l17.m X G,Zab l18.ex,l18.m X G,Zag l19.ex,l19.m X G,Zag l20.ex,l20.m X G,Zo1 l21.ex,l21.m X G,Zab l22.ex,l22.m X G,Zo1 l23.ex,l23.m X G,Zab l24.ex,l24.m X G,⟨f25,_,_,Zte (st:=Xj) l25 e25 k25,fun s us KX hl=>by
   rw [List.append_nil] at hl ⊢;obtain ⟨_,_,_,_,rfl⟩:=Zy0 hl;exact BindsTo.of_defaults rfl (KX _ _ ld25) rfl rfl rfl,.none,rfl,fun s us KX hl=>by
   have h2:us.length=3:=by simpa using hl
   obtain ⟨_,_,_,rfl⟩:=Zv8 h2;exact BindsTo.of_defaults rfl (KX _ _ ld25) rfl rfl rfl⟩,Zag l26.ex,Zab l27.ex,Zab l28.ex,Zab l29.ex,Zag l30.ex,l30.m X G,Zag l31.ex,l31.m X G,Zag l32.ex,l32.m X G,Zab l33.ex,l33.m X G,Zag l34.ex,l34.m X G,Zab l35.ex,l35.m X G,Zo1 l36.ex,l36.m X G,Zxm l37.ex,Zab l38.ex,Zab l39.ex,Zab l40.ex,Zab l41.ex,Zo1 l42.ex,Zxm l43.ex,Zo1 l44.ex,Zab l45.ex,Zo1 l46.ex,Zab l47.ex,Zag l48.ex,Zag l49.ex,Zag l50.ex,Zab l51.ex,l51.m X G,Zab l52.ex,l52.m X G,Zo1 l53.ex,l53.m X G,Zag l54.ex,l54.m X G,Zo1 l55.ex,l55.m X G,Zab l56.ex,l56.m X G,Zag l57.ex,l57.m X G,Zxm l58.ex,l58.m X G,Zag l59.ex,l59.m X G,Zab l60.ex,l60.m X G,Zab l61.ex,l61.m X G,Zab l62.ex,l62.m X G,Zag l63.ex,l63.m X G,Zo1 l64.ex,l64.m X G,Zab l65.ex,l65.m X G,Zab l66.ex,l66.m X G,Zab l67.ex,l67.m X G,Zxm l68.ex,l68.m X G,Zag l69.ex,l69.m X G,⟨f70,_,Zlp (st:=Yu) l70 e70 k70,(Zlp (st:=Yu) l70 e70 k70).binds (ps:=["_law_cell", "_law_asked"]) fun _ _ _ _ _ _ us hl=>by obtain ⟨_,_,rfl⟩:=Zvg hl;rfl⟩,mg_of X G a70,Ycn l71.ex,l71.m X G,Zag l72.ex,l72.m X G,Zab l73.ex,l73.m X G,Zag l74.ex,l74.m X G,Zag l75.ex,l75.m X G,d8,mg_of X G z_aa,z_aj,z_cb,z_as,z_a1,z_a2,z_a3,z_a4,z_a5,i3,mg_of X G z_ab,z_ak,z_cc,z_at,z_a6,z_a7,z_a8,z_a9,z_ba,d7,mg_of X G z_ac,z_al,z_cd,z_au,z_bb,z_bc,z_bd,z_be,z_bf,d9,mg_of X G z_ad,z_am,z_ce,z_av,z_bg,z_bh,z_bi,z_bj,z_bk,b8,mg_of X G z_ae,z_an,z_cf,z_aw,z_bl,z_bm,z_bn,z_bo,z_bp,d3,mg_of X G z_af,z_ao,z_cg,z_ax,z_bq,z_br,z_bs,z_bt,z_bu,c6,mg_of X G z_ag,z_ap,z_ch,z_ci,z_cj,z_ck,z_ay,z_bv,z_bw,z_bx,z_by,u6,mg_of X G z_ah,z_aq,z_cl,z_cm,z_cn,z_az,b7,mg_of X G z_ai,z_ar,z_co,z_cp,z_cq,z_cr,z_a0,z_bz,z_b0,z_b1,z_b2,z_b3,z_b4,z_b5,z_b6,z_b7,z_b8,z_b9,z_ca,PySem.W.mg_none_of X G z_cs,PySem.W.mg_none_of X G z_ct,PySem.W.mg_none_of X G z_cu,PySem.W.mg_none_of X G z_cv,PySem.W.mg_none_of X G z_cw,PySem.W.mg_none_of X G z_cx,PySem.W.mg_none_of X G z_cy,PySem.W.mg_none_of X G z_cz,PySem.W.mg_none_of X G z_c0,PySem.W.mg_none_of X G z_c1,PySem.W.mg_none_of X G z_c2,PySem.W.mg_none_of X G z_c3,PySem.W.mg_none_of X G z_c4,PySem.W.mg_none_of X G z_c5,PySem.W.mg_none_of X G z_c6,PySem.W.mg_none_of X G z_c7,PySem.W.mg_none_of X G z_c8,z_dr,z_ds,z_dt,z_du,z_dv,z_dw,z_dx,z_dy,z_dz,z_d0,z_d1,z_d2,z_d3,z_d4,z_d5,z_d6,z_d7,z_d8,z_d9,z_ea,z_eb,z_ec,⟨_,mg_of X G z_c9⟩,⟨_,mg_of X G z_da⟩,⟨_,mg_of X G z_db⟩,⟨_,mg_of X G z_dc⟩,⟨_,mg_of X G z_dd⟩,⟨_,mg_of X G z_de⟩,tG,tK,z_df,z_dl,z_dg,z_dm,z_dh,z_dn,z_di,z_do,z_dj,z_dp,z_dk,z_dq,M9,⟨Q6,ce70,ch70⟩⟩
 have TO:Zk7 K h T.tabs:=⟨List.forall_mem_cons.mpr ⟨⟨Q6,ch70⟩,fun _ z=>nomatch z⟩,List.forall_mem_cons.mpr ⟨tm M9 (by simp),fun _ z=>nomatch z⟩,List.forall_mem_cons.mpr ⟨⟨_,_,rfl⟩,fun _ z=>nomatch z⟩,tn,tq⟩
 exact ⟨fnOf "law" "law" (Xk Zhk) (Y2 Zhk) (Zh Zhk) .none kV76 dc76 pm76 an76 cd76 ct76,T.tabs,TO,fun s v=>.of_eq rfl,fun base _ _=>Yam (Zlp (st:=Zhk) l76 e76 k76) T⟩
theorem tabs_all{K:Params->Frag}{as:List Addr}{e:∀P,as=(K P).map (·.1)}{ts ps:List Addr}{w:World}{h:Heap}(Y:(PySem.W.kmHook K as e ts).says w h)(i:(ps.all fun p=>ts.contains p)=true:=by decide):∀p∈ps,h.get? p=some (PySem.W.tabObj #[]):=fun p hp =>
 PySem.W.km_tabs_of Y p (List.contains_iff_mem.mp (List.all_eq_true.mp i p hp))
theorem walk{l:PySem.W.OpenLaw}{q:Program}{C1:List Str}{XP:(Str->Option Value)->Heap->Prop}{YP:World->Heap->Prop}{d:DefRec}{K:Params->Frag}(hn:l.most=some 63)(hdf:d.params.defaults=[])
  (hY:∀(w:World) (h:Heap),YP w h->(K w.params).In h)
  (F:∀(w:World) (mg:Str->Option Value) (fa:Addr) (h:Heap),YP w h->(K w.params).In h->h.Ns mainGlobals mg->mg d.name=some (.ref fa) ->
   ∃(fd:FuncData) (tabs:List (Addr×Array Value)),Zk7 (K w.params) h tabs/\(∀(s:Shared) (u:Value),BindsTo s fd ⟨[u],[]⟩ [("_law_script",u)])/\∀base:Heap,(K w.params).In base->base.Ns mainGlobals mg->Zu l.prog w (K w.params) mg base CX0 9 fa fd ["_law_script"] (Zk3 (K w.params) tabs)) :
  PySem.W.WalkO q C1 XP YP l.row.toRowW d [] (fun f vs=>PySem.call f vs):=L2.walk_ofT (k:=9) (x := "_law_script") hn hdf ⟨rfl,by decide,by decide⟩ hY F
end K53
namespace PySem.W.Fast
def tw10563806384891084797:=True
def tw13665377552009857527:=True
def tw14247761650572144877:=True
def tw15419161400061592948:=True
def tw11545907645938418063:=True
def tw2426926284183555714:=True
def tw6900384984881674993:=True
def tw2646054336325507250:=True
def tw4482163447148645907:=True
def tw11300830410270911337:=True
def tw4980288743998783855:=True
def tw5477902257213065147:=True
def tw1660492654013133835:=True
def tw376372306782421805:=True
def tw1384963355796004504:=True
def tw4924965800932702410:=True
def tw15589311792858724117:=True
def tw328091570429222229:=True
def tw761352699650860356:=True
def tw9951381080118954404:=True
def tw3689748868111381738:=True
def tw16975543844260070693:=True
def tw13385769626766075824:=True
def tw13867184667254265970:=True
def tw11827401650451665212:=True
def tw7452638022087950316:=True
def tw8348332899857801724:=True
def tw3003428089847947724:=True
def tw15578481700833337215:=True
def tw13536174279964020260:=True
def tw16131165225390552107:=True
def tw18008117916427788979:=True
def tw17325613303794635532:=True
def tw3161366924958735125:=True
def tw1676192046792317735:=True
def tw566070049955456529:=True
def tw17412079982399387038:=True
def tw12965363659252457625:=True
def tw15439683477101171198:=True
def tw13097181547852371922:=True
def tw6532058359802227831:=True
def tw14515893014415156360:=True
def tw4829573549096859901:=True
def tw4930567978980805630:=True
def tw14854451291941497636:=True
def tw8725744756275974099:=True
def tw12652184675706683893:=True
def tw750167544176048139:=True
def tw5025406754079638077:=True
def tw5439037563323550270:=True
def tw8771797297688618670:=True
def tw12098927970018122307:=True
def tw2747650188645908635:=True
def tw9690521243330140444:=True
def tw18442845515341475796:=True
def tw4196178331083032045:=True
def tw18377354435320614030:=True
def tw10590298268622212404:=True
def tw8673171970179550644:=True
def tw2645299061549821102:=True
def tw2938314847777228514:=True
def tw4801074619120336865:=True
def tw2765204372458342023:=True
def tw3797314345645178724:=True
def tw4263140365472821224:=True
def tw10158601426231375694:=True
def tw16400035295066636374:=True
def tw13310365167882880617:=True
def tw17969331766232308661:=True
def tw4063970254795458631:=True
def tw9328093419575619423:=True
def tw8577522613454413515:=True
def tw9886356084757895033:=True
def tw2799649452508097919:=True
def tw10924779809753206604:=True
def tw12457749787874770001:=True
def tw9430088294355549039:=True
def tw6491740558389970770:=True
def tw15531999283203046204:=True
def tw4154114135853557878:=True
def tw13463160019866027185:=True
def tw15907095563507904090:=True
def tw317554676182620355:=True
def tw4490407269287526612:=True
def tw11368202910798558076:=True
def tw18135479994585588503:=True
def tw536635609765213959:=True
def tw3305226773366377854:=True
def tw5517844044683849504:=True
def tw11700591813776845734:=True
def tw12810988989241001583:=True
def tw12205969388566420274:=True
def tw16019297959629575926:=True
def tw16844259797240916879:=True
def tw9307302699783927569:=True
def tw8578608201305896490:=True
def tw1505152773083990278:=True
def tw9247751607064867682:=True
def tw3394737591873654620:=True
def tw18097985603953823884:=True
def tw12101126820188072528:=True
def tw12605645668574926656:=True
def tw17374984560260040625:=True
def tw11108540576594488300:=True
def tw3380665621805783733:=True
def tw11177042801651962872:=True
def tw14828709862146735573:=True
def tw987081626108828817:=True
def tw5573158881850493140:=True
def tw4489356646617817237:=True
def tw14772257084247473273:=True
def tw8606763288666699761:=True
def tw1092518599814098100:=True
def tw9774570564116341520:=True
def tw17102447059084407498:=True
def tw13827145743786817934:=True
def tw7374243987873665437:=True
def tw12169454454227857776:=True
def tw563743554585672391:=True
def tw2885909762394229705:=True
def tw8864511185921362457:=True
def tw14442631471376034807:=True
def tw14194239237641247050:=True
def tw2040825831232682852:=True
def tw1126430653274619145:=True
def tw8658758457342403075:=True
def tw7362223052130139538:=True
def tw17177401206525155731:=True
def tw12014763158310715561:=True
def tw10533508143095188037:=True
def tw4739152107779506318:=True
def tw7451575660831932455:=True
def tw16638485412972799174:=True
def tw6883255871375606017:=True
def tw13398996774805485674:=True
def tw9597700444780127409:=True
def tw15545585373692158138:=True
def tw1266328969357330938:=True
def tw6953215846497783352:=True
def tw16769455357833878137:=True
def tw13971251506706704566:=True
def tw4763626320385254767:=True
def tw5374066201692697170:=True
def tw2357849429033909691:=True
def tw7174730979135279186:=True
def tw18158648067793428196:=True
def tw7679205738629714923:=True
def tw15152529201945843766:=True
def tw6964679824958214228:=True
def tw14274334548130455013:=True
def tw2463989945516498970:=True
def tw12746614461921538016:=True
def tw10620238580013251506:=True
def tw11699565963422776450:=True
def tw1949980781483829512:=True
def tw10533155107941652078:=True
def tw17778203281637062186:=True
def tw7787242547222849123:=True
def tw9624286859617206599:=True
def tw17649455246999033186:=True
def tw12406398058365364748:=True
def tw6970350817247399398:=True
def tw13872354496510119019:=True
def tw17311426093689214622:=True
def tw5912703140692709125:=True
def tw309122104070145852:=True
def tw4604876570378582072:=True
def tw1182309944579787672:=True
def tw9281553730307100328:=True
def tw15980204966220242239:=True
def tw5678324650402924027:=True
def tw4779594503433158606:=True
def tw10041920004023937143:=True
def tw2395381995925032437:=True
def tw14162475876959635716:=True
def tw5321022210358093332:=True
def tw305019871750562904:=True
def tw404431192114989761:=True
def tw14458816636690486700:=True
def tw16673783020676336168:=True
def tw4572262812724064633:=True
def tw12247876295803026283:=True
def tw237023148352983040:=True
def tw6908821851728405179:=True
def tw2158318250616417036:=True
def tw9602033358620677059:=True
def tw363330179206705841:=True
def tw294319898507663454:=True
def tw5566950658074899605:=True
def tw6456947526152673328:=True
def tw8886865775305407901:=True
def tw4615305308197335460:=True
def tw277027412811149784:=True
def tw5881112069444847759:=True
def tw8471722255092946344:=True
def tw4385291236875212290:=True
def tw10721477833175873873:=True
def tw17970977021585044658:=True
def tw3042734577013914993:=True
def tw8517139271976656769:=True
def tw11351681416750097781:=True
def tw6870072100874127021:=True
def tw6748773891121888765:=True
def tw2922029338184304566:=True
def tw16037690966941532918:=True
def tw617903976797112363:=True
def tw14662560796096952298:=True
def tw11331571593192511642:=True
def tw8110521735338842230:=True
def tw6658952353571677456:=True
def tw5810942987692546328:=True
def tw11683912870147372882:=True
def tw17105858608494199325:=True
def tw2732074366100918422:=True
def tw2263512414292615221:=True
def tw12950255305127256749:=True
def tw12908824730685421588:=True
def tw4231831230216202691:=True
def tw6887957523491120394:=True
def tw11505645844190988389:=True
def tw6624064384143549897:=True
def tw13105660365556276345:=True
def tw17718244958354098686:=True
def tw7434879150980576885:=True
def tw10374636448725856066:=True
def tw6673566053347124342:=True
def tw3824731478762312463:=True
def tw15342979556096413247:=True
def tw3910376613904405396:=True
def tw2544124348582041122:=True
def tw6911505842080202885:=True
def tw11112562030254503601:=True
def tw17529691758995673573:=True
def tw8050258859095896651:=True
def tw6787770708304395613:=True
def tw6957052004040387755:=True
def tw7565397969494519083:=True
def tw14040221587956622891:=True
def tw60136784096771009:=True
def tw1045891243797301966:=True
def tw5960616264827268113:=True
def tw17790153265055983530:=True
def tw6942480739159888104:=True
def tw5148281721387455365:=True
def tw13508276508892275162:=True
def tw9757268706885601029:=True
def tw2787368378832556770:=True
def tw7471378632882340567:=True
def tw7976596903338362596:=True
def tw6353833203933039006:=True
def tw17665961569921609816:=True
def tw9727015625986739101:=True
def tw11457529127130320629:=True
def tw13766259713537439729:=True
def tw3316529773225726342:=True
def tw203205517331878893:=True
def tw3670551005570640529:=True
def tw16614081533156961876:=True
def tw1296335236421824343:=True
def tw3614118317456392228:=True
def tw11152636068673509095:=True
def tw6239119599231321235:=True
def tw12561271238507031387:=True
def tw11713545171100945929:=True
def tw9254632805634413884:=True
def tw17523610426090375229:=True
def tw17638914921794286575:=True
def tw14666945779931871880:=True
def tw11609280139234325409:=True
def tw14932768270562025453:=True
def tw2297838916802343041:=True
def tw473049874670515952:=True
def tw6832592010330724110:=True
def tw4189783913126465805:=True
def tw4831743737042733816:=True
def tw2357198610195688777:=True
def tw15272927831898440954:=True
def tw4108955745071998914:=True
def tw1372702326429134323:=True
def tw10930151605541866634:=True
def tw2152374990307676645:=True
def tw12177378297163423870:=True
def tw11246757380699358331:=True
def tw6676035289123452906:=True
def tw136840992325238222:=True
def tw3982201531138509398:=True
def tw13627391219860685134:=True
def tw1359423649873930764:=True
def tw16883339332874823345:=True
def tw16948661801775270955:=True
def tw11282304188971720431:=True
def tw6639524772643508498:=True
def tw10257186777088928550:=True
def tw1007809455521130353:=True
def tw12158230989469236768:=True
def tw18136015588647814714:=True
def tw8793691058964572677:=True
def tw16469302786514337737:=True
def tw54490320967614977:=True
def tw7420594216553282644:=True
def tw5549199310401722744:=True
def tw15457759664903648230:=True
def tw6742667738893483479:=True
def tw16990852879582087328:=True
def tw1219425835777515920:=True
def tw15473411600985400189:=True
def tw14494185029145622909:=True
def tw506159051559586023:=True
def tw3713748893674219430:=True
def tw6543180486946446074:=True
def tw15049519522133068944:=True
def tw7568675870890402294:=True
def tw12300788845928035455:=True
def tw11558922552514633675:=True
def tw9650416665281725642:=True
def tw12805009472242282147:=True
def tw1751127739312584861:=True
def tw7772982844022720673:=True
def tw4969964452046291394:=True
def tw9847440806003320647:=True
def tw3468511764353597784:=True
def tw13039225300541048376:=True
def tw14611596514504529381:=True
def tw13348344741927635699:=True
def tw6569103927626213449:=True
def tw5977288741684048883:=True
def tw5254869441929210520:=True
def tw17061226200210544428:=True
def tw2545909194204094212:=True
def tw6398714315866030805:=True
def tw10757749529140638848:=True
def tw17749081191838689172:=True
def tw11740985101960984571:=True
def tw4220603659040455134:=True
def tw1210326077788779372:=True
def tw3402480409729073813:=True
def tw13963853601597483287:=True
def tw12867799969286399927:=True
def tw4942029560007905959:=True
def tw15410633429500289540:=True
def tw6827788374254780115:=True
def tw9008870381532964568:=True
def tw3389585411509206166:=True
def tw6867188460262925114:=True
def tw4120175398843658621:=True
def tw433849475349139059:=True
def tw4420708372058416224:=True
def tw14426061512181723036:=True
def tw16670051897656548541:=True
def tw3021888028536033376:=True
def tw16930706634338074986:=True
def tw4493646286213551414:=True
def tw4825837358516643084:=True
def tw16492729145769667359:=True
def tw3926411230500669520:=True
def tw18312247686818456316:=True
def tw5390940769343817280:=True
def tw13054430514368585548:=True
def tw16178881530220530569:=True
def tw4130450897298775866:=True
def tw13203625051856603675:=True
def tw4764052916298503697:=True
def tw15211938963215626178:=True
def tw1377029257135132008:=True
def tw1065051415993297206:=True
def tw12359784960271360883:=True
def tw5544063174784530238:=True
def tw12237018509182304115:=True
def tw6814421640711795740:=True
def tw13672860382730432321:=True
def tw6653740549357980568:=True
def tw16150897068669485159:=True
def tw3332098105661157362:=True
def tw5132265325245924296:=True
def tw11000778569022304437:=True
def tw12360244446770015009:=True
def tw3232580626721802566:=True
def tw1051270675368171326:=True
def tw2311115209239291510:=True
def tw4558622366686221183:=True
def tw13719987135410678476:=True
def tw18133804056963393474:=True
def tw10384868630054325:=True
def tw1303367564945692522:=True
def tw13529338558486033720:=True
def tw9553093008149082863:=True
def tw4296028138014221583:=True
def tw6563723917567614874:=True
def tw8831591933193064849:=True
def tw2112137905916956546:=True
def tw16565107848006439202:=True
def tw9113058497377280752:=True
def tw5771151330865905855:=True
def tw9406397453891685898:=True
def tw13324484054102703966:=True
def tw17810198652013715646:=True
def tw12301475417305512923:=True
def tw10017349179966663173:=True
def tw5238008699316094842:=True
def tw1758494044906432367:=True
def tw6145045928898906775:=True
def tw16292882423971620724:=True
def tw4606081444342139105:=True
def tw7715300748129205919:=True
def tw2480574020333970253:=True
def tw12333236450386516066:=True
def tw36305287465730391:=True
def tw1220049710378923719:=True
def tw16261511373066019180:=True
def tw12369454469162235926:=True
def tw15917754419087035210:=True
def tw13475038578049965175:=True
def tw4385966939663496126:=True
def tw12651488387366550001:=True
def tw3792861035293088901:=True
def tw11131403873254520351:=True
def tw12480865690763598972:=True
def tw6905952552065157692:=True
def tw10526066565046989843:=True
def tw12705376683276792803:=True
def tw5309395740610830604:=True
def tw4069169361029381759:=True
def tw6655895491831210221:=True
def tw2741298588427907426:=True
def tw1457431295707588752:=True
def tw10332544182239367840:=True
def tw18163910084249749884:=True
def tw8284049921050989829:=True
def tw4432587539967686393:=True
def tw14424885979173860449:=True
def tw14108555552077719616:=True
def tw1797636756601904187:=True
def tw3310522491160408037:=True
def tw6525845990071233235:=True
def tw10029621579176406973:=True
def tw16379898629077229408:=True
def tw7095915188012173087:=True
def tw13372010197205327099:=True
def tw14908946951690013481:=True
def tw4169879235387063103:=True
def tw4379619274678832715:=True
def tw10379608950337683643:=True
def tw844221610743105642:=True
def tw17454493380592110178:=True
def tw7752564279735069008:=True
def tw15634971530862538087:=True
def tw5304880849769229603:=True
def tw7204363445018352830:=True
def tw1403288987859293508:=True
def tw13104739005178128416:=True
def tw5424560211449332642:=True
def tw9298881852030523352:=True
def tw5653450527002618871:=True
def tw6603672688388731565:=True
def tw7194660117006861942:=True
def tw16145581313573031156:=True
def tw17898487345419656067:=True
def tw9378829695143614660:=True
def tw12367548573520351158:=True
def tw16180513978906444294:=True
def tw16159666663753815422:=True
def tw12407057896946636857:=True
def tw11003381725036019469:=True
def tw9413497753090717329:=True
def tw15481624743551478243:=True
def tw4788875512316814363:=True
def tw7759042870529695586:=True
def tw15038699483271288474:=True
def tw9103448134316561381:=True
def tw925782232133384259:=True
def tw6363789745285232816:=True
def tw13640232501636358603:=True
def tw14154804148365213712:=True
def tw517243945353673955:=True
def tw3259834799559653411:=True
def tw2493818235149389308:=True
def tw9296064459062856795:=True
def tw3010742219384089365:=True
def tw13394004186482949406:=True
def tw11995716120267763706:=True
def tw10704578661776013189:=True
def tw3200092639319169772:=True
def tw8303752472812923836:=True
def tw6080792568713809506:=True
def tw8337352112342038542:=True
def tw12819734476397104456:=True
def tw14194797428131709359:=True
def tw2029440000385333652:=True
def tw15251910980041154078:=True
def tw11726371804160681851:=True
def tw4872535832936271171:=True
def tw16336690695986338729:=True
def tw9274076067342213575:=True
def tw5230678836995443155:=True
def tw17118965380569629762:=True
def tw15329872825641205684:=True
def tw13250232592465815:=True
def tw10105845074904366177:=True
def tw11213987556415057296:=True
def tw14412835749153580770:=True
def tw6101582500374884198:=True
def tw1695955366738824598:=True
def tw6212362217581972855:=True
def tw14614071170881835136:=True
def tw6781083450317537909:=True
def tw3603580290595989338:=True
def tw865020505515564637:=True
def tw9682012373565941948:=True
def tw4954316150854046922:=True
def tw11398128364459739540:=True
def tw10149359864428491862:=True
def tw16124573526408493616:=True
def tw12299564167190927698:=True
def tw16626588758710702198:=True
def tw14476027834920817848:=True
def tw294281513325801359:=True
def tw2982782327991748157:=True
def tw4195462710408858532:=True
def tw16625026080589735782:=True
def tw6181136514803305057:=True
def tw6107090843636064041:=True
def tw1300441319151516571:=True
def tw9465407830089165252:=True
def tw7964431529489107689:=True
def tw446836926796581639:=True
def tw9433872205610302076:=True
def tw17865616307633953623:=True
def tw12599475988016334911:=True
def tw750633320920777288:=True
def tw17227449292444158727:=True
def tw7458518032377703967:=True
def tw13050287825358100349:=True
def tw10760154273856661545:=True
def tw6696393903312060183:=True
def tw10356981415970924369:=True
def tw12432722252960129616:=True
def tw1856718889814507976:=True
def tw11272339765053642474:=True
def tw14306587042642375552:=True
def tw8438091587656281321:=True
def tw8018506130309456522:=True
def tw13358100004727599078:=True
def tw12639534274338168342:=True
def tw12705207682322849460:=True
def tw1195546753175572160:=True
def tw4085446930098142469:=True
def tw2453402657727643260:=True
def tw17400261935976370986:=True
def tw2769864410426909389:=True
def tw1824319881602160240:=True
def tw7401934524833256928:=True
def tw1594786888873988229:=True
def tw12774443632742771415:=True
def tw7606928597277760009:=True
def tw14273629071859685411:=True
def tw1964150947209553534:=True
def tw14426400260226223586:=True
def tw9511509055069467013:=True
def tw7422968097385049728:=True
def tw13422514699826146759:=True
def tw5352649885901466316:=True
def tw9978004478664192734:=True
def tw5564266445976566876:=True
def tw367359329790516749:=True
def tw14852309870631604349:=True
def tw15728066462288447275:=True
def tw7997530301165533143:=True
def tw1352021790243355584:=True
def tw10966075292788821822:=True
def tw6331258875605409067:=True
def tw4189045414232684745:=True
def tw12269355909963343911:=True
def tw13177017753378981618:=True
def tw4333022840805614811:=True
def tw606509730645739563:=True
def tw4107031271152716248:=True
def tw4900155685907220537:=True
def tw11434632914230828513:=True
def tw1503914308545745041:=True
def tw10290804581625769000:=True
def tw6379143603437054626:=True
def tw8705612244483174199:=True
def tw3437264608979801917:=True
def tw9603139595408941898:=True
def tw15886129625082130737:=True
def tw12356550087418323345:=True
def tw18151426759345019753:=True
def tw13989931077991411039:=True
def tw18193445778573957938:=True
def tw11976117664782019063:=True
def tw7588363484931741586:=True
def tw10657538810389158361:=True
def tw13820008603890246643:=True
def tw13374234760209122699:=True
def tw1694311450932346653:=True
def tw13467815827371390860:=True
def tw9369336413817593666:=True
def tw15395425186337850953:=True
def tw3999345755652971997:=True
def tw6847052024027060587:=True
end PySem.W.Fast
open PySem PySem.W PyProof.Rows
set_option maxRecDepth 100000 in
set_option maxHeartbeats 0 in
theorem PySem.Challenge.cw_yardkeep_k53_going_on_holds : PySem.Challenge.rw_yardkeep_k53_going_on.Holds := by
  w_on; o_law; k_head; (case hw=>w_witness2)
  k_fill
  refine K53.walk (l:=PySem.Challenge.rw_yardkeep_k53_going_on) rfl rfl (fun w h Y=>PySem.W.km_in_of Y) ?F
  case F =>
    intro w mg fa h Y KX G hmg
    refine' K53.all_mk KX G hmg ?q0a ?q0b ?q0c ?q0d ?q0e ?q0f ?q0g ?q0h ?q0i ?q0j ?q0k ?q0l ?q0m ?q0n ?q0o ?q0p ?q0q ?q0r ?q0s ?q0t ?q0u ?q0v ?q0w ?q0x ?q0y ?q0z ?q00 ?q01 ?q02 ?q03 ?q04 ?q05 ?q06 ?q07 ?q08 ?q09 ?q1a ?q1b ?q1c ?q1d ?q1e ?q1f ?q1g ?q1h ?q1i ?q1j ?q1k ?q1l ?q1m ?q1n ?q1o ?q1p ?q1q ?q1r ?q1s ?q1t ?q1u ?q1v ?q1w ?q1x ?q1y ?q1z ?q10 ?q11 ?q12 ?q13 ?q14 ?q15 ?q16 ?q17 ?q18 ?q19 ?q2a ?q2b ?q2c ?q2d ?q2e ?q2f ?q2g ?q2h ?q2i ?q2j ?q2k ?q2l ?q2m ?q2n ?q2o ?q2p ?q2q ?q2r ?q2s ?q2t ?q2u ?q2v ?q2w ?q2x ?q2y ?q2z ?q20 ?q21 ?q22 ?q23 ?q24 ?q25 ?q26 ?q27 ?q28 ?q29 ?q3a ?q3b ?q3c ?q3d ?q3e ?q3f ?q3g ?q3h ?q3i ?q3j ?q3k ?q3l ?q3m ?q3n ?q3o ?q3p ?q3q ?q3r ?q3s ?q3t ?q3u ?q3v ?q3w ?q3x ?q3y ?q3z ?q30 ?q31 ?q32 ?q33 ?q34 ?q35 ?q36 ?q37 ?q38 ?q39 ?q4a ?q4b ?q4c ?q4d ?q4e ?q4f ?q4g ?q4h ?q4i ?q4j ?q4k ?q4l ?q4m ?q4n ?q4o ?q4p ?q4q ?q4r ?q4s ?q4t ?q4u ?q4v ?q4w ?q4x ?q4y ?q4z ?q40 ?q41 ?q42 ?q43 ?q44 ?q45 ?q46 ?q47 ?q48 ?q49 ?q5a ?q5b ?q5c ?q5d ?q5e ?q5f ?q5g ?q5h ?q5i ?q5j ?q5k ?q5l ?q5m ?q5n ?q5o ?q5p ?q5q ?q5r ?q5s ?q5t ?q5u ?q5v ?q5w ?q5x ?q5y ?q5z ?q50 ?q51 ?q52 ?q53 ?q54 ?q55 ?q56 ?q57 ?q58 ?q59 ?q6a ?q6b ?q6c ?q6d ?q6e ?q6f ?q6g ?q6h ?q6i ?q6j ?q6k ?q6l ?q6m ?q6n ?q6o ?q6p ?q6q ?q6r ?q6s ?q6t ?q6u ?q6v ?q6w ?q6x ?q6y ?q6z ?q60 ?q61 ?q62 ?q63 ?q64
    case q0a|q0b|q0c|q0d|q0e|q0f|q0g|q0h|q0i=>(delta K53.NI;k_is)
    case q0j|q0k|q0l|q0m|q0n|q0o|q0p|q0q|q0r|q0s|q0t|q0u|q0v|q0w|q0x|q0y|q0z|q00|q01|q02|q03|q04|q05|q06|q07|q08|q09|q1a|q1b|q1c|q1d|q1e|q1f|q1g|q1h|q1i|q1j|q1k|q1l|q1m|q1n|q1o|q1p|q1q|q1r|q1s|q1t|q1u|q1v|q1w|q1x|q1y|q1z|q10|q11|q12|q13|q14|q15|q16|q17|q18|q19|q2a|q2b|q2c|q2d|q2e|q2f|q2g|q2h|q2i|q2j=>(refine' ⟨?xqz,?xqa,?xqb,?xqc⟩;(case xqz=>k_is);(case xqa=>k_is);(case xqb=>k_is);(case xqc=>k_is))
    case q2k|q2l|q2m|q2n|q2o|q2p|q2q|q2r|q2s|q2t|q2u|q2v|q2w|q2x|q2y|q2z|q20|q21=>k_is
    case q22|q23|q24|q25|q26|q27|q28|q29|q3a|q3b|q3c|q3d|q3e|q3f|q3g|q3h|q3i|q3j=>refine ⟨?_,?_,?_,?_⟩<;>k_is
    case q3k|q3l|q3m|q3n|q3o|q3p|q3q|q3r|q3s|q3t|q3u|q3v|q3w|q3x|q3y|q3z|q30|q31|q32|q33|q34|q35|q36|q37|q38|q39|q4a|q4b|q4c|q4d|q4e|q4f|q4g|q4h|q4i|q4j|q4k|q4l|q4m|q4n|q4o|q4p|q4q|q4r|q4s|q4t=>refine ⟨?_,?_,?_⟩<;>k_is
    case q4u|q4v|q4w|q4x|q4y|q4z|q40|q41|q42|q43|q44|q45|q46|q47|q48|q49|q5a|q5b|q5c|q5d|q5e|q5f|q5g|q5h|q5i|q5j|q5k|q5l|q5m|q5n|q5o|q5p|q5q|q5r|q5s|q5t|q5u|q5v|q5w|q5x|q5y|q5z|q50|q51|q52|q53|q54|q55|q56|q57|q58|q59|q6a|q6b=>k_is
    case q6c|q6d|q6e|q6f|q6g|q6h|q6i|q6j|q6k|q6l|q6m|q6n|q6o|q6p|q6q|q6r|q6s|q6t|q6u|q6v|q6w|q6x=>kit_is
    case q6y=>rfl
    case q6z=>k_is
    case q60=>rfl
    case q61=>kernel_rfl
    case q62=>exact K53.tabs_all Y
    case q63=>decide
    case q64=>kernel_rfl
