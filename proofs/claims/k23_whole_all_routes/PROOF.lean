import PyProof.Rows.All
import Wide.All
import OpenK.AllK
import Wide.FinOn
import Lean
import PyProof.EqAt
import PyProof.EqKinds
import PyProof.TupleCall
import PyProof.NeKinds
import KE.KEqDict
import KE.KPairComp
import PyProof.EnumStmt
import PyProof.EnumMake
import PyProof.Rows.EnumRows
import KE.KDictList
import PyProof.ListRange
import PyProof.StationsW
import PyProof.Rows.SortStr
import KE.KDictSum
import PyProof.InstStoreFacts
import KE.KIsAll
import PyProof.ExcAttrAll.ValueError
import PyProof.ExcClass2
import PyProof.RulesAs
import KE.KDictOf
import PyProof.IsiH_list
import KE.KLam
import KE.KNestM
import PyProof.Rows.ZipGen
import PyProof.Rows.FactsT2
import PyProof.Rows.TupAssign
import PyProof.StrOps2
import PyProof.FitsStr
import PyProof.SumWalkG
import KE.KRevSl
import KE.KRevIter
import PyProof.Rows.SortRuns
import KE.KSortTup
import PyProof.FactsAll.tuple_2
import PyProof.TupleKey
import PyProof.Rows.SortKeyStr
import PySem.Challenge.RW_yardkeep_k23_whole_all_routes
set_option Elab.async false
set_option linter.all false
set_option maxRecDepth 100000
set_option maxHeartbeats 4000000
local macro_rules|`(tactic|trivial)=>`(tactic|decide +kernel)
open PySem.W (Frag kitOne keepIn findIn nsIn mg_of fnOf codeIn)
namespace L2
open PySem PySem.Spec PyProof.Rows
abbrev Key:=Sum Int Str
def Zhk:Key->Value->Bool
 | .inl k,v=>Value.isInt k v
 | .inr x,v=>Value.isStrOf x v
def Zz7(w:World):Key->Int
 | .inl k=>hashInt k
 | .inr x=>hashStr w x
theorem Y8:∀{k:Key} {v:Value},Zhk k v=true->(∃i t,k=Sum.inl i/\v=Value.int i t)\/(∃x t,k=Sum.inr x/\v=Value.str x t)
 | .inl i,v,h=>by
  obtain ⟨t,e⟩:=Value.isInt_shape (k:=i) (v:=v) h
  exact .inl ⟨i,t,rfl,e⟩
 | .inr x,v,h=>by
  obtain ⟨t,e⟩:=Value.isStrOf_shape (x:=x) (v:=v) h
  exact .inr ⟨x,t,rfl,e⟩
theorem Zqn(i:Int)(t:Tok):Zhk (.inl i) (.int i t)=true:=by simp [Zhk,Value.isInt]
theorem Zqd(x:Str)(t:Tok):Zhk (.inr x) (.str x t)=true:=by simp [Zhk,Value.isStrOf]
theorem Zwp(a b:Int):decide ((Sum.inl a:Key)=Sum.inl b)=(a ==b):=by
 by_cases e:a=b
 ·subst e;simp
 ·have h:¬(Sum.inl a:Key)=Sum.inl b:=fun q=>e (Sum.inl.inj q)
  rw [decide_eq_false h]
  exact (beq_eq_false_iff_ne.mpr e).symm
theorem Zw2(a b:Str):decide ((Sum.inr a:Key)=Sum.inr b)=decide (a=b):=by
 by_cases e:a=b
 ·subst e;simp
 ·have h:¬(Sum.inr a:Key)=Sum.inr b:=fun q=>e (Sum.inr.inj q)
  rw [decide_eq_false h,decide_eq_false e]
theorem Zwy(a:Int)(b:Str):decide ((Sum.inl a:Key)=Sum.inr b)=false:=decide_eq_false (fun q=>nomatch q)
theorem Zww(a:Str)(b:Int):decide ((Sum.inr a:Key)=Sum.inl b)=false:=decide_eq_false (fun q=>nomatch q)
def Ye(prog:Program)(w:World):PySem.KeyKind prog w Key where
 is:=Zhk
 hash:=Zz7 w
 inj:=fun v a b ha hb=>by
  rcases Y8 ha with ⟨i,t,rfl,rfl⟩|⟨x,t,rfl,rfl⟩
  ·rcases Y8 hb with ⟨j,u,rfl,e⟩|⟨y,u,rfl,e⟩
   ·injection e with e1 _;rw [e1]
   ·exact nomatch e
  ·rcases Y8 hb with ⟨j,u,rfl,e⟩|⟨y,u,rfl,e⟩
   ·exact nomatch e
   ·injection e with e1 _;rw [e1]
 byValue:=fun k v h=>by
  rcases Y8 h with ⟨i,t,rfl,rfl⟩|⟨x,t,rfl,rfl⟩ <;>rfl
 pyHash:=fun hv h=>by
  rcases Y8 hv with ⟨i,t,rfl,rfl⟩|⟨x,t,rfl,rfl⟩
  ·exact wpAny_pyHash_int h
  ·exact wpAny_pyHash_str h
 eqBool:=fun hu hv h=>by
  rcases Y8 hu with ⟨i,t,rfl,rfl⟩|⟨x,t,rfl,rfl⟩
  ·rcases Y8 hv with ⟨j,u,rfl,rfl⟩|⟨y,u,rfl,rfl⟩
   ·rw [Zwp] at h;exact wpAny_eqBool_int h
   ·rw [Zwy] at h;exact SeqAt.EqAt.int_str i t y u _ _ _ _ h
  ·rcases Y8 hv with ⟨j,u,rfl,rfl⟩|⟨y,u,rfl,rfl⟩
   ·rw [Zww] at h;exact SeqAt.EqAt.str_int x t j u _ _ _ _ h
   ·rw [Zw2] at h;exact wpAny_eqBool_str h
 «strs» :=fun k x t v h=>by
  rcases Y8 h with ⟨i,u,rfl,e⟩|⟨y,u,rfl,e⟩
  ·exact nomatch e
  ·injection e with e1 _
   subst e1
   cases v <;>rfl
theorem Znh(prog:Program)(w:World)(i:Int)(t:Tok):(Ye prog w).is (.inl i) (.int i t)=true:=Zqn i t
theorem Zm5(prog:Program)(w:World)(x:Str)(t:Tok):(Ye prog w).is (.inr x) (.str x t)=true:=Zqd x t
end L2
namespace L2
open PySem PySem.Spec PyProof.Rows
inductive V where
 | non | bl (b:Bool) | int (i:Int) | str (x:Str) | byt (b:Array UInt8) | flt (b:UInt64) | ref (a:Addr) | ty (n:String)
 deriving DecidableEq
def Yk:V->Value->Prop
 | .non,u=>u=Value.none
 | .bl b,u=>u=Value.bool b
 | .int i,u=>∃t,u=Value.int i t
 | .str x,u=>∃t,u=Value.str x t
 | .byt b,u=>∃t,u=Value.bytes b t
 | .flt b,u=>∃t,u=Value.float b t
 | .ref a,u=>u=Value.ref a
 | .ty n,u=>u=Value.type n
abbrev Yc:List V->List Value->Prop:=Paired Yk
theorem Yc.length{xs:List V}{us:List Value}(r:Yc xs us):xs.length=us.length:=Paired.length r
theorem Yc.get:∀{xs:List V} {us:List Value} {i:Nat} {x:V},Yc xs us->xs[i]? =some x->∃u,us[i]? =some u/\Yk x u
 | _,_,_,_,.nil,e=>by simp at e
 | _,_,0,_,.cons r _,e=>by simp at e;subst e;exact ⟨_,rfl,r⟩
 | _,_,i+1,x,.cons _ t,e=>by
  obtain ⟨u,h1,h2⟩:=Yc.get (i:=i) (x:=x) t (by simpa using e)
  exact ⟨u,by simpa using h1,h2⟩
theorem Yc.set{x:V}{u:Value}(r:Yk x u):∀{xs:List V} {us:List Value} (i:Nat),Yc xs us->Yc (xs.set i x) (us.set i u)
 | _,_,_,.nil=>.nil
 | _,_,0,.cons _ t=>.cons r t
 | _,_,i+1,.cons q t=>.cons q (Yc.set r i t)
theorem Yc.append:∀{xs ys:List V} {us ws:List Value},Yc xs us->Yc ys ws->Yc (xs++ys) (us++ws)
 | _,_,_,_,.nil,s=>s
 | _,_,_,_,.cons r t,s=>.cons r (Yc.append t s)
theorem Yc.take:∀{xs:List V} {us:List Value} (n:Nat),Yc xs us->Yc (xs.take n) (us.take n)
 | _,_,0,_=>.nil
 | _,_,_+1,.nil=>.nil
 | _,_,n+1,.cons r t=>.cons r (Yc.take n t)
theorem Yc.drop:∀{xs:List V} {us:List Value} (n:Nat),Yc xs us->Yc (xs.drop n) (us.drop n)
 | _,_,0,r=>r
 | _,_,_+1,.nil=>.nil
 | _,_,n+1,.cons _ t=>Yc.drop n t
def Zc7:Option V->Option Value->Prop
 | some v,some u=>Yk v u
 | none,none=>True
 | _,_=>False
def KV{κ:Type}:List (κ×V)->List (κ×Value)->Prop:=Paired fun (p:κ×V) (q:κ×Value)=>p.1=q.1/\Yk p.2 q.2
def kV:Key->V
 | .inl i=>.int i
 | .inr x=>.str x
inductive HO where
  | lst (xs:List V)
  | tup (xs:List V)
  | dK (kvs:List (Key×V)) | dT (kvs:List (List Key×V))
  | set (S:Int->Bool) (n:Nat)
  | ins (C dx:Addr) (fs:List (Str×V))
  | own (x:Addr)
  | xd (fs:List (Str×V))
  | met (f x:Addr)
  | rng (lo hi:Int)
  | frz (o:Obj) (u:HO)
  | tbl (ps:Array Value)
  | ext (φ:Heap->Prop)
abbrev Hp:=Addr->Option HO
def upd(H:Hp)(a:Addr)(o:HO):Hp:=fun b=>if b=a then some o else H b
theorem Zh{H:Hp}{a:Addr}{o:HO}:upd H a o a=some o:=by unfold upd;rw [if_pos rfl]
theorem Zi{H:Hp}{a b:Addr}{o:HO}(h:b≠a):upd H a o b=H b:=by unfold upd;rw [if_neg h]
theorem Zll{H:Hp}{a:Addr}{o u:HO}:upd (upd H a o) a u=upd H a u:=by
 funext b;unfold upd;split <;>rfl
theorem Zwn{H:Hp}{a b:Addr}{o u:HO}(h:H a=some o)(h':H b=some u)(d:o≠u):a≠b:=by
 intro e;subst e;rw [h] at h';exact d (Option.some.inj h')
theorem Zj{H:Hp}{a b:Addr}{o:HO}(h:H a=some o)(h':H b=none):a≠b:=by
 intro e;subst e;rw [h] at h';cases h'
section
variable (P:Program) (w:World)
def Yn(H:Hp)(h:Heap)(a:Addr):HO->Prop
 | .lst xs=>xs.length<=sizeLine/\∃(its:List Value) (n:Nat),Yc xs its/\h.get? a=some { cls:=.type "list",data:=.seq its.toArray n }
 | .tup xs=>xs.length<=sizeLine/\∃its:List Value,Yc xs its/\IsTup h a its.toArray
 | .dK kvs=>kvs.length<=sizeLine/\(a ==sysModules)=false/\∃vs,KV kvs vs/\h.DictOf (Ye P w) a vs
 | .dT kvs=>kvs.length<=sizeLine/\(a ==sysModules)=false/\∃xs:List (List Key×Addr×Value),
   Paired (fun (p:List Key×V) (q:List Key×Addr×Value)=>p.1=q.1/\H q.2.1=some (.tup (p.1.map kV))/\Yk p.2 q.2.2) kvs xs /\
   ∃o es ep,h.get? a=some o/\o.ExactDict/\o.data=.dict es ep/\es.toList=xs.map (entryOfKey (tupleKind (Ye P w)))/\(xs.map (·.1)).Nodup
 | .set S n=>h.SetOf (intKind P w) a S n
 | .ins C dx fs=>H dx=some (.own a)/\fs.length<=1000/\dx≠a/\h.get? a=some (PySem.W.instObj C dx) /\
   ∃mA,h.Ns1 dx mA/\(∀f,Zc7 (fs.lookup f) (mA f))/\PySem.Within mA (fs.map (·.1))
 | .own _=>∃o,h.get? a=some o
 | .xd fs=>∃mA,h.Ns1 a mA/\∀f,Zc7 (fs.lookup f) (mA f)
 | .rng lo hi=>∃t u v,h.get? a=some { cls:=.type "range",data:=.fields #[.int lo t,.int hi u,.int 1 v] }
 | .frz o u=>h.get? a=some o/\Yn H h a u
 | .tbl ps=>∃(ln cl:Value) (q:Str) (t:Nat),ps[0]? =some ln/\ps[1]? =some cl/\ps[2]? =some (.str q t) /\
   (h.get? a=some { cls:=.none,data:=.fields #[] }\/∃(c:Addr) (oc:Obj) (vs:Array Value) (tt:Nat),H c=some (.frz oc (.own a))/\oc.data=.fields vs/\vs[1]? =some (.str q tt) /\
    h.get? a=some { cls:=.none,data:=.fields #[ln,cl,.ref c] })
 | .met f x=>h.get? a=some (PySem.W.methodObj (.ref f) (.ref x))
 | .ext φ=>φ h/\(∃o,h.get? a=some o)/\∀h1 h2:Heap,φ h1->(∀o,h1.get? a=some o->h2.get? a=some o)->φ h2
def HOk(H:Hp)(h:Heap):Prop:=∀a o,H a=some o->Yn P w H h a o
end
section
variable {P:Program} {w:World} {H H':Hp} {h h':Heap} {a:Addr} {o:HO}
theorem Yn.lt(x:Yn P w H h a o):a<h.objs.size:=by
 cases o with
 | lst xs=>obtain ⟨_,_,_,_,e⟩:=x;exact Heap.lt_size e
 | tup xs=>obtain ⟨_,_,_,p⟩:=x;exact p.lt
 | dK kvs=>obtain ⟨_,_,_,_,o,_,_,e,_⟩:=x;exact Heap.lt_size e
 | dT kvs=>obtain ⟨_,_,_,_,o,_,_,e,_⟩:=x;exact Heap.lt_size e
 | set S n=>obtain ⟨o,_,_,_,e,_⟩:=x;exact Heap.lt_size e
 | ins C dx fs=>obtain ⟨_,_,_,e,_⟩:=x;exact Heap.lt_size e
 | own y=>obtain ⟨_,e⟩:=x;exact Heap.lt_size e
 | xd fs=>obtain ⟨_,⟨_,_,_,e,_⟩,_⟩:=x;exact Heap.lt_size e
 | rng lo hi=>obtain ⟨_,_,_,e⟩:=x;exact Heap.lt_size e
 | frz ob u=>obtain ⟨e,_⟩:=x;exact Heap.lt_size e
 | tbl ps =>
  obtain ⟨_,_,_,_,_,_,_,e | ⟨_,_,_,_,_,_,_,e⟩⟩:=x
  ·exact Heap.lt_size e
  ·exact Heap.lt_size e
 | met f y=>exact Heap.lt_size (show h.get? a=some _ from x)
 | ext φ=>obtain ⟨_,⟨_,e⟩,_⟩:=x;exact Heap.lt_size e
theorem Paired.mapP{α β:Type}{F G:α->β->Prop}:∀{l₁:List α} {l₂:List β},Paired F l₁ l₂->(∀a b,F a b->G a b)->Paired G l₁ l₂
 | _,_,.nil,_=>.nil
 | _,_,.cons r t,f=>.cons (f _ _ r) (Paired.mapP t f)
theorem Yn.stay(x:Yn P w H h a o)(k:∀b u,(b=a\/H b=some (.own a))->h.get? b=some u->h'.get? b=some u)
  (ho:∀b,H b=some (.own a)->H' b=some (.own a)) (ht:∀b xs,H b=some (.tup xs)->H' b=some (.tup xs))
  (hz:∀b o,H b=some (.frz o (.own a))->H' b=some (.frz o (.own a)):=by first | exact fun _ _ q=>q | (intro b o q;rw [Zi (Zj q (by assumption))];exact q)):Yn P w H' h' a o:=by
 induction o with
 | lst xs=>obtain ⟨z,its,n,r,e⟩:=x;exact ⟨z,its,n,r,k _ _ (.inl rfl) e⟩
 | tup xs=>obtain ⟨z,its,r,ob,e,c⟩:=x;exact ⟨z,its,r,ob,k _ _ (.inl rfl) e,c⟩
 | dK kvs=>obtain ⟨z,y,vs,r,ob,es,ep,e,c⟩:=x;exact ⟨z,y,vs,r,ob,es,ep,k _ _ (.inl rfl) e,c⟩
 | dT kvs =>
  obtain ⟨z,y,xs,r,ob,es,ep,e,c⟩:=x
  exact ⟨z,y,xs,Paired.mapP r fun p q z=>⟨z.1,ht _ _ z.2.1,z.2.2⟩,ob,es,ep,k _ _ (.inl rfl) e,c⟩
 | set S n=>obtain ⟨ob,es,ep,t,e,c⟩:=x;exact ⟨ob,es,ep,t,k _ _ (.inl rfl) e,c⟩
 | ins C dx fs =>
  obtain ⟨d,z,ne,e,mA,⟨od,es,ep,e2,c⟩,r⟩:=x
  exact ⟨ho _ d,z,ne,k _ _ (.inl rfl) e,mA,⟨od,es,ep,k _ _ (.inr d) e2,c⟩,r⟩
 | own y=>obtain ⟨ob,e⟩:=x;exact ⟨ob,k _ _ (.inl rfl) e⟩
 | xd fs=>obtain ⟨mA,⟨od,es,ep,e,c⟩,r⟩:=x;exact ⟨mA,⟨od,es,ep,k _ _ (.inl rfl) e,c⟩,r⟩
 | rng lo hi=>obtain ⟨t,u,v,e⟩:=x;exact ⟨t,u,v,k _ _ (.inl rfl) e⟩
 | frz ob u ih=>obtain ⟨e,q⟩:=x;exact ⟨k _ _ (.inl rfl) e,ih q⟩
 | tbl ps =>
  obtain ⟨ln,cl,q,t,e1,e2,e3,e | ⟨c,oc,vs,tt,f1,f2,f3,e⟩⟩:=x
  ·exact ⟨ln,cl,q,t,e1,e2,e3,.inl (k a _ (.inl rfl) e)⟩
  ·exact ⟨ln,cl,q,t,e1,e2,e3,.inr ⟨c,oc,vs,tt,hz _ _ f1,f2,f3,k a _ (.inl rfl) e⟩⟩
 | met f y =>
  have e:h.get? a=some (PySem.W.methodObj (.ref f) (.ref y)):=x
  show h'.get? a=some (PySem.W.methodObj (.ref f) (.ref y))
  exact k a _ (.inl rfl) e
 | ext φ=>obtain ⟨p,⟨o,e⟩,st⟩:=x;exact ⟨st _ _ p fun o q=>k _ _ (.inl rfl) q,⟨o,k _ _ (.inl rfl) e⟩,st⟩
theorem HOk.lt(x:HOk P w H h)(e:H a=some o):a<h.objs.size:=(x a o e).lt
theorem HOk.fresh(x:HOk P w H h)(e:h.objs.size<=a):H a=none:=by
 cases q:H a with
 | none=>rfl
 | some u=>exact absurd (Nat.lt_of_lt_of_le (x.lt q) e) (Nat.lt_irrefl _)
theorem HOk.kept(x:HOk P w H h)(k:∀b u,h.get? b=some u->h'.get? b=some u):HOk P w H h':=fun a o e =>
 (x a o e).stay (fun b u _ q=>k b u q) (fun _ q=>q) fun _ _ q=>q
theorem HOk.laid(x:HOk P w H h)(k:∀b u,h.get? b=some u->h'.get? b=some u)(hp:h.objs.size<=a)(new:Yn P w (upd H a o) h' a o):HOk P w (upd H a o) h':=fun b u e=>by
 have hn:=x.fresh hp
 by_cases hb:b=a
 ·subst hb;rw [Zh] at e;cases e;exact new
 ·rw [Zi hb] at e
  exact (x b u e).stay (fun c v _ q=>k c v q) (fun c q=>by rw [Zi (Zj q hn)];exact q) fun c xs q=>by rw [Zi (Zj q hn)];exact q
end
def Rd(H:Hp)(a:Addr)(u:HO):Prop:=H a=some u\/∃o,H a=some (.frz o u)
theorem Rd.ok{P:Program}{w:World}{H:Hp}{h:Heap}{a:Addr}{u:HO}(r:Rd H a u)(x:HOk P w H h):Yn P w H h a u:=by
 rcases r with r|⟨o,r⟩
 ·exact x a u r
 ·obtain ⟨_,q⟩:=x a _ r
  exact q
def Mut:Option HO->Prop
 | some (.lst _)=>True
 | some (.dK _)=>True
 | some (.dT _)=>True
 | some (.set _ _)=>True
 | some (.ins _ _ _)=>True
 | some (.ext _)=>True
 | _=>False
section
variable {P:Program} {w:World} {H:Hp} {h h':Heap} {x e:Addr} {o':HO}
theorem HOk.write(ok:HOk P w H h)(mu:Mut (H x))(he:e=x\/H e=some (.own x))(k:∀b u,b≠e->h.get? b=some u->h'.get? b=some u)(heo:∃u,h'.get? e=some u)
  (new:Yn P w (upd H x o') h' x o'):HOk P w (upd H x o') h':=fun b u q=>by
 have nown:∀c y,H c=some (.own y)->c≠x:=fun c y r z=>by subst z;rw [r] at mu;exact mu
 have ntup:∀c xs,H c=some (.tup xs)->c≠x:=fun c xs r z=>by subst z;rw [r] at mu;exact mu
 have nfrz:∀c o y,H c=some (.frz o (.own y))->c≠x:=fun c o y r z=>by subst z;rw [r] at mu;exact mu
 by_cases hb:b=x
 ·subst hb;rw [Zh] at q;cases q;exact new
 ·rw [Zi hb] at q
  by_cases hbe:b=e
  ·have q':H b=some (.own x):=by
    rcases he with z|z
    ·exact absurd (hbe.trans z) hb
    ·rw [hbe];exact z
   rw [q] at q';cases q'
   obtain ⟨v,hv⟩:=heo
   exact ⟨v,by rw [hbe];exact hv⟩
  ·refine (ok b u q).stay (fun c v hc r=>k c v ?_ r) (fun c r=>by rw [Zi (nown c b r)];exact r) (fun c xs r=>by rw [Zi (ntup c xs r)];exact r) (fun c o r=>by rw [Zi (nfrz c o b r)];exact r)
   rcases hc with rfl|hc
   ·exact hbe
   ·rintro rfl
    rcases he with z|z
    ·exact nown c b hc z
    ·rw [hc] at z;cases z;exact hb rfl
end
structure Un(fs ex:List Addr)(H H':Hp)(h h':Heap):Prop where
 keep:∀b o,h.get? b=some o->H b=none->b∉fs->b∉ex->h'.get? b=some o
 slot:∀b o,h.get? b=some o->H b=none->b∈fs->b∉ex->∃sl,h'.get? b=some { o with slots:=sl }
 free:∀b o,h.get? b=some o->H b=none->b∉ex->H' b=none
 there:∀b o,h.get? b=some o->b∉ex->∃o',h'.get? b=some o'
 tups:∀b xs,H b=some (.tup xs)->H' b=some (.tup xs)
 frzs:∀b o u,H b=some (.frz o u)->H' b=some (.frz o u)
 tbls:∀b ps,H b=some (.tbl ps)->∃more,H' b=some (.tbl (ps++more))
section
variable {fs fs' ex ex':List Addr} {H H1 H2:Hp} {h h1 h2 h':Heap} {a x e:Addr} {o:HO}
theorem Un.any(u:Un fs ex H H1 h h1){b:Addr}{ob:Obj}(q:h.get? b=some ob)(n:H b=none)(hx:b∉ex):∃sl,h1.get? b=some { ob with slots:=sl }:=by
 by_cases hb:b∈fs
 ·exact u.slot b ob q n hb hx
 ·exact ⟨ob.slots,u.keep b ob q n hb hx⟩
theorem Un.kept(k:∀b u,h.get? b=some u->h'.get? b=some u):Un fs ex H H h h' :=
 ⟨fun b ob q _ _ _=>k b ob q,fun b ob q _ _ _=>⟨ob.slots,k b ob q⟩,fun _ _ _ n _=>n,fun b ob q _=>⟨ob,k b ob q⟩,fun _ _ q=>q,fun _ _ _ q=>q,fun _ ps q=>⟨#[],by rw [q];simp⟩⟩
theorem Un.refl:Un fs ex H H h h:=Un.kept fun _ _ q=>q
theorem Un.laid(k:∀b u,h.get? b=some u->h'.get? b=some u)(hp:h.objs.size<=a)(hn:H a=none):Un fs ex H (upd H a o) h h' where
 keep:=fun b u q _ _ _=>k b u q
 slot:=fun b u q _ _ _=>⟨u.slots,k b u q⟩
 free:=fun b u q n _=>by rw [Zi (Nat.ne_of_lt (Nat.lt_of_lt_of_le (Heap.lt_size q) hp))];exact n
 there:=fun b u q _=>⟨u,k b u q⟩
 tups:=fun b xs q=>by rw [Zi (Zj q hn)];exact q
 frzs:=fun b u xs q=>by rw [Zi (Zj q hn)];exact q
 tbls:=fun b ps q=>⟨#[],by rw [Zi (Zj q hn),q];simp⟩
theorem Un.write(mu:Mut (H x))(he:e=x\/H e=some (.own x))(k:∀b u,b≠e->h.get? b=some u->h'.get? b=some u)(heo:∃u,h'.get? e=some u):Un fs ex H (upd H x o) h h':=by
 have hx:∀b,H b=none->b≠x:=fun b n z=>by subst z;rw [n] at mu;exact mu
 have hb:∀b,H b=none->b≠e:=fun b n z=>by
  subst z
  rcases he with r|r
  ·exact hx b n r
  ·rw [n] at r;cases r
 have hm:∀b u,H b=some u->¬Mut (some u)->b≠x:=fun b u q nm z=>by subst z;rw [q] at mu;exact nm mu
 refine ⟨fun b u q n _ _=>k b u (hb b n) q,fun b u q n _ _=>⟨u.slots,k b u (hb b n) q⟩,fun b u q n _=>by rw [Zi (hx b n)];exact n,fun b u q _=>?_,
  fun b xs q=>by rw [Zi (hm b _ q fun z=>z)];exact q,fun b u xs q=>by rw [Zi (hm b _ q fun z=>z)];exact q,fun b ps q=>⟨#[],by rw [Zi (hm b _ q fun z=>z),q];simp⟩⟩
 by_cases hbe:b=e
 ·subst hbe;exact heo
 ·exact ⟨u,k b u hbe q⟩
end
def trk(h:Heap)(H:Hp):List Addr:=(List.range h.objs.size).filter fun a=>(H a).isSome
def Zl1(h:Heap)(H:Hp):Heap:=PySem.W.hideAll h (trk h H)
theorem Zqk(h:Heap)(H:Hp):(Zl1 h H).objs.size=h.objs.size:=PySem.W.hideAll_size _ _
theorem Zse{h:Heap}{H:Hp}{b:Addr}{o:Obj}(e:h.get? b=some o)(n:H b=none):(Zl1 h H).get? b=some o :=
 PySem.W.hideAll_get _ e fun hm=>by
  have q:(H b).isSome=true:=(List.mem_filter.mp hm).2
  rw [n] at q;simp at q
theorem Zva{h:Heap}{H:Hp}{b:Addr}{o:Obj}(e:(Zl1 h H).get? b=some o):h.get? b=some o/\H b=none:=by
 have e':h.get? b=some o:=PySem.W.of_hideAll (trk h H) e
 refine ⟨e',?_⟩
 cases q:H b with
 | none=>rfl
 | some x =>
  have hm:b∈trk h H:=List.mem_filter.mpr ⟨List.mem_range.mpr (Heap.lt_size e'),by simp [q]⟩
  have z:(Zl1 h H).get? b=none:=PySem.W.hideAll_none (trk h H) hm
  rw [z] at e;cases e
def Zuv(g h:Heap)(L:Addr):List (Addr×Obj):=(List.range h.objs.size).filterMap fun a=>if a=L\/(g.get? a).isSome=true then none else (h.get? a).map fun o=>(a,o)
def Z0(g h:Heap)(L d:Addr):List (Addr×Obj):=(Zuv g h L).filter fun p=>decide (p.1≠d)
end L2
namespace L2
open PySem PySem.Spec PyProof.Rows
def Zwg(mg:Str->Option Value)(h:Heap):Prop:=∃bm ob,mg "__builtins__" =some (.ref bm)/\bm≠builtinsNs/\h.get? bm=some ob/\ob.cls=.type "module" /\ob.dict=some builtinsNs/\ob.data=.plain
structure Mod(K:Frag)(mg:Str->Option Value)(base:Heap):Prop where
 kin:K.In base
 glob:base.Ns mainGlobals mg
 blt:∃mb,base.Ns builtinsNs mb/\∀x:Str,x ≠ "__name__" ->mb x=bootBuiltins x
 nolimit:base.NoLimit
 bm:Zwg mg base
structure Cx where
 prog:Program
 w:World
 K:Frag
 mg:Str->Option Value
 base:Heap
 A:Around
 N:List Str
 s₀:Shared
 H₀:Hp
 env:Env
 outer:List Env
 stack:List Env
 ex:List Addr
 fn:Str->Bool
 calm:Bool
 pn:List (Addr×Obj)
 xe:Value->Shared->Prop
def frs(l:List Env):List Addr:=l.filterMap (·.frame)
abbrev Cx.fs(X:Cx):List Addr:=frs X.outer
def Vis(sc:Scope)(x:Str):Prop:=sc.names.lookup x=some .local\/sc.names.lookup x=some .cell\/sc.names.lookup x=some .free
def Loc(sc:Scope)(x:Str):Prop:=sc.names.lookup x=some .local\/sc.names.lookup x=some .cell
def Yam(env:Env)(h:Heap)(m:Str->Option Value)(x:Str)(u:Value):Prop :=
 (env.kindOf x=some .local/\m x=some u)\/((env.kindOf x=some .cell\/env.kindOf x=some .free)/\∃c,env.cells.lookup x=some c/\h.IsCell c (some u))
structure Cx.Ok(X:Cx):Prop where
 mod:Mod X.K X.mg X.base
 kind:X.env.scope.kind=.function
 glob:X.env.globals=mainGlobals
 blt:X.env.builtins=builtinsNs
 above:X.s₀.heap.objs.size<=X.env.locals
 inj:∀x y c,X.env.cells.lookup x=some c->X.env.cells.lookup y=some c->x=y
 has:∀x,(X.env.kindOf x=some .cell\/X.env.kindOf x=some .free)->∃c,X.env.cells.lookup x=some c
 cab:∀x c,X.fn x=true->X.env.cells.lookup x=some c->X.s₀.heap.objs.size<=c
 hd:X.calm=true->X.A.handled=none
 frames:X.A.frames=some X.stack
 stk:X.stack=X.outer\/(X.stack=X.env ::X.outer/\X.env.frame=some X.env.locals)
 exf:∀b∈X.ex,b≠X.env.locals/\∀x c,X.env.cells.lookup x=some c->c≠b
 bs:∀b o,X.base.get? b=some o->X.s₀.heap.get? b=some o/\X.H₀ b=none
 bsz:X.base.objs.size<=X.s₀.heap.objs.size
 noex:∀b o,X.base.get? b=some o->b∉X.ex
 exfs:∀b∈X.ex,b∉X.fs
 funs:X.s₀.heap.FunFrames X.base X.outer
 frf:∀b∈X.fs,X.H₀ b=none
structure Inv(X:Cx)(pins:List (Addr×Obj))(σ:List (Option V))(H:Hp)(s:Shared):Prop where
 ok:X.Ok
 os:s.os=X.s₀.os
 bare:AllBare s.gens
 base:Un X.fs X.ex X.H₀ H X.s₀.heap s.heap
 loc:∃m,s.heap.Ns X.env.locals m/\∀(i:Nat) (x:Str) (v:V),X.N[i]? =some x->σ[i]? =some (some v)->Vis X.env.scope x->∃u,Yk v u/\Yam X.env s.heap m x u
 cell:∀x c,X.env.cells.lookup x=some c->∃v,s.heap.IsCell c v
 free:H X.env.locals=none
 freeC:∀x c,X.env.cells.lookup x=some c->H c=none
 pin:∀p∈X.pn++pins,s.heap.get? p.1=some p.2/\H p.1=none/\p.1≠X.env.locals/\p.1∉X.fs/\∀v,p.2.data ≠ .cell v
 hok:HOk X.prog X.w H s.heap
 len:σ.length=X.N.length
section
variable {X:Cx} {pins:List (Addr×Obj)} {σ:List (Option V)} {H H':Hp} {s:Shared} {h':Heap}
theorem Cx.Ok.nofr(ok:X.Ok){b:Addr}{o:Obj}(e:X.base.get? b=some o):b∉X.fs:=fun hb=>by
 have:=(ok.funs.mem hb).1
 rw [e] at this;cases this
theorem Inv.bs(I:Inv X pins σ H s):∀b o,X.base.get? b=some o->s.heap.get? b=some o/\H b=none:=fun b o e =>
 ⟨I.base.keep b o (I.ok.bs b o e).1 (I.ok.bs b o e).2 (I.ok.nofr e) (I.ok.noex b o e),I.base.free b o (I.ok.bs b o e).1 (I.ok.bs b o e).2 (I.ok.noex b o e)⟩
theorem Inv.bk(I:Inv X pins σ H s):∀b o,X.base.get? b=some o->s.heap.get? b=some o:=fun b o e=>(I.bs b o e).1
theorem Inv.mod(I:Inv X pins σ H s):Mod X.K X.mg X.base:=I.ok.mod
theorem Inv.kIn(I:Inv X pins σ H s):X.K.In s.heap:=I.ok.mod.kin.keeps I.bk
theorem Inv.fr(I:Inv X pins σ H s):∃m,Fr X.base X.env.locals s.heap m :=
 let ⟨m,hn,_⟩:=I.loc
 ⟨m,hn,I.bk,Nat.le_trans I.ok.bsz I.ok.above⟩
theorem Inv.lt(I:Inv X pins σ H s):X.env.locals<s.heap.objs.size:=let ⟨_,hn,_⟩:=I.loc;hn.lt
theorem Inv.sz(I:Inv X pins σ H s):X.s₀.heap.objs.size<=s.heap.objs.size:=Nat.le_trans I.ok.above (Nat.le_of_lt I.lt)
theorem Inv.nofs(I:Inv X pins σ H s){a:Addr}(h:s.heap.objs.size<=a):a∉X.fs:=fun hb=>by
 obtain ⟨_,o,ho,_⟩:=I.ok.funs.mem hb
 exact absurd (Nat.lt_of_lt_of_le (Heap.lt_size ho) (Nat.le_trans I.sz h)) (Nat.lt_irrefl _)
theorem Inv.cne(I:Inv X pins σ H s):∀x c,X.env.cells.lookup x=some c->c≠X.env.locals:=fun x c e z=>by
 obtain ⟨v,o,ho,hd⟩:=I.cell x c e
 obtain ⟨m,⟨o',es,ep,ho',hd',_⟩,_⟩:=I.loc
 rw [z,ho'] at ho;cases ho;rw [hd'] at hd;cases hd
theorem Inv.funs(I:Inv X pins σ H s):s.heap.FunFrames X.base X.outer:=by
 have all:∀(l:List Env),(∀b∈frs l,b∈X.fs)->X.s₀.heap.FunFrames X.base l->s.heap.FunFrames X.base l:=by
  intro l
  induction l with
  | nil=>intro _ _;trivial
  | cons env r ih =>
   intro hs hl
   obtain ⟨hk,⟨L,o,hf,hn,ho,hd⟩,hr⟩:=hl
   have hL:L∈X.fs:=hs L (by unfold frs;rw [List.filterMap_cons,hf];exact List.mem_cons_self)
   obtain ⟨sl,e⟩:=I.base.slot L o ho (I.ok.frf L hL) hL fun z=>I.ok.exfs L z hL
   exact ⟨hk,⟨L,_,hf,hn,e,hd⟩,ih (fun b hb=>hs b (by unfold frs;rw [List.filterMap_cons,hf];exact List.mem_cons_of_mem _ hb)) hr⟩
 exact all X.outer (fun _ hb=>hb) I.ok.funs
theorem Inv.stack(I:Inv X pins σ H s):s.heap.FunFrames X.base X.stack:=by
 rcases I.ok.stk with e|⟨e,hf⟩
 ·rw [e];exact I.funs
 ·rw [e]
  obtain ⟨m,hn,_⟩:=I.loc
  refine .cons (by rw [I.ok.kind];decide) hf hn ?_ I.funs
  exact Heap.get?_none_of_le (Nat.le_trans I.ok.bsz I.ok.above)
theorem Inv.stkSub(I:Inv X pins σ H s):∀b∈frs X.stack,b∈X.env.locals ::X.fs:=fun b hb=>by
 rcases I.ok.stk with e|⟨e,hf⟩
 ·rw [e] at hb;exact List.mem_cons_of_mem _ hb
 ·rw [e] at hb
  unfold frs at hb
  rw [List.filterMap_cons,hf] at hb
  exact hb
theorem Inv.stkFree(I:Inv X pins σ H s):∀b∈frs X.stack,H b=none:=fun b hb=>by
 rcases List.mem_cons.mp (I.stkSub b hb) with e|hb
 ·rw [e];exact I.free
 ·obtain ⟨_,o,ho,_⟩:=I.ok.funs.mem hb
  exact I.base.free b o ho (I.ok.frf b hb) fun z=>I.ok.exfs b z hb
theorem Inv.step{g':Array GenState}{t':Nat}{d':Drawn}{ch:List Addr}(I:Inv X pins σ H s)
  (hch:∀b∈ch,(b∈X.ex\/X.s₀.heap.objs.size<=b)/\b≠X.env.locals/\(∀x c,X.env.cells.lookup x=some c->c≠b)/\∀p∈X.pn++pins,p.1≠b)
  (keep:∀b o,b≠X.env.locals->b∉X.fs->b∉ch->s.heap.get? b=some o->H b=none->h'.get? b=some o)
  (slot:∀b o,b≠X.env.locals->b∈X.fs->b∉ch->s.heap.get? b=some o->H b=none->∃sl,h'.get? b=some { o with slots:=sl }) (free:∀b o,b∉ch->s.heap.get? b=some o->H b=none->H' b=none)
  (there:∀b o,b∉ch->s.heap.get? b=some o->∃o',h'.get? b=some o')
  (tups:∀b xs,H b=some (.tup xs)->H' b=some (.tup xs)) (frzs:∀b o u,H b=some (.frz o u)->H' b=some (.frz o u)) (tbls:∀b ps,H b=some (.tbl ps)->∃more,H' b=some (.tbl (ps++more)))
  (ns:∀m,s.heap.Ns X.env.locals m->h'.Ns X.env.locals m) (hok:HOk X.prog X.w H' h') (hg:AllBare g') :
  Inv X pins σ H' { s with heap:=h',gens:=g',drawn:=d',toks:=t' }:=by
 have neL:∀b o,X.s₀.heap.get? b=some o->b≠X.env.locals:=fun b o e=>Nat.ne_of_lt (Nat.lt_of_lt_of_le (Heap.lt_size e) I.ok.above)
 have neC:∀b o,X.s₀.heap.get? b=some o->b∉X.ex->b∉ch:=fun b o e hx hb=>by
  rcases (hch b hb).1 with z|z
  ·exact hx z
  ·exact absurd (Nat.lt_of_lt_of_le (Heap.lt_size e) z) (Nat.lt_irrefl _)
 have cellK:∀x c,X.env.cells.lookup x=some c->∀v,s.heap.IsCell c v->h'.IsCell c v:=fun x c e v ⟨o,ho,hd⟩=>by
  have nch:c∉ch:=fun z=>(hch c z).2.2.1 x c e rfl
  by_cases hc:c∈X.fs
  ·obtain ⟨sl,q⟩:=slot c o (I.cne x c e) hc nch ho (I.freeC x c e)
   exact ⟨_,q,hd⟩
  ·exact ⟨o,keep c o (I.cne x c e) hc nch ho (I.freeC x c e),hd⟩
 refine ⟨I.ok,I.os,hg,⟨fun b o e n hb hx=>?_,fun b o e n hb hx=>?_,fun b o e n hx=>?_,fun b o e hx=>?_,fun b xs e=>tups b xs (I.base.tups b xs e),fun b o xs e=>frzs b o xs (I.base.frzs b o xs e),fun b ps e=>?_⟩,?_,fun x c e=>?_,?_,fun x c e=>?_,fun p hp=>?_,hok,I.len⟩
 ·exact keep b o (neL b o e) hb (neC b o e hx) (I.base.keep b o e n hb hx) (I.base.free b o e n hx)
 ·obtain ⟨sl,e1⟩:=I.base.slot b o e n hb hx
  obtain ⟨sl',e2⟩:=slot b _ (neL b o e) hb (neC b o e hx) e1 (I.base.free b o e n hx)
  exact ⟨sl',e2⟩
 ·obtain ⟨o',e1⟩:=I.base.there b o e hx
  exact free b o' (neC b o e hx) e1 (I.base.free b o e n hx)
 ·obtain ⟨o',e1⟩:=I.base.there b o e hx
  exact there b o' (neC b o e hx) e1
 ·obtain ⟨m1,e1⟩:=I.base.tbls b ps e
  obtain ⟨m2,e2⟩:=tbls b _ e1
  exact ⟨m1++m2,by rw [e2,Array.append_assoc]⟩
 ·obtain ⟨m,hn,hl⟩:=I.loc
  refine ⟨m,ns m hn,fun i x v e1 e2 e3=>?_⟩
  obtain ⟨u,r,l⟩:=hl i x v e1 e2 e3
  refine ⟨u,r,?_⟩
  rcases l with l|⟨k,c,e,z⟩
  ·exact .inl l
  ·exact .inr ⟨k,c,e,cellK x c e _ z⟩
 ·obtain ⟨v,z⟩:=I.cell x c e
  exact ⟨v,cellK x c e v z⟩
 ·obtain ⟨m,⟨o,_,_,ho,_⟩,_⟩:=I.loc
  exact free _ o (fun z=>(hch _ z).2.1 rfl) ho I.free
 ·obtain ⟨v,o,ho,hd⟩:=I.cell x c e
  exact free c o (fun z=>(hch c z).2.2.1 x c e rfl) ho (I.freeC x c e)
 ·obtain ⟨e,n,ne,nf,d⟩:=I.pin p hp
  have nch:p.1∉ch:=fun z=>(hch p.1 z).2.2.2 p hp rfl
  exact ⟨keep p.1 p.2 ne nf nch e n,free p.1 p.2 nch e n,ne,nf,d⟩
theorem Inv.un{t':Nat}(I:Inv X pins σ H s)(u:Un X.fs [] H H' s.heap h')(hok:HOk X.prog X.w H' h'):Inv X pins σ H' { s with heap:=h',toks:=t' }:=by
 obtain ⟨m,⟨o,es,ep,ho,r⟩,_⟩:=id I.loc
 obtain ⟨sl,hL⟩:=u.any ho I.free (by simp)
 exact I.step (g':=s.gens) (d':=s.drawn) (ch:=[]) (fun _ z=>nomatch z) (fun b o _ hb _ e n=>u.keep b o e n hb (by simp)) (fun b o _ hb _ e n=>u.slot b o e n hb (by simp)) (fun b o _ e n=>u.free b o e n (by simp)) (fun b o _ e=>u.there b o e (by simp)) u.tups u.frzs u.tbls (fun m' hm=>by
  obtain ⟨o',es',ep',ho',r'⟩:=hm
  rw [ho] at ho';cases ho'
  exact ⟨_,es',ep',hL,r'⟩) hok I.bare
theorem Inv.call{g':Array GenState}{t':Nat}{d':Drawn}{ch:List Addr}(I:Inv X pins σ H s)(u:Un (frs X.stack) ch H H' s.heap h')(hok:HOk X.prog X.w H' h')(hg:AllBare g')
  (hch:∀b∈ch,(b∈X.ex\/X.s₀.heap.objs.size<=b)/\b≠X.env.locals/\(∀x c,X.env.cells.lookup x=some c->c≠b)/\∀p∈X.pn++pins,p.1≠b) :
  Inv X pins σ H' { s with heap:=h',gens:=g',drawn:=d',toks:=t' }:=by
 obtain ⟨m,⟨o,es,ep,ho,r⟩,_⟩:=id I.loc
 obtain ⟨sl,hL⟩:=u.any ho I.free fun z=>(hch _ z).2.1 rfl
 exact I.step (ch:=ch) hch (fun b o hL hb hc e n=>u.keep b o e n (fun z=>(List.mem_cons.mp (I.stkSub b z)).elim hL hb) hc) (fun b o _ _ hc e n=>u.any e n hc) (fun b o hc e n=>u.free b o e n hc) (fun b o hc e=>u.there b o e hc) u.tups u.frzs u.tbls (fun m' hm=>by
  obtain ⟨o',es',ep',ho',r'⟩:=hm
  rw [ho] at ho';cases ho'
  exact ⟨_,es',ep',hL,r'⟩) hok hg
theorem Inv.turned{t':Nat}{it:Addr}(I:Inv X pins σ H s)(k:∀b o,b≠it->s.heap.get? b=some o->h'.get? b=some o)(hn:H it=none)(hL:it≠X.env.locals)
  (h1:it∈X.ex\/X.s₀.heap.objs.size<=it) (h2:∀x c,X.env.cells.lookup x=some c->c≠it) (h3:∀p∈X.pn++pins,p.1≠it):Inv X pins σ H { s with heap:=h',toks:=t' }:=by
 have nit:∀b u,H b=some u->b≠it:=fun b u e z=>by rw [z,hn] at e;cases e
 refine I.step (g':=s.gens) (d':=s.drawn) (ch:=[it]) (fun b hb=>?_) (fun b o _ _ hc e _=>k b o (fun z=>hc (by simp [z])) e) (fun b o _ _ hc e _=>⟨o.slots,k b o (fun z=>hc (by simp [z])) e⟩) (fun _ _ _ _ n=>n)
  (fun b o hc e=>⟨o,k b o (fun z=>hc (by simp [z])) e⟩) (fun _ _ e=>e) (fun _ _ _ e=>e) (fun b ps e=>⟨#[],by rw [e];simp⟩) (fun m hm=>?_) (fun b u e=>?_) I.bare
 ·have e:b=it:=by simpa using hb
  subst e
  exact ⟨h1,hL,h2,h3⟩
 ·obtain ⟨o,es,ep,ho,r⟩:=hm
  exact ⟨o,es,ep,k _ o (Ne.symm hL) ho,r⟩
 ·refine (I.hok b u e).stay (fun c v hc q=>k c v ?_ q) (fun _ q=>q) fun _ _ q=>q
  rcases hc with z|z
  ·rw [z];exact nit b u e
  ·exact nit c _ z
theorem Inv.tok(I:Inv X pins σ H s)(t:Nat):Inv X pins σ H { s with toks:=t }:=I.un (h':=s.heap) (t':=t) Un.refl I.hok
theorem Inv.kept{t':Nat}(I:Inv X pins σ H s)(k:∀b u,s.heap.get? b=some u->h'.get? b=some u):Inv X pins σ H { s with heap:=h',toks:=t' }:=I.un (Un.kept k) (I.hok.kept k)
theorem Inv.laid{a:Addr}{o:HO}{t':Nat}(I:Inv X pins σ H s)(k:∀b u,s.heap.get? b=some u->h'.get? b=some u)(hp:s.heap.objs.size<=a)(new:Yn X.prog X.w (upd H a o) h' a o) :
  Inv X pins σ (upd H a o) { s with heap:=h',toks:=t' }:=I.un (Un.laid k hp (I.hok.fresh hp)) (I.hok.laid k hp new)
theorem Inv.write{x e:Addr}{o:HO}{t':Nat}(I:Inv X pins σ H s)(mu:Mut (H x))(he:e=x\/H e=some (.own x))(k:∀b u,b≠e->s.heap.get? b=some u->h'.get? b=some u)(heo:∃u,h'.get? e=some u)
  (new:Yn X.prog X.w (upd H x o) h' x o):Inv X pins σ (upd H x o) { s with heap:=h',toks:=t' }:=I.un (Un.write mu he k heo) (I.hok.write mu he k heo new)
theorem Inv.weak{σ':List (Option V)}(I:Inv X pins σ H s)(hl:σ'.length=σ.length)(w:∀(i:Nat) v,σ'[i]? =some (some v)->σ[i]? =some (some v)):Inv X pins σ' H s :=
 ⟨I.ok,I.os,I.bare,I.base,let ⟨m,hn,hl'⟩:=I.loc;⟨m,hn,fun i x v e1 e2 e3=>hl' i x v e1 (w i v e2) e3⟩,I.cell,I.free,I.freeC,I.pin,I.hok,hl.trans I.len⟩
theorem Inv.pins_of{pins':List (Addr×Obj)}(I:Inv X pins σ H s)(h:∀p∈pins',s.heap.get? p.1=some p.2/\H p.1=none/\p.1≠X.env.locals/\p.1∉X.fs/\∀v,p.2.data ≠ .cell v):Inv X pins' σ H s :=
 ⟨I.ok,I.os,I.bare,I.base,I.loc,I.cell,I.free,I.freeC,fun p hp=>(List.mem_append.mp hp).elim (fun z=>I.pin p (List.mem_append_left _ z)) (h p),I.hok,I.len⟩
theorem Zmt{N:List Str}(hN:N.Nodup){i j:Nat}{x:Str}(a:N[i]? =some x)(b:N[j]? =some x):i=j:=by
 obtain ⟨h1,e1⟩:=List.getElem?_eq_some_iff.mp a
 obtain ⟨h2,e2⟩:=List.getElem?_eq_some_iff.mp b
 exact (List.getElem_inj hN).mp (e1.trans e2.symm)
theorem Zqc{M:Model}{A:Around}{E:Value->Shared->Prop}{i:Nat}{x:Str}{v:V}{u:Value}{Q:Unit->Shared->Prop}(I:Inv X pins σ H s)(hN:X.N.Nodup)(hi:X.N[i]? =some x)(hx:Loc X.env.scope x)(r:Yk v u)
  (h:∀s',Inv X pins (σ.set i (some v)) H s'->(∃a,Heap.SameBut a s.heap s'.heap/\(a=X.env.locals\/X.env.cells.lookup x=some a))->Q () s') (hf:X.fn x=true\/X.env.scope.names.lookup x=some .local:=by first | exact .inl rfl | exact .inr rfl | assumption):wpAny M A (storeName X.env x u) Q E s:=by
 obtain ⟨m,hn,hl⟩:=id I.loc
 have hcls:(X.env.scope.kind ==.class || (X.env.scope.kind ==.module && X.env.locals !=X.env.globals))=false:=by rw [I.ok.kind];rfl
 have hiσ:i<σ.length:=by rw [I.len];exact (List.getElem?_eq_some_iff.mp hi).1
 have cne:=I.cne
 have tracked:∀{a:Addr} {h':Heap},(∃o,s.heap.get? a=some o/\H a=none)->Heap.SameBut a s.heap h'->HOk X.prog X.w H h':=fun {a h'} ha hs b ob e=>by
  obtain ⟨_,_,hfree⟩:=ha
  refine (I.hok b ob e).stay (fun c w' hc q=>(hs.2 c ?_).trans q) (fun _ q=>q) fun _ _ q=>q
  rintro rfl
  rcases hc with rfl|hc
  ·rw [hfree] at e;cases e
  ·rw [hfree] at hc;cases hc
 rcases hx with hk|hk
 ·refine wpAny_storeName_local hk hn (fun h' hn' hs=>?_) hcls
  obtain ⟨oL,_,_,hoL,_⟩:=id hn
  refine h _ ⟨I.ok,I.os,I.bare,⟨fun b o e n hb hx=>?_,fun b o e n hb hx=>?_,I.base.free,fun b o e hx=>?_,I.base.tups,I.base.frzs,I.base.tbls⟩,⟨_,hn',fun j y v' e1 e2 e3=>?_⟩,fun y c e=>?_,I.free,I.freeC,fun p hp=>?_,tracked ⟨oL,hoL,I.free⟩ hs,by simpa using I.len⟩ ⟨_,hs,.inl rfl⟩
  ·exact (hs.2 b (Nat.ne_of_lt (Nat.lt_of_lt_of_le (Heap.lt_size e) I.ok.above))).trans (I.base.keep b o e n hb hx)
  ·obtain ⟨sl,e1⟩:=I.base.slot b o e n hb hx
   exact ⟨sl,(hs.2 b (Nat.ne_of_lt (Nat.lt_of_lt_of_le (Heap.lt_size e) I.ok.above))).trans e1⟩
  ·obtain ⟨o',e1⟩:=I.base.there b o e hx
   exact ⟨o',(hs.2 b (Nat.ne_of_lt (Nat.lt_of_lt_of_le (Heap.lt_size e) I.ok.above))).trans e1⟩
  ·by_cases hj:j=i
   ·subst hj
    rw [hi] at e1;cases e1
    rw [List.getElem?_set_self hiσ] at e2
    cases e2
    exact ⟨u,r,.inl ⟨hk,by simp⟩⟩
   ·rw [List.getElem?_set_ne (Ne.symm hj)] at e2
    obtain ⟨u',r',q⟩:=hl j y v' e1 e2 e3
    refine ⟨u',r',?_⟩
    rcases q with ⟨k,e⟩|⟨k,c,e,z⟩
    ·refine .inl ⟨k,?_⟩
     have:y≠x:=fun e=>hj (Zmt hN e1 (e ▸ hi))
     simp [this,e]
    ·exact .inr ⟨k,c,e,z.sameBut hs (cne y c e)⟩
  ·obtain ⟨w',z⟩:=I.cell y c e
   exact ⟨w',z.sameBut hs (cne y c e)⟩
  ·obtain ⟨e,n,ne,nf,d⟩:=I.pin p hp
   exact ⟨(hs.2 p.1 ne).trans e,n,ne,nf,d⟩
 ·have hfn:X.fn x=true:=by
   rcases hf with z|z
   ·exact z
   ·rw [z] at hk;cases hk
  obtain ⟨c,hc⟩:=I.ok.has x (.inl hk)
  obtain ⟨w',z⟩:=I.cell x c hc
  refine wpAny_storeName_cell I.ok.kind hk hc z (fun h' hc' hs=>?_)
  obtain ⟨oc,hoc,hocd⟩:=id z
  refine h { s with heap:=h' } ⟨I.ok,I.os,I.bare,⟨fun b o e n hb hx=>?_,fun b o e n hb hx=>?_,I.base.free,fun b o e hx=>?_,I.base.tups,I.base.frzs,I.base.tbls⟩,⟨m,hn.sameBut hs (Ne.symm (cne x c hc)),fun j y v' e1 e2 e3=>?_⟩,fun y c' e=>?_,I.free,I.freeC,fun p hp=>?_,tracked ⟨oc,hoc,I.freeC x c hc⟩ hs,by simpa using I.len⟩ ⟨c,hs,.inr hc⟩
  ·exact (hs.2 b (Nat.ne_of_lt (Nat.lt_of_lt_of_le (Heap.lt_size e) (I.ok.cab x c hfn hc)))).trans (I.base.keep b o e n hb hx)
  ·obtain ⟨sl,e1⟩:=I.base.slot b o e n hb hx
   exact ⟨sl,(hs.2 b (Nat.ne_of_lt (Nat.lt_of_lt_of_le (Heap.lt_size e) (I.ok.cab x c hfn hc)))).trans e1⟩
  ·obtain ⟨o',e1⟩:=I.base.there b o e hx
   exact ⟨o',(hs.2 b (Nat.ne_of_lt (Nat.lt_of_lt_of_le (Heap.lt_size e) (I.ok.cab x c hfn hc)))).trans e1⟩
  ·by_cases hj:j=i
   ·subst hj
    rw [hi] at e1;cases e1
    rw [List.getElem?_set_self hiσ] at e2
    cases e2
    exact ⟨u,r,.inr ⟨.inl hk,c,hc,hc'⟩⟩
   ·rw [List.getElem?_set_ne (Ne.symm hj)] at e2
    obtain ⟨u',r',q⟩:=hl j y v' e1 e2 e3
    refine ⟨u',r',?_⟩
    rcases q with q|⟨k,c',e,z'⟩
    ·exact .inl q
    ·refine .inr ⟨k,c',e,z'.sameBut hs ?_⟩
     rintro rfl
     exact hj (Zmt hN e1 (I.ok.inj _ _ _ e hc ▸ hi))
  ·by_cases hcc:c'=c
   ·subst hcc;exact ⟨_,hc'⟩
   ·obtain ⟨w2,z2⟩:=I.cell y c' e
    exact ⟨w2,z2.sameBut hs hcc⟩
  ·obtain ⟨e,n,ne,nf,d⟩:=I.pin p hp
   refine ⟨(hs.2 p.1 ?_).trans e,n,ne,nf,d⟩
   intro q
   rw [q,hoc] at e
   have q':oc=p.2:=Option.some.inj e
   exact d w' (by rw [<-q'];exact hocd)
theorem Zne{M:Model}{A:Around}{E:Value->Shared->Prop}{i:Nat}{x:Str}{v:V}{u:Value}{Q:Unit->Shared->Prop}(I:Inv X pins σ H s)(hN:X.N.Nodup)(hi:X.N[i]? =some x)(hx:Loc X.env.scope x)(r:Yk v u)
  (h:∀s',Inv X pins (σ.set i (some v)) H s'->Q () s') (hf:X.fn x=true\/X.env.scope.names.lookup x=some .local:=by first | exact .inl rfl | exact .inr rfl | assumption):wpAny M A (storeName X.env x u) Q E s :=
 Zqc I hN hi hx r (fun s' I' _=>h s' I') hf
theorem Inv.call'{s':Shared}{ch:List Addr}(I:Inv X pins σ H s)(ho:s'.os=s.os)(u:Un (frs X.stack) ch H H' s.heap s'.heap)(hok:HOk X.prog X.w H' s'.heap)(hg:AllBare s'.gens)
  (hch:∀b∈ch,(b∈X.ex\/X.s₀.heap.objs.size<=b)/\b≠X.env.locals/\(∀x c,X.env.cells.lookup x=some c->c≠b)/\∀p∈X.pn++pins,p.1≠b):Inv X pins σ H' s':=by
 obtain ⟨h',g',d',t',o'⟩:=s'
 have e:o'=s.os:=ho
 subst e
 exact I.call (g':=g') (t':=t') (d':=d') u hok hg hch
end
abbrev XK:=Value->Option Addr->Hp->Prop
abbrev St:=List (Option V)
abbrev VK:=V->Hp->Prop
abbrev TE:=St->Hp->VK->Prop
abbrev TT:=St->Hp->(Bool->Hp->Prop)->Prop
abbrev TA:=St->Hp->(List V->Hp->Prop)->Prop
structure Ze5 where
 nx:St->Hp->Prop
 rt:VK
 bk:St->Hp->Prop:=fun _ _=>False
 ct:St->Hp->Prop:=fun _ _=>False
abbrev TS:=Ze5->St->Hp->Prop
def EP(X:Cx)(pins:List (Addr×Obj))(σ:St)(Q:VK)(u:Value)(s':Shared):Prop:=∃v H',Inv X pins σ H' s'/\Yk v u/\Q v H'
def TP(X:Cx)(pins:List (Addr×Obj))(σ:St)(Q:Bool->Hp->Prop)(b:Bool)(s':Shared):Prop:=∃H',Inv X pins σ H' s'/\Q b H'
def AP(X:Cx)(pins:List (Addr×Obj))(σ:St)(Q:List V->Hp->Prop)(us:List Value)(s':Shared):Prop:=∃vs H',Inv X pins σ H' s'/\Yc vs us/\Q vs H'
def SP(X:Cx)(pins:List (Addr×Obj))(D:Ze5)(f:Flow)(s':Shared):Prop :=
 match f with
 | .next=>∃σ' H',Inv X pins σ' H' s'/\D.nx σ' H'
 | .brk=>∃σ' H',Inv X pins σ' H' s'/\D.bk σ' H'
 | .cont=>∃σ' H',Inv X pins σ' H' s'/\D.ct σ' H'
 | .ret u=>∃v σ' H',Inv X pins σ' H' s'/\Yk v u/\D.rt v H'
def PE(X:Cx)(e:Expr)(t:TE):Prop :=
 ∀(pins:List (Addr×Obj)) (s:Shared) (σ:St) (H:Hp) (Q:VK),Inv X pins σ H s->t σ H Q->wpAny (model X.prog X.w) X.A (eval e X.env) (EP X pins σ Q) X.xe s
def PT(X:Cx)(e:Expr)(t:TT):Prop :=
 ∀(pins:List (Addr×Obj)) (s:Shared) (σ:St) (H:Hp) (Q:Bool->Hp->Prop),Inv X pins σ H s->t σ H Q->wpAny (model X.prog X.w) X.A (isTrue e X.env (eval e X.env)) (TP X pins σ Q) X.xe s
def PW(X:Cx)(e:Expr)(t:TT):Prop :=
 ∀(whole:Sem Value) (pins:List (Addr×Obj)) (s:Shared) (σ:St) (H:Hp) (Q:Bool->Hp->Prop),Inv X pins σ H s->t σ H Q->wpAny (model X.prog X.w) X.A (isTrue e X.env whole) (TP X pins σ Q) X.xe s
theorem PW.pt{X:Cx}{e:Expr}{t:TT}(h:PW X e t):PT X e t:=h _
def PA(X:Cx)(es:List Expr)(t:TA):Prop :=
 ∀(pos:Pos) (pins:List (Addr×Obj)) (s:Shared) (σ:St) (H:Hp) (Q:List V->Hp->Prop),Inv X pins σ H s->t σ H Q->wpAny (model X.prog X.w) X.A (spliced (backTo pos (starEach es X.env))) (AP X pins σ Q) X.xe s
def PS(X:Cx)(st:Stmt)(t:TS):Prop :=
 ∀(pins:List (Addr×Obj)) (s:Shared) (σ:St) (H:Hp) (D:Ze5),Inv X pins σ H s->t D σ H->wpAny (model X.prog X.w) X.A (exec st X.env) (SP X pins D) X.xe s
def PSs(X:Cx)(st:List Stmt)(t:TS):Prop :=
 ∀(pins:List (Addr×Obj)) (s:Shared) (σ:St) (H:Hp) (D:Ze5),Inv X pins σ H s->t D σ H->wpAny (model X.prog X.w) X.A (execs st X.env) (SP X pins D) X.xe s
theorem thn{α:Type}{t:Sem α}{Q Q':α->Shared->Prop}{M:Model}{A:Around}{E:Value->Shared->Prop}{s:Shared}(h:wpAny M A t Q E s)(hQ:∀a s,Q a s->Q' a s):wpAny M A t Q' E s:=wpAny_mono h hQ fun _ _ x=>x
end L2
namespace L2
open PySem PySem.Spec PyProof.Rows
section
variable {X:Cx}
theorem bin{a b:Expr}{ta tb:TE}(ha:PE X a ta)(hb:PE X b tb){pins:List (Addr×Obj)}{s:Shared}{σ:St}{H:Hp}{R:V->V->Hp->Prop}(I:Inv X pins σ H s)(h:ta σ H fun x H1=>tb σ H1 fun y H2=>R x y H2)
  {α:Type} {Q:α->Shared->Prop} {f:Value->Value->Sem α}
  (hf:∀v u s2 x y H2,Inv X pins σ H2 s2->Yk x v->Yk y u->R x y H2->wpAny (model X.prog X.w) X.A (f v u) Q X.xe s2) :
  wpAny (model X.prog X.w) X.A (eval a X.env) (fun v s₁=>wpAny (model X.prog X.w) X.A (eval b X.env) (fun u s₂=>wpAny (model X.prog X.w) X.A (f v u) Q X.xe s₂) X.xe s₁) X.xe s:=by
 refine thn (ha pins s σ H _ I h) fun v s1 ⟨x,H1,I1,r1,q1⟩=>?_
 refine thn (hb pins s1 σ H1 _ I1 q1) fun u s2 ⟨y,H2,I2,r2,q2⟩=>?_
 exact hf v u s2 x y H2 I2 r1 r2 q2
def Zjc(i:Nat):TE:=fun σ H Q=>∃v,σ[i]? =some (some v)/\Q v H
def tC(v:V):TE:=fun _ H Q=>Q v H
theorem Zxs{i:Nat}{x:Str}{pos:Pos}(hN:X.N[i]? =some x)(hv:Vis X.env.scope x) (hd:(x ==("__debug__" :Str))=false:=by decide) (hcd:(x ==("__classdict__" :Str))=false:=by decide):PE X (.Name x pos) (Zjc i):=by
 intro pins s σ H Q I h
 obtain ⟨v,e,h⟩:=h
 obtain ⟨m,hn,hl⟩:=I.loc
 obtain ⟨u,r,l⟩:=hl i x v hN e hv
 have fin:EP X pins σ Q u s:=⟨v,H,I,r,h⟩
 rcases l with ⟨hk,hm⟩|⟨hk,c,hc,hcell⟩
 ·exact wpAny_Name (wpAny_loadName_local I.ok.kind hk hn hm fin) hd
 ·rcases hk with hk|hk
  ·exact wpAny_Name (wpAny_loadName_cell I.ok.kind hk hc hcell fin) hd
  ·exact wpAny_Name (wpAny_loadName_free I.ok.kind hk hc hcell fin hcd) hd
theorem Zf{i j pos}:PE X (.Constant (.int i) j pos) (tC (.int i)):=fun _ _ _ H _ I h=>wpAny_Constant_int ⟨.int i,H,I.tok _,⟨_,rfl⟩,h⟩
theorem Zph{b j pos}:PE X (.Constant (.bool b) j pos) (tC (.bl b)):=fun _ _ _ H _ I h=>Constant_bool ⟨.bl b,H,I,rfl,h⟩
theorem Zxx{j pos}:PE X (.Constant .none j pos) (tC .non):=fun _ _ _ H _ I h=>Constant_none ⟨.non,H,I,rfl,h⟩
theorem Ze{x j pos}:PE X (.Constant (.str x) j pos) (tC (.str x)):=fun _ _ _ H _ I h=>Calls.Constant_str ⟨.str x,H,I.tok _,⟨_,rfl⟩,h⟩
def Gl(X:Cx)(x:Str):Prop:=X.env.kindOf x=some .globalImplicit
theorem Zl0{E:Value->Shared->Prop}{pins:List (Addr×Obj)}{s:Shared}{σ:St}{H:Hp}{x:Str}{u:Value}{pos:Pos}{Q:Value->Shared->Prop}(I:Inv X pins σ H s)(hg:Gl X x)(hm:X.mg x=some u)(h:Q u s)
  (hd:(x ==("__debug__" :Str))=false:=by decide):wpAny (model X.prog X.w) X.A (eval (.Name x pos) X.env) Q E s :=
 Calls.Name_function_global I.ok.kind hg (Calls.loadGlobal_global (by rw [I.ok.glob];exact I.mod.glob.keeps I.bk) hm h) hd
theorem Zem{E:Value->Shared->Prop}{pins:List (Addr×Obj)}{s:Shared}{σ:St}{H:Hp}{x:Str}{u:Value}{pos:Pos}{Q:Value->Shared->Prop}(I:Inv X pins σ H s)(hg:Gl X x)(hm:X.mg x=none)(hv:bootBuiltins x=some u)(h:Q u s)
  (hn:x ≠ "__name__" :=by decide) (hd:(x ==("__debug__" :Str))=false:=by decide):wpAny (model X.prog X.w) X.A (eval (.Name x pos) X.env) Q E s:=by
 obtain ⟨mb,h1,h2⟩:=I.mod.blt
 exact Calls.Name_function_global I.ok.kind hg (Calls.loadGlobal_builtin (by rw [I.ok.glob];exact I.mod.glob.keeps I.bk) hm (by rw [I.ok.blt];exact h1.keeps I.bk) ((h2 x hn).trans hv) h) hd
theorem Zeq{x:Str}{v:V}{u:Value}{pos:Pos}(hg:Gl X x)(hm:X.mg x=some u)(r:Yk v u) (hd:(x ==("__debug__" :Str))=false:=by decide):PE X (.Name x pos) (tC v) :=
 fun _ _ _ H _ I h=>Zl0 I hg hm ⟨v,H,I,r,h⟩ hd
theorem Zg6{x:Str}{v:V}{u:Value}{pos:Pos}(hg:Gl X x)(hm:X.mg x=none)(hv:bootBuiltins x=some u)(r:Yk v u) (hn:x ≠ "__name__" :=by decide) (hd:(x ==("__debug__" :Str))=false:=by decide):PE X (.Name x pos) (tC v) :=
 fun _ _ _ H _ I h=>Zem I hg hm hv ⟨v,H,I,r,h⟩ hn hd
variable {a b:Expr} {ta tb:TE} {pos:Pos}
def PC(X:Cx)(op:CmpOp)(a b:Expr)(t:TE):Prop :=
 ∀(pins:List (Addr×Obj)) (s:Shared) (σ:St) (H:Hp) (Q:VK),Inv X pins σ H s->t σ H Q ->
  wpAny (model X.prog X.w) X.A (eval a X.env) (fun v s₁=>wpAny (model X.prog X.w) X.A (eval b X.env) (fun u s₂=>wpAny (model X.prog X.w) X.A (compareOp op v u) (EP X pins σ Q) X.xe s₂) X.xe s₁) X.xe s
def tB(t:TE):TT:=fun σ H Q=>t σ H fun x H1=>∃c,x=.bl c/\Q c H1
theorem Yao{op:CmpOp}{t:TE}(h:PC X op a b t)(h1:behindInMarks op b=false:=by first | exact nobehind _ (by decide) (by decide) | rfl):PT X (.Compare a [op] [b] pos) (tB t):=by
 intro pins s σ H Q I hw
 refine wpAny_isTrue_Compare1 (thn (h pins s σ H _ I hw) fun v s1 h1=>thn h1 fun u s2 h2=>thn h2 fun c s3 ⟨x,H1,I1,r1,q1⟩=>?_) h1
 obtain ⟨d,rfl,q⟩:=q1
 cases r1
 exact wpAny_truthy_bool ⟨H1,I1,q⟩
theorem Zad{e:Expr}{t:TE}(h:PE X e t)(he:∀whole,isTrue e X.env whole=(do let v <-whole;standAt e.pos;holding [v] (truthy v)):=by intro _;rfl):PT X e (tB t):=by
 intro pins s σ H Q I hw
 refine isTrue_plain (thn (h pins s σ H _ I hw) fun v s1 ⟨x,H1,I1,r1,q1⟩=>?_) (he _)
 obtain ⟨d,rfl,q⟩:=q1
 cases r1
 exact wpAny_truthy_bool ⟨H1,I1,q⟩
variable {tA tB':TT} {Z0:List Expr}
def Yar(t u:TT):TT:=fun σ H Q=>t σ H fun c H1=>if c=true then u σ H1 Q else Q false H1
def tOr(t u:TT):TT:=fun σ H Q=>t σ H fun c H1=>if c=true then Q true H1 else u σ H1 Q
def Yap(t:TT):TT:=fun σ H Q=>t σ H fun c H1=>Q (!c) H1
theorem Zew(ha:PT X a tA):PW X (.BoolOp .And [a] pos) tA:=by
 intro wh pins s σ H Q I h
 refine isTrue_and (thn (ha pins s σ H Q I h) fun c s1 e=>?_)
 cases c with
 | true=>exact isTrue_and_nil e
 | false=>exact e
theorem Zii(ha:PT X a tA):PW X (.BoolOp .Or [a] pos) tA:=by
 intro wh pins s σ H Q I h
 refine isTrue_or (thn (ha pins s σ H Q I h) fun c s1 e=>?_)
 cases c with
 | false=>exact isTrue_or_nil e
 | true=>exact e
theorem Zia(ha:PT X a tA)(hb:PW X (.BoolOp .And (b ::Z0) pos) tB'):PW X (.BoolOp .And (a ::b ::Z0) pos) (Yar tA tB'):=by
 intro wh pins s σ H Q I h
 refine isTrue_and (thn (ha pins s σ H _ I h) fun c s1 ⟨H1,I1,q1⟩=>?_)
 cases c with
 | true=>exact hb wh pins s1 σ H1 Q I1 q1
 | false=>exact ⟨H1,I1,q1⟩
theorem Zmj(ha:PT X a tA)(hb:PW X (.BoolOp .Or (b ::Z0) pos) tB'):PW X (.BoolOp .Or (a ::b ::Z0) pos) (tOr tA tB'):=by
 intro wh pins s σ H Q I h
 refine isTrue_or (thn (ha pins s σ H _ I h) fun c s1 ⟨H1,I1,q1⟩=>?_)
 cases c with
 | true=>exact ⟨H1,I1,q1⟩
 | false=>exact hb wh pins s1 σ H1 Q I1 q1
theorem Zdk(ha:PT X a tA):PT X (.UnaryOp .Not a pos) (Yap tA):=by
 intro pins s σ H Q I h
 exact isTrue_not (ha pins s σ H (fun c H1=>Q (!c) H1) I h)
def Zzt(ta tb:TE):TE:=fun σ H Q=>ta σ H fun x H1=>∃c,x=.bl c/\if c=true then tb σ H1 Q else Q (.bl false) H1
def Yah(ta tb:TE):TE:=fun σ H Q=>ta σ H fun x H1=>∃c,x=.bl c/\if c=true then Q (.bl true) H1 else tb σ H1 Q
theorem Zh3{op}{t:TE}(h:PE X a t):PE X (.BoolOp op [a] pos) t:=fun pins s σ H Q I hw=>BoolOp_one (h pins s σ H Q I hw)
theorem Zh9(ha:PE X a ta)(hb:PE X (.BoolOp .And (b ::Z0) pos) tb):PE X (.BoolOp .And (a ::b ::Z0) pos) (Zzt ta tb):=by
 intro pins s σ H Q I h
 refine BoolOp_and (thn (ha pins s σ H _ I h) fun v s1 ⟨x,H1,I1,r1,q1⟩=>?_)
 obtain ⟨c,rfl,q1⟩:=q1
 cases r1
 refine wpAny_truthy_bool ?_
 cases c with
 | true=>exact hb pins s1 σ H1 Q I1 q1
 | false=>exact ⟨.bl false,H1,I1,rfl,q1⟩
theorem Zwi(ha:PE X a ta)(hb:PE X (.BoolOp .Or (b ::Z0) pos) tb):PE X (.BoolOp .Or (a ::b ::Z0) pos) (Yah ta tb):=by
 intro pins s σ H Q I h
 refine BoolOp_or (thn (ha pins s σ H _ I h) fun v s1 ⟨x,H1,I1,r1,q1⟩=>?_)
 obtain ⟨c,rfl,q1⟩:=q1
 cases r1
 refine wpAny_truthy_bool ?_
 cases c with
 | false=>exact hb pins s1 σ H1 Q I1 q1
 | true=>exact ⟨.bl true,H1,I1,rfl,q1⟩
def tIf(t:TT)(ta tb:TE):TE:=fun σ H Q=>t σ H fun c H1=>if c=true then ta σ H1 Q else tb σ H1 Q
theorem Zcs{c:Expr}(hc:PT X c tA)(ha:PE X a ta)(hb:PE X b tb):PE X (.IfExp c a b pos) (tIf tA ta tb):=by
 intro pins s σ H Q I h
 refine wpAny_IfExp (thn (hc pins s σ H _ I h) fun d s1 ⟨H1,I1,q1⟩=>?_)
 cases d with
 | true=>exact ha pins s1 σ H1 Q I1 q1
 | false=>exact hb pins s1 σ H1 Q I1 q1
end
end L2
namespace L2
open PySem PySem.Spec PyProof.Rows
def SqL(K:Frag)(H:Hp)(a:Addr)(xs:List V):Prop :=
 Rd H a (.lst xs) \/
  ∃(o:Obj) (its:Array Value) (n:Nat),K.lookup a=some o/\o.cls=.type "list" /\o.dict=none/\o.data=.seq its n/\its.size<=sizeLine/\Yc xs its.toList
def SqT(K:Frag)(H:Hp)(a:Addr)(xs:List V):Prop :=
 Rd H a (.tup xs) \/
  ∃(o:Obj) (its:Array Value) (n:Nat),K.lookup a=some o/\o.cls=.type "tuple" /\o.data=.seq its n/\its.size<=sizeLine/\Yc xs its.toList
def Yaf:Value->Option V
 | .none=>some .non
 | .bool b=>some (.bl b)
 | .int i _=>some (.int i)
 | .str x _=>some (.str x)
 | .bytes b _=>some (.byt b)
 | .float b _=>some (.flt b)
 | .ref a=>some (.ref a)
 | .type n=>some (.ty n)
 | _=>none
theorem Yk.abs{x:V}{u:Value}(r:Yk x u):Yaf u=some x:=by
 cases x with
 | non=>cases r;rfl
 | bl _=>cases r;rfl
 | int _=>obtain ⟨t,rfl⟩:=r;rfl
 | str _=>obtain ⟨t,rfl⟩:=r;rfl
 | byt _=>obtain ⟨t,rfl⟩:=r;rfl
 | flt _=>obtain ⟨t,rfl⟩:=r;rfl
 | ref _=>cases r;rfl
 | ty _=>cases r;rfl
theorem Yk.inj{x y:V}{u:Value}(r:Yk x u)(q:Yk y u):x=y:=Option.some.inj (r.abs.symm.trans q.abs)
theorem Yc.inj:∀{xs ys:List V} {us:List Value},Yc xs us->Yc ys us->xs=ys
 | _,_,_,.nil,.nil=>rfl
 | _,_,_,.cons r t,.cons r' t'=>by rw [r.inj r',Yc.inj t t']
section
variable {X:Cx} {pins:List (Addr×Obj)} {σ:St} {H:Hp} {s:Shared} {a:Addr} {xs ys:List V}
theorem SqL.of{K:Frag}(h:H a=some (.lst xs)):SqL K H a xs:=.inl (.inl h)
theorem SqT.of{K:Frag}(h:H a=some (.tup xs)):SqT K H a xs:=.inl (.inl h)
theorem Inv.list(I:Inv X pins σ H s)(h:SqL X.K H a xs):∃its:List Value,Yc xs its/\PlainL s.heap a its.toArray/\xs.length<=sizeLine:=by
 rcases h with h|⟨o,its,n,hk,hc,hd,hs,hz,r⟩
 ·obtain ⟨z,its,n,r,e⟩:=h.ok I.hok
  exact ⟨its,r,⟨_,n,e,rfl,rfl,rfl⟩,z⟩
 ·refine ⟨its.toList,r,⟨o,n,I.kIn a o hk,hc,hd,by simpa using hs⟩,?_⟩
  have e:=r.length
  simp only [Array.length_toList] at e
  omega
theorem Inv.tuple(I:Inv X pins σ H s)(h:SqT X.K H a xs):∃its:List Value,Yc xs its/\IsTup s.heap a its.toArray/\xs.length<=sizeLine:=by
 rcases h with h|⟨o,its,n,hk,hc,hs,hz,r⟩
 ·obtain ⟨z,its,r,p⟩:=h.ok I.hok
  exact ⟨its,r,p,z⟩
 ·refine ⟨its.toList,r,⟨o,I.kIn a o hk,hc,n,by simpa using hs⟩,?_⟩
  have e:=r.length
  simp only [Array.length_toList] at e
  omega
theorem Inv.list_inj(I:Inv X pins σ H s)(h:SqL X.K H a xs)(h':SqL X.K H a ys):xs=ys:=by
 obtain ⟨its,r,⟨o,n,e,_,_,d⟩,_⟩:=I.list h
 obtain ⟨its',r',⟨o',n',e',_,_,d'⟩,_⟩:=I.list h'
 rw [e] at e';cases e'
 rw [d] at d'
 injection d' with d1 _
 have:its=its':=by simpa using congrArg Array.toList d1
 subst this
 exact r.inj r'
theorem Inv.tuple_inj(I:Inv X pins σ H s)(h:SqT X.K H a xs)(h':SqT X.K H a ys):xs=ys:=by
 obtain ⟨its,r,⟨o,e,_,n,d⟩,_⟩:=I.tuple h
 obtain ⟨its',r',⟨o',e',_,n',d'⟩,_⟩:=I.tuple h'
 rw [e] at e';cases e'
 rw [d] at d'
 injection d' with d1 _
 have:its=its':=by simpa using congrArg Array.toList d1
 subst this
 exact r.inj r'
end
abbrev Cx.wish(X:Cx)(E:Value->Shared->Prop):Cx:={ X with xe:=E }
abbrev Cx.nox(X:Cx):Cx:=X.wish fun _ _=>False
theorem Cx.Ok.wish{X:Cx}(ok:X.Ok)(E:Value->Shared->Prop):(X.wish E).Ok :=
 ⟨ok.mod,ok.kind,ok.glob,ok.blt,ok.above,ok.inj,ok.has,ok.cab,ok.hd,ok.frames,ok.stk,ok.exf,ok.bs,ok.bsz,ok.noex,ok.exfs,ok.funs,ok.frf⟩
theorem Cx.Ok.unwish{X:Cx}{E:Value->Shared->Prop}(ok:(X.wish E).Ok):X.Ok :=
 ⟨ok.mod,ok.kind,ok.glob,ok.blt,ok.above,ok.inj,ok.has,ok.cab,ok.hd,ok.frames,ok.stk,ok.exf,ok.bs,ok.bsz,ok.noex,ok.exfs,ok.funs,ok.frf⟩
section
variable {X:Cx} {pins:List (Addr×Obj)} {σ:St} {H:Hp} {s:Shared} {E:Value->Shared->Prop}
theorem Inv.wish(I:Inv X pins σ H s)(E:Value->Shared->Prop):Inv (X.wish E) pins σ H s:=⟨I.ok.wish E,I.os,I.bare,I.base,I.loc,I.cell,I.free,I.freeC,I.pin,I.hok,I.len⟩
theorem Inv.unwish(I:Inv (X.wish E) pins σ H s):Inv X pins σ H s:=⟨I.ok.unwish,I.os,I.bare,I.base,I.loc,I.cell,I.free,I.freeC,I.pin,I.hok,I.len⟩
theorem SP.unwish{D:Ze5}{f:Flow}{s':Shared}(h:SP (X.wish E) pins D f s'):SP X pins D f s':=by
 cases f with
 | next=>obtain ⟨σ',H',I,q⟩:=h;exact ⟨σ',H',I.unwish,q⟩
 | brk=>obtain ⟨σ',H',I,q⟩:=h;exact ⟨σ',H',I.unwish,q⟩
 | cont=>obtain ⟨σ',H',I,q⟩:=h;exact ⟨σ',H',I.unwish,q⟩
 | ret u=>obtain ⟨v,σ',H',I,r,q⟩:=h;exact ⟨v,σ',H',I.unwish,r,q⟩
theorem PSs.nox{st:List Stmt}{t:TS}(h:PSs X.nox st t):PSs X st t:=fun pins s σ H D I hw =>
 wpAny_mono (h pins s σ H D (I.wish _) hw) (fun _ _ q=>q.unwish) fun _ _ z=>False.elim z
end
section
variable {X:Cx} {st:Stmt} {Z0:List Stmt} {t u:TS} {e:Expr} {te:TE} {pos:Pos}
def Zyu:TS:=fun D σ H=>D.nx σ H
def Zz4(t u:TS):TS:=fun D σ H=>t { D with nx:=u D } σ H
theorem Zw:PSs X [] Zyu:=fun _ _ σ H _ I h=>wpAny_execs_nil ⟨σ,H,I,h⟩
theorem Zsa(h1:PS X st t)(h2:PSs X Z0 u):PSs X (st ::Z0) (Zz4 t u):=by
 intro pins s σ H D I h
 refine wpAny_execs_cons (thn (h1 pins s σ H { D with nx:=u D } I h) fun f s1 q=>?_)
 cases f with
 | next =>
  obtain ⟨σ',H',I',q⟩:=q
  exact h2 pins s1 σ' H' D I' q
 | ret v=>exact q
 | brk=>exact q
 | cont=>exact q
theorem Zvl(h1:PS X st t):PSs X [st] t:=by
 intro pins s σ H D I h
 refine wpAny_execs_cons (thn (h1 pins s σ H D I h) fun f s1 q=>?_)
 cases f with
 | next=>exact wpAny_execs_nil q
 | ret v=>exact q
 | brk=>exact q
 | cont=>exact q
def Zzj:TS:=fun D σ H=>D.ct σ H
theorem Zm0:PS X (.Continue pos) Zzj:=fun _ _ σ H _ I h=>wpAny_Continue ⟨σ,H,I,h⟩
theorem Inv.quiet{pins:List (Addr×Obj)}{σ:St}{H:Hp}{s:Shared}(I:Inv X pins σ H s):interactive X.env=false:=by simp [interactive,I.ok.kind]
def Zzq(te:TE):TS:=fun D σ H=>te σ H fun _ H1=>D.nx σ H1
theorem Xm(he:PE X e te)(hs:swapsWith e none pos.line X.env=pure false:=by rfl):PS X (.Expr e pos) (Zzq te):=by
 intro pins s σ H D I h
 exact wpAny_Expr_any (thn (he pins s σ H _ I h) fun v s1 ⟨x,H1,I1,r1,q1⟩=>⟨σ,H1,I1,q1⟩) I.quiet hs
def Yai(te:TE):TS:=fun D σ H=>te σ H D.rt
theorem Zq(he:PE X e te):PS X (.Return (some e) pos) (Yai te):=by
 intro pins s σ H D I h
 exact wpAny_Return_some (thn (he pins s σ H _ I h) fun v s1 ⟨x,H1,I1,r1,q1⟩=>⟨x,σ,H1,I1,r1,q1⟩)
def Zzw(c:TT)(t u:TS):TS:=fun D σ H=>c σ H fun b H1=>if b=true then t D σ H1 else u D σ H1
theorem Yj{c:Expr}{a b:List Stmt}{tc:TT}(hc:PT X c tc)(ha:PSs X a t)(hb:PSs X b u):PS X (.If c a b pos) (Zzw tc t u):=by
 intro pins s σ H D I h
 refine wpAny_If (thn (hc pins s σ H _ I h) fun d s1 ⟨H1,I1,q1⟩=>?_)
 cases d with
 | true=>exact ha pins s1 σ H1 D I1 q1
 | false=>exact hb pins s1 σ H1 D I1 q1
end
abbrev TG:=V->St->Hp->(St->Hp->Prop)->Prop
abbrev TGs:=List V->St->Hp->(St->Hp->Prop)->Prop
def PG(X:Cx)(target:Expr)(t:TG):Prop :=
 ∀(pins:List (Addr×Obj)) (s:Shared) (σ:St) (H:Hp) (v:V) (u:Value) (Q:St->Hp->Prop),Inv X pins σ H s->Yk v u->t v σ H Q ->
  wpAny (model X.prog X.w) X.A (assign target X.env u) (fun _ s'=>∃σ' H',Inv X pins σ' H' s'/\Q σ' H') X.xe s
def PGs(X:Cx)(ts:List Expr)(t:TGs):Prop :=
 ∀(pins:List (Addr×Obj)) (s:Shared) (σ:St) (H:Hp) (vs:List V) (us:List Value) (Q:St->Hp->Prop),Inv X pins σ H s->Yc vs us->t vs σ H Q ->
  wpAny (model X.prog X.w) X.A (assignInOrder ((assignEach ts X.env).map (·.2)) us) (fun _ s'=>∃σ' H',Inv X pins σ' H' s'/\Q σ' H') X.xe s
section
variable {X:Cx} {pos:Pos}
def Zc9(i:Nat):TG:=fun v σ H Q=>Q (σ.set i (some v)) H
theorem Zkw{i:Nat}{x:Str}(hN:X.N.Nodup)(hi:X.N[i]? =some x)(hx:Loc X.env.scope x)(hf:X.fn x=true\/X.env.scope.names.lookup x=some .local:=by first | exact .inl rfl | exact .inr rfl | assumption):PG X (.Name x pos) (Zc9 i):=by
 intro pins s σ H v u Q I r h
 exact wpAny_assign_Name (Zne I hN hi hx r (fun s' I'=>⟨_,H,I',h⟩) hf)
def Zzy:TGs:=fun vs σ H Q=>vs=[]/\Q σ H
def Zy9(t:TG)(u:TGs):TGs:=fun vs σ H Q=>∃v r,vs=v ::r/\t v σ H fun σ' H'=>u r σ' H' Q
theorem X3:PGs X [] Zzy:=by
 intro pins s σ H vs us Q I r h
 obtain ⟨e,h⟩:=h
 subst e
 cases r
 exact assignInOrder_nil ⟨σ,H,I,h⟩
theorem Z7{e:Expr}{es:List Expr}{t:TG}{u:TGs}(h1:PG X e t)(h2:PGs X es u)
  (hs:(assignEach (e ::es) X.env).map (·.2)=assign e X.env ::(assignEach es X.env).map (·.2):=by rfl):PGs X (e ::es) (Zy9 t u):=by
 intro pins s σ H vs us Q I r h
 obtain ⟨v,vr,e1,h⟩:=h
 subst e1
 cases r with
 | cons r rr =>
  rw [hs]
  refine assignInOrder_cons (thn (h1 pins s σ H _ _ _ I r h) fun _ s1 ⟨σ1,H1,I1,q1⟩=>?_)
  exact h2 pins s1 σ1 H1 _ _ Q I1 rr q1
def Zzd(K:Frag)(n:Nat)(t:TGs):TG:=fun v σ H Q=>∃a xs,v=.ref a/\SqT K H a xs/\xs.length=n/\t xs σ H Q
theorem Zbt{es:List Expr}{k:Nat}{t:TGs}{n:Nat}(hc:X.calm=true)(h:PGs X es t)
  (hn:(assignEach es X.env).length=n:=by rfl) (hst:(assignEach es X.env).findIdx? (·.1)=none:=by rfl):PG X (.Tuple es k pos) (Zzd X.K n t):=by
 intro pins s σ H v u Q I r hw
 obtain ⟨a,xs,e1,hq,hl,hw⟩:=hw
 subst e1
 cases r
 obtain ⟨its,rv,ht,hz⟩:=I.tuple hq
 refine assign_Tuple_tuple (I.ok.hd hc) ht (by simp [hn,<-hl,rv.length]) hst fun h' hx=>?_
 have I1:Inv X pins σ H { s with heap:=h' }:=I.kept (t':=s.toks) fun b o e=>hx b o (Nat.ne_of_lt (Heap.lt_size e)) e
 exact h pins _ σ H xs _ Q I1 (by simpa using rv) hw
def Zvf(te:TE)(g:TG):TS:=fun D σ H=>te σ H fun x H1=>g x σ H1 D.nx
theorem Ztz{tg e:Expr}{te:TE}{g:TG}(he:PE X e te)(hg:PG X tg g)(hs:swapsWithSole [tg] e pos.line X.env=pure false:=by rfl)(hw:swappedStores [tg] e X.env=pure none:=by rfl)
  (h1:(assignEach [tg] X.env).map (·.2)=[assign tg X.env]:=by rfl):PS X (.Assign [tg] e pos) (Zvf te g):=by
 intro pins s σ H D I h
 refine wpAny_Assign_stores (thn (he pins s σ H _ I h) fun v s1 ⟨x,H1,I1,r1,q1⟩=>?_) hs hw
 rw [h1]
 exact thn (hg pins s1 σ H1 x v _ I1 r1 q1) fun _ s2 q=>q
theorem Zwq{i:Nat}{x:Str}{e:Expr}{te:TE}{pos':Pos}(hN:X.N.Nodup)(hi:X.N[i]? =some x)(hx:Loc X.env.scope x)(he:PE X e te)(hs:swapsWith e (some (.Name x pos')) pos.line X.env=pure false:=by rfl)(hf:X.fn x=true\/X.env.scope.names.lookup x=some .local:=by first | exact .inl rfl | exact .inr rfl | assumption) :
  PS X (.Assign [.Name x pos'] e pos) (Zvf te (Zc9 i)):=by
 intro pins s σ H D I h
 refine wpAny_Assign_Name (thn (he pins s σ H _ I h) fun v s1 ⟨y,H1,I1,r1,q1⟩=>?_) hs
 exact Zne I1 hN hi hx r1 (fun s2 I2=>⟨_,H1,I2,q1⟩) hf
theorem Z2{i:Nat}{x:Str}{e:Expr}{te:TE}{pos':Pos}(hN:X.N.Nodup)(he:PE X e te)(hi:X.N[i]? =some x:=by rfl)(hx:Loc X.env.scope x:=by first | exact Or.inl rfl | exact Or.inr rfl)(hs:swapsWith e (some (.Name x pos')) pos.line X.env=pure false:=by rfl)(hf:X.fn x=true\/X.env.scope.names.lookup x=some .local:=by first | exact .inl rfl | exact .inr rfl | assumption):PS X (.Assign [.Name x pos'] e pos) (Zvf te (Zc9 i)):=Zwq hN hi hx he hs hf
theorem Yw{i:Nat}{x:Str}(hN:X.N.Nodup)(hi:X.N[i]? =some x:=by rfl)(hx:Loc X.env.scope x:=by first | exact Or.inl rfl | exact Or.inr rfl)(hf:X.fn x=true\/X.env.scope.names.lookup x=some .local:=by first | exact .inl rfl | exact .inr rfl | assumption):PG X (.Name x pos) (Zc9 i):=Zkw hN hi hx hf
theorem Zci{i:Nat}{x:Str}(hN:X.N.Nodup)(hi:X.N[i]? =some x:=by rfl)(hx:Loc X.env.scope x:=by exact Or.inl (lookup_relabel_local rfl))(hf:X.fn x=true\/X.env.scope.names.lookup x=some .local:=by exact Or.inr (lookup_relabel_local rfl)):PG X (.Name x pos) (Zc9 i):=Zkw hN hi hx hf
end
section
variable {X:Cx} {pos:Pos}
def Zw9(c:TT)(tb:TS):TS:=fun D σ H=>∃W:Nat->St->Hp->Prop,(∃m,W m σ H)/\∀m σ H,W m σ H ->
 c σ H fun b H1=>if b=true then ∃N:St->Hp->Prop,(∀σ' H',N σ' H'->∃m',m'<m/\W m' σ' H')/\tb { D with nx:=N,ct:=N,bk:=D.nx } σ H1 else D.nx σ H1
theorem Zsp{c:Expr}{body:List Stmt}{tc:TT}{tb:TS}(hp:PassesOwn (model X.prog X.w) X.A X.env X.xe)(hc:PT X c tc)(hb:PSs X body tb):PS X (.While c body [] pos) (Zw9 tc tb):=by
 intro pins s σ H D I h
 obtain ⟨W,⟨m0,w0⟩,turn⟩:=h
 refine wpAny_While (codeAny_whileLoop (fun n s'=>∃σ' H',Inv X pins σ' H' s'/\W n σ' H') ?_ m0 ⟨σ,H,I,w0⟩)
 rintro n s1 ⟨σ1,H1,I1,w1⟩
 refine wpAny_passesOwn hp (thn (hc pins s1 σ1 H1 _ I1 (turn n σ1 H1 w1)) fun b s2 ⟨H2,I2,q2⟩=>?_)
 cases b with
 | true =>
  obtain ⟨N,hN,q2⟩:=q2
  rw [if_pos rfl]
  refine wpAny_passesOwn hp (thn (hb pins s2 σ1 H2 _ I2 q2) fun f s3 q3=>?_)
  cases f with
  | next =>
   obtain ⟨σ3,H3,I3,n3⟩:=q3
   obtain ⟨m',hm,w3⟩:=hN σ3 H3 n3
   exact ⟨m',hm,σ3,H3,I3,w3⟩
  | cont =>
   obtain ⟨σ3,H3,I3,n3⟩:=q3
   obtain ⟨m',hm,w3⟩:=hN σ3 H3 n3
   exact ⟨m',hm,σ3,H3,I3,w3⟩
  | brk=>exact q3
  | ret v=>exact q3
 | false =>
  rw [if_neg Bool.false_ne_true]
  exact wpAny_execs_nil ⟨σ1,H2,I2,q2⟩
end
structure It where
 go:Nat->Hp->Prop
 yld:Nat->Hp->V->Hp->Prop
 stop:Nat->Hp->Prop
def Zgn(X:Cx)(pins:List (Addr×Obj))(H:Hp)(b:Addr):Prop :=
 H b=none/\b≠X.env.locals/\b∉X.fs/\(b∈X.ex\/X.s₀.heap.objs.size<=b)/\(∀x c,X.env.cells.lookup x=some c->c≠b)/\∀p∈X.pn++pins,p.1≠b
theorem Inv.fpOk{X:Cx}{pins:List (Addr×Obj)}{σ:St}{H H':Hp}{s:Shared}{b:Addr}(I:Inv X pins σ H s)(hb:s.heap.objs.size<=b)(hn:H' b=none):Zgn X pins H' b:=by
 refine ⟨hn,Nat.ne_of_gt (Nat.lt_of_lt_of_le I.lt hb),I.nofs hb,.inr (Nat.le_trans I.sz hb),fun x c e z=>?_,fun p hp z=>?_⟩
 ·obtain ⟨v,q⟩:=I.cell x c e
  exact absurd (Nat.lt_of_lt_of_le q.lt (by rw [z];exact hb)) (Nat.lt_irrefl _)
 ·exact absurd (Nat.lt_of_lt_of_le (Heap.lt_size (I.pin p hp).1) (by rw [z];exact hb)) (Nat.lt_irrefl _)
structure Zms(P:Program)(w:World)(K:Frag)(tg:Expr)(J:It)(fp:List Addr)(it:Addr)(tn:Nat->Heap->Prop):Prop where
 mem:it∈fp
 obj:∀i h,tn i h->∀b∈fp,∃o,h.get? b=some o/\∀v,o.data ≠ .cell v
 keep:∀i h h',tn i h->(∀b∈fp,∀o,h.get? b=some o->h'.get? b=some o)->tn i h'
 item:∀(X:Cx),X.prog=P->X.w=w->X.K=K->X.calm=true->∀(i:Nat) (pins:List (Addr×Obj)) (s:Shared) (σ:St) (H:Hp) (E:Value->Shared->Prop),Inv X pins σ H s->(∀b∈fp,Zgn X pins H b)->tn i s.heap->J.go i H ->
  wpAny (model P w) X.A (pyNext (.ref it)) (fun r s1=>∃u,r=some u /\
   wpAny (model P w) X.A (letOwnedTupleGo tg (.ref it) u) (fun _ s2=>∃x H',Inv X pins σ H' s2/\Yk x u/\J.yld i H x H'/\tn (i+1) s2.heap/\∀b∈fp,H' b=none) E s1) E s
 done:∀(X:Cx),X.prog=P->X.w=w->X.K=K->X.calm=true->∀(i:Nat) (pins:List (Addr×Obj)) (s:Shared) (σ:St) (H:Hp) (E:Value->Shared->Prop),Inv X pins σ H s->(∀b∈fp,Zgn X pins H b)->tn i s.heap->J.stop i H ->
  wpAny (model P w) X.A (pyNext (.ref it)) (fun r s1=>r=none/\Inv X pins σ H s1) E s
 self:∀(A:Around) (i:Nat) (s:Shared) (Q:Value->Shared->Prop) (E:Value->Shared->Prop),tn i s.heap->Q (.ref it) s->wpAny (model P w) A (pyIter (.ref it)) Q E s
abbrev TI:=St->Hp->(It->Hp->Prop)->Prop
def PIE(X:Cx)(pins:List (Addr×Obj))(σ:St)(tg:Expr)(R:It->Hp->Prop)(itv:Value)(s2:Shared):Prop :=
 ∃(it:Addr) (fp:List Addr) (tn:Nat->Heap->Prop) (J:It) (H':Hp),itv=.ref it/\Inv X pins σ H' s2/\Zms X.prog X.w X.K tg J fp it tn/\tn 0 s2.heap/\(∀b∈fp,Zgn X pins H' b)/\R J H'
def PI(X:Cx)(tg iter:Expr)(wi:TI):Prop :=
 ∀(pins:List (Addr×Obj)) (s:Shared) (σ:St) (H:Hp) (R:It->Hp->Prop),Inv X pins σ H s->wi σ H R ->
  wpAny (model X.prog X.w) X.A (eval iter X.env) (fun v s1=>wpAny (model X.prog X.w) X.A (pyIter v) (PIE X pins σ tg R) X.xe s1) X.xe s
theorem Zm3{M:Model}{A:Around}{E:Value->Shared->Prop}{s:Shared}{tg:Expr}{it:Addr}{u:Value}{o:Obj}{n:String}{vs:Array Value}{Q:Unit->Shared->Prop}(ho:s.heap.get? it=some o)(hc:o.cls=.type n)(hd:o.data=.fields vs)
    (hn:["enumerate", "zip", "dict_itemiterator", "dict_reverseitemiterator", "odict_iterator", "itertools.zip_longest", "itertools.pairwise"].contains n=false) (hQ:Q () s):wpAny M A (letOwnedTupleGo tg (.ref it) u) Q E s:=by
  unfold letOwnedTupleGo
  cases tg <;>first
    | exact wpAny_pure hQ
    | (cases u <;>first
        | exact wpAny_pure hQ
        | (refine wpAny_bind (wpAny_load ho ?_)
           rw [hc,hd]
           show wpAny M A (if (["enumerate", "zip", "dict_itemiterator", "dict_reverseitemiterator", "odict_iterator", "itertools.zip_longest", "itertools.pairwise"].contains n && vs[0]? ==some (rawInt _))=true then _ else _) Q E s
           rw [if_neg (by intro h;rw [hn,Bool.false_and] at h;cases h)]
           exact wpAny_pure hQ))
def Itl(K:Frag)(a:Addr):It :=
 ⟨fun i H=>∃xs x,SqL K H a xs/\xs[i]? =some x,fun i H x H'=>H'=H/\∀xs,SqL K H a xs->xs[i]? =some x,fun i H=>∃xs,SqL K H a xs/\xs.length<=i⟩
def Itt(K:Frag)(a:Addr):It :=
 ⟨fun i H=>∃xs x,SqT K H a xs/\xs[i]? =some x,fun i H x H'=>H'=H/\∀xs,SqT K H a xs->xs[i]? =some x,fun i H=>∃xs,SqT K H a xs/\xs.length<=i⟩
def Itr(lo:Int)(n:Nat):It:=⟨fun i _=>i<n,fun i H x H'=>H'=H/\x=.int (lo+i),fun i _=>n<=i⟩
theorem Zrk{P:Program}{w:World}{K:Frag}{tg:Expr}(a it:Addr):Zms P w K tg (Itl K a) [it] it (fun i h=>h.IsListIter it a i) where
 mem:=by simp
 obj:=fun i h st b hb=>by
  have e:b=it:=by simpa using hb
  subst e
  obtain ⟨o,e,c,d⟩:=st
  exact ⟨o,e,fun v z=>by rw [d] at z;cases z⟩
 keep:=fun i h h' st k=>st.at fun o e=>k it (by simp) o e
 item:=by
  intro X hP hw hK hc i pins s σ H E I hf st hg
  subst hP hw hK
  obtain ⟨xs,x,hq,hx⟩:=hg
  obtain ⟨its,rv,p,hz⟩:=I.list hq
  obtain ⟨u,hu,ru⟩:=rv.get hx
  obtain ⟨f0,f1,f2,f3,f4,f5⟩:=hf it (by simp)
  refine wpAny_pyNext_list_item st p.isList (x:=u) (by simpa using hu) fun h' st' sb=>?_
  have I1:Inv X pins σ H { s with heap:=h' }:=I.turned (t':=s.toks) (fun b o hb e=>(sb.2 b hb).trans e) f0 f1 f3 f4 f5
  obtain ⟨o,e,c,d⟩:=id st'
  exact ⟨u,rfl,Zm3 (s:={ s with heap:=h' }) e c d (by decide) ⟨x,H,I1,ru,⟨rfl,fun ys hy=>by rw [I.list_inj hy hq];exact hx⟩,st',fun b hb=>(hf b hb).1⟩⟩
 done:=by
  intro X hP hw hK hc i pins s σ H E I hf st hg
  subst hP hw hK
  obtain ⟨xs,hq,hx⟩:=hg
  obtain ⟨its,rv,p,hz⟩:=I.list hq
  obtain ⟨f0,f1,f2,f3,f4,f5⟩:=hf it (by simp)
  have hl:=rv.length
  exact wpAny_pyNext_list_end (I.ok.hd hc) st p.isList (by simp;omega) fun h' eb=>⟨rfl,I.turned (t':=s.toks) (fun b o hb e=>eb b o hb e) f0 f1 f3 f4 f5⟩
 self:=fun _ _ _ _ _ st h=>wpAny_pyIter_listiter st h
theorem Znm{P:Program}{w:World}{K:Frag}{tg:Expr}(a it:Addr):Zms P w K tg (Itt K a) [it] it (fun i h=>h.IsTupleIter it a i) where
 mem:=by simp
 obj:=fun i h st b hb=>by
  have e:b=it:=by simpa using hb
  subst e
  obtain ⟨o,e,c,d⟩:=st
  exact ⟨o,e,fun v z=>by rw [d] at z;cases z⟩
 keep:=fun i h h' st k=>st.at fun o e=>k it (by simp) o e
 item:=by
  intro X hP hw hK hc i pins s σ H E I hf st hg
  subst hP hw hK
  obtain ⟨xs,x,hq,hx⟩:=hg
  obtain ⟨its,rv,p,hz⟩:=I.tuple hq
  obtain ⟨u,hu,ru⟩:=rv.get hx
  obtain ⟨f0,f1,f2,f3,f4,f5⟩:=hf it (by simp)
  refine wpAny_pyNext_tuple_item st (show s.heap.IsTuple a its.toArray from p) (x:=u) (by simpa using hu) fun h' st' sb=>?_
  have I1:Inv X pins σ H { s with heap:=h' }:=I.turned (t':=s.toks) (fun b o hb e=>(sb.2 b hb).trans e) f0 f1 f3 f4 f5
  obtain ⟨o,e,c,d⟩:=id st'
  exact ⟨u,rfl,Zm3 (s:={ s with heap:=h' }) e c d (by decide) ⟨x,H,I1,ru,⟨rfl,fun ys hy=>by rw [I.tuple_inj hy hq];exact hx⟩,st',fun b hb=>(hf b hb).1⟩⟩
 done:=by
  intro X hP hw hK hc i pins s σ H E I hf st hg
  subst hP hw hK
  obtain ⟨xs,hq,hx⟩:=hg
  obtain ⟨its,rv,p,hz⟩:=I.tuple hq
  obtain ⟨f0,f1,f2,f3,f4,f5⟩:=hf it (by simp)
  have hl:=rv.length
  exact wpAny_pyNext_tuple_end (I.ok.hd hc) st (show s.heap.IsTuple a its.toArray from p) (by simp;omega) fun h' eb=>⟨rfl,I.turned (t':=s.toks) (fun b o hb e=>eb b o hb e) f0 f1 f3 f4 f5⟩
 self:=fun _ _ _ _ _ st h=>wpAny_pyIter_tupleiter st h
theorem Zog{P:Program}{w:World}{K:Frag}{tg:Expr}(it:Addr)(lo:Int)(n:Nat):Zms P w K tg (Itr lo n) [it] it (fun i h=>IsRangeIter h it (lo+(i:Nat) * 1) ((n:Int)-(i:Nat)) 1) where
 mem:=by simp
 obj:=fun i h st b hb=>by
  have e:b=it:=by simpa using hb
  subst e
  exact ⟨_,st,fun v z=>by
   have z':Data.fields _=Data.cell v:=z
   cases z'⟩
 keep:=fun i h h' st k=>k it (by simp) _ st
 item:=by
  intro X hP hw hK hc i pins s σ H E I hf st hg
  subst hP hw hK
  obtain ⟨f0,f1,f2,f3,f4,f5⟩:=hf it (by simp)
  have W:=Walks.range (prog:=X.prog) (w:=X.w) (I.ok.hd hc) it lo 1 n
  refine W.item i s _ _ hg st fun v h' tk hv st' kk=>?_
  obtain ⟨t,rfl⟩:=hv
  have I1:Inv X pins σ H { s with heap:=h',toks:=tk }:=I.turned (fun b o hb e=>kk b o (by simpa using hb) e) f0 f1 f3 f4 f5
  refine ⟨_,rfl,Zm3 (s:={ s with heap:=h',toks:=tk }) (n := "range_iterator") st' rfl rfl (by decide) ⟨.int (lo+i),H,I1,⟨t,?_⟩,⟨rfl,rfl⟩,st',fun b hb=>(hf b hb).1⟩⟩
  rw [Int.mul_one]
 done:=by
  intro X hP hw hK hc i pins s σ H E I hf st hg
  subst hP hw hK
  obtain ⟨f0,f1,f2,f3,f4,f5⟩:=hf it (by simp)
  exact wpAny_pyNext_range_end (I.ok.hd hc) st (by have:n<=i:=hg;omega) fun h' eb=>⟨rfl,I.turned (t':=s.toks) (fun b o hb e=>eb b o hb e) f0 f1 f3 f4 f5⟩
 self:=fun _ _ _ _ _ st h=>wpAny_pyIter_rangeiter st h
end L2
namespace L2
open PySem PySem.Spec PyProof.Rows
section
variable {X:Cx} {tg:Expr}
def Zzc(K:Frag)(tl:TE):TI:=fun σ H R=>tl σ H fun x H1=>∃a,x=.ref a/\(∃xs,SqL K H1 a xs)/\R (Itl K a) H1
def Yak(K:Frag)(tl:TE):TI:=fun σ H R=>tl σ H fun x H1=>∃a,x=.ref a/\(∃xs,SqT K H1 a xs)/\R (Itt K a) H1
theorem Yp{l:Expr}{tl:TE}(hl:PE X l tl):PI X tg l (Zzc X.K tl):=by
 intro pins s σ H R I h
 refine thn (hl pins s σ H _ I h) fun v s1 ⟨x,H1,I1,r1,q1⟩=>?_
 obtain ⟨a,e,⟨xs,hq⟩,q⟩:=q1
 subst e
 cases r1
 obtain ⟨its,rv,p,hz⟩:=I1.list hq
 refine wpAny_pyIter_list p.isList ?_
 refine ⟨s1.heap.objs.size,[s1.heap.objs.size],_,_,H1,rfl,I1.kept (t':=s1.toks) fun b o e=>Heap.get?_push_of_some _ e,Zrk a _,⟨_,Heap.get?_push_size _ rfl,rfl,rfl⟩,fun b hb=>?_,q⟩
 have e:b=s1.heap.objs.size:=by simpa using hb
 subst e
 exact I1.fpOk (Nat.le_refl _) (I1.hok.fresh (Nat.le_refl _))
theorem Zs5{l:Expr}{tl:TE}(hl:PE X l tl):PI X tg l (Yak X.K tl):=by
 intro pins s σ H R I h
 refine thn (hl pins s σ H _ I h) fun v s1 ⟨x,H1,I1,r1,q1⟩=>?_
 obtain ⟨a,e,⟨xs,hq⟩,q⟩:=q1
 subst e
 cases r1
 obtain ⟨its,rv,p,hz⟩:=I1.tuple hq
 refine wpAny_pyIter_tuple (show s1.heap.IsTuple a its.toArray from p) ?_
 refine ⟨s1.heap.objs.size,[s1.heap.objs.size],_,_,H1,rfl,I1.kept (t':=s1.toks) fun b o e=>Heap.get?_push_of_some _ e,Znm a _,⟨_,Heap.get?_push_size _ rfl,rfl,rfl⟩,fun b hb=>?_,q⟩
 have e:b=s1.heap.objs.size:=by simpa using hb
 subst e
 exact I1.fpOk (Nat.le_refl _) (I1.hok.fresh (Nat.le_refl _))
theorem Zmk{pins:List (Addr×Obj)}{σ:St}{H:Hp}{s:Shared}{R:It->Hp->Prop}{E:Value->Shared->Prop}{lo hi:Int}{t u v:Tok}{tk:Nat}(I:Inv X pins σ H s)(h1:-(2 ^ 62)<=lo)(h2:lo<2 ^ 62)(h3:-(2 ^ 62)<=hi)(h4:hi<2 ^ 62)
  (q:R (Itr lo (hi-lo).toNat) H):wpAny (model X.prog X.w) X.A (pyIter (.ref s.heap.objs.size)) (PIE X pins σ tg R) E { s with heap:=s.heap.push { cls:=.type "range",data:=.fields #[.int lo t,.int hi u,.int 1 v] },toks:=tk }:=by
 refine wpAny_pyIter_range (IsRange.new ..) (small_one h1 h2 h3 h4) ?_
 have I1:Inv X pins σ H { s with heap:=s.heap.push { cls:=.type "range",data:=.fields #[.int lo t,.int hi u,.int 1 v] },toks:=tk }:=I.kept fun b o e=>Heap.get?_push_of_some _ e
 refine ⟨(s.heap.push { cls:=.type "range",data:=.fields #[.int lo t,.int hi u,.int 1 v] }).objs.size,[(s.heap.push { cls:=.type "range",data:=.fields #[.int lo t,.int hi u,.int 1 v] }).objs.size],_,_,H,rfl,
  I1.kept (t':=tk) fun b o e=>Heap.get?_push_of_some _ e,Zog _ lo (hi-lo).toNat,?_,fun b hb=>?_,q⟩
 ·have e1:lo+((0:Nat):Int) * 1=lo:=by simp
  have e2:(((hi-lo).toNat:Nat):Int)-((0:Nat):Int)=Builtin.Range.rangeSize lo hi 1:=by rw [rangeSize_one];split <;>omega
  show IsRangeIter _ _ (lo+((0:Nat):Int) * 1) ((((hi-lo).toNat:Nat):Int)-((0:Nat):Int)) 1
  rw [e1,e2]
  exact Heap.get?_push_size _ rfl
 ·have e:b=(s.heap.push { cls:=.type "range",data:=.fields #[.int lo t,.int hi u,.int 1 v] }).objs.size:=by simpa using hb
  subst e
  exact I1.fpOk (Nat.le_refl _) (I1.hok.fresh (Nat.le_refl _))
def Zy0(ta:TA):TI:=fun σ H R=>ta σ H fun vs H1=>∃j:Int,vs=[.int j]/\-(2 ^ 62)<=j/\j<2 ^ 62/\R (Itr 0 j.toNat) H1
def Zyt(ta:TA):TI:=fun σ H R=>ta σ H fun vs H1=>∃i j:Int,vs=[.int i,.int j]/\(-(2 ^ 62)<=i/\i<2 ^ 62/\-(2 ^ 62)<=j/\j<2 ^ 62)/\R (Itr i (j-i).toNat) H1
theorem Zki{a:Expr}{ta:TA}{p pos:Pos} (hg:Gl X "range") (hm:X.mg "range" =none) (ha:PA X [a] ta) (hs:starEach [a] X.env=[(false,eval a X.env)]:=by rfl):PI X tg (.Call (.Name "range" p) [a] [] pos) (Zy0 ta):=by
 intro pins s σ H R I h
 refine Call_ (Zem I hg hm boot_range (PyProof.Rows.callWith_type1 (thn (ha pos pins s σ H _ I h) fun us s1 ⟨vs,H1,I1,r1,q1⟩=>?_) hs rfl))
 obtain ⟨j,e,q1,q2,q⟩:=q1
 subst e
 cases r1 with
 | cons r rr =>
  cases rr
  obtain ⟨t,rfl⟩:=r
  exact call_range_1 (Zmk I1 (by omega) (by omega) q1 q2 (by simpa using q))
theorem Zj6{a b:Expr}{ta:TA}{p pos:Pos} (hg:Gl X "range") (hm:X.mg "range" =none) (ha:PA X [a,b] ta) (hs:starEach [a,b] X.env=[(false,eval a X.env),(false,eval b X.env)]:=by rfl) (hs2:starEach [b] X.env=[(false,eval b X.env)]:=by rfl) :
  PI X tg (.Call (.Name "range" p) [a,b] [] pos) (Zyt ta):=by
 intro pins s σ H R I h
 refine Call_ (Zem I hg hm boot_range (PyProof.Rows.callWith_type1 (thn (ha pos pins s σ H _ I h) fun us s1 ⟨vs,H1,I1,r1,q1⟩=>?_) (by rw [hs,hs2]) (by rw [hs2];rfl)))
 obtain ⟨i,j,e,⟨q1,q2,q3,q4⟩,q⟩:=q1
 subst e
 cases r1 with
 | cons r rr =>
  cases rr with
  | cons r' rr =>
   cases rr
   obtain ⟨t,rfl⟩:=r
   obtain ⟨t',rfl⟩:=r'
   exact call_range_2 (Zmk I1 q1 q2 q3 q4 q)
def Zz8(wi:TI)(g:TG)(tb:TS):TS:=fun D σ H=>wi σ H fun J H1=>∃W:Nat->Nat->St->Hp->Prop,(∃m,W 0 m σ H1)/\∀i m σ H,W i m σ H ->
 (J.stop i H/\D.nx σ H)\/(J.go i H/\∃N:St->Hp->Prop,(∀σ' H',N σ' H'->∃m',m'<m/\W (i+1) m' σ' H')/\∀x H',J.yld i H x H'->g x σ H' fun σ2 H2=>tb { D with nx:=N,ct:=N,bk:=D.nx } σ2 H2)
def Zfn(fp:List Addr)(h:Heap):List (Addr×Obj):=fp.filterMap fun b=>(h.get? b).map fun o=>(b,o)
theorem Zbf{fp:List Addr}{h:Heap}{b:Addr}{o:Obj}(hb:b∈fp)(e:h.get? b=some o):(b,o)∈Zfn fp h:=List.mem_filterMap.mpr ⟨b,hb,by rw [e];rfl⟩
theorem Zqa{fp:List Addr}{h:Heap}{p:Addr×Obj}(hp:p∈Zfn fp h):p.1∈fp/\h.get? p.1=some p.2:=by
 obtain ⟨b,hb,e⟩:=List.mem_filterMap.mp hp
 cases q:h.get? b with
 | none=>rw [q] at e;cases e
 | some o =>
  rw [q] at e
  have e':(b,o)=p:=Option.some.inj e
  subst e'
  exact ⟨hb,q⟩
theorem Inv.pinned{pins:List (Addr×Obj)}{σ:St}{H:Hp}{s:Shared}{fp:List Addr}(I:Inv X pins σ H s)(hf:∀b∈fp,Zgn X pins H b)(ho:∀b∈fp,∃o,s.heap.get? b=some o/\∀v,o.data ≠ .cell v):Inv X (pins++Zfn fp s.heap) σ H s :=
 I.pins_of fun p hp=>(List.mem_append.mp hp).elim (fun z=>I.pin p (List.mem_append_right _ z)) fun z=>by
  obtain ⟨hb,e⟩:=Zqa z
  obtain ⟨f0,f1,f2,_⟩:=hf p.1 hb
  obtain ⟨o,e',d⟩:=ho p.1 hb
  rw [e] at e';cases e'
  exact ⟨e,f0,f1,f2,d⟩
theorem Inv.unpinned{pins pl:List (Addr×Obj)}{σ:St}{H:Hp}{s:Shared}(I:Inv X (pins++pl) σ H s):Inv X pins σ H s:=I.pins_of fun p hp=>I.pin p (List.mem_append_right _ (List.mem_append_left _ hp))
theorem Xu{iter:Expr}{body:List Stmt}{wi:TI}{g:TG}{tb:TS}{pos:Pos}(hp:PassesOwn (model X.prog X.w) X.A X.env X.xe)(hc:X.calm=true)(hi:PI X tg iter wi)(hg:PG X tg g)(hb:PSs X body tb)
  (hs:∀x,foldedSetIterable iter X.env x=pure x:=by intro _;rfl):PS X (.For tg iter body [] pos) (Zz8 wi g tb):=by
 intro pins s σ H D I h
 refine wpAny_For (thn (hi pins s σ H _ I h) fun v s1 h1=>thn h1 fun itv s2 h2=>?_) hs
 obtain ⟨it,fp,tn,J,H2,e,I2,T,st2,f2,W,⟨m0,w0⟩,turn⟩:=h2
 subst e
 have stat:∀{H':Hp},(∀b∈fp,H' b=none)->∀b∈fp,Zgn X pins H' b:=fun hn b hb=>⟨hn b hb,(f2 b hb).2⟩
 refine codeAny_forLoop_any (fun n s'=>∃i σ' H',Inv X pins σ' H' s'/\tn i s'.heap/\(∀b∈fp,H' b=none)/\W i n σ' H') ?_ m0 ⟨0,σ,H2,I2,st2,fun b hb=>(f2 b hb).1,w0⟩
 rintro n s3 ⟨i,σ3,H3,I3,st3,fr3,w3⟩
 rcases turn i n σ3 H3 w3 with ⟨stop,qn⟩|⟨go,N,hN,step⟩
 ·refine wpAny_passesOwn hp (thn (T.done X rfl rfl rfl hc i pins s3 σ3 H3 X.xe I3 (stat fr3) st3 stop) fun r s4 ⟨hr,I4⟩=>?_)
  subst hr
  exact wpAny_execs_nil ⟨σ3,H3,I4,qn⟩
 ·refine wpAny_passesOwn hp (thn (T.item X rfl rfl rfl hc i pins s3 σ3 H3 X.xe I3 (stat fr3) st3 go) fun r s4 ⟨u,hr,h4⟩=>?_)
  subst hr
  refine wpAny_passesOwn hp (thn h4 fun _ s5 ⟨x,H5,I5,r5,y5,st5,fr5⟩=>?_)
  have I5':=I5.pinned (stat fr5) (T.obj _ _ st5)
  refine wpAny_passesOwn hp (thn (hg _ s5 σ3 H5 x u _ I5' r5 (step x H5 y5)) fun _ s6 ⟨σ6,H6,I6,q6⟩=>?_)
  refine wpAny_passesOwn hp (thn (hb _ s6 σ6 H6 _ I6 q6) fun f s7 q7=>?_)
  have again:∀{σ7:St} {H7:Hp},Inv X (pins++Zfn fp s5.heap) σ7 H7 s7->N σ7 H7->∃m,m<n/\∃i σ' H',Inv X pins σ' H' s7/\tn i s7.heap/\(∀b∈fp,H' b=none)/\W i m σ' H':=fun {σ7 H7} I7 n7=>by
   obtain ⟨m',hm,w7⟩:=hN σ7 H7 n7
   refine ⟨m',hm,i+1,σ7,H7,I7.unpinned,T.keep _ _ _ st5 fun b hb o e=>(I7.pin (b,o) (List.mem_append_right _ (List.mem_append_right _ (Zbf hb e)))).1,fun b hb=>?_,w7⟩
   obtain ⟨o,e,d⟩:=T.obj _ _ st5 b hb
   exact (I7.pin (b,o) (List.mem_append_right _ (List.mem_append_right _ (Zbf hb e)))).2.1
  cases f with
  | next=>obtain ⟨σ7,H7,I7,n7⟩:=q7;exact again I7 n7
  | cont=>obtain ⟨σ7,H7,I7,n7⟩:=q7;exact again I7 n7
  | brk=>obtain ⟨σ7,H7,I7,q7⟩:=q7;exact ⟨σ7,H7,I7.unpinned,q7⟩
  | ret v=>obtain ⟨x7,σ7,H7,I7,r7,q7⟩:=q7;exact ⟨x7,σ7,H7,I7.unpinned,r7,q7⟩
end
theorem Xr{K:Frag}{a:Addr}{xs:List V}{g:TG}{tb:TS}{D:Ze5}{σ:St}{H:Hp}(Pv:Nat->St->Hp->Prop)(h0:Pv 0 σ H)(hl:∀i σ H,i<=xs.length->Pv i σ H->SqL K H a xs)
  (hs:∀i x σ H,xs[i]? =some x->Pv i σ H->g x σ H fun σ2 H2=>tb { D with nx:=Pv (i+1),ct:=Pv (i+1),bk:=D.nx } σ2 H2) (hd:∀σ H,Pv xs.length σ H->D.nx σ H) :
  ∃W:Nat->Nat->St->Hp->Prop,(∃m,W 0 m σ H)/\∀i m σ H,W i m σ H ->
   ((Itl K a).stop i H/\D.nx σ H)\/((Itl K a).go i H/\∃N:St->Hp->Prop,(∀σ' H',N σ' H'->∃m',m'<m/\W (i+1) m' σ' H')/\∀x H',(Itl K a).yld i H x H'->g x σ H' fun σ2 H2=>tb { D with nx:=N,ct:=N,bk:=D.nx } σ2 H2):=by
 refine ⟨fun i m σ H=>m=xs.length-i/\i<=xs.length/\Pv i σ H,⟨xs.length,by simp,Nat.zero_le _,h0⟩,?_⟩
 rintro i m σ H ⟨rfl,hi,p⟩
 have q:=hl i σ H hi p
 by_cases hlt:i<xs.length
 ·refine .inr ⟨⟨xs,xs[i],q,by simp [hlt]⟩,Pv (i+1),fun σ' H' p'=>⟨xs.length-(i+1),by omega,rfl,hlt,p'⟩,fun x H' y=>?_⟩
  obtain ⟨e,y⟩:=y
  subst e
  exact hs i x σ _ (y xs q) p
 ·have e:i=xs.length:=by omega
  subst e
  exact .inl ⟨⟨xs,q,Nat.le_refl _⟩,hd σ H p⟩
theorem Zui{K:Frag}{a:Addr}{xs:List V}{g:TG}{tb:TS}{D:Ze5}{σ:St}{H:Hp}(Pv:Nat->St->Hp->Prop)(h0:Pv 0 σ H)(hl:∀i σ H,i<=xs.length->Pv i σ H->SqT K H a xs)
  (hs:∀i x σ H,xs[i]? =some x->Pv i σ H->g x σ H fun σ2 H2=>tb { D with nx:=Pv (i+1),ct:=Pv (i+1),bk:=D.nx } σ2 H2) (hd:∀σ H,Pv xs.length σ H->D.nx σ H) :
  ∃W:Nat->Nat->St->Hp->Prop,(∃m,W 0 m σ H)/\∀i m σ H,W i m σ H ->
   ((Itt K a).stop i H/\D.nx σ H)\/((Itt K a).go i H/\∃N:St->Hp->Prop,(∀σ' H',N σ' H'->∃m',m'<m/\W (i+1) m' σ' H')/\∀x H',(Itt K a).yld i H x H'->g x σ H' fun σ2 H2=>tb { D with nx:=N,ct:=N,bk:=D.nx } σ2 H2):=by
 refine ⟨fun i m σ H=>m=xs.length-i/\i<=xs.length/\Pv i σ H,⟨xs.length,by simp,Nat.zero_le _,h0⟩,?_⟩
 rintro i m σ H ⟨rfl,hi,p⟩
 have q:=hl i σ H hi p
 by_cases hlt:i<xs.length
 ·refine .inr ⟨⟨xs,xs[i],q,by simp [hlt]⟩,Pv (i+1),fun σ' H' p'=>⟨xs.length-(i+1),by omega,rfl,hlt,p'⟩,fun x H' y=>?_⟩
  obtain ⟨e,y⟩:=y
  subst e
  exact hs i x σ _ (y xs q) p
 ·have e:i=xs.length:=by omega
  subst e
  exact .inl ⟨⟨xs,q,Nat.le_refl _⟩,hd σ H p⟩
theorem Zqs{lo:Int}{n:Nat}{g:TG}{tb:TS}{D:Ze5}{σ:St}{H:Hp}(Pv:Nat->St->Hp->Prop)(h0:Pv 0 σ H)
  (hs:∀i σ H,i<n->Pv i σ H->g (.int (lo+i)) σ H fun σ2 H2=>tb { D with nx:=Pv (i+1),ct:=Pv (i+1),bk:=D.nx } σ2 H2) (hd:∀σ H,Pv n σ H->D.nx σ H) :
  ∃W:Nat->Nat->St->Hp->Prop,(∃m,W 0 m σ H)/\∀i m σ H,W i m σ H ->
   ((Itr lo n).stop i H/\D.nx σ H)\/((Itr lo n).go i H/\∃N:St->Hp->Prop,(∀σ' H',N σ' H'->∃m',m'<m/\W (i+1) m' σ' H')/\∀x H',(Itr lo n).yld i H x H'->g x σ H' fun σ2 H2=>tb { D with nx:=N,ct:=N,bk:=D.nx } σ2 H2):=by
 refine ⟨fun i m σ H=>m=n-i/\i<=n/\Pv i σ H,⟨n,by simp,Nat.zero_le _,h0⟩,?_⟩
 rintro i m σ H ⟨rfl,hi,p⟩
 by_cases hlt:i<n
 ·refine .inr ⟨hlt,Pv (i+1),fun σ' H' p'=>⟨n-(i+1),by omega,rfl,hlt,p'⟩,fun x H' y=>?_⟩
  obtain ⟨e,y⟩:=y
  subst e y
  exact hs i σ _ hlt p
 ·have e:i=n:=by omega
  subst e
  exact .inl ⟨Nat.le_refl _,hd σ H p⟩
end L2
namespace L2
open PySem PySem.Spec PyProof.Rows
abbrev R2:=V->V->Hp->VK->Prop
def OpR(X:Cx)(f:Value->Value->Sem Value)(r:R2):Prop :=
 ∀(pins:List (Addr×Obj)) (s:Shared) (σ:St) (H:Hp) (x y:V) (v u:Value) (Q:VK),Inv X pins σ H s->Yk x v->Yk y u->r x y H Q ->
  wpAny (model X.prog X.w) X.A (f v u) (EP X pins σ Q) X.xe s
def UnR(X:Cx)(f:Value->Sem Value)(r:V->Hp->VK->Prop):Prop :=
 ∀(pins:List (Addr×Obj)) (s:Shared) (σ:St) (H:Hp) (x:V) (v:Value) (Q:VK),Inv X pins σ H s->Yk x v->r x H Q ->
  wpAny (model X.prog X.w) X.A (f v) (EP X pins σ Q) X.xe s
def W3(X:Cx)(f:Value)(r:List V->Hp->VK->Prop):Prop :=
 ∀(pins:List (Addr×Obj)) (s:Shared) (σ:St) (H:Hp) (xs:List V) (us:List Value) (Q:VK),Inv X pins σ H s->Yc xs us->r xs H Q ->
  wpAny (model X.prog X.w) X.A (call f us) (EP X pins σ Q) X.xe s
def Yab(X:Cx)(r:V->Hp->(Bool->Hp->Prop)->Prop):Prop :=
 ∀(pins:List (Addr×Obj)) (s:Shared) (σ:St) (H:Hp) (x:V) (v:Value) (Q:Bool->Hp->Prop),Inv X pins σ H s->Yk x v->r x H Q ->
  wpAny (model X.prog X.w) X.A (truthy v) (TP X pins σ Q) X.xe s
def tOp(r:R2)(ta tb:TE):TE:=fun σ H Q=>ta σ H fun x H1=>tb σ H1 fun y H2=>r x y H2 Q
def tUn(r:V->Hp->VK->Prop)(ta:TE):TE:=fun σ H Q=>ta σ H fun x H1=>r x H1 Q
def rI(C:Int->Int->Prop)(g:Int->Int->V):R2:=fun x y H Q=>∃i j,x=.int i/\y=.int j/\C i j/\Q (g i j) H
def rI0(g:Int->Int->V):R2:=fun x y H Q=>∃i j,x=.int i/\y=.int j/\Q (g i j) H
def rU(g:Int->V):V->Hp->VK->Prop:=fun x H Q=>∃i,x=.int i/\Q (g i) H
section
variable {X:Cx} {a b c:Expr} {ta tb tc:TE} {pos:Pos}
theorem Zxl(ha:PE X a ta)(hb:PE X b tb){pins:List (Addr×Obj)}{s:Shared}{σ:St}{H:Hp}{R:V->V->Hp->Prop}(I:Inv X pins σ H s)
  (h:ta σ H fun x H1=>tb σ H1 fun y H2=>R x y H2) {Q:Value->Shared->Prop} {f:Value->Value->Sem Value}
  (hf:∀v u s2 x y H2,Inv X pins σ H2 s2->Yk x v->Yk y u->R x y H2->wpAny (model X.prog X.w) X.A (f v u) Q X.xe s2) :
  wpAny (model X.prog X.w) X.A (eval a X.env) (fun v s₁=>wpAny (model X.prog X.w) X.A (eval b X.env) (fun u s₂=>wpAny (model X.prog X.w) X.A (f v u) Q X.xe s₂) X.xe s₁) X.xe s:=by
 refine thn (ha pins s σ H _ I h) fun v s1 ⟨x,H1,I1,r1,q1⟩=>?_
 refine thn (hb pins s1 σ H1 _ I1 q1) fun u s2 ⟨y,H2,I2,r2,q2⟩=>?_
 exact hf v u s2 x y H2 I2 r1 r2 q2
theorem Zp{op:Operator}{r:R2}(ho:OpR X (binaryOp op) r)(ha:PE X a ta)(hb:PE X b tb):PE X (.BinOp a op b pos) (tOp r ta tb):=by
 intro pins s σ H Q I h
 exact wpAny_BinOp (Zxl ha hb I h fun v u s2 x y H2 I2 rx ry q=>ho pins s2 σ H2 x y v u Q I2 rx ry q)
theorem Zmv{op:UnaryOp}{r:V->Hp->VK->Prop}(ho:UnR X (unaryOp op) r)(ha:PE X a ta):PE X (.UnaryOp op a pos) (tUn r ta):=by
 intro pins s σ H Q I h
 exact UnaryOp_ (thn (ha pins s σ H _ I h) fun v s1 ⟨x,H1,I1,r1,q1⟩=>ho pins s1 σ H1 x v Q I1 r1 q1)
theorem opI{f:Value->Value->Sem Value}{C:Int->Int->Prop}{g:Int->Int->Int}
  (rule:∀(i j:Int) (t u:Tok) (s:Shared) (Q:Value->Shared->Prop) (E:Value->Shared->Prop),C i j->Q (.int (g i j) s.toks) { s with toks:=s.toks+1 }->wpAny (model X.prog X.w) X.A (f (.int i t) (.int j u)) Q E s) :
  OpR X f (rI C fun i j=>.int (g i j)):=by
 intro pins s σ H x y v u Q I rx ry h
 obtain ⟨i,j,rfl,rfl,hc,q⟩:=h
 obtain ⟨t,rfl⟩:=rx
 obtain ⟨t',rfl⟩:=ry
 exact rule i j t t' s _ _ hc ⟨.int (g i j),H,I.tok _,⟨_,rfl⟩,q⟩
theorem Zyc{f:Value->Value->Sem Value}{g:Int->Int->Int}
  (rule:∀(i j:Int) (t u:Tok) (s:Shared) (Q:Value->Shared->Prop) (E:Value->Shared->Prop),Q (.int (g i j) s.toks) { s with toks:=s.toks+1 }->wpAny (model X.prog X.w) X.A (f (.int i t) (.int j u)) Q E s) :
  OpR X f (rI0 fun i j=>.int (g i j)):=by
 intro pins s σ H x y v u Q I rx ry h
 obtain ⟨i,j,rfl,rfl,q⟩:=h
 obtain ⟨t,rfl⟩:=rx
 obtain ⟨t',rfl⟩:=ry
 exact rule i j t t' s _ _ ⟨.int (g i j),H,I.tok _,⟨_,rfl⟩,q⟩
theorem Zzi{f:Value->Value->Sem Value}{g:Int->Int->Bool}
  (rule:∀(i j:Int) (t u:Tok) (s:Shared) (Q:Value->Shared->Prop) (E:Value->Shared->Prop),Q (.bool (g i j)) s->wpAny (model X.prog X.w) X.A (f (.int i t) (.int j u)) Q E s) :
  OpR X f (rI0 fun i j=>.bl (g i j)):=by
 intro pins s σ H x y v u Q I rx ry h
 obtain ⟨i,j,rfl,rfl,q⟩:=h
 obtain ⟨t,rfl⟩:=rx
 obtain ⟨t',rfl⟩:=ry
 exact rule i j t t' s _ _ ⟨.bl (g i j),H,I,rfl,q⟩
def Zzz(i j:Int):Prop:=0<j/\j<1073741824
def Zxg(i j:Int):Prop:=(-(2 ^ 64)<i/\i<2 ^ 64)\/(-(2 ^ 64)<j/\j<2 ^ 64)
theorem Zxg.ok{i j:Int}(h:Zxg i j):IntMulOk i j:=by
 rcases h with ⟨h1,h2⟩|⟨h1,h2⟩
 ·exact .of_left (intBits_le_64 h1 h2)
 ·exact .of_right (intBits_le_64 h1 h2)
theorem Zx8:OpR X (binaryOp .Add) (rI0 fun i j=>.int (i+j)):=Zyc fun _ _ _ _ _ _ _ q=>add_int q
theorem Zku:OpR X (binaryOp .Sub) (rI0 fun i j=>.int (i-j)):=Zyc fun _ _ _ _ _ _ _ q=>sub_int q
theorem Zfh:OpR X (binaryOp .Mult) (rI Zxg fun i j=>.int (i * j)):=opI fun _ _ _ _ _ _ _ hc q=>mul_int q hc.ok
theorem Ys:OpR X (binaryOp .FloorDiv) (rI Zzz fun i j=>.int (i / j)):=opI fun i j _ _ _ _ _ hc q=>by
 have h1:(0:Int)<j:=hc.1
 have h2:j<1073741824:=hc.2
 exact floordiv_int (by omega) (by rw [Int.fdiv_eq_ediv_of_nonneg i (by omega)];exact q) (.inl (PyProof.noPylong_small (by omega)))
theorem Yr:OpR X (binaryOp .Mod) (rI (fun _ j=>0<j) fun i j=>.int (i%j)):=opI fun i j _ _ _ _ _ hc q=>by
 have h1:(0:Int)<j:=hc
 exact mod_int' (by omega) (by rw [Int.fmod_eq_emod_of_nonneg i (by omega)];exact q)
theorem unI{f:Value->Sem Value}{g:Int->Int}
  (rule:∀(i:Int) (t:Tok) (s:Shared) (Q:Value->Shared->Prop) (E:Value->Shared->Prop),Q (.int (g i) s.toks) { s with toks:=s.toks+1 }->wpAny (model X.prog X.w) X.A (f (.int i t)) Q E s) :
  UnR X f (rU fun i=>.int (g i)):=by
 intro pins s σ H x v Q I rx h
 obtain ⟨i,rfl,q⟩:=h
 obtain ⟨t,rfl⟩:=rx
 exact rule i t s _ _ ⟨.int (g i),H,I.tok _,⟨_,rfl⟩,q⟩
theorem Zir:UnR X (unaryOp .USub) (rU fun i=>.int (-i)):=unI fun _ _ _ _ _ q=>neg_int q
end
def Zy7:V->V->Bool
 | .non,.non=>true | .non,.int _=>true | .int _,.non=>true | .non,.bl _=>true | .bl _,.non=>true | .non,.str _=>true | .str _,.non=>true
 | .int _,.int _=>true | .bl _,.bl _=>true | .str _,.str _=>true | .byt _,.byt _=>true
 | .int _,.str _=>true | .str _,.int _=>true | .bl _,.str _=>true | .str _,.bl _=>true
 | _,_=>false
def rEq:R2:=fun x y H Q=>Zy7 x y=true/\Q (.bl (decide (x=y))) H
def rNe:R2:=fun x y H Q=>Zy7 x y=true/\Q (.bl (!decide (x=y))) H
theorem Zpt{i j:Int}:decide (V.int i=V.int j)=(i ==j):=by
 rw [Bool.eq_iff_iff]
 simp
theorem Zry{i j:Bool}:decide (V.bl i=V.bl j)=(i ==j):=by
 rw [Bool.eq_iff_iff]
 simp
theorem Zpd{i j:Str}:decide (V.str i=V.str j)=(i ==j):=by
 rw [Bool.eq_iff_iff]
 simp
theorem Zo1{i j:Array UInt8}:decide (V.byt i=V.byt j)=(i.toList ==j.toList):=by
 rw [Bool.eq_iff_iff]
 cases i
 cases j
 simp
section
variable {X:Cx} {a b c:Expr} {ta tb tc:TE} {pos:Pos}
theorem Yq{pins:List (Addr×Obj)}{σ:St}{H:Hp}{s:Shared}{Q:VK}{k k':Bool}(I:Inv X pins σ H s)(q:Q (.bl k) H)(e:k=k'):EP X pins σ Q (.bool k') s:=by
 subst e
 exact ⟨.bl k,H,I,rfl,q⟩
theorem Zyw:OpR X (compareOp .Eq) rEq:=by
 intro pins s σ H x y v u Q I rx ry h
 obtain ⟨hs,q⟩:=h
 cases x with
 | non =>
  cases rx
  cases y with
  | non=>cases ry;exact PySem.EqNone.eq_none_none (Yq I q (by simp))
  | bl j=>cases ry;exact PySem.EqNone.eq_none_bool (Yq I q (by simp))
  | int j=>obtain ⟨t',rfl⟩:=ry;exact PySem.EqNone.eq_none_int (Yq I q (by simp))
  | str j=>obtain ⟨t',rfl⟩:=ry;exact PySem.EqNone.eq_none_str (Yq I q (by simp))
  | _=>exact absurd (show false=true from hs) Bool.false_ne_true
 | bl i =>
  cases rx
  cases y with
  | non=>cases ry;exact PySem.EqNone.eq_bool_none (Yq I q (by simp))
  | bl j=>cases ry;exact eq_bool (Yq I q Zry)
  | str j=>obtain ⟨t',rfl⟩:=ry;exact PySem.EqMixed.eq_bool_str (Yq I q (by simp))
  | _=>exact absurd (show false=true from hs) Bool.false_ne_true
 | int i =>
  obtain ⟨t,rfl⟩:=rx
  cases y with
  | non=>cases ry;exact PySem.EqNone.eq_int_none (Yq I q (by simp))
  | int j=>obtain ⟨t',rfl⟩:=ry;exact eq_int (Yq I q Zpt)
  | str j=>obtain ⟨t',rfl⟩:=ry;exact PySem.EqMixed.eq_int_str (Yq I q (by simp))
  | _=>exact absurd (show false=true from hs) Bool.false_ne_true
 | str i =>
  obtain ⟨t,rfl⟩:=rx
  cases y with
  | non=>cases ry;exact PySem.EqNone.eq_str_none (Yq I q (by simp))
  | bl j=>cases ry;exact PySem.EqMixed.eq_str_bool (Yq I q (by simp))
  | int j=>obtain ⟨t',rfl⟩:=ry;exact PySem.EqMixed.eq_str_int (Yq I q (by simp))
  | str j=>obtain ⟨t',rfl⟩:=ry;exact eq_str (Yq I q Zpd)
  | _=>exact absurd (show false=true from hs) Bool.false_ne_true
 | byt i =>
  obtain ⟨t,rfl⟩:=rx
  cases y with
  | byt j=>obtain ⟨t',rfl⟩:=ry;exact PySem.W.eq_bytes (Yq I q Zo1)
  | _=>exact absurd (show false=true from hs) Bool.false_ne_true
 | _=>cases y <;>exact absurd (show false=true from hs) Bool.false_ne_true
theorem Zyo:OpR X (compareOp .NotEq) rNe:=by
 intro pins s σ H x y v u Q I rx ry h
 obtain ⟨hs,q⟩:=h
 cases x with
 | non =>
  cases rx
  cases y with
  | non=>cases ry;exact PySem.EqNone.ne_none_none (Yq I q (by simp))
  | bl j=>cases ry;exact PySem.EqNone.ne_none_bool (Yq I q (by simp))
  | int j=>obtain ⟨t',rfl⟩:=ry;exact PySem.EqNone.ne_none_int (Yq I q (by simp))
  | str j=>obtain ⟨t',rfl⟩:=ry;exact PySem.EqNone.ne_none_str (Yq I q (by simp))
  | _=>exact absurd (show false=true from hs) Bool.false_ne_true
 | bl i =>
  cases rx
  cases y with
  | non=>cases ry;exact PySem.EqNone.ne_bool_none (Yq I q (by simp))
  | bl j=>cases ry;exact ne_bool (Yq I q (congrArg not Zry))
  | str j=>obtain ⟨t',rfl⟩:=ry;exact PySem.EqMixed.ne_bool_str (Yq I q (by simp))
  | _=>exact absurd (show false=true from hs) Bool.false_ne_true
 | int i =>
  obtain ⟨t,rfl⟩:=rx
  cases y with
  | non=>cases ry;exact PySem.EqNone.ne_int_none (Yq I q (by simp))
  | int j=>obtain ⟨t',rfl⟩:=ry;exact ne_int (Yq I q (congrArg not Zpt))
  | str j=>obtain ⟨t',rfl⟩:=ry;exact PySem.EqMixed.ne_int_str (Yq I q (by simp))
  | _=>exact absurd (show false=true from hs) Bool.false_ne_true
 | str i =>
  obtain ⟨t,rfl⟩:=rx
  cases y with
  | non=>cases ry;exact PySem.EqNone.ne_str_none (Yq I q (by simp))
  | bl j=>cases ry;exact PySem.EqMixed.ne_str_bool (Yq I q (by simp))
  | int j=>obtain ⟨t',rfl⟩:=ry;exact PySem.EqMixed.ne_str_int (Yq I q (by simp))
  | str j=>obtain ⟨t',rfl⟩:=ry;exact ne_str (Yq I q (congrArg not Zpd))
  | _=>exact absurd (show false=true from hs) Bool.false_ne_true
 | byt i =>
  obtain ⟨t,rfl⟩:=rx
  cases y with
  | byt j=>obtain ⟨t',rfl⟩:=ry;exact PySem.W.ne_bytes (Yq I q (congrArg not Zo1))
  | _=>exact absurd (show false=true from hs) Bool.false_ne_true
 | _=>cases y <;>exact absurd (show false=true from hs) Bool.false_ne_true
theorem Zj7:OpR X (compareOp .Lt) (rI0 fun i j=>.bl (decide (i<j))):=Zzi fun _ _ _ _ _ _ _ q=>lt_int q
theorem Zkj:OpR X (compareOp .Gt) (rI0 fun i j=>.bl (decide (j<i))):=Zzi fun _ _ _ _ _ _ _ q=>gt_int q
theorem Zrn:OpR X (compareOp .In) (fun x y H Q=>∃i j,x=.str i/\y=.str j/\Q (.bl (!(Builtin.Str.occurrences j i 0 j.length 1).isEmpty)) H):=by
 intro pins s σ H x y v u Q I rx ry h
 obtain ⟨i,j,rfl,rfl,q⟩:=h
 obtain ⟨t,rfl⟩:=rx
 obtain ⟨t',rfl⟩:=ry
 exact in_str (Yq I q rfl)
theorem Zwr:OpR X (compareOp .Is) (fun x y H Q=>y=.non/\Q (.bl (decide (x=.non))) H):=by
 intro pins s σ H x y v u Q I rx ry h
 obtain ⟨rfl,q⟩:=h
 cases ry
 refine is_none_gen (Yq I q ?_)
 cases x <;>first
  | (cases rx;rfl)
  | (obtain ⟨t,rfl⟩:=rx;rfl)
theorem OpR.or{f:Value->Value->Sem Value}{r r':R2}(h:OpR X f r)(h':OpR X f r'):OpR X f (fun x y H Q=>r x y H Q\/r' x y H Q):=by
 intro pins s σ H x y v u Q I rx ry q
 rcases q with q|q
 ·exact h pins s σ H x y v u Q I rx ry q
 ·exact h' pins s σ H x y v u Q I rx ry q
theorem Z9(b:Expr){op:CmpOp}(h:op ≠ .In:=by decide)(h2:op ≠ .NotIn:=by decide):behindInMarks op b=false:=by
 have e1:(op ==CmpOp.In)=false:=by cases op <;>first | rfl | exact absurd rfl h
 have e2:(op ==CmpOp.NotIn)=false:=by cases op <;>first | rfl | exact absurd rfl h2
 cases b <;>simp [behindInMarks,e1,e2]
theorem Zcp{op:CmpOp}{r:R2}(ho:OpR X (compareOp op) r)(ha:PE X a ta)(hb:PE X b tb)(hm:behindInMarks op b=false):PE X (.Compare a [op] [b] pos) (tOp r ta tb):=by
 intro pins s σ H Q I h
 exact wpAny_Compare1 (Zxl ha hb I h fun v u s2 x y H2 I2 rx ry q=>ho pins s2 σ H2 x y v u Q I2 rx ry q) hm
def Zv6(t:TE):TT:=fun σ H Q=>t σ H fun x H'=>∃k,x=.bl k/\Q k H'
theorem Zr{op:CmpOp}{r:R2}(ho:OpR X (compareOp op) r)(ha:PE X a ta)(hb:PE X b tb)(hm:behindInMarks op b=false):PT X (.Compare a [op] [b] pos) (Zv6 (tOp r ta tb)):=by
 intro pins s σ H Q I h
 refine wpAny_isTrue_Compare1 (thn (ha pins s σ H _ I h) fun v s1 ⟨x,H1,I1,r1,q1⟩=>thn (hb pins s1 σ H1 _ I1 q1) fun u s2 ⟨y,H2,I2,r2,q2⟩ =>
  thn (ho pins s2 σ H2 x y v u _ I2 r1 r2 q2) fun c s3 ⟨z,H3,I3,r3,k,e,q3⟩=>?_) hm
 subst e
 cases r3
 exact wpAny_truthy_bool ⟨H3,I3,q3⟩
def Zyv(K:Frag)(x:V)(H:Hp)(k:Bool):Prop :=
 match x with
 | .non=>k=false
 | .bl b=>k=b
 | .int i=>k=(i !=0)
 | .str y=>y.length<=sizeLine/\k=((y.length:Int) !=0)
 | .byt y=>y.size<=sizeLine/\k=((y.size:Int) !=0)
 | .ref p=>(∃xs,SqL K H p xs/\k=!xs.isEmpty)\/(∃xs,SqT K H p xs/\k=!xs.isEmpty)\/∃kvs,H p=some (.dK kvs)/\k=!kvs.isEmpty
 | _=>False
theorem Zoo{κ:Type}{kvs:List (κ×V)}{vs:List (κ×Value)}(r:KV kvs vs):(!vs.isEmpty)=!kvs.isEmpty:=by
 cases r <;>rfl
theorem Zig{xs:List V}{its:List Value}(r:Yc xs its):(!its.toArray.isEmpty)=!xs.isEmpty:=by
 cases r <;>simp
theorem Zfy:(sizeLine:Nat)<2 ^ 63:=by rw [sizeLine_eq];decide
theorem Zxb:Yab X (fun x H Q=>∃k,Zyv X.K x H k/\Q k H):=by
 intro pins s σ H x v Q I rx h
 obtain ⟨k,e,q⟩:=h
 have hl:=Zfy
 have hs:sizeLine=16777216:=sizeLine_eq
 cases x with
 | non =>
  cases rx
  have e':k=false:=e
  subst e'
  exact truthy_none ⟨H,I,q⟩
 | bl b =>
  cases rx
  have e':k=b:=e
  subst e'
  exact wpAny_truthy_bool ⟨H,I,q⟩
 | int i =>
  obtain ⟨t,rfl⟩:=rx
  have e':k=(i !=0):=e
  subst e'
  exact PySem.P.truthy_int ⟨H,I,q⟩
 | str y =>
  obtain ⟨t,rfl⟩:=rx
  obtain ⟨hy,e'⟩:y.length<=sizeLine/\k=((y.length:Int) !=0):=e
  subst e'
  exact PySem.P.truthy_str (by omega) ⟨H,I.tok _,q⟩
 | byt y =>
  obtain ⟨t,rfl⟩:=rx
  obtain ⟨hy,e'⟩:y.size<=sizeLine/\k=((y.size:Int) !=0):=e
  subst e'
  exact PySem.W.truthy_bytes (by omega) ⟨H,I.tok _,q⟩
 | ref p =>
  cases rx
  have e':(∃xs,SqL X.K H p xs/\k=!xs.isEmpty)\/(∃xs,SqT X.K H p xs/\k=!xs.isEmpty)\/∃kvs,H p=some (.dK kvs)/\k=!kvs.isEmpty:=e
  rcases e' with ⟨xs,hx,e'⟩|⟨xs,hx,e'⟩|⟨kvs,hx,e'⟩
  ·subst e'
   obtain ⟨its,r,pl,hz⟩:=I.list hx
   have hlen:=r.length
   exact wpAny_truthy_list pl.isList (by simp only [List.size_toArray];omega) ⟨H,I.tok _,by rw [Zig r];exact q⟩
  ·subst e'
   obtain ⟨its,r,pl,hz⟩:=I.tuple hx
   have hlen:=r.length
   exact truthy_tuple pl (by simp only [List.size_toArray];omega) ⟨H,I.tok _,by rw [Zig r];exact q⟩
  ·subst e'
   obtain ⟨hz,hS,vs,r,m⟩:kvs.length<=sizeLine/\(p ==sysModules)=false/\∃vs,KV kvs vs/\s.heap.DictOf (Ye X.prog X.w) p vs:=I.hok p _ hx
   have hlen:kvs.length=vs.length:=Paired.length r
   exact wpAny_truthy_dict hS m (by omega) ⟨H,I.tok _,by rw [Zoo r];exact q⟩
 | _=>exact (show False from e).elim
theorem Zs7(ha:PE X a ta)(he:∀whole,isTrue a X.env whole=(do let v <-whole;standAt a.pos;holding [v] (truthy v))) :
  PT X a (fun σ H Q=>ta σ H fun x H'=>∃k,Zyv X.K x H' k/\Q k H'):=by
 intro pins s σ H Q I h
 exact isTrue_plain (thn (ha pins s σ H _ I h) fun v s1 ⟨x,H1,I1,r1,q1⟩=>Zxb pins s1 σ H1 x v Q I1 r1 q1) (he _)
theorem Zos:OpR X (binaryOp .Add) (fun x y H Q=>∃i j,x=.str i/\y=.str j/\i.length+j.length<=sizeLine/\Q (.str (i++j)) H):=by
 intro pins s σ H x y v u Q I rx ry h
 obtain ⟨i,j,rfl,rfl,hz,q⟩:=h
 obtain ⟨t,rfl⟩:=rx
 obtain ⟨t',rfl⟩:=ry
 exact add_str (fun t' tk=>⟨.str (i++j),H,I.tok _,⟨_,rfl⟩,q⟩) hz
theorem Zdb{x:V}{us:List Value}(r:Yc [x] us):∃u,us=[u]/\Yk x u:=by
 cases r with
 | cons r1 r2=>cases r2;exact ⟨_,rfl,r1⟩
theorem Zpi{x y:V}{us:List Value}(r:Yc [x,y] us):∃u w',us=[u,w']/\Yk x u/\Yk y w':=by
 cases r with
 | cons r1 r2 =>
  cases r2 with
  | cons r3 r4=>cases r4;exact ⟨_,_,rfl,r1,r3⟩
theorem Zqj(hc:X.calm=true):W3 X (.builtin "max") (fun xs H Q=>∃i j,xs=[.int i,.int j]/\Q (.int (if j >i then j else i)) H):=by
 intro pins s σ H xs us Q I r h
 obtain ⟨i,j,rfl,q⟩:=h
 obtain ⟨u,w',rfl,⟨t,rfl⟩,⟨t',rfl⟩⟩:=Zpi r
 refine max_two_ints (I.ok.hd hc) fun h' tk k=>⟨_,H,I.kept k,?_,q⟩
 by_cases hj:j >i
 ·rw [if_pos hj,if_pos hj];exact ⟨_,rfl⟩
 ·rw [if_neg hj,if_neg hj];exact ⟨_,rfl⟩
theorem Zqw(hc:X.calm=true):W3 X (.builtin "min") (fun xs H Q=>∃i j,xs=[.int i,.int j]/\Q (.int (if j<i then j else i)) H):=by
 intro pins s σ H xs us Q I r h
 obtain ⟨i,j,rfl,q⟩:=h
 obtain ⟨u,w',rfl,⟨t,rfl⟩,⟨t',rfl⟩⟩:=Zpi r
 refine min_two_ints (I.ok.hd hc) fun h' tk k=>⟨_,H,I.kept k,?_,q⟩
 by_cases hj:j<i
 ·rw [if_pos hj,if_pos hj];exact ⟨_,rfl⟩
 ·rw [if_neg hj,if_neg hj];exact ⟨_,rfl⟩
theorem Zav:W3 X (.type "str") (fun xs H Q=>∃i,xs=[.int i]/\i.natAbs.log2<1920/\Q (.str (toString i)) H):=by
 intro pins s σ H xs us Q I r h
 obtain ⟨i,rfl,hz,q⟩:=h
 obtain ⟨u,rfl,t,rfl⟩:=Zdb r
 exact PySem.P.str_of_int hz ⟨.str _,H,I.tok _,⟨_,rfl⟩,q⟩
end
end L2
namespace L2
open PySem PySem.Spec PyProof.Rows
structure Znt(h:Heap)(x dx C:Addr)(mA:Str->Option Value):Prop where
 obj:h.get? x=some (PySem.W.instObj C dx)
 ns:h.Ns1 dx mA
 ne:dx≠x
theorem Zrp{h:Heap}{dx:Addr}{mA:Str->Option Value}(n:h.Ns1 dx mA):∃od,h.get? dx=some od/\∀name,PySem.W.lookIn name od=some (mA name):=by
 obtain ⟨o,es,ep,ho,hd,hk,_,hm⟩:=n
 refine ⟨o,ho,fun name=>?_⟩
 have e:=hm name
 unfold nsFind findBy at e
 rw [<-Array.find?_toList] at e
 unfold PySem.W.lookIn
 rw [hd]
 dsimp only
 split
 ·rename_i y q
  rw [q] at e
  exact congrArg some e
 ·rename_i q
  rw [q] at e
  have a:es.toList.any (·.refKey)=false:=by
   rw [List.any_eq_false]
   intro y hy
   obtain ⟨z,t,hkey⟩:=hk y (Array.mem_toList_iff.mp hy)
   simp [DictEntry.refKey,hkey]
  have a':¬es.toList.any (·.refKey)=true:=by rw [a];exact Bool.false_ne_true
  rw [if_neg a']
  exact congrArg some e
theorem Znt.look{h:Heap}{x dx C:Addr}{mA:Str->Option Value}(I:Znt h x dx C mA):∃od,PySem.W.InstAt h x (PySem.W.instObj C dx) C (some od)/\∀name,PySem.W.lookIn name od=some (mA name) :=
 let ⟨od,ho,hl⟩:=Zrp I.ns
 ⟨od,⟨I.obj,rfl,rfl,ho⟩,hl⟩
section
variable {prog:Program} {w:World} {A:Around} {E:Value->Shared->Prop} {s:Shared} {K:Frag} {x dx C f:Addr} {mA:Str->Option Value} {name:Str} {v:Value}
theorem Zvg{expr:Bool}{Q:Value->Shared->Prop}(X:K.In s.heap)(I:Znt s.heap x dx C mA)(hg:PySem.W.plainGet K C name=true)(hh:PySem.W.hasDictIn K C=true)
  (ha:findIn K (.ref C) name=some none) (hv:mA name=some v) (hv':PySem.W.handedIn v=true) (h:Q v { s with toks:=s.toks+1 }) :
  wpAny (model prog w) A (getAttr (.ref x) name expr) Q E s:=by
 obtain ⟨od,J,hl⟩:=I.look
 exact PySem.W.get_value X J (PySem.W.plainGet_of hg).1 (PySem.W.findObj_own hh ha rfl (by rw [hl,hv])) hv' h
theorem Zsw{pl:Sem Bool}{Q:Value×List Value->Shared->Prop}(X:K.In s.heap)(I:Znt s.heap x dx C mA)(hg:PySem.W.plainGet K C name=true)
  (hf:findIn K (.ref C) name=some (some (.ref f))) (ht:PySem.W.isFn K (.ref f)=true) (hv:mA name=none) (h:Q (.ref f,[.ref x]) s) :
  wpAny (model prog w) A (getMethod (.ref x) name pl) Q E s:=by
 obtain ⟨od,J,hl⟩:=I.look
 exact PySem.W.method_fn X J (PySem.W.plainGet_of hg).1 (PySem.W.plainGet_of hg).2 hf (beq_iff_eq.mp ht) (by show (PySem.W.lookIn name od).map (·.isSome)=some false;rw [hl,hv];rfl) h
theorem Zud{ns:List Str}{Q:Unit->Shared->Prop}(X:K.In s.heap)(I:Znt s.heap x dx C mA)
  (hs:findIn K (.ref C) "__setattr__" =some (some (.builtin "object.__setattr__"))) (hp:PySem.W.plainOver K C=true) (ht:PySem.W.takerIn K C name=some none) (hh:PySem.W.hasDictIn K C=true)
  (hw:PySem.Within mA ns) (hsz:ns.length<=sizeLine)
  (h:∀h',Znt h' x dx C (fun y=>if y=name then some v else mA y)->Heap.SameBut dx s.heap h'->Q () { s with heap:=h',toks:=s.toks+2 }) :
  wpAny (model prog w) A (setAttr (.ref x) name v) Q E s:=by
 obtain ⟨od,J,hl⟩:=I.look
 refine PySem.W.set_plain X J hs (PySem.W.osa_open (s:={ s with toks:=s.toks+1 }) (r:=none) X J hp ht fun b=>?_)
 obtain ⟨cd,hc,hd'⟩:=PySem.W.any_some hh
 have hx:s.heap.get? x=some ⟨.ref C,some dx,.plain,#[]⟩:=I.obj
 refine wpAny_bind (wpAny_pure (wpAny_bind (wpAny_bind (wpAny_loadPart hx (wpAny_bind (PySem.W.Looks.here (s:={ s with toks:=s.toks+1 }) (PySem.W.looks_clsIn X hc) ?_))))))
 rw [hd']
 refine wpAny_pure (a:=some dx) (wpAny_bind (wpAny_pure (wpAny_bind ?_)))
 refine wpAny_nsSet1 (s:={ s with toks:=s.toks+1 }) I.ns fun h' hn2 hs2=>?_
 obtain ⟨oD,esD,epD,hoD,hdD,hcD⟩:=hn2.count (PySem.Within.cons name v hw)
 refine wpAny_bind (wpAny_lookBehind hoD (by rw [hdD];exact pastItsLine_dict (Nat.le_trans hcD (by rw [List.length_cons];omega))) ?_)
 exact wpAny_pure (h _ ⟨(hs2.2 _ (Ne.symm I.ne)).trans I.obj,hn2,I.ne⟩ hs2)
theorem Zsm{R:Result->Shared->Prop}{vs:List Value}{kw:List (Str×Value)}(X:K.In s.heap)(hm:PySem.W.makesIn K C=true)
  (hi:findIn K (.ref C) "__init__" =some (some (.ref f))) (hf:PySem.W.typeIn K (.ref f)=some (.type "function"))
  (h:codeAny (model prog w) (A.under (.builtin "type.__call__" ⟨.ref C ::vs,kw⟩)) (.call (.ref f) ⟨.ref (s.heap.objs.size+1) ::vs,kw⟩) (PySem.W.InitBack (s.heap.objs.size+1) R)
   { s with heap:=(s.heap.push PySem.W.emptyDict).push (PySem.W.instObj C s.heap.objs.size) }) :
  codeAny (model prog w) A (.call (.ref C) ⟨vs,kw⟩) R s:=by
 obtain ⟨hh,g,d,t,os⟩:=s
 exact PySem.W.make_core (PySem.W.makes_of X hm) (PySem.W.looks_findIn X hi) (fun self=>PySem.W.bind_fn X self hf) (.inl rfl) h
end
def Zdx(f:Str)(v:V):List (Str×V)->List (Str×V)
 | []=>[(f,v)]
 | (g,x) ::r=>if g=f then (g,v) ::r else (g,x) ::Zdx f v r
theorem Zf9(f g:Str)(v:V):∀fs:List (Str×V),(Zdx f v fs).lookup g=if g=f then some v else fs.lookup g
 | []=>by
  show List.lookup g [(f,v)]=_
  by_cases h:g=f
  ·have hb:(g ==f)=true:=beq_iff_eq.mpr h
   simp only [List.lookup,hb,if_pos h]
  ·have hb:(g ==f)=false:=beq_eq_false_iff_ne.mpr h
   simp only [List.lookup,hb,if_neg h]
 | (k,x) ::r=>by
  have ih:=Zf9 f g v r
  rw [show Zdx f v ((k,x) ::r)=(if k=f then (k,v) ::r else (k,x) ::Zdx f v r) from rfl]
  by_cases hk:k=f
  ·rw [if_pos hk]
   by_cases h:g=k
   ·have hb:(g ==k)=true:=beq_iff_eq.mpr h
    simp only [List.lookup,hb,if_pos (h.trans hk)]
   ·have hb:(g ==k)=false:=beq_eq_false_iff_ne.mpr h
    simp only [List.lookup,hb,if_neg (fun e:g=f=>h (e.trans hk.symm))]
  ·rw [if_neg hk]
   by_cases h:g=k
   ·have hb:(g ==k)=true:=beq_iff_eq.mpr h
    simp only [List.lookup,hb,if_neg (fun e:g=f=>hk (h.symm.trans e))]
   ·have hb:(g ==k)=false:=beq_eq_false_iff_ne.mpr h
    simp only [List.lookup,hb]
    exact ih
theorem Zf1(f:Str)(v:V):∀fs:List (Str×V),f∈(Zdx f v fs).map (·.1)/\∀g,g∈fs.map (·.1)->g∈(Zdx f v fs).map (·.1)
 | []=>⟨by simp [Zdx],fun g h=>by simp at h⟩
 | (k,x) ::r=>by
  obtain ⟨i1,i2⟩:=Zf1 f v r
  rw [show Zdx f v ((k,x) ::r)=(if k=f then (k,v) ::r else (k,x) ::Zdx f v r) from rfl]
  by_cases hk:k=f
  ·rw [if_pos hk]
   subst hk
   exact ⟨by simp,fun g h=>by simpa using h⟩
  ·rw [if_neg hk]
   refine ⟨?_,fun g h=>?_⟩
   ·rw [List.map_cons]
    exact List.mem_cons_of_mem _ i1
   ·rw [List.map_cons] at h ⊢
    rcases List.mem_cons.mp h with e|e
    ·exact List.mem_cons.mpr (.inl e)
    ·exact List.mem_cons_of_mem _ (i2 g e)
theorem Zga(f:Str)(v:V):∀fs:List (Str×V),(Zdx f v fs).length<=fs.length+1
 | []=>by simp [Zdx]
 | (k,x) ::r=>by
  have ih:=Zga f v r
  rw [show Zdx f v ((k,x) ::r)=(if k=f then (k,v) ::r else (k,x) ::Zdx f v r) from rfl]
  by_cases hk:k=f
  ·rw [if_pos hk,List.length_cons,List.length_cons];omega
  ·rw [if_neg hk,List.length_cons,List.length_cons];omega
theorem Zc7.some_of{v:V}{o:Option Value}(r:Zc7 (some v) o):∃u,o=some u/\Yk v u:=by
 cases o with
 | none=>exact (show False from r).elim
 | some u=>exact ⟨u,rfl,r⟩
theorem Zc7.none_of{o:Option Value}(r:Zc7 none o):o=none:=by
 cases o with
 | none=>rfl
 | some u=>exact (show False from r).elim
theorem Zp8{v:V}{u:Value}(r:Yk v u):PySem.W.handedIn u=true:=by
 cases v with
 | non=>cases (show u=Value.none from r);rfl
 | bl b=>cases (show u=Value.bool b from r);rfl
 | int i=>obtain ⟨t,e⟩:=(show ∃t,u=Value.int i t from r);cases e;rfl
 | str x=>obtain ⟨t,e⟩:=(show ∃t,u=Value.str x t from r);cases e;rfl
 | byt b=>obtain ⟨t,e⟩:=(show ∃t,u=Value.bytes b t from r);cases e;rfl
 | flt b=>obtain ⟨t,e⟩:=(show ∃t,u=Value.float b t from r);cases e;rfl
 | ref a=>cases (show u=Value.ref a from r);rfl
 | ty n=>cases (show u=Value.type n from r);rfl
section
variable {P:Program} {w:World} {H H':Hp} {h h':Heap} {a C dx:Addr} {fs fs':List (Str×V)}
theorem Zg0(hok:HOk P w H h)(e:H a=some (.ins C dx fs)):∃mA,Znt h a dx C mA/\(∀f,Zc7 (fs.lookup f) (mA f))/\PySem.Within mA (fs.map (·.1))/\fs.length<=1000/\H dx=some (.own a):=by
 obtain ⟨d,z,ne,ob,mA,n,r,q⟩:=(show Yn P w H h a (.ins C dx fs) from hok a _ e)
 exact ⟨mA,⟨ob,n,ne⟩,r,q,z,d⟩
end
structure Cls(K:Frag)(C:Addr):Prop where
 pg:PySem.W.plainGet K C Str.empty=true
 hd:PySem.W.hasDictIn K C=true
 po:PySem.W.plainOver K C=true
 sa:findIn K (.ref C) "__setattr__" =some (some (.builtin "object.__setattr__"))
theorem Cls.get{K:Frag}{C:Addr}(c:Cls K C)(f:Str):PySem.W.plainGet K C f=true:=c.pg
def X2(K:Frag)(C:Addr)(f:Str):Prop:=findIn K (.ref C) f=some none
theorem X2.taker{K:Frag}{C:Addr}{f:Str}(n:X2 K C f):PySem.W.takerIn K C f=some none:=by
 unfold PySem.W.takerIn
 rw [show findIn K (.ref C) f=some none from n]
 rfl
structure Xk(K:Frag)(C:Addr)(m:Str)(f:Addr):Prop where
 at_:findIn K (.ref C) m=some (some (.ref f))
 fn:PySem.W.isFn K (.ref f)=true
 kp:keepIn K (.ref f)=true
section
variable {X:Cx} {pins:List (Addr×Obj)} {σ:St} {H:Hp} {s:Shared} {a C dx:Addr} {fs:List (Str×V)} {f:Str} {v:V} {A:Around} {E:Value->Shared->Prop}
theorem Zny{b:Bool}{Q:Value->Shared->Prop}(I:Inv X pins σ H s)(e:H a=some (.ins C dx fs))(c:Cls X.K C)(n:X2 X.K C f)(l:fs.lookup f=some v)
  (h:∀u s',Inv X pins σ H s'->Yk v u->Q u s'):wpAny (model X.prog X.w) A (getAttr (.ref a) f b) Q E s:=by
 obtain ⟨mA,O,r,_,_,_⟩:=Zg0 I.hok e
 obtain ⟨u,hu,ru⟩:=Zc7.some_of (v:=v) (o:=mA f) (by rw [<-l];exact r f)
 exact Zvg I.kIn O (c.get f) c.hd n hu (Zp8 ru) (h u _ (I.tok _) ru)
theorem Zeh{m:Str}{g:Addr}{pl:Sem Bool}{Q:Value×List Value->Shared->Prop}(I:Inv X pins σ H s)(e:H a=some (.ins C dx fs))(c:Cls X.K C)(k:Xk X.K C m g)(l:fs.lookup m=none)
  (h:Q (.ref g,[.ref a]) s):wpAny (model X.prog X.w) A (getMethod (.ref a) m pl) Q E s:=by
 obtain ⟨mA,O,r,_,_,_⟩:=Zg0 I.hok e
 have hn:mA m=none:=Zc7.none_of (by rw [<-l];exact r m)
 exact Zsw I.kIn O (c.get m) k.at_ k.fn hn h
theorem Zoe{y:V}{u:Value}{Q:Unit->Shared->Prop}(I:Inv X pins σ H s)(e:H a=some (.ins C dx fs))(c:Cls X.K C)(n:X2 X.K C f)(hl:fs.length<1000)(ry:Yk y u)
  (h:∀s',Inv X pins σ (upd H a (.ins C dx (Zdx f y fs))) s'->Q () s'):wpAny (model X.prog X.w) A (setAttr (.ref a) f u) Q E s:=by
 obtain ⟨mA,O,r,wi,_,ho⟩:=Zg0 I.hok e
 have hz:(fs.map (·.1)).length<=sizeLine:=by rw [List.length_map,sizeLine_eq];omega
 refine Zud I.kIn O c.sa c.po n.taker c.hd wi hz fun h' O' sb=>h _ ?_
 have hd:∃o,h'.get? dx=some o:=let ⟨o,_,_,e',_⟩:=O'.ns;⟨o,e'⟩
 refine I.write (x:=a) (e:=dx) (by rw [e];exact True.intro) (.inr ho) (fun b q hb z=>(sb.2 b hb).trans z) hd ?_
 refine ⟨by rw [Zi O.ne];exact ho,?_,O.ne,O'.obj,_,O'.ns,fun g=>?_,fun g hg=>?_⟩
 ·have:=Zga f y fs;omega
 ·show Zc7 ((Zdx f y fs).lookup g) (if g=f then some u else mA g)
  rw [Zf9]
  by_cases q:g=f
  ·rw [if_pos q,if_pos q];exact ry
  ·rw [if_neg q,if_neg q];exact r g
 ·by_cases q:g=f
  ·rw [q];exact (Zf1 f y fs).1
  ·refine (Zf1 f y fs).2 g (wi g fun z=>hg ?_)
   show (if g=f then some u else mA g)=none
   rw [if_neg q];exact z
theorem Inv.made(I:Inv X pins σ H s):Inv X pins σ (upd (upd H s.heap.objs.size (.own (s.heap.objs.size+1))) (s.heap.objs.size+1) (.ins C s.heap.objs.size []))
  { s with heap:=(s.heap.push PySem.W.emptyDict).push (PySem.W.instObj C s.heap.objs.size) }:=by
 have e1:(s.heap.push PySem.W.emptyDict).get? s.heap.objs.size=some PySem.W.emptyDict:=Heap.get?_push_size s.heap rfl
 have e2:((s.heap.push PySem.W.emptyDict).push (PySem.W.instObj C s.heap.objs.size)).get? (s.heap.objs.size+1)=some (PySem.W.instObj C s.heap.objs.size):=by
  have:=Heap.get?_push_size (s.heap.push PySem.W.emptyDict) (o:=PySem.W.instObj C s.heap.objs.size) rfl
  rwa [Heap.size_push] at this
 have e3:(s.heap.push PySem.W.emptyDict).Ns s.heap.objs.size (fun _=>none):=⟨PySem.W.emptyDict,#[],_,e1,rfl,(fun e he=>absurd he (by simp)),fun _=>rfl⟩
 have I1:=I.laid (a:=s.heap.objs.size) (o:=.own (s.heap.objs.size+1)) (h':=s.heap.push PySem.W.emptyDict) (t':=s.toks) (fun b u q=>Heap.get?_push_of_some _ q) (Nat.le_refl _) ⟨_,e1⟩
 refine I1.laid (a:=s.heap.objs.size+1) (o:=.ins C s.heap.objs.size []) (t':=s.toks) (fun b u q=>Heap.get?_push_of_some _ q) (Nat.le_of_eq (Heap.size_push _ _)) ?_
 have ne:s.heap.objs.size≠s.heap.objs.size+1:=Nat.ne_of_lt (Nat.lt_succ_self _)
 refine ⟨by rw [Zi ne,Zh],Nat.zero_le _,ne,e2,fun _=>none,(Heap.Ns1.of_empty e3).at fun o q=>Heap.get?_push_of_some _ q,fun _=>True.intro,fun y hy=>absurd rfl hy⟩
theorem Zvr{prog:Program}{w:World}{env:Env}{e:Expr}{f:Str}{pos:Pos}{s:Shared}{Q:Value->Shared->Prop}(hb:attributeBase e f env (eval e env)=eval e env)
  (h:wpAny (model prog w) A (eval e env) (fun o s₁=>wpAny (model prog w) A (getAttr o f true) Q E s₁) E s):wpAny (model prog w) A (eval (.Attribute e f pos) env) Q E s :=
 Attribute_any_ h (by rw [arm_eval_Attribute,hb])
end
def Yad(K:Frag)(ta:TE)(f:Str):TE:=fun σ H Q=>ta σ H fun x H1=>∃a C dx fs v,x=.ref a/\H1 a=some (.ins C dx fs)/\Cls K C/\X2 K C f/\fs.lookup f=some v/\Q v H1
def Yae(K:Frag)(ta tv:TE)(f:Str):TS:=fun D σ H=>tv σ H fun y H1=>ta σ H1 fun x H2=>∃a C dx fs,x=.ref a/\H2 a=some (.ins C dx fs)/\Cls K C/\X2 K C f/\fs.length<1000 /\
 D.nx σ (upd H2 a (.ins C dx (Zdx f y fs)))
section
variable {X:Cx} {o e value:Expr} {f:Str} {pos pos' tpos:Pos} {ta tv:TE}
theorem W5(he:PE X e ta)(hb:attributeBase e f X.env (eval e X.env)=eval e X.env):PE X (.Attribute e f pos) (Yad X.K ta f):=by
 intro pins s σ H Q I h
 refine Zvr hb (thn (he pins s σ H _ I h) fun u s1 ⟨x,H1,I1,rx,a,C,dx,fs,v,ex,ea,c,n,l,q⟩=>?_)
 subst ex
 obtain rfl:u=Value.ref a:=rx
 exact Zny I1 ea c n l fun u' s2 I2 ru=>⟨v,H1,I2,ru,q⟩
theorem Zhj(ha:PE X o ta)(hv:PE X value tv)(hs:swapsWith value (some (.Attribute o f pos')) pos.line X.env=pure false):PS X (.Assign [.Attribute o f pos'] value pos) (Yae X.K ta tv f):=by
 intro pins s σ H D I h
 refine plainObj_wpAny_Assign_Attribute (thn (hv pins s σ H _ I h) fun u s1 ⟨y,H1,I1,ry,q⟩=>thn (ha pins s1 σ H1 _ I1 q) fun ov s2 ⟨x,H2,I2,rx,a,C,dx,fs,ex,ea,c,n,l,q2⟩=>?_) hs
 subst ex
 obtain rfl:ov=Value.ref a:=rx
 exact Zoe I2 ea c n l ry fun s3 I3=>⟨σ,_,I3,q2⟩
theorem Zwd{pl:Sem Bool}{m:Str}{apos:Pos}{args:List Expr}{pins:List (Addr×Obj)}{s:Shared}{σ:St}{H:Hp}{Q:Value->Shared->Prop}{te:TE}(he:PE X e te)(I:Inv X pins σ H s)
  (h:te σ H fun x H1=>∃a C dx fs g,x=.ref a/\H1 a=some (.ins C dx fs)/\Cls X.K C/\Xk X.K C m g/\fs.lookup m=none /\
   ∀s1,Inv X pins σ H1 s1->wpAny (model X.prog X.w) X.A (callWith pos (.ref g) [.ref a] (backTo pos (starEach args X.env)) (backToKw pos (keywordEach [] X.env))) Q X.xe s1)
  (ht:eval (.Call (.Attribute e m apos) args [] pos) X.env=(do
   let ov <-eval e X.env
   standAt apos.atName
   let (f,first) <-holding [ov] (getMethod ov m pl)
   callWith pos f first (backTo pos (starEach args X.env)) (backToKw pos (keywordEach [] X.env)))) :
  wpAny (model X.prog X.w) X.A (eval (.Call (.Attribute e m apos) args [] pos) X.env) Q X.xe s:=by
 refine PySem.W.methodCall_KW (pl:=pl) (thn (he pins s σ H _ I h) fun u s1 ⟨x,H1,I1,rx,a,C,dx,fs,g,ex,ea,c,k,l,q⟩=>?_) ht
 subst ex
 obtain rfl:u=Value.ref a:=rx
 exact Zeh I1 ea c k l (q s1 I1)
end
section
variable {X:Cx} {pins:List (Addr×Obj)} {σ:St} {H:Hp} {s:Shared} {A:Around} {E:Value->Shared->Prop} {Q:Value->Shared->Prop} {c:Value} {b:Bool}
inductive Zbs(K:Frag)(H:Hp):V->Value->Prop where
 | non:Zbs K H .non (.type "NoneType")
 | bl (x:Bool):Zbs K H (.bl x) (.type "bool")
 | int (i:Int):Zbs K H (.int i) (.type "int")
 | str (x:Str):Zbs K H (.str x) (.type "str")
 | flt (x:UInt64):Zbs K H (.flt x) (.type "float")
 | lst {a:Addr} {xs:List V} (e:H a=some (.lst xs)):Zbs K H (.ref a) (.type "list")
 | frz {a:Addr} {o:Obj} {xs:List V} (e:H a=some (.frz o (.lst xs))):Zbs K H (.ref a) (.type "list")
 | tup {a:Addr} {xs:List V} (e:H a=some (.tup xs)):Zbs K H (.ref a) (.type "tuple")
 | dK {a:Addr} {kvs:List (Key×V)} (e:H a=some (.dK kvs)):Zbs K H (.ref a) (.type "dict")
 | dT {a:Addr} {kvs:List (List Key×V)} (e:H a=some (.dT kvs)):Zbs K H (.ref a) (.type "dict")
 | ins {a C dx:Addr} {fs:List (Str×V)} (e:H a=some (.ins C dx fs)) (cl:Cls K C) (ha:findIn K (.ref C) "__class__" =some (some (.builtin "object.__class__")))
   (hn:PySem.W.specialIn K (.builtin "object.__class__") "__get__" =some (some (.builtin "getset_descriptor.__get__"))) (htk:PySem.W.takesIn K (.builtin "object.__class__")=some true)
   (hm:PySem.W.mroIn K C (.type "object")=some true):Zbs K H (.ref a) (.ref C)
theorem Zkf{x:V}{u t:Value}(I:Inv X pins σ H s)(rx:Yk x u)(ty:Zbs X.K H x t)(e:kitOne X.K t c=some b)(h:∀tk,Q (.bool b) { s with toks:=tk }) :
  wpAny (model X.prog X.w) A (call (.builtin "isinstance") [u,c]) Q E s:=by
 cases ty with
 | non=>cases (show u=Value.none from rx);exact PySem.W.kia_one PySem.W.kitx_none I.kIn True.intro e (fun z=>nomatch z) h
 | bl y=>cases (show u=Value.bool y from rx);exact PySem.W.kia_one PySem.W.kitx_bool I.kIn True.intro e (fun z=>nomatch z) h
 | int i=>obtain ⟨t,q⟩:=(show ∃t,u=Value.int i t from rx);cases q;exact PySem.W.kia_one PySem.W.kitx_int I.kIn True.intro e (fun z=>nomatch z) h
 | str y=>obtain ⟨t,q⟩:=(show ∃t,u=Value.str y t from rx);cases q;exact PySem.W.kia_one PySem.W.kitx_str I.kIn True.intro e (fun z=>nomatch z) h
 | flt y=>obtain ⟨t,q⟩:=(show ∃t,u=Value.float y t from rx);cases q;exact PySem.W.kia_one PySem.W.kitx_float I.kIn True.intro e (fun z=>nomatch z) h
 | @lst a xs ea =>
  cases (show u=Value.ref a from rx)
  obtain ⟨_,_,n,_,h1⟩:=(show Yn X.prog X.w H s.heap a (.lst xs) from I.hok a _ ea)
  exact PySem.W.kia_one PySem.W.kitx_list I.kIn ⟨_,h1,rfl⟩ e (fun z=>nomatch z) h
 | @frz a ob xs ea =>
  cases (show u=Value.ref a from rx)
  obtain ⟨_,_,_,n,_,h1⟩:=(show Yn X.prog X.w H s.heap a (.frz ob (.lst xs)) from I.hok a _ ea)
  exact PySem.W.kia_one PySem.W.kitx_list I.kIn ⟨_,h1,rfl⟩ e (fun z=>nomatch z) h
 | @tup a xs ea =>
  cases (show u=Value.ref a from rx)
  obtain ⟨_,_,_,p⟩:=(show Yn X.prog X.w H s.heap a (.tup xs) from I.hok a _ ea)
  obtain ⟨o,h1,h2,_⟩:=p
  exact PySem.W.kia_one PySem.W.kitx_tuple I.kIn ⟨o,h1,h2⟩ e (fun z=>nomatch z) h
 | @dK a kvs ea =>
  cases (show u=Value.ref a from rx)
  obtain ⟨_,_,vs,_,p⟩:=(show Yn X.prog X.w H s.heap a (.dK kvs) from I.hok a _ ea)
  obtain ⟨o,es,ep,h1,h2,_⟩:=p
  exact PySem.W.kia_one PySem.W.kitx_dict I.kIn ⟨o,h1,h2.1⟩ e (fun z=>nomatch z) h
 | @dT a kvs ea =>
  cases (show u=Value.ref a from rx)
  obtain ⟨_,_,xs,_,o,es,ep,h1,h2,_⟩:=(show Yn X.prog X.w H s.heap a (.dT kvs) from I.hok a _ ea)
  exact PySem.W.kia_one PySem.W.kitx_dict I.kIn ⟨o,h1,h2.1⟩ e (fun z=>nomatch z) h
 | @ins a C dx fs ea cl ha hn htk hm =>
  cases (show u=Value.ref a from rx)
  obtain ⟨mA,O,_⟩:=Zg0 I.hok ea
  obtain ⟨od,J,_⟩:=O.look
  exact PySem.W.kia_one (PySem.W.kitx_own (cl.get _) cl.hd ha hn htk hm) I.kIn J e (fun z=>nomatch z) h
end
end L2
namespace L2
open PySem PySem.Spec PyProof.Rows
structure W6(k:Nat)(A:Around):Prop where
 hd:A.handled=none
 dp:A.depth+3 * k+5<recursionLimit
 un:A.units+16 * k+200<cLine
theorem W6.mono{j k:Nat}{A:Around}(r:W6 k A)(h:j<=k):W6 j A:=⟨r.hd,by have:=r.dp;omega,by have:=r.un;omega⟩
theorem W6.deeper{k:Nat}{A:Around}(r:W6 (k+1) A)(env:Env):W6 k (A.deeper env) :=
 ⟨r.hd,by have:=r.dp;show A.depth+1+3 * k+5<_;omega,by have:=r.un;show A.units+3+16 * k+200<_;omega⟩
theorem Zov{A:Around}{C:Addr}{us:List Value}{kw:List (Str×Value)}:(A.under (.builtin "type.__call__" ⟨.ref C ::us,kw⟩)).depth=A.depth+1:=by
 first | rfl | simp [Around.under,Code.weight,Code.isCreation,Code.isGuard,Code.isCaller,Code.frames,Code.isFrame,guardIds]
theorem Znn{A:Around}{C:Addr}{us:List Value}{kw:List (Str×Value)}:(A.under (.builtin "type.__call__" ⟨.ref C ::us,kw⟩)).units=A.units+1:=by
 first | rfl | simp [Around.under,Code.cUnits,Code.frames,Code.isFrame]
theorem W6.make{k:Nat}{A:Around}(r:W6 (k+1) A)(C:Addr)(us:List Value)(kw:List (Str×Value)):W6 k (A.under (.builtin "type.__call__" ⟨.ref C ::us,kw⟩)) :=
 ⟨r.hd,by have:=r.dp;rw [Zov];omega,by have:=r.un;rw [Znn];omega⟩
theorem W6.depth{k:Nat}{A:Around}(r:W6 k A):A.depth<recursionLimit:=by have:=r.dp;omega
theorem W6.units{k:Nat}{A:Around}(r:W6 k A):A.units+64<cLine:=by have:=r.un;omega
def Zur:TA:=fun _ H Q=>Q [] H
def Zkg(ta:TE)(tr:TA):TA:=fun σ H Q=>ta σ H fun x H1=>tr σ H1 fun xs H2=>Q (x ::xs) H2
section
variable {X:Cx} {e:Expr} {es:List Expr} {te:TE} {t:TA} {pos:Pos}
theorem Za:PA X [] Zur:=fun _ _ _ _ H Q I h=>Calls.spliced_nil ⟨[],H,I,.nil,h⟩
theorem Zt9(ha:PE X e te)(hr:PA X es t)(hs:starEach (e ::es) X.env=(false,eval e X.env) ::starEach es X.env:=by rfl):PA X (e ::es) (Zkg te t):=by
 intro pos pins s σ H Q I h
 rw [hs]
 show wpAny _ _ (spliced ((false,eval e X.env) ::backTo pos (starEach es X.env))) _ _ s
 refine Calls.spliced_cons (thn (ha pins s σ H _ I h) fun u s1 ⟨x,H1,I1,r1,q1⟩=>?_)
 exact thn (hr pos pins s1 σ H1 _ I1 q1) fun us s2 ⟨xs,H2,I2,r2,q2⟩=>⟨x ::xs,H2,I2,.cons r1 r2,q2⟩
end
abbrev Sp:=List V->Hp->VK->XK->Prop
abbrev CXT:=List Env->Hp->Shared->XK->Value->Shared->Prop
structure Zor(P:Program)(w:World)(K:Frag)(mg:Str->Option Value)(base:Heap)(A:Around)(outer:List Env)(s:Shared)(H:Hp):Prop where
 frames:A.frames=some outer
 mod:Mod K mg base
 bs:∀b o,base.get? b=some o->s.heap.get? b=some o/\H b=none
 bsz:base.objs.size<=s.heap.objs.size
 funs:s.heap.FunFrames base outer
 frf:∀b∈frs outer,H b=none
 hok:HOk P w H s.heap
 bare:AllBare s.gens
def CE(outer:List Env)(P:Program)(w:World)(H:Hp)(s:Shared)(Q:VK)(u:Value)(s':Shared):Prop :=
 ∃v H',s'.os=s.os/\AllBare s'.gens/\Un (frs outer) [] H H' s.heap s'.heap/\HOk P w H' s'.heap/\Yk v u/\Q v H'
def CR(CX:CXT)(outer:List Env)(P:Program)(w:World)(H:Hp)(s:Shared)(Q:VK)(E:XK)(r:Result)(s':Shared):Prop :=
 match r with
 | .ok (.ret u)=>CE outer P w H s Q u s'
 | .ok _=>False
 | .error e=>CX outer H s E e s'
structure Zz(P:Program)(w:World)(K:Frag)(mg:Str->Option Value)(base:Heap)(CX:CXT)(k:Nat)(f:Addr)(fd:FuncData)(ps:List Str)(sp:Sp):Prop where
 len:∀vs H Q E,sp vs H Q E->vs.length=ps.length
 run:∀(A:Around) (outer:List Env) (s:Shared) (H:Hp) (args:Args) (us:List Value) (vs:List V) (Q:VK) (E:XK),W6 k A->Zor P w K mg base A outer s H->BindsTo s fd args (ps.zip us)->Yc vs us->sp vs H Q E ->
  codeAny (model P w) A (.call (.ref f) args) (CR CX outer P w H s Q E) s
theorem Zz.mono{P:Program}{w:World}{K:Frag}{mg:Str->Option Value}{base:Heap}{CX:CXT}{j k:Nat}{f:Addr}{fd:FuncData}{ps:List Str}{sp:Sp}(F:Zz P w K mg base CX j f fd ps sp)(h:j<=k) :
  Zz P w K mg base CX k f fd ps sp:=⟨F.len,fun A outer s H args us vs Q E hr=>F.run A outer s H args us vs Q E (hr.mono h)⟩
theorem Zor.make{P:Program}{w:World}{K:Frag}{mg:Str->Option Value}{base:Heap}{A:Around}{outer:List Env}{s:Shared}{H:Hp}(e:Zor P w K mg base A outer s H)(C:Addr)(us:List Value)(kw:List (Str×Value)) :
  Zor P w K mg base (A.under (.builtin "type.__call__" ⟨.ref C ::us,kw⟩)) outer s H:=⟨by first | exact e.frames | (simpa [Around.under,Code.envs,Code.isFrame,pushEnvs] using e.frames),e.mod,e.bs,e.bsz,e.funs,e.frf,e.hok,e.bare⟩
section
variable {X:Cx} {pins:List (Addr×Obj)} {σ:St} {H:Hp} {s s':Shared}
theorem Inv.env0(I:Inv X pins σ H s):Zor X.prog X.w X.K X.mg X.base X.A X.stack s H :=
 ⟨I.ok.frames,I.ok.mod,I.bs,Nat.le_trans I.ok.bsz I.sz,I.stack,I.stkFree,I.hok,I.bare⟩
theorem Inv.after{Q:VK}{u:Value}(I:Inv X pins σ H s)(h:CE X.stack X.prog X.w H s Q u s'):EP X pins σ Q u s':=by
 obtain ⟨v,H',os,bare,un,hok,r,q⟩:=h
 obtain ⟨hh,g,d,t,os'⟩:=s'
 obtain rfl:os'=s.os:=os
 exact ⟨v,H',I.call (h':=hh) (g':=g) (d':=d) (t':=t) (ch:=[]) un hok bare (fun b z=>absurd z (by simp)),r,q⟩
end
def Zyi(sp:Sp)(dvs:List V)(E:XK)(t:TA):TE:=fun σ H Q=>t σ H fun vs H1=>sp (vs++dvs) H1 Q E
def Zwl(C:Addr)(m:Str)(sp:Sp)(dvs:List V)(E:XK)(ta:TE)(t:TA):TE:=fun σ H Q=>ta σ H fun x H1=>∃a dx fs,x=.ref a/\H1 a=some (.ins C dx fs)/\fs.lookup m=none /\
 t σ H1 fun vs H2=>sp (x ::(vs++dvs)) H2 Q E
def Zbx(K:Frag)(fd:FuncData)(ps:List Str)(ds:List Value):Prop :=
 ∀(s:Shared) (us:List Value),K.In s.heap->(us++ds).length=ps.length->BindsTo s fd ⟨us,[]⟩ (ps.zip (us++ds))
theorem Zbx.all{K:Frag}{fd:FuncData}{ps:List Str}(h:∀us:List Value,us.length=ps.length->bindArgs fd ⟨us,[]⟩=pure (ps.zip us)):Zbx K fd ps []:=fun s us _ hl=>by
 rw [List.append_nil] at hl ⊢
 exact .of_eq (h us hl)
def Zec(CX:CXT)(X:Cx)(E:XK):Prop:=∀(pins:List (Addr×Obj)) (σ:St) (H:Hp) (s:Shared) (e:Value) (s':Shared),Inv X pins σ H s->CX X.stack H s E e s'->X.xe e s'
section
variable {X:Cx} {CX:CXT} {k:Nat} {f C:Addr} {fd:FuncData} {ps:List Str} {sp:Sp} {dvs:List V} {ds:List Value} {E:XK} {x m:Str} {p pos apos:Pos} {e o:Expr} {es:List Expr} {ta:TE} {t:TA}
theorem Zoq{pins:List (Addr×Obj)}{σ:St}{H:Hp}{s:Shared}{Q:VK}{us:List Value}{vs:List V}(F:Zz X.prog X.w X.K X.mg X.base CX k f fd ps sp)(hr:W6 k X.A)(hb:Zbx X.K fd ps ds)(hd:Yc dvs ds)(hx:Zec CX X E)
  (I:Inv X pins σ H s) (r:Yc vs us) (h:sp (vs++dvs) H Q E):wpAny (model X.prog X.w) X.A (call (.ref f) us) (EP X pins σ Q) X.xe s:=by
 have r2:Yc (vs++dvs) (us++ds):=r.append hd
 have hl:(us++ds).length=ps.length:=by rw [<-r2.length];exact F.len _ _ _ _ h
 refine wpAny_call (codeAny_mono (F.run X.A X.stack s H ⟨us,[]⟩ (us++ds) (vs++dvs) Q E hr I.env0 (hb s us I.kIn hl) r2 h) fun r s' hq=>?_)
 cases r with
 | error e=>exact hx pins σ H s e s' I hq
 | ok fl =>
  cases fl with
  | ret u=>exact I.after hq
  | next=>exact False.elim hq
  | brk=>exact False.elim hq
  | cont=>exact False.elim hq
theorem Zx(F:Zz X.prog X.w X.K X.mg X.base CX k f fd ps sp)(hr:W6 k X.A)(hg:Gl X x)(hm:X.mg x=some (.ref f))(hk:keepIn X.K (.ref f)=true)(hb:Zbx X.K fd ps ds)(hd:Yc dvs ds)(hx:Zec CX X E)
  (ha:PA X (e ::es) t) (hdb:(x ==("__debug__" :Str))=false:=by decide) (he:starEach (e ::es) X.env=(false,eval e X.env) ::starEach es X.env:=by rfl) (hpl:(backTo pos (starEach es X.env)).any (·.1)=false:=by rfl) :
  PE X (.Call (.Name x p) (e ::es) [] pos) (Zyi sp dvs E t):=by
 intro pins s σ H Q I h
 refine wpAny_Call_Name_kw (Zl0 I hg hm ?_ hdb)
 refine PySem.W.callWith_K (h₀:=X.base) I.ok.mod.kin hk (thn (ha pos pins s σ H _ I h) fun us s1 ⟨vs,H1,I1,r,q⟩=>⟨I1.kIn,?_⟩) he hpl
 exact Zoq F hr hb hd hx I1 r q
theorem Zck{pl:Sem Bool}(he:PE X o ta)(c:Cls X.K C)(hm:Xk X.K C m f)(F:Zz X.prog X.w X.K X.mg X.base CX k f fd ps sp)(hr:W6 k X.A)(hb:Zbx X.K fd ps ds)(hd:Yc dvs ds)(hx:Zec CX X E)(ha:PA X (e ::es) t)
  (hst:starEach (e ::es) X.env=(false,eval e X.env) ::starEach es X.env:=by rfl) (hpl:(backTo pos (starEach es X.env)).any (·.1)=false:=by rfl)
  (ht:eval (.Call (.Attribute o m apos) (e ::es) [] pos) X.env=(do
   let ov <-eval o X.env
   standAt apos.atName
   let (f,first) <-holding [ov] (getMethod ov m pl)
   callWith pos f first (backTo pos (starEach (e ::es) X.env)) (backToKw pos (keywordEach [] X.env))):=by rfl) :
  PE X (.Call (.Attribute o m apos) (e ::es) [] pos) (Zwl C m sp dvs E ta t):=by
 intro pins s σ H Q I h
 refine PySem.W.methodCall_KW (pl:=pl) (thn (he pins s σ H _ I h) fun u s1 ⟨x,H1,I1,rx,a,dx,fs,ex,ea,l,q⟩=>?_) ht
 subst ex
 obtain rfl:u=Value.ref a:=rx
 refine Zeh I1 ea c hm l ?_
 refine PySem.W.callWith_K (first:=[.ref a]) (h₀:=X.base) I.ok.mod.kin hm.kp (thn (ha pos pins s1 σ H1 _ I1 q) fun us s2 ⟨vs,H2,I2,r,q2⟩=>⟨I2.kIn,?_⟩) hst hpl
 exact Zoq (us:=.ref a ::us) (vs:=.ref a ::vs) F hr hb hd hx I2 (.cons rfl r) q2
theorem Ze0{pl:Sem Bool}(he:PE X o ta)(c:Cls X.K C)(hm:Xk X.K C m f)(F:Zz X.prog X.w X.K X.mg X.base CX k f fd ps sp)(hr:W6 k X.A)(hb:Zbx X.K fd ps ds)(hd:Yc dvs ds)(hx:Zec CX X E)
  (ht:eval (.Call (.Attribute o m apos) [] [] pos) X.env=(do
   let ov <-eval o X.env
   standAt apos.atName
   let (f,first) <-holding [ov] (getMethod ov m pl)
   callWith pos f first (backTo pos (starEach [] X.env)) (backToKw pos (keywordEach [] X.env))):=by rfl) :
  PE X (.Call (.Attribute o m apos) [] [] pos) (Zwl C m sp dvs E ta Zur):=by
 intro pins s σ H Q I h
 refine PySem.W.methodCall_KW (pl:=pl) (thn (he pins s σ H _ I h) fun u s1 ⟨x,H1,I1,rx,a,dx,fs,ex,ea,l,q⟩=>?_) ht
 subst ex
 obtain rfl:u=Value.ref a:=rx
 refine Zeh I1 ea c hm l ?_
 exact PySem.W.callWith_K0 (first:=[.ref a]) I1.kIn hm.kp (Zoq (us:=[.ref a]) (vs:=[.ref a]) F hr hb hd hx I1 (.cons rfl .nil) q)
structure Mk(K:Frag)(C f:Addr):Prop where
 makes:PySem.W.makesIn K C=true
 init:findIn K (.ref C) "__init__" =some (some (.ref f))
 fn:PySem.W.isFn K (.ref f)=true
 kp:keepIn K (.ref C)=true
theorem Zsf{pins:List (Addr×Obj)}{σ:St}{H:Hp}{s:Shared}{Q:VK}{us:List Value}{vs:List V}(M:Mk X.K C f)(F:Zz X.prog X.w X.K X.mg X.base CX k f fd ps sp)(hr:W6 (k+1) X.A)(hb:Zbx X.K fd ps ds)(hd:Yc dvs ds)
  (hx:Zec CX X E) (I:Inv X pins σ H s) (r:Yc vs us)
  (h:∀x dx,H x=none->H dx=none->dx≠x->sp (.ref x ::(vs++dvs)) (upd (upd H dx (.own x)) x (.ins C dx [])) (fun v H2=>v=.non/\Q (.ref x) H2) E) :
  wpAny (model X.prog X.w) X.A (call (.ref C) us) (EP X pins σ Q) X.xe s:=by
 have hq:=h (s.heap.objs.size+1) s.heap.objs.size (I.hok.fresh (Nat.le_succ _)) (I.hok.fresh (Nat.le_refl _)) (Nat.ne_of_lt (Nat.lt_succ_self _))
 have I2:=Inv.made (C:=C) I
 have r2:Yc (V.ref (s.heap.objs.size+1) ::(vs++dvs)) (Value.ref (s.heap.objs.size+1) ::(us++ds)):=.cons rfl (r.append hd)
 have hl:(Value.ref (s.heap.objs.size+1) ::us++ds).length=ps.length:=by
  have e:=r2.length
  rw [F.len _ _ _ _ hq] at e
  exact e.symm
 refine wpAny_call (Zsm (f:=f) I.kIn M.makes M.init (beq_iff_eq.mp M.fn) (codeAny_mono (F.run _ X.stack _ _ ⟨Value.ref (s.heap.objs.size+1) ::us,[]⟩ (Value.ref (s.heap.objs.size+1) ::(us++ds)) _ _ E (hr.make C us [])
  (I2.env0.make C us []) (hb _ (Value.ref (s.heap.objs.size+1) ::us) I2.kIn hl) r2 hq) fun r s' hq'=>?_))
 cases r with
 | error e=>exact hx pins σ _ _ e s' I2 hq'
 | ok fl =>
  cases fl with
  | ret u =>
   obtain ⟨v,H',I3,rv,ev,q3⟩:=I2.after hq'
   subst ev
   exact ⟨rv,⟨V.ref (s.heap.objs.size+1),H',I3,rfl,q3⟩⟩
  | next=>exact False.elim hq'
  | brk=>exact False.elim hq'
  | cont=>exact False.elim hq'
end
section
variable {X:Cx} {CX:CXT} {k:Nat} {f C:Addr} {fd:FuncData} {ps ks:List Str} {sp:Sp} {E:XK} {x m:Str} {p pos apos kpos:Pos} {e o:Expr} {es:List Expr} {kws:List Keyword} {te ta:TE} {t tk:TA} {nm:Option Str}
variable {g:List Value->List Value->List Value} {gV:List V->List V->List V}
end
structure Zo(N P:List Str)(sc:Scope):Prop where
 kind:sc.kind=.function
 co:sc.isCoroutine=false
 gen:sc.isGenerator=false
 nd:N.Nodup
 pre:N.take P.length=P
 par:∀x∈P,sc.names.lookup x=some .local\/sc.names.lookup x=some .cell
 nofree:∀y∈sc.names,y.2 ≠ .free
theorem Zke{kindOf:Str->Option NameKind}{x:Str}:∀{binds:List (Str×Value)} {m:Str->Option Value},(∀v,(x,v)∉binds)->bindL kindOf binds m x=m x
 | [],_,_=>rfl
 | (n,v) ::r,m,h=>by
  unfold bindL
  rw [Zke fun w hw=>h w (List.mem_cons_of_mem _ hw)]
  split
  ·have:x≠n:=by rintro rfl;exact h v List.mem_cons_self
   simp [this]
  ·rfl
theorem Zkl{kindOf:Str->Option NameKind}{x:Str}:∀{binds:List (Str×Value)} {m:Str->Option Value},(∀v,(x,v)∉binds)->bindC kindOf binds m x=m x
 | [],_,_=>rfl
 | (n,v) ::r,m,h=>by
  unfold bindC
  rw [Zkl fun w hw=>h w (List.mem_cons_of_mem _ hw)]
  split
  ·rfl
  ·have:x≠n:=by rintro rfl;exact h v List.mem_cons_self
   simp [this]
theorem Zkb{kindOf:Str->Option NameKind}{x:Str}{v:Value}:∀{P:List Str} {vs:List Value} {i:Nat} {m:Str->Option Value},P.Nodup->P[i]? =some x->vs[i]? =some v->kindOf x=some .local ->
  bindL kindOf (P.zip vs) m x=some v
 | [],_,_,_,_,h,_,_=>by simp at h
 | _ ::_,[],_,_,_,_,h,_=>by simp at h
 | p ::P,w ::vs,0,m,nd,h1,h2,hk=>by
  simp at h1 h2;subst h1;subst h2
  show bindL kindOf ((p,w) ::P.zip vs) m p=_
  unfold bindL
  rw [Zke fun v hv=>(List.nodup_cons.mp nd).1 (List.of_mem_zip hv).1,if_pos hk]
  simp
 | p ::P,w ::vs,i+1,m,nd,h1,h2,hk=>by
  show bindL kindOf ((p,w) ::P.zip vs) m x=_
  unfold bindL
  exact Zkb (i:=i) (List.nodup_cons.mp nd).2 (by simpa using h1) (by simpa using h2) hk
theorem Zka{kindOf:Str->Option NameKind}{x:Str}{v:Value}:∀{P:List Str} {vs:List Value} {i:Nat} {m:Str->Option Value},P.Nodup->P[i]? =some x->vs[i]? =some v->kindOf x≠some .local ->
  bindC kindOf (P.zip vs) m x=some v
 | [],_,_,_,_,h,_,_=>by simp at h
 | _ ::_,[],_,_,_,_,h,_=>by simp at h
 | p ::P,w ::vs,0,m,nd,h1,h2,hk=>by
  simp at h1 h2;subst h1;subst h2
  show bindC kindOf ((p,w) ::P.zip vs) m p=_
  unfold bindC
  rw [Zkl fun v hv=>(List.nodup_cons.mp nd).1 (List.of_mem_zip hv).1,if_neg hk]
  simp
 | p ::P,w ::vs,i+1,m,nd,h1,h2,hk=>by
  show bindC kindOf ((p,w) ::P.zip vs) m x=_
  unfold bindC
  exact Zka (i:=i) (List.nodup_cons.mp nd).2 (by simpa using h1) (by simpa using h2) hk
def start(N:List Str)(vs:List V):St:=vs.map some++List.replicate (N.length-vs.length) none
def Zlt(CX:CXT)(P:Program)(w:World)(K:Frag)(mg:Str->Option Value)(base:Heap)(N:List Str)(qual:Str)(scope:Scope)(f:Addr)(cd:Value)(A:Around)(outer:List Env)(s:Shared)(H:Hp)(E:XK):Cx where
 prog:=P
 w:=w
 K:=K
 mg:=mg
 base:=base
 A:=A.deeper (envOfC qual scope s.heap.objs.size f cd)
 N:=N
 s₀:=s
 H₀:=H
 env:=envOfC qual scope s.heap.objs.size f cd
 outer:=outer
 stack:=envOfC qual scope s.heap.objs.size f cd ::outer
 ex:=[]
 calm:=true
 fn:=fun _=>true
 pn:=[]
 xe:=fun e s'=>wpAny (model P w) (A.deeper (envOfC qual scope s.heap.objs.size f cd)) (leaving (envOfC qual scope s.heap.objs.size f cd) e) (fun _ s''=>CX outer H s E e s'') (fun e' s''=>CX outer H s E e' s'') s'
theorem Zmi{sc:Scope}{n:Nat}{x:Str}(h:sc.names.lookup x=some .cell):∃c,(cellsFrom n sc.names []).lookup x=some c:=by
 have q:=PySem.W.cellsFrom_some sc.names n [] (.inl h)
 exact Option.isSome_iff_exists.mp q
theorem Zq7{CX:CXT}{P:Program}{w:World}{K:Frag}{mg:Str->Option Value}{base:Heap}{N ps:List Str}{qual:Str}{scope:Scope}{f:Addr}{cd:Value}{A:Around}{outer:List Env}{s s1:Shared}{H:Hp}{E:XK}{us:List Value}{vs:List V}
  (S:Zo N ps scope) (hd:A.handled=none) (e0:Zor P w K mg base A outer s H) (hl:vs.length=ps.length) (r:Yc vs us)
  (x:InCallC s s.heap.objs.size (bindL (envOfC qual scope s.heap.objs.size f cd).kindOf (ps.zip us) fun _=>none) (cellsFrom (s.heap.objs.size+1) scope.names []) (bindC (envOfC qual scope s.heap.objs.size f cd).kindOf (ps.zip us) fun _=>none) s1) :
  Inv (Zlt CX P w K mg base N qual scope f cd A outer s H E) [] (start N vs) H s1:=by
 have hpl:ps.length<=N.length:=by have:=congrArg List.length S.pre;rw [List.length_take] at this;omega
 obtain ⟨h1,tk,rfl,hk⟩:=x.done
 have noA:∀b:Addr,b∉(Zlt CX P w K mg base N qual scope f cd A outer s H E).ex:=fun b z=>absurd (show b∈([]:List Addr) from z) (by simp)
 refine ⟨⟨e0.mod,S.kind,rfl,rfl,Nat.le_refl _,fun y z c h1 h2=>?_,fun y hy=>?_,fun y c _ h=>?_,fun _=>hd,Around.frames_deeper e0.frames,.inr ⟨rfl,rfl⟩,fun b z=>absurd z (noA b),e0.bs,e0.bsz,fun b _ _=>noA b,fun b z=>absurd z (noA b),e0.funs,e0.frf⟩,
  rfl,e0.bare,Un.kept hk,⟨_,x.toInCall.ns,fun i y v h1 h2 h3=>?_⟩,fun y c h=>⟨_,x.cell y c h⟩,e0.hok.fresh (Nat.le_refl _),fun y c h=>?_,fun p hp=>absurd (show p∈([]:List (Addr×Obj)) from hp) (by simp),e0.hok.kept hk,?_⟩
 ·exact name_of_addr x.apart (PySem.mem_of_lookup h1) (PySem.mem_of_lookup h2)
 ·have hy:scope.names.lookup y=some .cell\/scope.names.lookup y=some .free:=hy
  rcases hy with hy|hy
  ·exact Zmi hy
  ·exact absurd rfl (S.nofree _ (PySem.mem_of_lookup hy))
 ·exact Nat.le_of_lt (x.above y c (PySem.mem_of_lookup h))
 ·have hi:i<vs.length:=by
   unfold start at h2
   by_cases hi:i<vs.length
   ·exact hi
   ·rw [List.getElem?_append_right (by simpa using hi)] at h2
    rw [List.getElem?_replicate] at h2
    split at h2 <;>cases h2
  have ha:vs[i]? =some v:=by
   unfold start at h2
   rw [List.getElem?_append_left (by simpa using hi),List.getElem?_map] at h2
   cases e:vs[i]? with
   | none=>rw [e] at h2;cases h2
   | some a=>rw [e] at h2;cases h2;rfl
  obtain ⟨u,hu,rv⟩:=r.get ha
  have hp:ps[i]? =some y:=by
   rw [<-S.pre,List.getElem?_take_of_lt (by omega)];exact h1
  have ndP:ps.Nodup:=by rw [<-S.pre];exact S.nd.sublist (List.take_sublist _ _)
  refine ⟨u,rv,?_⟩
  rcases S.par y (List.mem_of_getElem? hp) with k|k
  ·exact .inl ⟨k,Zkb ndP hp hu k⟩
  ·obtain ⟨c,e⟩:=Zmi (n:=s.heap.objs.size+1) k
   refine .inr ⟨.inl k,c,e,?_⟩
   have q:=x.cell y c e
   rw [Zka ndP hp hu (by show scope.names.lookup y≠_;rw [k];decide)] at q
   exact q
 ·exact e0.hok.fresh (Nat.le_of_lt (x.above y c (PySem.mem_of_lookup h)))
 ·unfold start
  show _=N.length
  rw [List.length_append,List.length_map,List.length_replicate]
  omega
theorem Zwb{CX:CXT}{P:Program}{w:World}{K:Frag}{mg:Str->Option Value}{base:Heap}{k:Nat}{f:Addr}{name qual:Str}{params:Arguments}{body:List Stmt}{scope:Scope}{dV kV doc pm cdv ct oc:Value}{an od:Option Addr}
  {osl:Array (Option Value)} {N ps:List Str} {sp:Sp} (lk:K.lookup f=some ⟨oc,od,.func (fnOf name qual params body scope dV kV doc pm an cdv ct),osl⟩) (hcd:codeIn K cdv qual=true) (S:Zo N ps scope)
  (len:∀vs H Q E,sp vs H Q E->vs.length=ps.length)
  (hbody:∀(A:Around) (outer:List Env) (s:Shared) (H:Hp) (vs:List V) (Q:VK) (E:XK),W6 k (A.deeper (envOfC qual scope s.heap.objs.size f cdv))->sp vs H Q E ->
   ∃t,PSs (Zlt CX P w K mg base N qual scope f cdv A outer s H E) body t/\t { nx:=fun _ H'=>Q .non H',rt:=Q } (start N vs) H) :
  Zz P w K mg base CX (k+1) f (fnOf name qual params body scope dV kV doc pm an cdv ct) ps sp:=by
 refine ⟨len,fun A outer s H args us vs Q E hr e0 hb r hsp=>?_⟩
 have hl:=len _ _ _ _ hsp
 have KX:K.In s.heap:=e0.mod.kin.keeps fun b o e=>(e0.bs b o e).1
 have lim:s.heap.NoLimit:=e0.mod.nolimit.keeps fun b o e=>(e0.bs b o e).1
 have hkind:∀y∈ps.zip us,scope.names.lookup y.1=some .local\/(scope.names.lookup y.1=some .cell/\((cellsFrom (s.heap.objs.size+1) scope.names []).lookup y.1).isSome=true):=fun ⟨n,v⟩ hy=>by
  rcases S.par n (List.of_mem_zip hy).1 with q|q
  ·exact .inl q
  ·exact .inr ⟨q,PySem.W.cellsFrom_some _ _ _ (.inl q)⟩
 refine codeAny_call_function hr.depth (KX _ _ lk) rfl S.co S.gen rfl (PySem.W.codeRec_of KX hcd) (hb _ _ _ _ ?_)
 refine wpAny_newFunctionEnv_cells S.kind hkind fun env he s1 x=>?_
 subst he
 refine ⟨lim.keeps x.toInCall.keep,codeAny_func ?_⟩
 obtain ⟨t,ht,hq⟩:=hbody A outer s H vs Q E (hr.deeper _) hsp
 have I:Inv (Zlt CX P w K mg base N qual scope f cdv A outer s H E) [] (start N vs) H s1:=Zq7 S hr.hd e0 hl r x
 refine wpAny_mono (ht [] s1 (start N vs) H _ I hq) (fun fl s' hs=>?_) fun e s' hs=>hs
 have fin:∀{σ':St} {H':Hp} {v:V} {u:Value},Inv (Zlt CX P w K mg base N qual scope f cdv A outer s H E) [] σ' H' s'->Yk v u->Q v H'->CE outer P w H s Q u s' :=
  fun {σ' H' v u} J rv q=>⟨v,H',J.os,J.bare,J.base,J.hok,rv,q⟩
 cases fl with
 | ret u =>
  obtain ⟨v,σ',H',J,rv,q⟩:=hs
  exact fin J rv q
 | next =>
  obtain ⟨σ',H',J,q⟩:=hs
  exact fin (v:=V.non) (u:=Value.none) J rfl q
 | brk =>
  obtain ⟨_,_,_,q⟩:=hs
  exact False.elim q
 | cont =>
  obtain ⟨_,_,_,q⟩:=hs
  exact False.elim q
end L2
namespace L2
open PySem PySem.Spec PyProof.Rows
section
variable {X:Cx} {x:Str} {p pos:Pos} {e:Expr} {es:List Expr} {t:TA} {id T:String} {r:List V->Hp->VK->Prop}
def tCB(r:List V->Hp->VK->Prop)(t:TA):TE:=fun σ H Q=>t σ H fun vs H1=>r vs H1 Q
theorem Yb(hc:W3 X (.builtin id) r)(hg:Gl X x)(hm:X.mg x=none)(hv:bootBuiltins x=some (.builtin id))(ha:PA X (e ::es) t) (hn:x ≠ "__name__" :=by decide) (hdb:(x ==("__debug__" :Str))=false:=by decide)
  (he:starEach (e ::es) X.env=(false,eval e X.env) ::starEach es X.env:=by rfl) (hpl:(backTo pos (starEach es X.env)).any (·.1)=false:=by rfl):PE X (.Call (.Name x p) (e ::es) [] pos) (tCB r t):=by
 intro pins s σ H Q I h
 refine wpAny_Call_Name_kw (Zem I hg hm hv ?_ hn hdb)
 exact PyProof.Rows.callWith_builtin1 (thn (ha pos pins s σ H _ I h) fun us s1 ⟨vs,H1,I1,r1,q1⟩=>hc pins s1 σ H1 vs us Q I1 r1 q1) he hpl
theorem Zb7(hc:W3 X (.type T) r)(hg:Gl X x)(hm:X.mg x=none)(hv:bootBuiltins x=some (.type T))(ha:PA X (e ::es) t) (hn:x ≠ "__name__" :=by decide) (hdb:(x ==("__debug__" :Str))=false:=by decide)
  (he:starEach (e ::es) X.env=(false,eval e X.env) ::starEach es X.env:=by rfl) (hpl:(backTo pos (starEach es X.env)).any (·.1)=false:=by rfl):PE X (.Call (.Name x p) (e ::es) [] pos) (tCB r t):=by
 intro pins s σ H Q I h
 refine wpAny_Call_Name_kw (Zem I hg hm hv ?_ hn hdb)
 exact PyProof.Rows.callWith_type1 (thn (ha pos pins s σ H _ I h) fun us s1 ⟨vs,H1,I1,r1,q1⟩=>hc pins s1 σ H1 vs us Q I1 r1 q1) he hpl
end
end L2
namespace HT
open PySem PyProof.Rows
section
open PySem.SeqAt
open PySem.AutoSeq1 (wpAny_loadPart')
open PySem.MeetsSeq PySem.MeetsSeq2 PySem.MeetsSeq3
end
section
variable {prog:Program} {w:World} {A:Around} {E:Value->Shared->Prop} {s:Shared}
theorem cat_tup{t b:Addr}{vs ws:List Value}{Q:Value->Shared->Prop}(ht:IsTup s.heap t vs.toArray)(hb:IsTup s.heap b ws.toArray)(hv:vs≠[])
  (h1:ws=[]->Q (.ref t) s) (h2:ws≠[]->Q (.ref s.heap.objs.size) { s with heap:=s.heap.push { cls:=.type "tuple",data:=.seq (vs++ws).toArray } })
  (hsz:vs.length+ws.length<=sizeLine):wpAny (model prog w) A (binaryOp .Add (.ref t) (.ref b)) Q E s:=by
 obtain ⟨⟨cls,dd,data,sl⟩,ho,hc,n,hd⟩:=id ht
 obtain ⟨⟨cls2,dd2,data2,sl2⟩,ho2,hc2,n2,hd2⟩:=id hb
 simp only at hc hd hc2 hd2
 subst hc hd hc2 hd2
 have e:vs.toArray++ws.toArray=(vs++ws).toArray:=by simp
 by_cases hw:ws=[]
 ·exact concat_meets ⟨_,ho,rfl⟩ ⟨_,ho2,rfl⟩ noFill_tuple_add seq_tuple_add PySem.F.slot_tuple_add PySem.F.entry_tuple_add (PySem.F.args_tuple_add_2 _ _)
   (tuple_addW1 t b vs.toArray ws.toArray n n2 dd dd2 sl sl2 (by simpa using hv) (by simp [hw])) ⟨ho,ho2,h1 hw⟩
 ·refine concat_meets ⟨_,ho,rfl⟩ ⟨_,ho2,rfl⟩ noFill_tuple_add seq_tuple_add PySem.F.slot_tuple_add PySem.F.entry_tuple_add (PySem.F.args_tuple_add_2 _ _)
   (tuple_addW2 t b vs.toArray ws.toArray n n2 dd dd2 sl sl2 (by simpa using hv) (by simpa using hw) (by rw [List.size_toArray,List.size_toArray];exact hsz)) ⟨ho,ho2,?_⟩
  rw [e]
  exact h2 hw
def sIx(n d:Nat):Option Int->Nat
 | none=>d
 | some v=>if v<0 then (v+(n:Int)).toNat else min v.toNat n
theorem sIx_none(n d:Nat):sIx n d none=d:=rfl
theorem sIx_nat(n d k:Nat):sIx n d (some (k:Int))=min k n:=by
 show (if (k:Int)<0 then ((k:Int)+(n:Int)).toNat else min (k:Int).toNat n)=min k n
 rw [if_neg (by omega),Int.toNat_natCast]
theorem Zx0(n d:Nat)(hd:d<=n)(o:Option Int):sIx n d o<=n:=by
 cases o with
 | none=>exact hd
 | some v =>
  show (if v<0 then (v+(n:Int)).toNat else min v.toNat n)<=n
  by_cases hv:v<0
  ·rw [if_pos hv];omega
  ·rw [if_neg hv];exact Nat.min_le_right _ _
theorem Zpq(v:Int)(n d:Nat):(if v<0 then max (v+(n:Int)) 0 else min v (n:Int))=((sIx n d (some v):Nat):Int):=by
 show (if v<0 then max (v+(n:Int)) 0 else min v (n:Int))=(((if v<0 then (v+(n:Int)).toNat else min v.toNat n):Nat):Int)
 by_cases hv:v<0
 ·simp only [if_pos hv];omega
 ·simp only [if_neg hv];omega
theorem Znw(lo hi:Option Int)(n:Nat):Builtin.Slice.sliceAdjust lo hi 1 (n:Int)=(((sIx n 0 lo:Nat):Int),((sIx n n hi:Nat):Int)):=by
 have h1:¬((1:Int)<0):=by omega
 unfold Builtin.Slice.sliceAdjust
 simp only [h1,if_false]
 refine Prod.ext ?_ ?_
 ·cases lo with
  | none=>rfl
  | some v=>exact Zpq v n 0
 ·cases hi with
  | none=>rfl
  | some v=>exact Zpq v n n
theorem Znz(i j:Nat):Builtin.Slice.slicePlaces (i:Int) (j:Int) 1=j-i:=by
 unfold Builtin.Slice.slicePlaces
 have h1:(1:Int) >0:=by omega
 simp only [h1,if_true,Int.ediv_one]
 split <;>omega
theorem Zhc{v:Value}{o:Option Int}{Q:Option Int->Shared->Prop}(p:IsPart v o)(h:Q o s):wpAny (model prog w) A (Builtin.Slice.slicePartIndex v) Q E s:=by
 cases p with
 | none=>exact slicePart_none h
 | int i t=>exact slicePart_int h
theorem Zfm{sl:Addr}{vl vu:Value}{lo hi:Option Int}{n:Nat}{Q:Int×Int×Nat->Shared->Prop}(hs:s.heap.IsSliceOf sl vl vu .none)(pl:IsPart vl lo)(pu:IsPart vu hi)
  (h:Q (((sIx n 0 lo:Nat):Int),1,sIx n n hi-sIx n 0 lo) s):wpAny (model prog w) A (Builtin.Slice.sliceApplied (.ref sl) (pure (n:Int))) Q E s:=by
 obtain ⟨os,hos,hcs,hds⟩:=id hs
 unfold Builtin.Slice.sliceApplied Builtin.Slice.sliceFields
 refine wpAny_bind (wpAny_bind (wpAny_field hos hds (x:=vl) rfl (wpAny_bind (wpAny_field hos hds (x:=vu) rfl (wpAny_bind (wpAny_field hos hds (x:=.none) rfl (wpAny_pure ?_)))))))
 refine wpAny_bind (slicePart_none ?_)
 show wpAny _ _ (if ((1:Int) ==0)=true then _ else _) _ _ s
 rw [if_neg (by decide)]
 refine wpAny_bind (Zhc pl (wpAny_bind (Zhc pu (wpAny_bind (wpAny_pure ?_)))))
 show wpAny _ _ (match Builtin.Slice.sliceAdjust lo hi 1 (n:Int) with | (lo,hi)=>pure (lo,(1:Int),Builtin.Slice.slicePlaces lo hi 1)) _ _ s
 rw [Znw lo hi n]
 show wpAny _ _ (pure (((sIx n 0 lo:Nat):Int),(1:Int),Builtin.Slice.slicePlaces ((sIx n 0 lo:Nat):Int) ((sIx n n hi:Nat):Int) 1)) _ _ s
 rw [Znz]
 exact wpAny_pure h
theorem Ztg(xs:Array Value)(i k:Nat):((List.range k).filterMap fun (m:Nat)=>xs[((i:Int)+(m:Int) * 1).toNat]?).toArray=((xs.toList.drop i).take k).toArray:=by
 have e:(fun (m:Nat)=>xs[((i:Int)+(m:Int) * 1).toNat]?)=fun m=>xs[i+m]? :=by
  funext m
  have:((i:Int)+(m:Int) * 1).toNat=i+m:=by omega
  rw [this]
 rw [e]
 have:=pick_run xs i k
 rw [List.filterMap_map] at this
 have e2:((fun x=>xs[x]?) ∘ fun x=>i+x)=fun m=>xs[i+m]? :=rfl
 rw [e2] at this
 rw [this]
theorem getItem_tuple_cut{t sl:Addr}{items:Array Value}{vl vu:Value}{lo hi:Option Int}{Q:Value->Shared->Prop}(ht:IsTup s.heap t items)(hs:s.heap.IsSliceOf sl vl vu .none)(pl:IsPart vl lo)(pu:IsPart vu hi)
  (hw:¬(sIx items.size 0 lo=0/\sIx items.size items.size hi=items.size))
  (h:Q (.ref s.heap.objs.size) { s with heap:=s.heap.push { cls:=.type "tuple",data:=.seq ((items.toList.drop (sIx items.size 0 lo)).take (sIx items.size items.size hi-sIx items.size 0 lo)).toArray } })
  (hsz:items.size<=sizeLine):wpAny (model prog w) A (getItem (.ref t) (.ref sl)) Q E s:=by
 have htake:sizeOk (.seq ((items.toList.drop (sIx items.size 0 lo)).take (sIx items.size items.size hi-sIx items.size 0 lo)).toArray):=by
  show ((items.toList.drop (sIx items.size 0 lo)).take (sIx items.size items.size hi-sIx items.size 0 lo)).toArray.size<=sizeLine
  rw [List.size_toArray,List.length_take,List.length_drop,Array.length_toList]
  omega
 have hj:sIx items.size items.size hi<=items.size:=Zx0 _ _ (Nat.le_refl _) hi
 obtain ⟨os,hos,hcs,hds⟩:=id hs
 have hTs:s.TypeIs (.ref sl) "slice" :=⟨os,hos,hcs⟩
 unfold getItem
 try with_reducible refine wpAny_holding ?_
 first | refine wpAny_bind (wpAny_pure ?_) | skip
 refine wpAny_bind (wpAny_sequenceKey ht.typeIs (by decide) ?_)
 refine wpAny_bind (wpAny_callSpecial?_slot (name:=Str.ofString "__getitem__") ht.typeIs PyProof.Rows.slot_tuple_getitem
  (wpAny_call_entry PyProof.Rows.slot_tuple_getitem ht.typeIs entry_tuple_getitem ?_ (args_tuple_getitem _ _)))
 show wpAny _ _ (Builtin.Tuple.tupleItemsOf (.ref t) >>=_) _ _ s
 refine wpAny_bind (tupleItemsOf_ ht ?_)
 refine wpAny_bind (wpAny_typeOf hTs ?_)
 rw [if_pos (by decide)]
 refine wpAny_bind (Zfm hs pl pu ?_)
 have hno:¬((((sIx items.size 0 lo:Nat):Int) ==0 && (1:Int) ==1 && (sIx items.size items.size hi-sIx items.size 0 lo) ==items.size)=true):=by
  intro q
  rw [Bool.and_eq_true,Bool.and_eq_true] at q
  have q1:((sIx items.size 0 lo:Nat):Int)=0:=eq_of_beq q.1.1
  have q2:sIx items.size items.size hi-sIx items.size 0 lo=items.size:=eq_of_beq q.2
  exact hw ⟨by omega,by omega⟩
 show wpAny _ _ (if (((sIx items.size 0 lo:Nat):Int) ==0 && (1:Int) ==1 && (sIx items.size items.size hi-sIx items.size 0 lo) ==items.size)=true then _ else _) _ _ s
 rw [if_neg hno,Ztg]
 first
  | exact wpAny_bind (m:=Builtin.Tuple.tupleExact _) (wpAny_newObj_type (wpAny_pure ⟨_,rfl,wpAny_pure h⟩) htake)
  | exact wpAny_bind (m:=Builtin.Tuple.tupleExact _) (wpAny_newObj_type (wpAny_bind (wpAny_pure (wpAny_pure ⟨_,rfl,wpAny_pure h⟩))) htake)
  | exact wpAny_bind (wpAny_bind (m:=Builtin.Tuple.tupleExact _) (wpAny_newObj_type (wpAny_pure (wpAny_pure ⟨_,rfl,wpAny_pure h⟩)) htake))
  | exact wpAny_bind (wpAny_bind (m:=Builtin.Tuple.tupleExact _) (wpAny_newObj_type (wpAny_pure ⟨_,rfl,wpAny_pure h⟩) htake))
end
end HT
namespace L2
open PySem PySem.Spec PyProof.Rows
abbrev TO:=St->Hp->(Option Int->Hp->Prop)->Prop
def PO(X:Cx)(e:Option Expr)(t:TO):Prop :=
 ∀(pins:List (Addr×Obj)) (s:Shared) (σ:St) (H:Hp) (Q:Option Int->Hp->Prop),Inv X pins σ H s->t σ H Q ->
  wpAny (model X.prog X.w) X.A (evalPart e X.env) (fun u s'=>∃o H',Inv X pins σ H' s'/\IsPart u o/\Q o H') X.xe s
def Zuu:TO:=fun _ H Q=>Q none H
def Zyx(t:TE):TO:=fun σ H Q=>t σ H fun x H1=>∃i,x=.int i/\Q (some i) H1
section
variable {X:Cx} {e:Expr} {te:TE} {lo hi:Option Expr} {tl th:TO} {pos p2:Pos}
theorem Zb0:PO X none Zuu:=by
 intro pins s σ H Q I h
 rw [evalPart_none]
 exact wpAny_pure ⟨none,H,I,.none,h⟩
theorem Zbg(h:PE X e te):PO X (some e) (Zyx te):=by
 intro pins s σ H Q I hw
 rw [evalPart_some]
 refine thn (h pins s σ H _ I hw) fun u s1 ⟨x,H1,I1,r1,q1⟩=>?_
 obtain ⟨i,rfl,q⟩:=q1
 obtain ⟨t,rfl⟩:=r1
 exact ⟨some i,H1,I1,.int i t,q⟩
def SlR(X:Cx)(r:V->Option Int->Option Int->Hp->VK->Prop):Prop :=
 ∀(pins:List (Addr×Obj)) (s:Shared) (σ:St) (H:Hp) (x:V) (v vl vu:Value) (lo hi:Option Int) (sl:Addr) (Q:VK),Inv X pins σ H s->Yk x v->s.heap.IsSliceOf sl vl vu .none->IsPart vl lo->IsPart vu hi->r x lo hi H Q ->
  ∃T id,typeLookup (.type T) "__getitem__" =pure (some (.builtin id))/\s.TypeIs v T/\wpAny (model X.prog X.w) X.A (getItem v (.ref sl)) (EP X pins σ Q) X.xe s
theorem SlR.or{r r':V->Option Int->Option Int->Hp->VK->Prop}(h:SlR X r)(h':SlR X r'):SlR X (fun x lo hi H Q=>r x lo hi H Q\/r' x lo hi H Q):=by
 intro pins s σ H x v vl vu lo hi sl Q I rx hs pl pu q
 rcases q with q|q
 ·exact h pins s σ H x v vl vu lo hi sl Q I rx hs pl pu q
 ·exact h' pins s σ H x v vl vu lo hi sl Q I rx hs pl pu q
def tSl(r:V->Option Int->Option Int->Hp->VK->Prop)(te:TE)(tl th:TO):TE:=fun σ H Q=>te σ H fun x H1=>tl σ H1 fun l H2=>th σ H2 fun u H3=>r x l u H3 Q
theorem Zax{r:V->Option Int->Option Int->Hp->VK->Prop}(hr:SlR X r)(he:PE X e te)(hl:PO X lo tl)(hu:PO X hi th):PE X (.Subscript e (.Slice lo hi none p2) pos) (tSl r te tl th):=by
 intro pins s σ H Q I h
 refine Subscript_ (thn (he pins s σ H _ I h) fun v s1 ⟨x,H1,I1,r1,q1⟩=>?_)
 refine wpAny_Slice (thn (hl pins s1 σ H1 _ I1 q1) fun vl s2 ⟨l,H2,I2,pl,q2⟩=>thn (hu pins s2 σ H2 _ I2 q2) fun vu s3 ⟨u,H3,I3,pu,q3⟩=>?_)
 rw [evalPart_none]
 refine wpAny_pure ?_
 have I4:Inv X pins σ H3 { s3 with heap:=s3.heap.push { cls:=.type "slice",data:=.fields #[vl,vu,.none] } }:=I3.kept (t':=s3.toks) fun b ob q=>Heap.get?_push_of_some _ q
 obtain ⟨T,id,hT,ht,hg⟩:=hr pins { s3 with heap:=s3.heap.push { cls:=.type "slice",data:=.fields #[vl,vu,.none] } } σ H3 x v vl vu l u s3.heap.objs.size Q I4 r1 (Heap.IsSliceOf.new ..) pl pu q3
 show wpAny (model X.prog X.w) X.A (subscriptTail e (.Slice lo hi none p2) v (.ref s3.heap.objs.size)) (EP X pins σ Q) X.xe { s3 with heap:=s3.heap.push { cls:=.type "slice",data:=.fields #[vl,vu,.none] } }
 exact tail_any (ops:=[.ref s3.heap.objs.size,v]) ht hT hg (by with_unfolding_all rfl)
def Zft(xs:List V)(lo hi:Option Int):List V:=(xs.drop (HT.sIx xs.length 0 lo)).take (HT.sIx xs.length xs.length hi-HT.sIx xs.length 0 lo)
theorem Zgb(xs:List V)(lo hi:Option Int):(Zft xs lo hi).length<=xs.length:=by
 unfold Zft
 rw [List.length_take,List.length_drop]
 omega
def Yaq(K:Frag):V->Option Int->Option Int->Hp->VK->Prop:=fun x lo hi H Q=>∃a xs,x=.ref a/\SqT K H a xs /\
 ¬(HT.sIx xs.length 0 lo=0/\HT.sIx xs.length xs.length hi=xs.length)/\∀p,H p=none->Q (.ref p) (upd H p (.tup (Zft xs lo hi)))
theorem Zxr:SlR X (Yaq X.K):=by
 intro pins s σ H x v vl vu lo hi sl Q I rx hs pl pu h
 obtain ⟨a,xs,rfl,hx,hw,q⟩:=h
 cases rx
 obtain ⟨its,r,ht,hz⟩:=I.tuple hx
 have hlen:its.toArray.size=xs.length:=by rw [List.size_toArray];exact r.length.symm
 refine ⟨"tuple",_,PyProof.Rows.slot_tuple_getitem.lookup,ht.typeIs,?_⟩
 refine HT.getItem_tuple_cut ht hs pl pu (by rw [hlen];exact hw) ?_ (by rw [hlen];exact hz)
 rw [hlen]
 refine ⟨.ref s.heap.objs.size,_,I.laid (t':=s.toks) (o:=.tup (Zft xs lo hi)) (fun b ob q=>Heap.get?_push_of_some _ q) (Nat.le_refl _) ?_,rfl,q _ (I.hok.fresh (Nat.le_refl _))⟩
 exact ⟨Nat.le_trans (Zgb xs lo hi) hz,_,(r.drop (HT.sIx xs.length 0 lo)).take (HT.sIx xs.length xs.length hi-HT.sIx xs.length 0 lo),IsTup.new _ _⟩
def Zyh(K:Frag):R2:=fun x y H Q=>∃a b xs ys,x=.ref a/\y=.ref b/\SqT K H a xs/\SqT K H b ys/\xs≠[]/\xs.length+ys.length<=sizeLine /\
 (ys=[]->Q (.ref a) H)/\(ys≠[]->∀p,H p=none->Q (.ref p) (upd H p (.tup (xs++ys))))
theorem Yc.nil_iff{xs:List V}{us:List Value}(r:Yc xs us):us=[]↔xs=[]:=by
 cases r with
 | nil=>simp
 | cons _ _=>simp
theorem Zvq:OpR X (binaryOp .Add) (Zyh X.K):=by
 intro pins s σ H x y v u Q I rx ry h
 obtain ⟨a,b,xs,ys,rfl,rfl,ha,hb,hx,hz,q1,q2⟩:=h
 cases rx
 cases ry
 obtain ⟨its,r1,p1,_⟩:=I.tuple ha
 obtain ⟨its2,r2,p2,_⟩:=I.tuple hb
 refine HT.cat_tup p1 p2 (fun z=>hx (r1.nil_iff.mp z)) (fun z=>⟨.ref a,H,I,rfl,q1 (r2.nil_iff.mp z)⟩) (fun z=>?_) (by rw [<-r1.length,<-r2.length];exact hz)
 refine ⟨.ref s.heap.objs.size,_,I.laid (t':=s.toks) (o:=.tup (xs++ys)) (fun b ob q=>Heap.get?_push_of_some _ q) (Nat.le_refl _) ?_,rfl,q2 (fun w=>z (r2.nil_iff.mpr w)) _ (I.hok.fresh (Nat.le_refl _))⟩
 exact ⟨by rw [List.length_append];exact hz,_,r1.append r2,IsTup.new _ _⟩
end
end L2
namespace L2
open PySem PySem.Spec PyProof.Rows
def ixN(n:Nat)(i:Int):Option Nat:=if 0<=i then (if i<n then some i.toNat else none) else if -(n:Int)<=i then some (i+n).toNat else none
def atI{α:Type}(xs:List α)(i:Int):Option α:=(ixN xs.length i).bind fun j=>xs[j]?
theorem Zum{n:Nat}{i:Int}{j:Nat}(h:ixN n i=some j):seqIndex? i n=some j/\j<n/\-(n:Int)<=i/\i<n:=by
 unfold ixN at h
 by_cases h0:0<=i
 ·rw [if_pos h0] at h
  by_cases h1:i<n
  ·rw [if_pos h1] at h
   have e:i.toNat=j:=Option.some.inj h
   exact ⟨by rw [seqIndex_of h0 h1,e],by omega,by omega,h1⟩
  ·rw [if_neg h1] at h;cases h
 ·rw [if_neg h0] at h
  by_cases h1:-(n:Int)<=i
  ·rw [if_pos h1] at h
   have e:(i+n).toNat=j:=Option.some.inj h
   exact ⟨by rw [seqIndex_neg (by omega) h1,e],by omega,h1,by omega⟩
  ·rw [if_neg h1] at h;cases h
theorem Zkv{α:Type}{xs:List α}{i:Int}{v:α}(h:atI xs i=some v):∃j,seqIndex? i xs.length=some j/\xs[j]? =some v/\j<xs.length/\-(xs.length:Int)<=i/\i<xs.length:=by
 unfold atI at h
 cases e:ixN xs.length i with
 | none=>rw [e] at h;cases h
 | some j =>
  rw [e] at h
  obtain ⟨h1,h2,h3,h4⟩:=Zum e
  exact ⟨j,h1,h,h2,h3,h4⟩
theorem Zt{α:Type}{xs:List α}{j:Nat}{v:α}(h:xs[j]? =some v):atI xs (j:Int)=some v:=by
 have hj:j<xs.length:=(List.getElem?_eq_some_iff.mp h).1
 have e:ixN xs.length (j:Int)=some j:=by
  unfold ixN
  rw [if_pos (by omega),if_pos (by omega)];simp
 unfold atI;rw [e];exact h
def Zuj(b:Expr):Prop:=∀o i,subscripted b false o i=operate [o,i] (getItem o i)
def IxR(X:Cx)(r:R2):Prop :=
 ∀(value slice:Expr) (pins:List (Addr×Obj)) (s:Shared) (σ:St) (H:Hp) (x y:V) (v u:Value) (Q:VK),Inv X pins σ H s->Yk x v->Yk y u->r x y H Q ->
  subscripted slice false v u=operate [v,u] (getItem v u)->wpAny (model X.prog X.w) X.A (subscriptTail value slice v u) (EP X pins σ Q) X.xe s
def MtR(X:Cx)(id:String)(r:V->List V->Hp->VK->Prop):Prop :=
 ∀(pins:List (Addr×Obj)) (s:Shared) (σ:St) (H:Hp) (x:V) (xs:List V) (v:Value) (us:List Value) (Q:VK),Inv X pins σ H s->Yk x v->Yc xs us->r x xs H Q ->
  wpAny (model X.prog X.w) X.A (call (.builtin id) (v ::us)) (EP X pins σ Q) X.xe s
section
variable {X:Cx} {a b:Expr} {ta tb:TE} {pos:Pos}
theorem IxR.or{r r':R2}(h:IxR X r)(h':IxR X r'):IxR X (fun x y H Q=>r x y H Q\/r' x y H Q):=by
 intro value slice pins s σ H x y v u Q I rx ry q hs
 rcases q with q|q
 ·exact h value slice pins s σ H x y v u Q I rx ry q hs
 ·exact h' value slice pins s σ H x y v u Q I rx ry q hs
theorem Zv{r:R2}(hr:IxR X r)(ha:PE X a ta)(hb:PE X b tb)(hs:Zuj b):PE X (.Subscript a b pos) (tOp r ta tb):=by
 intro pins s σ H Q I h
 exact Subscript_ (Zxl ha hb I h fun v u s2 x y H2 I2 rx ry q=>hr a b pins s2 σ H2 x y v u Q I2 rx ry q (hs _ _))
def Zzh(K:Frag):R2:=fun x y H Q=>∃p xs i v,x=.ref p/\y=.int i/\SqL K H p xs/\atI xs i=some v/\Q v H
def Zza(K:Frag):R2:=fun x y H Q=>∃p xs i v,x=.ref p/\y=.int i/\SqT K H p xs/\atI xs i=some v/\Q v H
def Zzn:R2:=fun x y H Q=>∃z i c,x=.str z/\y=.int i/\z.length<=sizeLine/\atI z.cps.toList i=some c/\Q (.str ⟨#[c]⟩) H
theorem Zux:IxR X (Zzh X.K):=by
 intro value slice pins s σ H x y v u Q I rx ry h hs
 obtain ⟨p,xs,i,z,rfl,rfl,hq,he,q⟩:=h
 cases rx
 obtain ⟨t,rfl⟩:=ry
 obtain ⟨its,r,pl,hz⟩:=I.list hq
 obtain ⟨j,h1,h2,h3,h4,h5⟩:=Zkv he
 obtain ⟨w,ew,rw'⟩:=r.get h2
 have hl:=r.length
 have hn:=Zfy
 have fin:EP X pins σ Q w s:=⟨z,H,I,rw',q⟩
 by_cases h0:0<=i
 ·have hj:i.toNat=j:=by
   rw [seqIndex_of h0 h5] at h1
   exact Option.some.inj h1
  exact item_listR pl.isList h0 (by omega) (by rw [hj];simpa using ew) fin hs
 ·have hj:(i+(its.toArray.size:Int)).toNat=j:=by
   rw [seqIndex_neg (by omega) h4] at h1
   rw [List.size_toArray,<-hl]
   exact Option.some.inj h1
  exact subscriptTail_builtinR (x:=w) pl.isList.typeIs slot_list_getitem.lookup
   (wpAny_getItem_list_neg (Q:=fun r s'=>r=w/\EP X pins σ Q r s') pl.isList (by omega) (by rw [List.size_toArray] <;>omega) (by omega) (by rw [hj];simpa using ew) ⟨rfl,fin⟩) hs
theorem Zxf:IxR X (Zza X.K):=by
 intro value slice pins s σ H x y v u Q I rx ry h hs
 obtain ⟨p,xs,i,z,rfl,rfl,hq,he,q⟩:=h
 cases rx
 obtain ⟨t,rfl⟩:=ry
 obtain ⟨its,r,pl,hz⟩:=I.tuple hq
 obtain ⟨j,h1,h2,h3,h4,h5⟩:=Zkv he
 obtain ⟨w,ew,rw'⟩:=r.get h2
 have hl:=r.length
 have hn:=Zfy
 have fin:EP X pins σ Q w s:=⟨z,H,I,rw',q⟩
 exact subscriptTail_builtinR (x:=w) pl.typeIs slot_tuple_getitem.lookup
  (getItem_tuple (j:=j) (Q:=fun r s'=>r=w/\EP X pins σ Q r s') pl (by omega) (by omega) (by rw [List.size_toArray,<-hl];exact h1) (by simpa using ew) ⟨rfl,fin⟩) hs
theorem Zw0:IxR X Zzn:=by
 intro value slice pins s σ H x y v u Q I rx ry h hs
 obtain ⟨z,i,c,rfl,rfl,hz,he,q⟩:=h
 obtain ⟨t,rfl⟩:=rx
 obtain ⟨t',rfl⟩:=ry
 obtain ⟨j,h1,h2,h3,h4,h5⟩:=Zkv he
 have hl:z.cps.toList.length=z.length:=by simp [Str.length]
 rw [hl] at h1 h4 h5
 have hn:=Zfy
 exact tail_any (typeIs_str s z t) slot_str_getitem.lookup (getItem_str (c:=c) (by
  have e1:decide (i < -(2 ^ 63:Int))=false:=decide_eq_false (by omega)
  have e2:decide (i ≥ 2 ^ 63)=false:=decide_eq_false (by omega)
  rw [e1,e2,Bool.or_false]) (by rw [h1];simpa using h2) ⟨.str ⟨#[c]⟩,H,I.tok _,⟨_,rfl⟩,q⟩) hs
def rIx(K:Frag):R2:=fun x y H Q=>Zzh K x y H Q\/Zza K x y H Q\/Zzn x y H Q
theorem Zk:IxR X (rIx X.K):=Zux.or (Zxf.or Zw0)
theorem Zlj(lo hi:Option Int)(n:Nat):(sliceBounds lo hi none n).1=((HT.sIx n 0 lo:Nat):Int)/\(sliceBounds lo hi none n).2.1=((HT.sIx n n hi:Nat):Int)/\(sliceBounds lo hi none n).2.2=1:=by
 refine ⟨?_,?_,rfl⟩
 ·cases lo with
  | none=>simp [sliceBounds,HT.sIx]
  | some i =>
   simp only [sliceBounds,HT.sIx,Option.getD_none,show (1:Int) >0 by decide,if_true]
   by_cases h:i<0
   ·simp only [h,if_true] <;>omega
   ·simp only [h,if_false] <;>omega
 ·cases hi with
  | none=>simp [sliceBounds,HT.sIx]
  | some i =>
   simp only [sliceBounds,HT.sIx,Option.getD_none,show (1:Int) >0 by decide,if_true]
   by_cases h:i<0
   ·simp only [h,if_true] <;>omega
   ·simp only [h,if_false] <;>omega
theorem Ziv(its:List Value)(lo hi:Option Int):slicePick its.toArray lo hi none=((its.drop (HT.sIx its.length 0 lo)).take (HT.sIx its.length its.length hi-HT.sIx its.length 0 lo)).toArray:=by
 obtain ⟨h1,h2,h3⟩:=Zlj lo hi its.toArray.size
 unfold slicePick
 rw [h1,h2,h3]
 simp only [sliceRange_one,pick_run,List.size_toArray] <;>rfl
def Zzv(K:Frag):V->Option Int->Option Int->Hp->VK->Prop:=fun x lo hi H Q=>∃a xs,x=.ref a/\SqL K H a xs/\∀p,H p=none->Q (.ref p) (upd H p (.lst (Zft xs lo hi)))
theorem Zua:SlR X (Zzv X.K):=by
 intro pins s σ H x v vl vu lo hi sl Q I rx hs pl pu h
 obtain ⟨a,xs,rfl,hx,q⟩:=h
 cases rx
 obtain ⟨its,r,ht,hz⟩:=I.list hx
 have hlen:=r.length
 refine ⟨"list",_,slot_list_getitem.lookup,ht.isList.typeIs,?_⟩
 refine wpAny_getItem_list_slice ht.isList hs pl pu .none (by simp) ?_ (by rw [List.size_toArray] <;>omega)
 rw [Ziv,<-hlen]
 refine ⟨.ref s.heap.objs.size,_,I.laid (t':=s.toks) (o:=.lst (Zft xs lo hi)) (fun b ob q=>Heap.get?_push_of_some _ q) (Nat.le_refl _) ?_,rfl,q _ (I.hok.fresh (Nat.le_refl _))⟩
 exact ⟨Nat.le_trans (Zgb xs lo hi) hz,_,0,(r.drop (HT.sIx xs.length 0 lo)).take (HT.sIx xs.length xs.length hi-HT.sIx xs.length 0 lo),Heap.get?_push_size _ rfl⟩
def Zc8:V->Bool
 | .non=>true
 | .bl _=>true
 | .int _=>true
 | .str _=>true
 | _=>false
def eqV:V->V->Bool
 | .non,.non=>true
 | .bl a,.bl b=>a ==b
 | .bl a,.int b=>(if a then 1 else 0) ==b
 | .int a,.bl b=>a ==(if b then 1 else 0)
 | .int a,.int b=>a ==b
 | .str a,.str b=>a ==b
 | _,_=>false
theorem Zh2{A:Around}{s:Shared}{y x:V}{u v:Value}(ry:Yk y u)(rx:Yk x v)(fy:Zc8 y=true)(fx:Zc8 x=true):SeqAt.EqAt A s u v (eqV y x):=by
 cases y with
 | non =>
  cases ry
  cases x with
  | non=>cases rx;exact SeqAt.EqAt.same _
  | bl b=>cases rx;exact SeqAt.EqAt.none_bool b
  | int b=>obtain ⟨t,rfl⟩:=rx;exact SeqAt.EqAt.none_int b t
  | str b=>obtain ⟨t,rfl⟩:=rx;exact SeqAt.EqAt.none_str b t
  | _=>exact absurd (show false=true from fx) Bool.false_ne_true
 | bl a =>
  cases ry
  cases x with
  | non=>cases rx;exact SeqAt.EqAt.bool_none a
  | bl b=>cases rx;exact SeqAt.EqAt.bool_bool a b
  | int b=>obtain ⟨t,rfl⟩:=rx;exact SeqAt.EqAt.bool_int a b t
  | str b=>obtain ⟨t,rfl⟩:=rx;exact SeqAt.EqAt.bool_str a b t
  | _=>exact absurd (show false=true from fx) Bool.false_ne_true
 | int a =>
  obtain ⟨t',rfl⟩:=ry
  cases x with
  | non=>cases rx;exact SeqAt.EqAt.int_none a t'
  | bl b=>cases rx;exact SeqAt.EqAt.int_bool a t' b
  | int b=>obtain ⟨t,rfl⟩:=rx;exact SeqAt.EqAt.int_int a t' b t
  | str b=>obtain ⟨t,rfl⟩:=rx;exact SeqAt.EqAt.int_str a t' b t
  | _=>exact absurd (show false=true from fx) Bool.false_ne_true
 | str a =>
  obtain ⟨t',rfl⟩:=ry
  cases x with
  | non=>cases rx;exact SeqAt.EqAt.str_none a t'
  | bl b=>cases rx;exact SeqAt.EqAt.str_bool a t' b
  | int b=>obtain ⟨t,rfl⟩:=rx;exact SeqAt.EqAt.str_int a t' b t
  | str b=>obtain ⟨t,rfl⟩:=rx;exact SeqAt.EqAt.str_str a t' b t
  | _=>exact absurd (show false=true from fx) Bool.false_ne_true
 | _=>exact absurd (show false=true from fy) Bool.false_ne_true
def eqU(x:V)(u:Value):Bool:=match u with
 | .none=>eqV .non x
 | .bool b=>eqV (.bl b) x
 | .int i _=>eqV (.int i) x
 | .str z _=>eqV (.str z) x
 | _=>false
theorem Zsd{x y:V}{u:Value}(r:Yk y u)(f:Zc8 y=true):eqU x u=eqV y x:=by
 cases y with
 | non=>cases r;rfl
 | bl b=>cases r;rfl
 | int i=>obtain ⟨t,rfl⟩:=r;rfl
 | str z=>obtain ⟨t,rfl⟩:=r;rfl
 | _=>exact absurd (show false=true from f) Bool.false_ne_true
theorem Ze7{x:V}:∀{xs:List V} {us:List Value},Yc xs us->xs.all Zc8=true->us.any (eqU x)=xs.any fun y=>eqV y x
 | _,_,.nil,_=>rfl
 | y ::xs,u ::us,.cons r t,f=>by
  rw [List.all_cons,Bool.and_eq_true] at f
  rw [List.any_cons,List.any_cons,Zsd r f.1,Ze7 t f.2]
theorem Zdd{A:Around}{s:Shared}{x:V}{v:Value}(rx:Yk x v)(fx:Zc8 x=true):∀{xs:List V} {us:List Value},Yc xs us->xs.all Zc8=true->∀u∈us,SeqAt.EqAt A s u v (eqU x u)
 | _,_,.nil,_=>fun u hu=>by cases hu
 | y ::xs,u ::us,.cons r t,f=>fun u' hu=>by
  rw [List.all_cons,Bool.and_eq_true] at f
  rcases List.mem_cons.mp hu with rfl|hu
  ·rw [Zsd r f.1];exact Zh2 r rx f.1 fx
  ·exact Zdd rx fx t f.2 u' hu
def inV(x:V)(xs:List V):Bool:=xs.any fun y=>eqV y x
def rIn(K:Frag)(neg:Bool):R2:=fun x y H Q=>∃p xs,y=.ref p/\(SqL K H p xs\/SqT K H p xs)/\Zc8 x=true/\xs.all Zc8=true/\Q (.bl (if neg then !inV x xs else inV x xs)) H
theorem Zqz:OpR X (compareOp .In) (rIn X.K false):=by
 intro pins s σ H x y v u Q I rx ry h
 obtain ⟨p,xs,rfl,hq,fx,fs,q⟩:=h
 cases ry
 rcases hq with hq|hq
 ·obtain ⟨its,r,pl,hz⟩:=I.list hq
  refine SeqAt.in_listAt (eqU x) pl.isList (fun w hw=>Zdd rx fx r fs w (by simpa using hw)) ⟨.bl _,H,I,rfl,?_⟩
  rw [show its.toArray.any (eqU x)=its.any (eqU x) by simp,Ze7 r fs]
  exact q
 ·obtain ⟨its,r,pl,hz⟩:=I.tuple hq
  refine SeqAt.in_tupleAt (eqU x) pl (fun w hw=>Zdd rx fx r fs w (by simpa using hw)) ⟨.bl _,H,I,rfl,?_⟩
  rw [show its.toArray.any (eqU x)=its.any (eqU x) by simp,Ze7 r fs]
  exact q
theorem Zlb:OpR X (compareOp .NotIn) (rIn X.K true):=by
 intro pins s σ H x y v u Q I rx ry h
 obtain ⟨p,xs,rfl,hq,fx,fs,q⟩:=h
 cases ry
 rcases hq with hq|hq
 ·obtain ⟨its,r,pl,hz⟩:=I.list hq
  refine SeqAt.notIn_listAt (eqU x) pl.isList (fun w hw=>Zdd rx fx r fs w (by simpa using hw)) ⟨.bl _,H,I,rfl,?_⟩
  rw [show its.toArray.any (eqU x)=its.any (eqU x) by simp,Ze7 r fs]
  exact q
 ·obtain ⟨its,r,pl,hz⟩:=I.tuple hq
  refine SeqAt.notIn_tupleAt (eqU x) pl (fun w hw=>Zdd rx fx r fs w (by simpa using hw)) ⟨.bl _,H,I,rfl,?_⟩
  rw [show its.toArray.any (eqU x)=its.any (eqU x) by simp,Ze7 r fs]
  exact q
theorem Zls:W3 X (.builtin "len") (fun xs H Q=>∃p ys,xs=[.ref p]/\(SqL X.K H p ys\/SqT X.K H p ys)/\Q (.int ys.length) H):=by
 intro pins s σ H xs us Q I r h
 obtain ⟨p,ys,rfl,hq,q⟩:=h
 obtain ⟨u,rfl,rx⟩:=Zdb r
 cases rx
 have hn:=Zfy
 rcases hq with hq|hq
 ·obtain ⟨its,r',pl,hz⟩:=I.list hq
  have hlen:=r'.length
  exact Calls.call_len_list pl.isList (by simp only [List.size_toArray] <;>omega) ⟨.int ys.length,H,I.tok _,⟨s.toks+1,by rw [List.size_toArray,hlen]⟩,q⟩
 ·obtain ⟨its,r',pl,hz⟩:=I.tuple hq
  have hlen:=r'.length
  exact len_tuple pl (by simp only [List.size_toArray] <;>omega) ⟨.int ys.length,H,I.tok _,⟨s.toks+1,by rw [List.size_toArray,hlen]⟩,q⟩
theorem Zl5:W3 X (.builtin "len") (fun xs H Q=>∃z,xs=[.str z]/\z.length<=sizeLine/\Q (.int z.length) H):=by
 intro pins s σ H xs us Q I r h
 obtain ⟨z,rfl,hz,q⟩:=h
 obtain ⟨u,rfl,t,rfl⟩:=Zdb r
 have hn:=Zfy
 exact len_str (by omega) ⟨.int z.length,H,I.tok _,⟨_,rfl⟩,q⟩
theorem W3.or{f:Value}{r r':List V->Hp->VK->Prop}(h:W3 X f r)(h':W3 X f r'):W3 X f (fun xs H Q=>r xs H Q\/r' xs H Q):=by
 intro pins s σ H xs us Q I rs q
 rcases q with q|q
 ·exact h pins s σ H xs us Q I rs q
 ·exact h' pins s σ H xs us Q I rs q
def tyV(K:Frag)(T:String)(x:V)(H:Hp):Prop:=match x with
 | .str _=>T = "str"
 | .int _=>T = "int"
 | .ref p=>(T = "list" /\∃xs,SqL K H p xs)\/(T = "tuple" /\∃o,K.lookup p=some o/\o.cls=.type "tuple" /\o.dict=none) \/
   (T = "dict" /\((∃kvs,H p=some (.dK kvs))\/∃kvs,H p=some (.dT kvs)))\/(T = "set" /\∃S n,H p=some (.set S n))
 | _=>False
theorem Zso{pins:List (Addr×Obj)}{σ:St}{H:Hp}{s:Shared}{T:String}{x:V}{v:Value}(I:Inv X pins σ H s)(r:Yk x v)(ty:tyV X.K T x H) :
  s.TypeIs v T/\∀a,v=.ref a->∃ob,s.heap.get? a=some ob/\ob.dict=none:=by
 cases x with
 | str z =>
  obtain ⟨t,rfl⟩:=r
  cases (show T = "str" from ty)
  exact ⟨typeIs_str s z t,fun _ e=>nomatch e⟩
 | int i =>
  obtain ⟨t,rfl⟩:=r
  cases (show T = "int" from ty)
  exact ⟨typeIs_int s i t,fun _ e=>nomatch e⟩
 | ref p =>
  cases r
  rcases ty with ⟨rfl,xs,hq⟩|⟨rfl,o,hk,hc,hd⟩|⟨rfl,hk⟩|⟨rfl,S,n,hk⟩
  ·obtain ⟨its,_,pl,_⟩:=I.list hq
   refine ⟨pl.isList.typeIs,fun a e=>?_⟩
   cases e
   obtain ⟨o,n,e,c,hd,_⟩:=pl
   exact ⟨o,e,hd⟩
  ·refine ⟨⟨o,I.kIn p o hk,hc⟩,fun a e=>?_⟩
   cases e
   exact ⟨o,I.kIn _ o hk,hd⟩
  ·have z:∃o,s.heap.get? p=some o/\o.ExactDict:=by
    rcases hk with ⟨kvs,hk⟩|⟨kvs,hk⟩
    ·obtain ⟨_,_,_,_,o,_,_,e,ex,_⟩:=I.hok p _ hk
     exact ⟨o,e,ex⟩
    ·obtain ⟨_,_,_,_,o,_,_,e,ex,_⟩:=I.hok p _ hk
     exact ⟨o,e,ex⟩
   obtain ⟨o,e,ex⟩:=z
   refine ⟨⟨o,e,ex.1⟩,fun a e2=>?_⟩
   cases e2
   exact ⟨o,e,ex.2.1⟩
  ·obtain ⟨o,_,_,_,e,ex,_⟩:=I.hok p _ hk
   refine ⟨⟨o,e,ex.1⟩,fun a e2=>?_⟩
   cases e2
   exact ⟨o,e,ex.2.1⟩
 | _=>exact False.elim ty
def Zz0(K:Frag)(T:String)(r:V->List V->Hp->VK->Prop)(to:TE):TE:=fun σ H Q=>to σ H fun x H1=>tyV K T x H1/\r x [] H1 Q
def tBM(K:Frag)(T:String)(r:V->List V->Hp->VK->Prop)(to:TE)(t:TA):TE:=fun σ H Q=>to σ H fun x H1=>tyV K T x H1/\t σ H1 fun xs H2=>r x xs H2 Q
variable {o e:Expr} {es:List Expr} {to:TE} {t:TA} {name:Str} {apos cpos:Pos} {T id:String} {r:V->List V->Hp->VK->Prop}
theorem Zxc(pa:PlainAttrs T)(slot:Slot T name id) (hty:typeOf (.builtin id)=pure (.type "method_descriptor")) (hm:MtR X id r) (ho:PE X o to)
  (hbase:attributeBase o name X.env (eval o X.env)=eval o X.env:=by rfl) (hline:(apos.endLine ==cpos.line)=true:=by rfl):PE X (.Call (.Attribute o name apos) [] [] cpos) (Zz0 X.K T r to):=by
 intro pins s σ H Q I h
 refine wpAny_Call_method0_late hbase hline (thn (ho pins s σ H _ I h) fun v s1 ⟨x,H1,I1,r1,ty,q1⟩=>?_)
 obtain ⟨h1,h2⟩:=Zso I1 r1 ty
 exact ⟨T,id,pa,slot,hty,h1,h2,Calls.callWith_builtin rfl (PySem.evalArgs_none (hm pins s1 σ H1 x [] v [] Q I1 r1 .nil q1))⟩
theorem Zcx(pa:PlainAttrs T)(slot:Slot T name id) (hty:typeOf (.builtin id)=pure (.type "method_descriptor")) (hm:MtR X id r) (ho:PE X o to) (ha:PA X (e ::es) t)
  (hbase:attributeBase o name X.env (eval o X.env)=eval o X.env:=by rfl)
  (hfew:((backTo cpos (starEach (e ::es) X.env)).all (fun x=>!x.1) && (backToKw cpos (keywordEach [] X.env)).all (fun x=>x.1.isSome)
   && decide ((e ::es).length+([]:List Keyword).length+(if ([]:List Keyword).isEmpty then 0 else 1)<30))=true:=by rfl)
  (hline:(apos.endLine ==cpos.line)=true:=by rfl) (hs:starEach (e ::es) X.env=(false,eval e X.env) ::starEach es X.env:=by rfl) (hplain:(backTo cpos (starEach es X.env)).any (·.1)=false:=by rfl) :
  PE X (.Call (.Attribute o name apos) (e ::es) [] cpos) (tBM X.K T r to t):=by
 intro pins s σ H Q I h
 refine wpAny_Call_method_late hbase hfew hline rfl (thn (ho pins s σ H _ I h) fun v s1 ⟨x,H1,I1,r1,ty,q1⟩=>?_)
 obtain ⟨h1,h2⟩:=Zso I1 r1 ty
 refine ⟨T,id,pa,slot,hty,h1,h2,?_⟩
 have hA:=ha cpos pins s1 σ H1 _ I1 q1
 rw [hs] at hA ⊢
 refine Calls.callWith_builtin (by show (false || (backTo cpos (starEach es X.env)).any (·.1))=false;rw [hplain] <;>rfl) (Calls.evalArgs_plain ?_)
 exact thn hA fun us s2 ⟨vs,H2,I2,r2,q2⟩=>hm pins s2 σ H2 x vs v us Q I2 r1 r2 q2
/- xs.append(e),list.index on a module's tuple .. are MtR facts of 06m -/
end
end L2
namespace L2
open PySem PySem.Spec PyProof.Rows
def MtM(X:Cx)(id:String)(r:V->List V->Hp->VK->Prop):Prop :=
 ∀(pins:List (Addr×Obj)) (s:Shared) (σ:St) (H:Hp) (x:V) (xs:List V) (v:Value) (us:List Value) (Q:VK),Inv X pins σ H s->Yk x v->Yc xs us->r x xs H Q ->
  wpAny (model X.prog X.w) X.A (call (.builtin id) (v ::us)) (EP X pins σ Q) X.xe s
theorem Yc.one:∀{x:V} {us:List Value},Yc [x] us->∃u,us=[u]/\Yk x u
 | _,_,.cons r .nil=>⟨_,rfl,r⟩
theorem Yc.zero:∀{us:List Value},Yc [] us->us=[]
 | _,.nil=>rfl
theorem Yc.dropLast{xs:List V}{us:List Value}(h:Yc xs us):Yc xs.dropLast us.dropLast:=by
 induction h with
 | nil=>exact .nil
 | cons r t ih =>
  cases t with
  | nil=>exact .nil
  | cons q t'=>exact .cons r ih
theorem Yc.eraseIdx:∀{xs:List V} {us:List Value} (i:Nat),Yc xs us->Yc (xs.eraseIdx i) (us.eraseIdx i)
 | _,_,_,.nil=>.nil
 | _,_,0,.cons _ t=>t
 | _,_,i+1,.cons r t=>.cons r (Yc.eraseIdx i t)
theorem Zok{α:Type}(l:List α):l.eraseIdx (l.length-1)=l.dropLast:=by
 induction l with
 | nil=>rfl
 | cons a r ih =>
  cases r with
  | nil=>rfl
  | cons b r =>
   have e:(a ::b ::r).length-1=((b ::r).length-1)+1:=by
    have h1:(a ::b ::r).length=r.length+2:=rfl
    have h2:(b ::r).length=r.length+1:=rfl
    omega
   rw [e,List.eraseIdx_cons_succ,ih]
   all_goals rfl
theorem Zj5{α:Type}:∀(l:List α) (i:Nat),(l.eraseIdx i).length<=l.length
 | [],_=>Nat.le_refl _
 | _ ::_,0=>Nat.le_succ _
 | _ ::r,i+1=>Nat.succ_le_succ (Zj5 r i)
section
variable {X:Cx} {pins:List (Addr×Obj)} {σ:St} {H:Hp} {s:Shared} {l b:Addr} {xs ys zs:List V}
theorem Inv.lset{its its':List Value}{n:Nat}{f:Array Value->Array Value}{t':Nat}(I:Inv X pins σ H s)(hH:H l=some (.lst xs))
  (e:s.heap.get? l=some { cls:=.type "list",data:=.seq its.toArray n }) (hf:f its.toArray=its'.toArray) (hv:Yc ys its') (hz:ys.length<=sizeLine) :
  Inv X pins σ (upd H l (.lst ys)) { s with heap:=s.heap.update l (Obj.mapSeq f),toks:=t' }:=by
 have q:=PySem.IsL.update e f
 rw [hf] at q
 refine I.write (x:=l) (e:=l) (by rw [hH];exact trivial) (.inl rfl) (fun b' u hb hu=>(Heap.get?_update_other s.heap (Obj.mapSeq f) (Ne.symm hb)).trans hu) ⟨_,q⟩ ?_
 exact ⟨hz,its',_,hv,q⟩
theorem Inv.lnew{its:List Value}{t':Nat}(I:Inv X pins σ H s)(hv:Yc ys its)(hz:ys.length<=sizeLine) :
  Inv X pins σ (upd H s.heap.objs.size (.lst ys)) { s with heap:=s.heap.push { cls:=.type "list",data:=.seq its.toArray },toks:=t' } :=
 I.laid (fun _ _ q=>Heap.get?_push_of_some _ q) (Nat.le_refl _) ⟨hz,its,0,hv,Heap.get?_push_size _ rfl⟩
theorem Inv.fresh(I:Inv X pins σ H s):H s.heap.objs.size=none:=I.hok.fresh (Nat.le_refl _)
theorem Inv.lstM(I:Inv X pins σ H s)(hH:H l=some (.lst xs)):xs.length<=sizeLine/\∃(its:List Value) (n:Nat),Yc xs its/\xs.length=its.length/\s.heap.get? l=some { cls:=.type "list",data:=.seq its.toArray n }:=by
 obtain ⟨z,its,n,r,e⟩:=I.hok l _ hH
 exact ⟨z,its,n,r,r.length,e⟩
theorem Ztb{n:Nat}(h:n<=sizeLine):Builtin.List.listTooLong n=false:=by
 unfold Builtin.List.listTooLong
 exact decide_eq_false (by omega)
end
section
variable {X:Cx}
def Zt4:V->List V->Hp->VK->Prop:=fun x vs H Q=>∃l xs y,x=.ref l/\vs=[y]/\H l=some (.lst xs)/\xs.length<sizeLine/\Q .non (upd H l (.lst (xs++[y])))
theorem Y9:MtM X "list.append" Zt4:=by
 intro pins s σ H x vs v us Q I rx rv h
 obtain ⟨l,xs,y,rfl,rfl,hH,hz,q⟩:=h
 cases rx
 obtain ⟨u,rfl,ru⟩:=rv.one
 obtain ⟨z,its,n,r,hl,e⟩:=I.lstM hH
 refine call_meets F.slot_list_append ⟨_,e,rfl⟩ F.entry_list_append (F.args_list_append_2 _ _) (PySem.list_append l its.toArray n u (by rw [List.size_toArray];omega)) ⟨e,?_⟩
 refine ⟨.non,_,I.lset (its':=its++[u]) hH e (by simp) (r.append (.cons ru .nil)) ?_,rfl,q⟩
 rw [List.length_append,List.length_singleton]
 omega
def Zt0:V->List V->Hp->VK->Prop:=fun x vs H Q=>∃l b xs zs,x=.ref l/\vs=[.ref b]/\H l=some (.lst xs)/\H b=some (.lst zs)/\xs.length+zs.length<=sizeLine/\Q .non (upd H l (.lst (xs++zs)))
theorem Zya:MtM X "list.extend" Zt0:=by
 intro pins s σ H x vs v us Q I rx rv h
 obtain ⟨l,b,xs,zs,rfl,rfl,hH,hB,hz,q⟩:=h
 cases rx
 obtain ⟨u,rfl,ru⟩:=rv.one
 cases ru
 obtain ⟨z,its,n,r,hl,e⟩:=I.lstM hH
 obtain ⟨z2,its2,n2,r2,hl2,e2⟩:=I.lstM hB
 have hsz:its.toArray.size+its2.toArray.size<=sizeLine:=by rw [List.size_toArray,List.size_toArray];omega
 have hlong:¬(!its.toArray.isEmpty && Builtin.List.listTooLong (its.toArray.size+its2.toArray.size))=true:=by
  rw [Ztb hsz,Bool.and_false]
  exact Bool.false_ne_true
 refine call_meets F.slot_list_extend ⟨_,e,rfl⟩ F.entry_list_extend (F.args_list_extend_2 _ _)
  (AutoSeq1.list_extend_list_list_0 l its.toArray n b its2.toArray n2 hlong (by rw [List.size_toArray];omega) (by omega)) ⟨e,e2,?_⟩
 refine ⟨.non,_,I.lset (its':=its++its2) hH e (by simp) (r.append r2) ?_,rfl,q⟩
 rw [List.length_append]
 omega
def Yaa:V->List V->Hp->VK->Prop:=fun x vs H Q=>∃l xs y,x=.ref l/\vs=[]/\H l=some (.lst xs)/\xs[xs.length-1]? =some y/\Q y (upd H l (.lst xs.dropLast))
theorem Zxw:MtM X "list.pop" Yaa:=by
 intro pins s σ H x vs v us Q I rx rv h
 obtain ⟨l,xs,y,rfl,rfl,hH,hy,q⟩:=h
 cases rx
 have hus:=rv.zero
 subst hus
 obtain ⟨z,its,n,r,hl,e⟩:=I.lstM hH
 obtain ⟨u,hu,ru⟩:=r.get hy
 have hy':its.toArray[its.toArray.size-1]? =some u:=by
  show its.toArray[its.length-1]? =some u
  rw [<-Array.getElem?_toList,<-hl]
  exact hu
 refine call_meets F.slot_list_pop ⟨_,e,rfl⟩ F.entry_list_pop (F.args_list_pop_1 _) (MeetsSeq.list_pop_last l its.toArray n u hy' (by rw [List.size_toArray];omega)) ⟨e,?_⟩
 refine ⟨y,_,I.lset (its':=its.dropLast) hH e ?_ r.dropLast ?_,ru,q⟩
 ·show its.toArray.eraseIdxIfInBounds (its.toArray.size-1)=its.dropLast.toArray
  rw [List.size_toArray,List.eraseIdxIfInBounds_toArray,Zok]
 ·rw [List.length_dropLast]
  omega
def Zwz:V->List V->Hp->VK->Prop:=fun x vs H Q=>∃l xs i k y,x=.ref l/\vs=[.int i]/\H l=some (.lst xs)/\-(2 ^ 63)<=i/\i<2 ^ 63/\seqIndex? i xs.length=some k/\xs[k]? =some y/\Q y (upd H l (.lst (xs.eraseIdx k)))
theorem Zni:MtM X "list.pop" Zwz:=by
 intro pins s σ H x vs v us Q I rx rv h
 obtain ⟨l,xs,i,k,y,rfl,rfl,hH,h1,h2,hk,hy,q⟩:=h
 cases rx
 obtain ⟨u,rfl,ru⟩:=rv.one
 obtain ⟨t,rfl⟩:=ru
 obtain ⟨z,its,n,r,hl,e⟩:=I.lstM hH
 obtain ⟨w,hw,rw'⟩:=r.get hy
 refine call_meets F.slot_list_pop ⟨_,e,rfl⟩ F.entry_list_pop (F.args_list_pop_2 _ _)
  (MeetsSeq.list_pop_at l its.toArray n i t k w (fitsIndex_both h1 h2) (by rw [List.size_toArray,<-hl];exact hk) (by rw [<-Array.getElem?_toList];exact hw) (by rw [List.size_toArray];omega)) ⟨e,?_⟩
 refine ⟨y,_,I.lset (its':=its.eraseIdx k) hH e ?_ (r.eraseIdx k) ?_,rw',q⟩
 ·show its.toArray.eraseIdxIfInBounds k=(its.eraseIdx k).toArray
  rw [List.eraseIdxIfInBounds_toArray]
 ·have:=Zj5 xs k
  omega
def Zz1:R2:=fun x y H Q=>∃l b xs zs,x=.ref l/\y=.ref b/\H l=some (.lst xs)/\H b=some (.lst zs)/\xs.length+zs.length<=sizeLine/\∀p,H p=none->Q (.ref p) (upd H p (.lst (xs++zs)))
theorem Zxk:OpR X (binaryOp .Add) Zz1:=by
 intro pins s σ H x y v u Q I rx ry h
 obtain ⟨l,b,xs,zs,rfl,rfl,hH,hB,hz,q⟩:=h
 cases rx
 cases ry
 obtain ⟨z,its,n,r,hl,e⟩:=I.lstM hH
 obtain ⟨z2,its2,n2,r2,hl2,e2⟩:=I.lstM hB
 refine PySem.P.add_list e e2 ?_ (by rw [List.size_toArray,List.size_toArray];omega)
 have ea:its.toArray++its2.toArray=(its++its2).toArray:=by simp
 rw [ea]
 exact ⟨.ref _,_,I.lnew (t':=s.toks) (r.append r2) (by rw [List.length_append];omega),rfl,q _ I.fresh⟩
end
section
variable {prog:Program} {w:World} {A:Around} {E:Value->Shared->Prop} {s:Shared}
end
section
variable {X:Cx}
end
end L2
namespace L2
open PySem PySem.Spec PyProof.Rows
section
variable {κ:Type} [DecidableEq κ]
def Yv(kvs:List (κ×V))(k:κ):Option V:=(kvs.find? fun kv=>decide (kv.1=k)).map (·.2)
def Zar(kvs:List (κ×V))(k:κ)(v:V):List (κ×V) :=
 if (kvs.any fun kv=>decide (kv.1=k))=true then kvs.map (fun kv=>if kv.1=k then (kv.1,v) else kv) else kvs++[(k,v)]
theorem Wi{p:κ×V}{r:List (κ×V)}{k:κ}(e:p.1=k):Yv (p ::r) k=some p.2:=by simp [Yv,List.find?_cons,e]
theorem Y0{p:κ×V}{r:List (κ×V)}{k:κ}(e:¬p.1=k):Yv (p ::r) k=Yv r k:=by simp [Yv,List.find?_cons,e]
theorem Ze9(k:κ):∀kvs:List (κ×V),(kvs.any fun kv=>decide (kv.1=k))=(Yv kvs k).isSome
 | []=>rfl
 | p ::r=>by
  rw [List.any_cons]
  by_cases e:p.1=k
  ·simp only [Wi e,decide_eq_true e,Bool.true_or,Option.isSome_some]
  ·rw [Y0 e,decide_eq_false e,Bool.false_or];exact Ze9 k r
theorem Zbl(kvs:List (κ×V))(k:κ)(v:V):(Zar kvs k v).length<=kvs.length+1:=by
 unfold Zar
 split
 ·rw [List.length_map];omega
 ·rw [List.length_append,List.length_cons,List.length_nil];omega
theorem Zdc{kvs:List (κ×V)}{k:κ}(v:V)(h:Yv kvs k=none):Zar kvs k v=kvs++[(k,v)]:=by
 unfold Zar
 rw [Ze9,h]
 exact if_neg (by decide)
theorem Zc7.isSome_eq{o:Option V}{u:Option Value}(r:Zc7 o u):o.isSome=u.isSome:=by
 cases o with
 | none=>cases u with
  | none=>rfl
  | some _=>exact (show False from r).elim
 | some _=>cases u with
  | none=>exact (show False from r).elim
  | some _=>rfl
theorem KV.val{kvs:List (κ×V)}{vs:List (κ×Value)}(r:KV kvs vs)(k:κ):Zc7 (Yv kvs k) (valueAt vs k):=by
 unfold KV at r
 induction r with
 | nil=>exact True.intro
 | @cons p q ps qs h t ih =>
  obtain ⟨h1,h2⟩:=h
  by_cases e:p.1=k
  ·have e':q.1=k:=h1.symm.trans e
   have b:valueAt (q ::qs) k=some q.2:=by simp [valueAt,List.find?_cons,e']
   rw [Wi e,b];exact h2
  ·have e':¬q.1=k:=fun z=>e (h1.trans z)
   have b:valueAt (q ::qs) k=valueAt qs k:=by simp [valueAt,List.find?_cons,e']
   rw [Y0 e,b];exact ih
theorem KV.any{kvs:List (κ×V)}{vs:List (κ×Value)}(r:KV kvs vs)(k:κ):(kvs.any fun kv=>decide (kv.1=k))=vs.any fun kv=>decide (kv.1=k):=by
 unfold KV at r
 induction r with
 | nil=>rfl
 | cons h t ih=>rw [List.any_cons,List.any_cons,ih,h.1]
theorem KV.repl{kvs:List (κ×V)}{vs:List (κ×Value)}(r:KV kvs vs)(k:κ){y:V}{u:Value}(ry:Yk y u) :
  KV (kvs.map fun kv=>if kv.1=k then (kv.1,y) else kv) (vs.map fun kv=>if kv.1=k then (kv.1,u) else kv):=by
 unfold KV at r ⊢
 induction r with
 | nil=>exact .nil
 | @cons p q ps qs h t ih =>
  rw [List.map_cons,List.map_cons]
  refine .cons ?_ ih
  obtain ⟨h1,h2⟩:=h
  by_cases e:p.1=k
  ·rw [if_pos e,if_pos (h1.symm.trans e)];exact ⟨h1,ry⟩
  ·rw [if_neg e,if_neg (fun z=>e (h1.trans z))];exact ⟨h1,h2⟩
theorem KV.put{kvs:List (κ×V)}{vs:List (κ×Value)}(r:KV kvs vs)(k:κ){y:V}{u:Value}(ry:Yk y u):KV (Zar kvs k y) (stored vs k u):=by
 unfold Zar stored
 rw [r.any k]
 by_cases e:(vs.any fun kv=>decide (kv.1=k))=true
 ·rw [if_pos e,if_pos e];exact r.repl k ry
 ·rw [if_neg e,if_neg e];exact Paired.snoc r ⟨rfl,ry⟩
theorem KV.length{kvs:List (κ×V)}{vs:List (κ×Value)}(r:KV kvs vs):kvs.length=vs.length:=Paired.length r
end
theorem Zjx{P:Program}{w:World}{k:Key}{u:Value}(r:Yk (kV k) u):(Ye P w).is k u=true:=by
 cases k with
 | inl i=>obtain ⟨t,e⟩:=(show ∃t,u=Value.int i t from r);subst e;exact Znh P w i t
 | inr x=>obtain ⟨t,e⟩:=(show ∃t,u=Value.str x t from r);subst e;exact Zm5 P w x t
theorem Zfi{P:Program}{w:World}:∀{ks:List Key} {us:List Value},Yc (ks.map kV) us->ItemsAre (Ye P w) ks us
 | [],_,r=>by rw [List.map_nil] at r;cases r;exact .nil
 | k ::ks,_,r=>by
  rw [List.map_cons] at r
  cases r with
  | cons h t=>exact .cons (Zjx h) (Zfi t)
abbrev KT(H:Hp):List (List Key×V)->List (List Key×Addr×Value)->Prop:=Paired fun p q=>p.1=q.1/\H q.2.1=some (.tup (p.1.map kV))/\Yk p.2 q.2.2
theorem KT.val{H:Hp}{kvs:List (List Key×V)}{xs:List (List Key×Addr×Value)}(r:KT H kvs xs)(k:List Key):Zc7 (Yv kvs k) ((atKey xs k).map (·.2)):=by
 induction r with
 | nil=>exact True.intro
 | @cons p q ps qs h t ih =>
  obtain ⟨h1,_,h2⟩:=h
  by_cases e:p.1=k
  ·have e':q.1=k:=h1.symm.trans e
   have b:atKey (q ::qs) k=some q.2:=by simp [atKey,List.find?_cons,e']
   rw [Wi e,b];exact h2
  ·have e':¬q.1=k:=fun z=>e (h1.trans z)
   have b:atKey (q ::qs) k=atKey qs k:=by simp [atKey,List.find?_cons,e']
   rw [Y0 e,b];exact ih
theorem KT.repl{H:Hp}{kvs:List (List Key×V)}{xs:List (List Key×Addr×Value)}(r:KT H kvs xs)(k:List Key){y:V}{u:Value}(ry:Yk y u) :
  KT H (kvs.map fun kv=>if kv.1=k then (kv.1,y) else kv) (xs.map (putAt k u)):=by
 induction r with
 | nil=>exact .nil
 | @cons p q ps qs h t ih =>
  rw [List.map_cons,List.map_cons]
  refine .cons ?_ ih
  obtain ⟨h1,h2,h3⟩:=h
  unfold putAt
  by_cases e:p.1=k
  ·rw [if_pos e,if_pos (h1.symm.trans e)];exact ⟨h1,h2,ry⟩
  ·rw [if_neg e,if_neg (fun z=>e (h1.trans z))];exact ⟨h1,h2,h3⟩
theorem KT.put{H:Hp}{kvs:List (List Key×V)}{xs:List (List Key×Addr×Value)}(r:KT H kvs xs)(k:List Key){b:Addr}{y:V}{u:Value}(hb:H b=some (.tup (k.map kV)))(ry:Yk y u) :
  KT H (Zar kvs k y) (storedH xs k b u):=by
 have e:(kvs.any fun kv=>decide (kv.1=k))=(atKey xs k).isSome:=by
  rw [Ze9,(r.val k).isSome_eq,Option.isSome_map]
 unfold Zar storedH
 rw [e]
 by_cases q:(atKey xs k).isSome=true
 ·rw [if_pos q,if_pos q];exact r.repl k ry
 ·rw [if_neg q,if_neg q];exact Paired.snoc r ⟨rfl,hb,ry⟩
theorem KT.keeps{H H':Hp}{kvs:List (List Key×V)}{xs:List (List Key×Addr×Value)}(r:KT H kvs xs)(ht:∀b ys,H b=some (.tup ys)->H' b=some (.tup ys)):KT H' kvs xs :=
 Paired.mapP r fun _ _ z=>⟨z.1,ht _ _ z.2.1,z.2.2⟩
section
variable {P:Program} {w:World} {H:Hp} {h:Heap} {a:Addr}
theorem Zvx{u:HO}(ok:HOk P w H h)(e:Rd H a u):Yn P w H h a u:=e.ok ok
theorem Zdf{kvs:List (Key×V)}(ok:HOk P w H h)(e:Rd H a (.dK kvs)):kvs.length<=sizeLine/\(a ==sysModules)=false/\∃vs,KV kvs vs/\h.DictOf (Ye P w) a vs :=
 show Yn P w H h a (.dK kvs) from Zvx ok e
theorem Zp1{kvs:List (Key×V)}(ok:HOk P w H h)(e:H a=some (.dK kvs)):kvs.length<=sizeLine/\(a ==sysModules)=false/\∃vs,KV kvs vs/\h.DictOf (Ye P w) a vs:=Zdf ok (.inl e)
theorem Zhv{ks:List Key}(ok:HOk P w H h)(e:H a=some (.tup (ks.map kV))):(tupleKind (Ye P w)).is h ks a:=by
 obtain ⟨_,its,r,o,h1,h2,n,h3⟩:=(show Yn P w H h a (.tup (ks.map kV)) from ok a _ e)
 exact ⟨o,its.toArray,n,h1,h2,h3,by simpa using Zfi r⟩
theorem Zmw{kvs:List (List Key×V)}(ok:HOk P w H h)(e:Rd H a (.dT kvs)):kvs.length<=sizeLine/\(a ==sysModules)=false /\
  ∃xs,KT H kvs xs/\h.DictOfH (tupleKind (Ye P w)) a xs:=by
 obtain ⟨z,y,xs,r,o,es,ep,h1,h2,h3,h4,h5⟩:=(show Yn P w H h a (.dT kvs) from Zvx ok e)
 refine ⟨z,y,xs,r,o,es,ep,h1,h2,h3,h4,fun x hx=>?_,h5⟩
 have all:∀{l:List (List Key×V)} {m:List (List Key×Addr×Value)},KT H l m->∀x∈m,(tupleKind (Ye P w)).is h x.1 x.2.1:=by
  intro l m q
  induction q with
  | nil=>intro x hx;exact nomatch hx
  | @cons p q ps qs hq t ih =>
   intro x hx
   rcases List.mem_cons.mp hx with e|hx
   ·subst e
    exact Zhv ok (by rw [<-hq.1];exact hq.2.1)
   ·exact ih x hx
 exact all r x hx
theorem Zv2{kvs:List (List Key×V)}(ok:HOk P w H h)(e:H a=some (.dT kvs)):kvs.length<=sizeLine/\(a ==sysModules)=false /\
  ∃xs,KT H kvs xs/\h.DictOfH (tupleKind (Ye P w)) a xs:=Zmw ok (.inl e)
end
def W9(H:Hp)(a:Addr)(y:V)(r:Option V):Prop :=
 (∃kvs k,Rd H a (.dK kvs)/\y=kV k/\r=Yv kvs k)\/∃kvs k b,Rd H a (.dT kvs)/\y=.ref b/\H b=some (.tup (k.map kV))/\r=Yv kvs k
def Zed(H:Hp)(a:Addr)(y v:V)(H':Hp):Prop :=
 (∃kvs k,H a=some (.dK kvs)/\y=kV k/\kvs.length<sizeLine/\H'=upd H a (.dK (Zar kvs k v))) \/
 ∃kvs k b,H a=some (.dT kvs)/\y=.ref b/\H b=some (.tup (k.map kV))/\kvs.length<sizeLine/\H'=upd H a (.dT (Zar kvs k v))
theorem W9.k{H:Hp}{a:Addr}{kvs:List (Key×V)}{k:Key}(e:H a=some (.dK kvs)):W9 H a (kV k) (Yv kvs k):=.inl ⟨kvs,k,.inl e,rfl,rfl⟩
theorem W9.t{H:Hp}{a b:Addr}{kvs:List (List Key×V)}{k:List Key}(e:H a=some (.dT kvs))(eb:H b=some (.tup (k.map kV))):W9 H a (.ref b) (Yv kvs k):=.inr ⟨kvs,k,b,.inl e,rfl,eb,rfl⟩
theorem Zed.k{H:Hp}{a:Addr}{kvs:List (Key×V)}{k:Key}{v:V}(e:H a=some (.dK kvs))(hl:kvs.length<sizeLine):Zed H a (kV k) v (upd H a (.dK (Zar kvs k v))):=.inl ⟨kvs,k,e,rfl,hl,rfl⟩
theorem Zed.t{H:Hp}{a b:Addr}{kvs:List (List Key×V)}{k:List Key}{v:V}(e:H a=some (.dT kvs))(eb:H b=some (.tup (k.map kV)))(hl:kvs.length<sizeLine) :
  Zed H a (.ref b) v (upd H a (.dT (Zar kvs k v))):=.inr ⟨kvs,k,b,e,rfl,eb,hl,rfl⟩
section
variable {X:Cx} {pins:List (Addr×Obj)} {σ:St} {H:Hp} {s:Shared} {a:Addr} {y v:V} {u r:Value} {o:Option V} {A:Around} {E:Value->Shared->Prop}
theorem Inv.big(I:Inv X pins σ H s):sysModules<s.heap.objs.size:=by
 have h:mainGlobals<s.heap.objs.size:=(I.mod.glob.keeps I.bk).lt
 exact Nat.lt_trans (by decide) h
theorem Zq3{Q:Value->Shared->Prop}(hu:A.units+1<cLine)(I:Inv X pins σ H s)(g:W9 H a y (some v))(ry:Yk y u)(h:∀w' s',Inv X pins σ H s'->Yk v w'->Q w' s') :
  wpAny (model X.prog X.w) A (getItem (.ref a) u) Q E s:=by
 rcases g with ⟨kvs,k,e,ey,l⟩|⟨kvs,k,b,e,ey,eb,l⟩
 ·subst ey
  obtain ⟨z,hd,vs,rel,dd⟩:=Zdf I.hok e
  obtain ⟨w',hw,rw'⟩:=Zc7.some_of (v:=v) (o:=valueAt vs k) (by rw [l];exact rel.val k)
  exact wpAny_getItem_of (Zjx ry) dd.mapOf hw (h w' _ (I.tok _) rw')
 ·subst ey
  cases (show u=Value.ref b from ry)
  obtain ⟨z,hd,xs,rel,dd⟩:=Zmw I.hok e
  obtain ⟨w',hw,rw'⟩:=Zc7.some_of (v:=v) (o:=(atKey xs k).map (·.2)) (by rw [l];exact rel.val k)
  obtain ⟨p,hp,hp2⟩:=Option.map_eq_some_iff.mp hw
  refine wpAny_getItem_heap (tupleKind_room_in1 hu) (Zhv I.hok eb) dd hp ?_
  rw [hp2]
  exact h w' _ (I.tok _) rw'
theorem Zz3{Q:Value->Shared->Prop}(hu:A.units+1<cLine)(I:Inv X pins σ H s)(g:W9 H a y o)(ry:Yk y u)(h:∀s',Inv X pins σ H s'->Q (.bool o.isSome) s') :
  wpAny (model X.prog X.w) A (compareOp .In u (.ref a)) Q E s:=by
 rcases g with ⟨kvs,k,e,ey,l⟩|⟨kvs,k,b,e,ey,eb,l⟩
 ·subst ey
  obtain ⟨z,hd,vs,rel,dd⟩:=Zdf I.hok e
  refine wpAny_in_of (Zjx ry) hd dd.mapOf ?_
  rw [<-(rel.val k).isSome_eq,<-l]
  exact h _ (I.tok _)
 ·subst ey
  cases (show u=Value.ref b from ry)
  obtain ⟨z,hd,xs,rel,dd⟩:=Zmw I.hok e
  refine wpAny_in_heap (tupleKind_room_in1 hu) (Zhv I.hok eb) hd dd ?_
  have q:=(rel.val k).isSome_eq
  rw [Option.isSome_map] at q
  rw [<-q,<-l]
  exact h _ (I.tok _)
theorem Zu7{Q:Value->Shared->Prop}(hu:A.units+1<cLine)(I:Inv X pins σ H s)(g:W9 H a y o)(ry:Yk y u)(h:∀s',Inv X pins σ H s'->Q (.bool (!o.isSome)) s') :
  wpAny (model X.prog X.w) A (compareOp .NotIn u (.ref a)) Q E s:=by
 rcases g with ⟨kvs,k,e,ey,l⟩|⟨kvs,k,b,e,ey,eb,l⟩
 ·subst ey
  obtain ⟨z,hd,vs,rel,dd⟩:=Zdf I.hok e
  refine wpAny_notIn_of (Zjx ry) hd dd.mapOf ?_
  rw [<-(rel.val k).isSome_eq,<-l]
  exact h _ (I.tok _)
 ·subst ey
  cases (show u=Value.ref b from ry)
  obtain ⟨z,hd,xs,rel,dd⟩:=Zmw I.hok e
  refine wpAny_notIn_heap (tupleKind_room_in1 hu) (Zhv I.hok eb) hd dd ?_
  have q:=(rel.val k).isSome_eq
  rw [Option.isSome_map] at q
  rw [<-q,<-l]
  exact h _ (I.tok _)
theorem Zks{h':Heap}{t':Nat}{ob:HO}(I:Inv X pins σ H s)(mu:Mut (H a))(hs:Heap.SameBut a s.heap h')(he:∃q,h'.get? a=some q)(new:Yn X.prog X.w (upd H a ob) h' a ob) :
  Inv X pins σ (upd H a ob) { s with heap:=h',toks:=t' } :=
 I.write (x:=a) (e:=a) mu (.inl rfl) (fun b q hb z=>(hs.2 b hb).trans z) he new
theorem Zr3{P:Program}{w:World}{H':Hp}{h':Heap}{kvs:List (Key×V)}{vs:List (Key×Value)}(z:kvs.length<=sizeLine)(hd:(a ==sysModules)=false)(rel:KV kvs vs)(dd:h'.DictOf (Ye P w) a vs) :
  Yn P w H' h' a (.dK kvs):=⟨z,hd,vs,rel,dd⟩
theorem Zrb{H':Hp}{Q:Unit->Shared->Prop}(hu:A.units+1<cLine)(I:Inv X pins σ H s)(g:Zed H a y v H')(ry:Yk y u)(rv:Yk v r)(h:∀s',Inv X pins σ H' s'->Q () s') :
  wpAny (model X.prog X.w) A (setItem (.ref a) u r) Q E s:=by
 rcases g with ⟨kvs,k,e,ey,l,eH⟩|⟨kvs,k,b,e,ey,eb,l,eH⟩
 ·subst ey eH
  obtain ⟨z,hd,vs,rel,dd⟩:=Zp1 I.hok e
  have hz:vs.length<=sizeLine:=by rw [<-rel.length];exact z
  have hl:(Zar kvs k v).length<=sizeLine:=by have:=Zbl kvs k v;omega
  refine wpAny_setItem_pairs (hsz:=hz) (Zjx ry) dd fun h' dd' hs=>h _ ?_
  have he:∃q,h'.get? a=some q:=let ⟨q,_,_,hq,_⟩:=dd';⟨q,hq⟩
  exact Zks I (by rw [e];exact True.intro) hs he (Zr3 hl hd (rel.put k rv) dd')
 ·subst ey eH
  cases (show u=Value.ref b from ry)
  obtain ⟨z,hd,xs,rel,dd⟩:=Zv2 I.hok e
  have hz:xs.length<=sizeLine:=by rw [<-Paired.length rel];exact z
  have hl:(Zar kvs k v).length<=sizeLine:=by have:=Zbl kvs k v;omega
  refine wpAny_setItem_heap (hsz:=hz) (tupleKind_room_in1 hu) (Zhv I.hok eb) dd fun h' dd' hs=>h _ ?_
  obtain ⟨q,es,ep,hq,h2,h3,h4,_,h5⟩:=dd'
  refine Zks I (by rw [e];exact True.intro) hs ⟨q,hq⟩ ⟨hl,hd,_,(rel.put k eb rv).keeps fun c ys ec=>?_,q,es,ep,hq,h2,h3,h4,h5⟩
  rw [Zi (Zwn ec e (fun z=>nomatch z))]
  exact ec
end
section
variable {X:Cx} {pins:List (Addr×Obj)} {σ:St} {H:Hp} {s:Shared} {a:Addr} {kvs:List (Key×V)} {k:Key} {u:Value} {A:Around} {E:Value->Shared->Prop}
theorem Zze{Q:Value->Shared->Prop}(I:Inv X pins σ H s)(e:Rd H a (.dK kvs))(h:∀t s',Inv X pins σ H s'->Q (.int kvs.length t) s'):wpAny (model X.prog X.w) A (call (.builtin "len") [.ref a]) Q E s:=by
 obtain ⟨z,hd,vs,rel,dd⟩:=Zdf I.hok e
 refine call_len_dict hd dd (by rw [<-rel.length];rw [sizeLine_eq] at z;omega) ?_
 rw [<-rel.length]
 exact h _ _ (I.tok _)
end
def Zzb(i:Expr):Prop:=∀ov iv,subscripted i false ov iv=operate [ov,iv] (getItem ov iv)
theorem Zuc{prog:Program}{w:World}{A:Around}{E:Value->Shared->Prop}{s:Shared}{env:Env}{value slice:Expr}{pos:Pos}{T id:String}{Q:Value->Shared->Prop}
  (hl:typeLookup (.type T) "__getitem__" =pure (some (.builtin id))) (hs:Zzb slice)
  (h:wpAny (model prog w) A (eval value env) (fun o s₁=>wpAny (model prog w) A (eval slice env) (fun i s₂=>s₂.TypeIs o T/\wpAny (model prog w) A (getItem o i) Q E s₂) E s₁) E s) :
  wpAny (model prog w) A (eval (.Subscript value slice pos) env) Q E s:=by
 refine Subscript_ (wpAny_mono h (fun o s₁ h₁=>wpAny_mono h₁ (fun i s₂ h₂=>?_) fun _ _ x=>x) fun _ _ x=>x)
 obtain ⟨hT,h₂⟩:=h₂
 unfold subscriptTail
 refine wpAny_bind ?_
 rw [getitemInPython_of_ne hT.not_modules]
 refine wpAny_bind (wpAny_specialOf hT hl ?_)
 have fin:wpAny (model prog w) A (subscripted slice false o i) (fun r s₃=>wpAny (model prog w) A (letTemporaryGo value o r >>=fun _=>pure r) Q E s₃) E s₂:=by
  rw [hs o i]
  exact wpAny_operating (wpAny_mono h₂ (fun r s₃ h₃=>wpAny_bind (wpAny_letTemporaryGo (wpAny_pure h₃))) fun _ _ x=>x)
 first
  | exact wpAny_pure (wpAny_bind fin)
  | exact wpAny_bind (wpAny_pure (wpAny_bind fin))
  | exact wpAny_bind fin
theorem Zmm{X:Cx}{pins:List (Addr×Obj)}{σ:St}{H:Hp}{s:Shared}{a:Addr}{y:V}{o:Option V}(I:Inv X pins σ H s)(g:W9 H a y o):s.TypeIs (.ref a) "dict" :=by
 rcases g with ⟨kvs,k,e,_,_⟩|⟨kvs,k,b,e,_,_,_⟩
 ·obtain ⟨_,_,vs,_,dd⟩:=Zdf I.hok e
  exact dd.typeIs
 ·obtain ⟨_,_,xs,_,dd⟩:=Zmw I.hok e
  exact dd.typeIs
def Zzf(td ty:TE):TE:=fun σ H Q=>td σ H fun x H1=>ty σ H1 fun y H2=>∃a v,x=.ref a/\W9 H2 a y (some v)/\Q v H2
def Zyy(td ty tv:TE):TS:=fun D σ H=>tv σ H fun v H1=>td σ H1 fun x H2=>ty σ H2 fun y H3=>∃a H4,x=.ref a/\Zed H3 a y v H4/\D.nx σ H4
section
variable {X:Cx} {o i e value:Expr} {pos pos' tpos:Pos} {td ty tv:TE}
theorem X1(hu:X.A.units+1<cLine)(ho:PE X o td)(hi:PE X i ty)(hs:Zzb i):PE X (.Subscript o i pos) (Zzf td ty):=by
 intro pins s σ H Q I h
 refine Zuc PySem.F.slot_dict_getitem.lookup hs (thn (ho pins s σ H _ I h) fun u s1 ⟨x,H1,I1,rx,q1⟩=>thn (hi pins s1 σ H1 _ I1 q1) fun iv s2 ⟨y,H2,I2,ry,a,v,ex,g,q2⟩=>?_)
 subst ex
 obtain rfl:u=Value.ref a:=rx
 exact ⟨Zmm I2 g,Zq3 hu I2 g ry fun w' s3 I3 rw'=>⟨v,H2,I3,rw',q2⟩⟩
theorem Zby(hu:X.A.units+1<cLine)(ho:PE X o td)(hi:PE X i ty)(hv:PE X value tv)(hs:swapsWith value (some (.Subscript o i pos')) pos.line X.env=pure false) :
  PS X (.Assign [.Subscript o i pos'] value pos) (Zyy td ty tv):=by
 intro pins s σ H D I h
 refine wpAny_Assign_Subscript (thn (hv pins s σ H _ I h) fun r s1 ⟨v,H1,I1,rv,q1⟩=>thn (ho pins s1 σ H1 _ I1 q1) fun u s2 ⟨x,H2,I2,rx,q2⟩=>thn (hi pins s2 σ H2 _ I2 q2) fun iv s3 ⟨y,H3,I3,ry,a,H4,ex,g,q3⟩=>?_) hs
 subst ex
 obtain rfl:u=Value.ref a:=rx
 exact Zrb hu I3 g ry rv fun s4 I4=>⟨σ,H4,I4,q3⟩
end
theorem Zmf{P:Program}{w:World}{H:Hp}(h:Heap)(hb:sysModules<h.objs.size):Yn P w H (h.push { cls:=.type "dict",data:=.dict #[] }) h.objs.size (.dK []) :=
 ⟨Nat.zero_le _,beq_eq_false_iff_ne.mpr (Ne.symm (Nat.ne_of_lt hb)),[],.nil,Heap.DictOf.new h⟩
theorem Zti{P:Program}{w:World}{H:Hp}(h:Heap)(hb:sysModules<h.objs.size):Yn P w H (h.push { cls:=.type "dict",data:=.dict #[] }) h.objs.size (.dT []) :=
 ⟨Nat.zero_le _,beq_eq_false_iff_ne.mpr (Ne.symm (Nat.ne_of_lt hb)),[],.nil,_,#[],0,Heap.get?_push_size _ rfl,⟨rfl,rfl,rfl⟩,rfl,rfl,List.nodup_nil⟩
def Zw7:TE:=fun _ H Q=>∀p,H p=none->Q (.ref p) (upd H p (.dK []))
def Zx7:TE:=fun _ H Q=>∀p,H p=none->Q (.ref p) (upd H p (.dT []))
section
variable {X:Cx} {pos:Pos}
theorem Zsn:PE X (.Dict [] [] pos) Zw7:=fun pins s σ H Q I h =>
 wpAny_Dict_empty ⟨.ref s.heap.objs.size,_,I.laid (a:=s.heap.objs.size) (o:=.dK []) (t':=s.toks) (fun _ _ q=>Heap.get?_push_of_some _ q) (Nat.le_refl _) (Zmf s.heap I.big),rfl,h _ (I.hok.fresh (Nat.le_refl _))⟩
theorem Zrs:PE X (.Dict [] [] pos) Zx7:=fun pins s σ H Q I h =>
 wpAny_Dict_empty ⟨.ref s.heap.objs.size,_,I.laid (a:=s.heap.objs.size) (o:=.dT []) (t':=s.toks) (fun _ _ q=>Heap.get?_push_of_some _ q) (Nat.le_refl _) (Zti s.heap I.big),rfl,h _ (I.hok.fresh (Nat.le_refl _))⟩
end
def Zop:List (TE×TE)->St->Hp->(List (V×V)->Hp->Prop)->Prop
 | [],_,H,Q=>Q [] H
 | (tk,tv) ::r,σ,H,Q=>tk σ H fun x H1=>tv σ H1 fun y H2=>Zop r σ H2 fun ps H3=>Q ((x,y) ::ps) H3
abbrev VV:List (V×V)->List (Value×Value)->Prop:=Paired fun p q=>Yk p.1 q.1/\Yk p.2 q.2
def PPs(X:Cx)(pos:Pos)(keys:List (Option Expr))(values:List Expr)(trs:List (TE×TE)):Prop :=
 ∀(pins:List (Addr×Obj)) (s:Shared) (σ:St) (H:Hp) (Q:List (V×V)->Hp->Prop),Inv X pins σ H s->Zop trs σ H Q ->
  wpAny (model X.prog X.w) X.A (evalPairs (pairTrees keys values X.env pos)) (fun vs s'=>∃ps H',Inv X pins σ H' s'/\VV ps vs/\Q ps H') X.xe s
theorem Zpn{X:Cx}{pos:Pos}:PPs X pos [] [] []:=fun pins s σ H Q I h=>pairTrees_nil_walk ⟨[],H,I,.nil,h⟩
theorem Zb8{X:Cx}{pos:Pos}{k v:Expr}{ks:List (Option Expr)}{vs:List Expr}{tk tv:TE}{trs:List (TE×TE)}(hk:PE X k tk)(hv:PE X v tv)(hr:PPs X pos ks vs trs) :
  PPs X pos (some k ::ks) (v ::vs) ((tk,tv) ::trs):=fun pins s σ H Q I h =>
 pairTrees_cons_walk (thn (hk pins s σ H _ I h) fun u s1 ⟨x,H1,I1,rx,q1⟩=>thn (hv pins s1 σ H1 _ I1 q1) fun w2 s2 ⟨y,H2,I2,ry,q2⟩ =>
  thn (hr pins s2 σ H2 _ I2 q2) fun ws s3 ⟨ps,H3,I3,rel,q3⟩=>⟨(x,y) ::ps,H3,I3,.cons ⟨rx,ry⟩ rel,q3⟩)
def Zcz(kvs more:List (Key×V)):List (Key×V):=more.foldl (fun acc kv=>Zar acc kv.1 kv.2) kvs
theorem KV.merge:∀{more:List (Key×V)} {rs:List (Key×Value)} {kvs:List (Key×V)} {vs:List (Key×Value)},KV more rs->KV kvs vs->KV (Zcz kvs more) (merged vs rs):=by
 intro more rs kvs vs r
 unfold KV at r
 induction r generalizing kvs vs with
 | nil=>intro q;exact q
 | @cons p q ps qs h t ih =>
  intro r0
  have e:KV (Zar kvs p.1 p.2) (stored vs q.1 q.2):=by
   have:=r0.put p.1 h.2
   rw [<-h.1];exact this
  exact ih e
theorem Zd2:∀(more kvs:List (Key×V)),(Zcz kvs more).length<=kvs.length+more.length
 | [],kvs=>by show kvs.length<=kvs.length+0;omega
 | p ::r,kvs=>by
  have h1:=Zd2 r (Zar kvs p.1 p.2)
  have h2:=Zbl kvs p.1 p.2
  show (Zcz (Zar kvs p.1 p.2) r).length<=_
  rw [List.length_cons];omega
theorem Zhm{P:Program}{w:World}:∀{kvs:List (Key×V)} {ws:List (Value×Value)},VV (kvs.map fun kv=>(kV kv.1,kv.2)) ws->∃rs,Carries (Ye P w) ws rs/\KV kvs rs
 | [],_,r=>by rw [List.map_nil] at r;cases r;exact ⟨[],True.intro,.nil⟩
 | p ::kvs,_,r=>by
  rw [List.map_cons] at r
  cases r with
  | @cons a b as bs h t =>
   obtain ⟨rs,c,q⟩:=Zhm (P:=P) (w:=w) t
   obtain ⟨b1,b2⟩:=b
   exact ⟨(p.1,b2) ::rs,⟨Zjx h.1,rfl,c⟩,.cons ⟨rfl,h.2⟩ q⟩
def Zzs(trs:List (TE×TE)):TE:=fun σ H Q=>∀p,H p=none->Zop trs σ (upd H p (.dK [])) fun ps H2=>H2 p=some (.dK [])/\∃kvs:List (Key×V),ps=kvs.map (fun kv=>(kV kv.1,kv.2))/\kvs.length<=15/\Q (.ref p) (upd H2 p (.dK (Zcz [] kvs)))
theorem Zp0{X:Cx}{pos:Pos}{keys:List (Option Expr)}{values:List Expr}{trs:List (TE×TE)}(h:PPs X pos keys values trs)(hall:keys.all (·.isSome)=true)(hl:keys.length=values.length)(h0:keys≠[])
  (h15:keys.length<=15):PE X (.Dict keys values pos) (Zzs trs):=by
 intro pins s σ H Q I q
 have hn:=I.hok.fresh (Nat.le_refl s.heap.objs.size)
 have I1:=I.laid (a:=s.heap.objs.size) (o:=.dK []) (h':=s.heap.push { cls:=.type "dict",data:=.dict #[] }) (t':=s.toks) (fun _ _ q=>Heap.get?_push_of_some _ q) (Nat.le_refl _) (Zmf s.heap I.big)
 refine wpAny_Dict_walk (knd:=Ye X.prog X.w) hall hl h0 h15 (thn (h pins _ σ _ _ I1 (q _ hn)) fun ws s2 ⟨ps,H2,I2,rel,e,kvs,ep,lk,q2⟩=>?_)
 subst ep
 obtain ⟨rs,c,rk⟩:=Zhm (P:=X.prog) (w:=X.w) rel
 obtain ⟨z,hd,vs0,r0,dd⟩:=Zp1 I2.hok e
 cases r0
 refine ⟨rs,c,dd,fun h' dd' hs=>⟨.ref s.heap.objs.size,_,?_,rfl,q2⟩⟩
 have hz:(Zcz [] kvs).length<=sizeLine:=by
  have h1:=Zd2 kvs []
  rw [List.length_nil] at h1
  rw [sizeLine_eq];omega
 have he:∃q,h'.get? s.heap.objs.size=some q:=let ⟨q,_,_,hq,_⟩:=dd';⟨q,hq⟩
 exact Zks I2 (by rw [e];exact True.intro) hs he (Zr3 hz hd (rk.merge .nil) dd')
section
variable {X:Cx} {pins:List (Addr×Obj)} {σ:St} {H:Hp} {s:Shared} {a:Addr} {y d:V} {u r:Value} {o:Option V} {A:Around} {E:Value->Shared->Prop}
end
section
variable {X:Cx} {o e f:Expr} {apos cpos:Pos} {td ty tx:TE}
end
section
variable {X:Cx} {pins:List (Addr×Obj)} {σ:St} {H:Hp} {s:Shared} {a:Addr} {kvs:List (Key×V)} {A:Around} {E:Value->Shared->Prop}
end
section
variable {X:Cx} {pins:List (Addr×Obj)} {σ:St} {H:Hp} {s:Shared} {a:Addr} {y:V} {u:Value} {A:Around} {E:Value->Shared->Prop}
end
end L2
namespace Att
open PySem PySem.W PySem.Calls PyProof.Rows
theorem Zgg{P:Params}{h:Heap}:∀(ns:List Int) (vs:List Value),WellAll P h vs (ns.map WData.int)->IntsAre vs ns:=by
 intro ns
 induction ns with
 | nil =>
  intro vs w
  rw [List.map_nil] at w
  cases w
  exact .nil
 | cons n ns ih =>
  intro vs w
  rw [List.map_cons] at w
  cases w with
  | cons a b =>
   cases a
   exact .cons _ _ (ih _ b)
theorem Zrc{l:OpenLaw}{n:Nat}(hn:l.most=some n){P:Params}{h:Heap}{args:List WData}{vals:List Value}
  (hpre:l.row.toRowW.claim.pre args=true) (hwl:WellAll P h vals args) :
  ∃a vs ns,vals=[Value.ref a]/\args=[WData.list (ns.map WData.int)]/\h.get? a=some { cls:=.type "list",data:=.seq vs.toArray }/\IntsAre vs ns/\ns.length<=n:=by
 have hsh:WShape.hasAll [] args [.list .int]=true:=(pre_splitW hpre).1
 have hc:l.pre.holds [] { args:=args }=true:=(pre_splitW hpre).2
 obtain ⟨d,r,rfl,h1,h2⟩:=hasAllW_cons hsh
 obtain rfl:=hasAllW_nil h2
 obtain ⟨xs,rfl,h3⟩:=hasW_list h1
 obtain ⟨ns,rfl⟩:=items_int h3
 have hlen:ns.length<=n:=by
  unfold OpenLaw.pre at hc
  have h4:(WTm.not (.lt (.lit (.int (n:Int))) (.len (.arg 0)))).holds [] { args:=[.list (ns.map .int)] }=true:=by
   have h4:=(holds_andW hc).1
   rw [hn] at h4
   exact h4
  have h5:=condW_of h4 (w_not (w_lt w_lit (w_len_list (w_arg rfl))))
  rw [List.length_map] at h5
  refine Nat.le_of_not_lt fun q=>?_
  have q':(n:Int)<((ns.length:Nat):Int):=by omega
  first
   | (rw [decide_eq_true q'] at h5;exact absurd h5 (by decide))
   | (simp at h5;omega)
 cases hwl with
 | cons w1 w2 =>
  cases w2
  cases w1 with
  | list ho hall=>exact ⟨_,_,ns,rfl,rfl,ho,Zgg ns _ hall,hlen⟩
theorem Zq9(l:OpenLaw)(args:List WData):l.row.toRowW.claim.post args (.bool true) args=true :=
 postW_of (r:=l.row.toRowW) (X:=(true ==true))
  (show WShape.has [] (.bool true) .bool=true by first | rfl | decide | simp [WShape.has,WShape.arms,WShape.armsAll])
  (show (WTm.eq .res (.lit (.bool true))).value [] { args:=args,res:=some (.bool true),after:=args }=some (.bool (true ==true)) from w_eq_bool (w_res rfl) w_lit) rfl
theorem attach_call{l:OpenLaw}{n:Nat}{q:Program}{loose:List Str}{XP:(Str->Option Value)->Heap->Prop}{YP:World->Heap->Prop}{d:DefRec}
  (hn:l.most=some n) (hdf:d.params.defaults=[])
  (call:∀(w:World) (s₀ s₁:Shared) (mg mb:Str->Option Value) (fa:Addr) (o:Obj) (pm cd doc:Value) (a:Addr) (vs:List Value) (ns:List Int),
   Ground q loose [] XP w s₀ mg mb s₁.heap->YP w s₁.heap ->
   s₁.heap.get? fa=some o->o.data=.func (docDef d.name d.params d.body d.scope pm cd doc)->s₁.heap.CodeRec cd d.name->mg d.name=some (.ref fa) ->
   s₁.heap.get? a=some { cls:=.type "list",data:=.seq vs.toArray }->IntsAre vs ns->ns.length<=n->s₁.gens=#[] ->
   codeAny (model l.prog w) callerA (.call (.ref fa) ⟨[.ref a],[]⟩) (fun r s'=>r=.ok (.ret (.bool true))/\OldK s₁.heap s'.heap/\s'.os=s₁.os/\AllBare s'.gens) s₁) :
  WalkO q loose XP YP l.row.toRowW d [] (fun f vs=>PySem.call f vs):=by
 intro w s₀ s₁ mg mb G Y fa o pm cd doc dV kV ho hd hcd hD hmg hg args vals as hpre hlay hrd hwl hlo
 obtain rfl:dV=.none:=Dflts.none hD hdf
 obtain rfl:kV=.none:=Dflts.noKw hD
 obtain ⟨a,vs,ns,rfl,rfl,hobj,hints,hlen⟩:=Zrc hn hpre hwl
 refine enter_call (codeAny_mono (call w s₀ s₁ mg mb fa o pm cd doc a vs ns G Y ho (fd_plain hd) hcd hmg hobj hints hlen hg) fun r s' hq=>?_)
 obtain ⟨rfl,h2,h3,h4⟩:=hq
 exact ⟨.inl ⟨.bool true,.bool true,[],rfl,fun _=>rfl,.bool true,Zq9 l _,fun _=>⟨List.Pairwise.nil,fun _ hm=>(nomatch hm)⟩⟩,h2,h3,h4⟩
section
variable {prog:Program} {w:World} {A:Around} {E:Value->Shared->Prop} {s:Shared} {K:Frag}
def Yaj(h:Heap)(L d:Addr):List (Addr×Obj):=(List.range h.objs.size).filterMap fun a=>if a=L\/a=d then none else (h.get? a).map fun o=>(a,o)
end
end Att
namespace L2
open PySem PySem.Spec PyProof.Rows
theorem Zjw:∀{vs:List Value} {ns:List Int},IntsAre vs ns->Yc (ns.map V.int) vs
 | _,_,.nil=>.nil
 | _,_,.cons n t h=>.cons ⟨t,rfl⟩ (Zjw h)
def Zxt(H:Hp):Prop:=∀b,H b=none\/∃o xs,H b=some (.frz o (.lst xs))
theorem Zr2{P:Program}{w:World}{K:Frag}{mg mb:Str->Option Value}{CX:CXT}{k:Nat}{fa a:Addr}{fd:FuncData}{x:Str}{sp:Sp}{s₁:Shared}{vs:List Value}{ns:List Int}
  (KX:K.In s₁.heap) (hns:s₁.heap.Ns mainGlobals mg) (hb:s₁.heap.Ns builtinsNs mb) (hbb:∀x:Str,x ≠ "__name__" ->mb x=bootBuiltins x) (hlim:s₁.heap.NoLimit) (hbm:Zwg mg s₁.heap) (hg:s₁.gens=#[])
  (ha:s₁.heap.get? a=some { cls:=.type "list",data:=.seq vs.toArray }) (hi:IntsAre vs ns) (hl:ns.length<=sizeLine) (hr:W6 k callerA)
  (F:∀base:Heap,K.In base->base.Ns mainGlobals mg->Zz P w K mg base CX k fa fd [x] sp) (hbind:∀(s:Shared) (u:Value),BindsTo s fd ⟨[u],[]⟩ [(x,u)])
  (hsp:∀H:Hp,Zxt H->SqL K H a (ns.map V.int)->sp [.ref a] H (fun v _=>v=.bl true) fun _ _ _=>False)
  (hCX:∀H e s',CX [] H s₁ (fun _ _ _=>False) e s'->False) :
  codeAny (model P w) callerA (.call (.ref fa) ⟨[.ref a],[]⟩) (fun r s'=>r=.ok (.ret (.bool true))/\OldK s₁.heap s'.heap/\s'.os=s₁.os/\AllBare s'.gens) s₁:=by
 have rv:=Zjw hi
 have lenV:=hi.length
 have core:∀H:Hp,Zxt H->SqL K H a (ns.map V.int)->HOk P w H s₁.heap->(∀b,H b≠none->b=a)->(H a≠none->K.lookup a=none) ->
   codeAny (model P w) callerA (.call (.ref fa) ⟨[.ref a],[]⟩) (fun r s'=>r=.ok (.ret (.bool true))/\OldK s₁.heap s'.heap/\s'.os=s₁.os/\AllBare s'.gens) s₁:=by
  intro H hO hS hok hA hK
  have base_of:∀{b:Addr} {o:Obj},s₁.heap.get? b=some o->H b=none->(Zl1 s₁.heap H).get? b=some o:=fun e n=>Zse e n
  have noA:∀{b:Addr} {o:Obj} {es:Array DictEntry} {ep:Nat},s₁.heap.get? b=some o->o.data=.dict es ep->H b=none:=fun {b o es ep} e d=>by
   cases q:H b with
   | none=>rfl
   | some u =>
    have e':b=a:=hA b (by rw [q];simp)
    subst e'
    rw [ha] at e;cases e
    have d':Data.seq vs.toArray _=Data.dict es ep:=d
    cases d'
  have nsK:∀{b:Addr} {m:Str->Option Value},s₁.heap.Ns b m->(Zl1 s₁.heap H).Ns b m:=fun {b m} ⟨o,es,ep,e,d,r⟩=>⟨o,es,ep,base_of e (noA e d),d,r⟩
  have hKb:K.In (Zl1 s₁.heap H):=fun b o e=>base_of (KX b o e) (by
   cases q:H b with
   | none=>rfl
   | some u =>
    have e':b=a:=hA b (by rw [q];simp)
    subst e'
    rw [hK (by rw [q];simp)] at e;cases e)
  have hM:Mod K mg (Zl1 s₁.heap H):=⟨hKb,nsK hns,⟨mb,nsK hb,hbb⟩,let ⟨mc,h1,h2⟩:=hlim;⟨mc,nsK h1,h2⟩,by
   obtain ⟨bm,ob,b1,b2,b3,b4,b5,b6⟩:=hbm
   refine ⟨bm,ob,b1,b2,base_of b3 ?_,b4,b5,b6⟩
   cases q:H bm with
   | none=>rfl
   | some u =>
    have e':bm=a:=hA bm (by rw [q];simp)
    subst e'
    rw [ha] at b3;cases b3
    cases b6⟩
  have e0:Zor P w K mg (Zl1 s₁.heap H) callerA [] s₁ H:=⟨rfl,hM,fun b o e=>Zva e,Nat.le_of_eq (Zqk _ _),trivial,fun b hb=>absurd (show b∈([]:List Addr) from hb) (by simp),hok,.of_eq hg⟩
  refine codeAny_mono ((F _ hKb (nsK hns)).run callerA [] s₁ H ⟨[.ref a],[]⟩ [.ref a] [.ref a] _ _ hr e0 (hbind s₁ (.ref a)) (.cons rfl .nil) (hsp H hO hS)) fun r s' h=>?_
  cases r with
  | error e=>exact (hCX H e s' h).elim
  | ok fl =>
   cases fl with
   | next=>exact False.elim h
   | brk=>exact False.elim h
   | cont=>exact False.elim h
   | ret u =>
    obtain ⟨v,H',os,bare,un,hok',r',q⟩:=h
    have q':v=.bl true:=q
    subst q'
    obtain rfl:u=Value.bool true:=r'
    refine ⟨rfl,OldK.of_keep fun b o e=>?_,os,bare⟩
    cases q:H b with
    | none=>exact un.keep b o e q (by intro z;exact absurd (show b∈([]:List Addr) from z) (by simp)) (by simp)
    | some u =>
     rcases hO b with z|⟨ob,xs,z⟩
     ·rw [q] at z;cases z
     ·have z2:=un.frzs b ob _ z
      obtain ⟨e1,_⟩:=hok b _ z
      obtain ⟨e2,_⟩:=hok' b _ z2
      rw [e] at e1;cases e1
      exact e2
 cases hk:K.lookup a with
 | some o =>
  have e:=KX a o hk
  rw [ha] at e
  cases e
  refine core (fun _=>none) (fun _=>.inl rfl) (.inr ⟨_,vs.toArray,_,hk,rfl,rfl,rfl,by rw [List.size_toArray,lenV];exact hl,by simpa using rv⟩) (fun b u z=>by have z':(none:Option HO)=some u:=z;cases z') (fun b z=>absurd rfl z) fun z=>absurd rfl z
 | none =>
  refine core (fun b=>if b=a then some (.frz { cls:=.type "list",data:=.seq vs.toArray } (.lst (ns.map V.int))) else none) (fun b=>?_) (.inl (.inr ⟨{ cls:=.type "list",data:=.seq vs.toArray },if_pos rfl⟩)) (fun b u z=>?_) (fun b z=>?_) fun _=>hk
  ·by_cases hb:b=a
   ·exact .inr ⟨_,_,if_pos hb⟩
   ·exact .inl (if_neg hb)
  ·by_cases hb:b=a
   ·have z':=(if_pos hb).symm.trans z
    cases z'
    subst hb
    exact ⟨ha,by rw [List.length_map];exact hl,vs,_,rv,ha⟩
   ·have z':=(if_neg hb).symm.trans z
    cases z'
  ·by_cases hb:b=a
   ·exact hb
   ·exact absurd (if_neg hb) z
end L2
namespace L2
open PySem PySem.Spec PyProof.Rows
theorem walk_of{l:PySem.W.OpenLaw}{n k:Nat}{q:Program}{loose:List Str}{XP:(Str->Option Value)->Heap->Prop}{YP:World->Heap->Prop}{d:DefRec}{K:Params->Frag}{CX:World->CXT}{sp:World->Sp}{x:Str}
  (hn:l.most=some n) (hn2:n<=sizeLine) (hdf:d.params.defaults=[]) (hr:W6 k callerA)
  (hY:∀(w:World) (h:Heap),YP w h->(K w.params).In h)
  (F:∀(w:World) (mg:Str->Option Value) (fa:Addr) (h:Heap),(K w.params).In h->h.Ns mainGlobals mg->mg d.name=some (.ref fa) ->
   ∃fd:FuncData,(∀(s:Shared) (u:Value),BindsTo s fd ⟨[u],[]⟩ [(x,u)]) /\
    ∀base:Heap,(K w.params).In base->base.Ns mainGlobals mg->Zz l.prog w (K w.params) mg base (CX w) k fa fd [x] (sp w))
  (hsp:∀(w:World) (H:Hp) (a:Addr) (ns:List Int),ns.length<=n->Zxt H->SqL (K w.params) H a (ns.map V.int)->sp w [.ref a] H (fun v _=>v=.bl true) fun _ _ _=>False)
  (hCX:∀(w:World) (H:Hp) (s:Shared) (e:Value) (s':Shared),CX w [] H s (fun _ _ _=>False) e s'->False) :
  PySem.W.WalkO q loose XP YP l.row.toRowW d [] (fun f vs=>PySem.call f vs):=by
 refine Att.attach_call hn hdf fun w s₀ s₁ mg mb fa o pm cd doc a vs ns G Y ho hd hcd hmg hobj hints hlen hg=>?_
 have KX:=hY w _ Y
 obtain ⟨fd,hb,hF⟩:=F w mg fa _ KX G.T.g hmg
 exact Zr2 KX G.T.g G.T.b G.T.builtins G.T.nolimit G.T.bmain hg hobj hints (Nat.le_trans hlen hn2) hr hF hb (fun H hO hS=>hsp w H a ns hlen hO hS) fun H e s'=>hCX w H s₁ e s'
end L2
/- THE LAST THEOREM (shape;LID,My.* are yours):
   My.Adr:a structure of the addresses that your layer names (classes,functions);My.Txt K t:a structure (Prop) of the equations over K;
   My.txt_mk:{K} {implicit addresses ..} (e1:nsIn K mainGlobals "law" =some (some (.ref f))) (e2:K.lookup f=some ⟨oc,od,.func (fnOf "law" "law" params body scope dV kV doc pm an cdv ct),sl⟩) (e3:codeIn K cdv "law" =true) .. :∃t,My.Txt K t
(the tactic k_is has no namespace:write k_is) -/
namespace L2
open PySem PySem.Spec PyProof.Rows
def Y3(s:Stmt)(j:Nat):Stmt:=match s with
 | .ClassDef _ _ _ body _ _ _ _ _ _ _=>body.getD j (.Pass ⟨0,0,0,0⟩)
 | _=>.Pass ⟨0,0,0,0⟩
def Zn(s:Stmt):Arguments:=match s with
 | .FunctionDef _ a _ _ _ _ _ _ _ _=>a
 | _=>{ posonlyargs:=[],args:=[],vararg:=none,kwonlyargs:=[],kw_defaults:=[],kwarg:=none,defaults:=[] }
def Zm(s:Stmt):List Stmt:=match s with
 | .FunctionDef _ _ b _ _ _ _ _ _ _=>b
 | _=>[]
def Zd(s:Stmt):Scope:=match s with
 | .FunctionDef _ _ _ _ _ _ sc _ _ _=>sc
 | _=>{ kind:=.function,names:=[],isGenerator:=false,isCoroutine:=false }
abbrev CX0:CXT:=fun _ _ _ _ _ _=>False
abbrev E0:XK:=fun _ _ _=>False
theorem Z6{X:Cx}:Zec CX0 X E0:=fun _ _ _ _ _ _ _ h=>h.elim
structure Fun(K:Frag)(x qual:Str)(st:Stmt)(f:Addr)(fd:FuncData):Prop where
 ex:∃(oc:Value) (od:Option Addr) (kV doc pm:Value) (an:Option Addr) (cdv ct:Value) (osl:Array (Option Value)),
  fd=fnOf x qual (Zn st) (Zm st) (Zd st) .none kV doc pm an cdv ct/\K.lookup f=some ⟨oc,od,.func fd,osl⟩/\codeIn K cdv qual=true
 kp:keepIn K (.ref f)=true
section
variable {P:Program} {w:World} {K:Frag} {mg:Str->Option Value} {base:Heap}
theorem Fun.ok{x qual:Str}{st:Stmt}{f:Addr}{fd:FuncData}{N ps:List Str}{k:Nat}{sp:Sp}(F:Fun K x qual st f fd)(S:Zo N ps (Zd st))(len:∀vs H Q E,sp vs H Q E->vs.length=ps.length)
  (hbody:∀(cdv:Value) (A:Around) (outer:List Env) (s:Shared) (H:Hp) (vs:List V) (Q:VK) (E:XK),W6 k (A.deeper (envOfC qual (Zd st) s.heap.objs.size f cdv))->sp vs H Q E ->
   ∃t,PSs (Zlt CX0 P w K mg base N qual (Zd st) f cdv A outer s H E).nox (Zm st) t/\t { nx:=fun _ H'=>Q .non H',rt:=Q } (start N vs) H):Zz P w K mg base CX0 (k+1) f fd ps sp:=by
 obtain ⟨oc,od,kV,doc,pm,an,cdv,ct,osl,rfl,lk,hcd⟩:=F.ex
 refine Zwb lk hcd S len fun A outer s H vs Q E hr hsp=>?_
 obtain ⟨t,h,q⟩:=hbody cdv A outer s H vs Q E hr hsp
 exact ⟨t,h.nox,q⟩
theorem Fun.binds{x qual:Str}{st:Stmt}{f:Addr}{fd:FuncData}{ps:List Str}(F:Fun K x qual st f fd)
  (h:∀(kV doc pm:Value) (an:Option Addr) (cdv ct:Value) (us:List Value),us.length=ps.length->bindArgs (fnOf x qual (Zn st) (Zm st) (Zd st) .none kV doc pm an cdv ct) ⟨us,[]⟩=pure (ps.zip us)):Zbx K fd ps []:=by
 obtain ⟨oc,od,kV,doc,pm,an,cdv,ct,osl,rfl,lk,hcd⟩:=F.ex
 exact .all (h kV doc pm an cdv ct)
theorem Z5{x qual:Str}{st:Stmt}{f:Addr}{oc:Value}{od an:Option Addr}{osl:Array (Option Value)}{kV doc pm cdv ct:Value}(l:K.lookup f=some ⟨oc,od,.func (fnOf x qual (Zn st) (Zm st) (Zd st) .none kV doc pm an cdv ct),osl⟩)
  (c:codeIn K cdv qual=true) (k:keepIn K (.ref f)=true):Fun K x qual st f (fnOf x qual (Zn st) (Zm st) (Zd st) .none kV doc pm an cdv ct):=⟨⟨oc,od,kV,doc,pm,an,cdv,ct,osl,rfl,l,c⟩,k⟩
end
theorem X0{A:Around}{k:Nat}(hr:W6 k A):A.units+1<cLine:=Nat.lt_of_le_of_lt (Nat.add_le_add_left (by decide:1<=64) _) hr.units
theorem Z1{n:Nat}(h:n<=1000):n<sizeLine:=Nat.lt_of_le_of_lt h (by decide)
section
variable {X:Cx}
theorem pv(i:Nat){x:Str}{pos:Pos}(hN:X.N[i]? =some x:=by rfl)(hv:Vis X.env.scope x:=by first | exact Or.inl rfl | exact Or.inr (Or.inl rfl) | exact Or.inr (Or.inr rfl)) (hd:(x ==("__debug__" :Str))=false:=by decide)
  (hcd:(x ==("__classdict__" :Str))=false:=by decide):PE X (.Name x pos) (Zjc i):=Zxs hN hv hd hcd
theorem Zqt:W3 X (.builtin "len") (fun xs H Q=>∃a kvs,xs=[V.ref a]/\H a=some (.dK kvs)/\Q (.int kvs.length) H):=by
 intro pins s σ H xs us Q I r h
 obtain ⟨a,kvs,rfl,ha,q⟩:=h
 obtain ⟨u,rfl,ru⟩:=Zdb r
 cases ru
 exact Zze I (.inl ha) fun t s' I'=>⟨.int kvs.length,H,I',⟨t,rfl⟩,q⟩
end
theorem Ztf{A B:Prop}(h:B):if false=true then A else B:=by
 rw [if_neg Bool.false_ne_true]
 exact h
theorem Zjj{A B:Prop}(h:A):if true=true then A else B:=by
 rw [if_pos rfl]
 exact h
theorem Yo{c A B:Prop}[Decidable c](h1:c->A)(h2:¬c->B):if c then A else B:=by
 by_cases h:c
 ·rw [if_pos h]
  exact h1 h
 ·rw [if_neg h]
  exact h2 h
def Same(H H':Hp):Prop:=∀b o,H b=some o->H' b=some o
theorem Same.refl(H:Hp):Same H H:=fun _ _ h=>h
theorem Same.trans{H H1 H2:Hp}(a:Same H H1)(b:Same H1 H2):Same H H2:=fun c o h=>b c o (a c o h)
theorem Same.free{H H':Hp}(e:Same H H'){l:Addr}(h:H' l=Option.none):H l=Option.none:=by
 cases q:H l with
 | none=>rfl
 | some o =>
  rw [e l o q] at h
  cases h
theorem Same.seq{K:Frag}{H H':Hp}{a:Addr}{xs:List V}(e:Same H H')(h:SqL K H a xs):SqL K H' a xs:=by
 rcases h with (h|⟨o,h⟩)|h
 ·exact .inl (.inl (e _ _ h))
 ·exact .inl (.inr ⟨o,e _ _ h⟩)
 ·exact .inr h
section
variable {κ:Type} [DecidableEq κ]
theorem Zuk{kvs:List (κ×V)}{k:κ}{v:V}(h:Yv kvs k=some v):k∈kvs.map (·.1):=by
 have q:(kvs.any fun kv=>decide (kv.1=k))=true:=by
  rw [Ze9,h]
  all_goals rfl
 obtain ⟨p,hp,e⟩:=List.any_eq_true.mp q
 exact List.mem_map.mpr ⟨p,hp,of_decide_eq_true e⟩
end
end L2
section
namespace L2
open PySem PySem.Spec PyProof.Rows
section
variable {prog:Program} {w:World} {A:Around} {R:Result->Shared->Prop} {s:Shared}
theorem Zbk{elt target iter:Expr}{ifs:List Expr}{scope:Scope}{pos:Pos}{it acc:Value}{env:Env}(I:Nat->Shared->Prop)
  (turn:∀n s,I n s->wpAny (model prog w) A (pyNext it) (fun r s₁=>match r with
   | none=>R (.ok .next) s₁
   | some v=>wpAny (model prog w) A (letOwnedTupleGo target it v) (fun _ s₁'=>wpAny (model prog w) A (assign target env v) (fun _ s₂ =>
     wpAny (model prog w) A (forIn ifs true fun c r=>if r=true then do let ok <-isTrue c env (eval c env);pure (ForInStep.yield ok) else pure (ForInStep.yield r)) (fun ok s₃ =>
      if ok=true then wpAny (model prog w) A (eval elt env) (fun x s₄ =>
       wpAny (model prog w) A (call (.builtin "list.append") [acc,x]) (fun _ s₅=>∃m,m<n/\I m s₅) (fun _ _=>False) s₄) (fun _ _=>False) s₃
      else ∃m,m<n/\I m s₃) (fun _ _=>False) s₂) (fun _ _=>False) s₁') (fun _ _=>False) s₁) (fun _ _=>False) s)
  (n:Nat) (h:I n s) :
  codeAny (model prog w) A (.compLoop (.ListComp elt [⟨target,iter,ifs,0⟩] scope pos) 0 it acc env) R s:=by
 refine codeAny_loop rfl I (fun n s hI=>?_) n h
 show wpAny _ A ((compTurn (.ListComp elt [⟨target,iter,ifs,0⟩] scope pos) 0 it acc env).onRaise (fun x=>do noteFrame x env;theTreesLotGoes x)) _ _ s
 refine wpAny_noted ?_
 rw [compTurn_list]
 refine wpAny_bind (wpAny_standAt (wpAny_bind (wpAny_mono (turn n s hI) (fun r s₁ h₁=>?_) fun _ _ h'=>h'.elim)))
 cases r with
 | none=>exact wpAny_pure h₁
 | some v =>
  refine wpAny_bind (wpAny_mono h₁ (fun _ s₁' h₁'=>?_) fun _ _ h'=>h'.elim)
  refine wpAny_bind (wpAny_mono h₁' (fun _ s₂ h₂=>wpAny_bind (wpAny_mono h₂ (fun ok s₃ h₃=>?_) fun _ _ h'=>h'.elim)) fun _ _ h'=>h'.elim)
  cases ok with
  | false=>exact wpAny_pure ⟨rfl,h₃⟩
  | true =>
   exact wpAny_bind (wpAny_bind (wpAny_mono h₃ (fun x s₄ h₄=>wpAny_bind (wpAny_mono h₄ (fun _ s₅ h₅=>wpAny_pure (wpAny_pure ⟨rfl,h₅⟩)) fun _ _ h'=>h'.elim)) fun _ _ h'=>h'.elim))
end
def Y5(X:Cx)(scope:Scope)(cl:List (Str×Addr))(N':List Str)(s:Shared)(H:Hp)(C:Addr)(ex:List Addr):Cx where
 prog:=X.prog
 w:=X.w
 K:=X.K
 mg:=X.mg
 base:=X.base
 A:=X.A
 N:=N'
 s₀:=s
 H₀:=H
 env:=compEnvC scope cl C X.env
 outer:=X.stack
 stack:=X.stack
 ex:=ex
 fn:=fun _=>false
 calm:=X.calm
 pn:=[]
 xe:=fun _ _=>False
structure Yd(X:Cx)(scope:Scope)(cl:List (Str×Addr))(N':List Str)(fr:St->St):Prop where
 kind:scope.kind=.function
 cell:∀y∈scope.names,y.2 ≠ .cell
 names:∀y∈scope.names,y.2=.local->scope.names.lookup y.1=some .local
 clos:closureFor scope X.env=pure cl
 sub:∀x c,cl.lookup x=some c->X.env.cells.lookup x=some c
 has:∀x,((relabel scope X.env).names.lookup x=some .cell\/(relabel scope X.env).names.lookup x=some .free)->∃c,cl.lookup x=some c
 len:∀σ:St,σ.length=X.N.length->(fr σ).length=N'.length
 fr:∀(σ:St) (i:Nat) (x:Str) (v:V),N'[i]? =some x->(fr σ)[i]? =some (some v)->Vis (relabel scope X.env) x ->
  ((relabel scope X.env).names.lookup x=some .cell\/(relabel scope X.env).names.lookup x=some .free) /\
  (X.env.kindOf x=some .cell\/X.env.kindOf x=some .free)/\∃j:Nat,X.N[j]? =some x/\σ[j]? =some (some v)
def Zaq(a b:St):Prop:=∀(i:Nat) (v:V),a[i]? =some (some v)->b[i]? =some (some v)
theorem Zaq.set{a:St}{i:Nat}{v:V}(h:a[i]? =some none):Zaq a (a.set i (some v)):=fun j u e=>by
 by_cases hj:i=j
 ·subst hj;rw [h] at e;cases e
 ·rw [List.getElem?_set_ne hj];exact e
theorem Zaq.trans{a b c:St}(h:Zaq a b)(k:Zaq b c):Zaq a c:=fun i v e=>k i v (h i v e)
def PF(X:Cx)(ifs:List Expr)(t:TT):Prop :=
 ∀(pins:List (Addr×Obj)) (s:Shared) (σ:St) (H:Hp) (Q:Bool->Hp->Prop),Inv X pins σ H s->t σ H Q ->
  wpAny (model X.prog X.w) X.A (forIn ifs true fun c r=>if r=true then do let ok <-isTrue c X.env (eval c X.env);pure (ForInStep.yield ok) else pure (ForInStep.yield r)) (TP X pins σ Q) X.xe s
def Zvu:TT:=fun _ H Q=>Q true H
theorem Za2{X:Cx}:PF X [] Zvu:=fun _ _ _ H _ I h=>wpAny_tests_nil ⟨H,I,h⟩
theorem Zij{X:Cx}{c:Expr}{t:TT}(h:PT X c t):PF X [c] t:=fun pins s σ H Q I hq=>wpAny_tests_one (h pins s σ H Q I hq)
def Zda(J:It)(fr:St->St)(g:TG)(tf:TT)(te:TE)(Q:VK)(σ:St)(H1:Hp)(D:Addr):Prop :=
 ∃W:Nat->Nat->List V->Hp->Prop,(∃m,W 0 m [] (upd H1 D (.lst [])))/\∀i m ys H,W i m ys H ->
  (J.stop i H/\Q (.ref D) H)\/(J.go i H/\∃N:List V->Hp->Prop,(∀ys' H',N ys' H'->∃m',m'<m/\W (i+1) m' ys' H') /\
   ∀x H',J.yld i H x H'->g x (fr σ) H' fun σ2 H2=>Zaq (fr σ) σ2/\tf σ2 H2 fun b H3 =>
    if b=true then te σ2 H3 fun y H4=>H4 D=some (.lst ys)/\ys.length<sizeLine/\N (ys++[y]) (upd H4 D (.lst (ys++[y]))) else N ys H3)
def Zvy(wi:TI)(fr:St->St)(g:TG)(tf:TT)(te:TE):TE:=fun σ H Q=>wi σ H fun J H1=>∀D,H1 D=none->Zda J fr g tf te Q σ H1 D
section
variable {X:Cx} {pins:List (Addr×Obj)} {σ:St} {H:Hp} {s:Shared} {scope:Scope} {cl:List (Str×Addr)} {N':List Str} {fr:St->St} {C:Addr} {fp:List Addr}
theorem Zt3(I:Inv X pins σ H s)(S:Yd X scope cl N' fr)(hC:s.heap.objs.size<=C)(hf:∀b∈fp,Zgn X pins H b)(ho:∀b∈fp,∃o,s.heap.get? b=some o):(Y5 X scope cl N' s H C fp).Ok where
 mod:=I.ok.mod
 kind:=S.kind
 glob:=I.ok.glob
 blt:=I.ok.blt
 above:=hC
 inj:=fun x y c h1 h2=>I.ok.inj x y c (S.sub x c h1) (S.sub y c h2)
 has:=fun x h=>S.has x h
 cab:=fun x c h=>absurd (show false=true from h) Bool.false_ne_true
 hd:=I.ok.hd
 frames:=I.ok.frames
 stk:=.inl rfl
 exf:=fun b hb=>by
  obtain ⟨o,e⟩:=ho b hb
  refine ⟨Nat.ne_of_lt (Nat.lt_of_lt_of_le (Heap.lt_size e) hC),fun x c h=>(hf b hb).2.2.2.2.1 x c (S.sub x c h)⟩
 bs:=I.bs
 bsz:=Nat.le_trans I.ok.bsz I.sz
 noex:=fun b o e hb=>by
  rcases (hf b hb).2.2.2.1 with z|z
  ·exact I.ok.noex b o e z
  ·exact absurd (Nat.lt_of_lt_of_le (Heap.lt_size e) (Nat.le_trans I.ok.bsz z)) (Nat.lt_irrefl _)
 exfs:=fun b hb z=>by
  rcases List.mem_cons.mp (I.stkSub b z) with q|q
  ·exact (hf b hb).2.1 q
  ·exact (hf b hb).2.2.1 q
 funs:=I.stack
 frf:=I.stkFree
theorem Zh6{h₁:Heap}{m₁:Str->Option Value}{tk:Nat}{D:Addr}(I:Inv X pins σ H s)(S:Yd X scope cl N' fr)(hC:s.heap.objs.size<C)(hD:D=s.heap.objs.size)(hf:∀b∈fp,Zgn X pins H b)(ho:∀b∈fp,∃o,s.heap.get? b=some o)
  (old:∀b o,s.heap.get? b=some o->h₁.get? b=some o) (hl:h₁.get? D=some { cls:=.type "list",data:=.seq ([]:List Value).toArray 0 }) (hn:h₁.Ns C m₁) (hCz:h₁.objs.size<=C+1) :
  Inv (Y5 X scope cl N' s H C fp) [] (fr σ) (upd H D (.lst [])) { s with heap:=h₁,toks:=tk }:=by
 have fD:H D=none:=I.hok.fresh (Nat.le_of_eq hD.symm)
 have fC:H C=none:=I.hok.fresh (Nat.le_of_lt hC)
 have hDC:D≠C:=by rw [hD];exact Nat.ne_of_lt hC
 refine ⟨Zt3 I S (Nat.le_of_lt hC) hf ho,rfl,I.bare,Un.laid old (Nat.le_of_eq hD.symm) fD,⟨m₁,hn,fun i x v e1 e2 e3=>?_⟩,fun x c e=>?_,?_,fun x c e=>?_,fun p hp=>absurd (show p∈([]:List (Addr×Obj)) from hp) (by simp),?_,S.len σ I.len⟩
 ·obtain ⟨k1,k2,j,j1,j2⟩:=S.fr σ i x v e1 e2 e3
  obtain ⟨c,hc⟩:=S.has x k1
  have hc':=S.sub x c hc
  obtain ⟨m,_,hl'⟩:=I.loc
  obtain ⟨u,r,l⟩:=hl' j x v j1 j2 (by rcases k2 with k|k;exact .inr (.inl k);exact .inr (.inr k))
  refine ⟨u,r,.inr ⟨k1,c,hc,?_⟩⟩
  rcases l with ⟨k,_⟩|⟨_,c2,hc2,o,z,d⟩
  ·rcases k2 with q|q <;>(rw [k] at q;cases q)
  ·rw [hc'] at hc2;cases hc2
   exact ⟨o,old _ _ z,d⟩
 ·obtain ⟨v,o,z,d⟩:=I.cell x c (S.sub x c e)
  exact ⟨v,o,old _ _ z,d⟩
 ·show upd H D (.lst []) C=none
  rw [Zi hDC.symm];exact fC
 ·show upd H D (.lst []) c=none
  rw [Zi (fun z=>?_)]
  ·exact I.freeC x c (S.sub x c e)
  ·obtain ⟨v,o,q,d⟩:=I.cell x c (S.sub x c e)
   have:=Heap.lt_size q
   rw [z,hD] at this
   exact Nat.lt_irrefl _ this
 ·exact I.hok.laid old (Nat.le_of_eq hD.symm) ⟨Nat.zero_le _,[],0,.nil,hl⟩
theorem Zm1{H':Hp}{s2:Shared}{h':Heap}(I:Inv X pins σ H s)(hC:s.heap.objs.size<C)(hf:∀b∈fp,Zgn X pins H b)(J:Inv (Y5 X scope cl N' s H C fp) [] (fr σ) H' s2)(hs:Heap.SameBut C s2.heap h') :
  Inv X pins σ H' { s2 with heap:=h' }:=by
 have fC:H' C=none:=J.free
 have u:Un (frs X.stack) fp H H' s.heap s2.heap:=J.base
 have ne:∀b o,s.heap.get? b=some o->b≠C:=fun b o e=>Nat.ne_of_lt (Nat.lt_trans (Heap.lt_size e) hC)
 have u2:Un (frs X.stack) fp H H' s.heap h':=by
  refine ⟨fun b o e n hb hx=>?_,fun b o e n hb hx=>?_,u.free,fun b o e hx=>?_,u.tups,u.frzs,u.tbls⟩
  ·rw [hs.2 b (ne b o e)];exact u.keep b o e n hb hx
  ·obtain ⟨sl,q⟩:=u.slot b o e n hb hx
   exact ⟨sl,by rw [hs.2 b (ne b o e)];exact q⟩
  ·obtain ⟨o',q⟩:=u.there b o e hx
   exact ⟨o',by rw [hs.2 b (ne b o e)];exact q⟩
 have hok:HOk X.prog X.w H' h':=fun b o e=>by
  refine (J.hok b o e).stay (fun c v hc q=>?_) (fun _ q=>q) fun _ _ q=>q
  have nc:c≠C:=by
   rintro rfl
   rcases hc with z|z
   ·rw [<-z,fC] at e;cases e
   ·rw [fC] at z;cases z
  rw [hs.2 c nc];exact q
 refine I.call' (s':={ s2 with heap:=h' }) (ch:=fp) J.os u2 hok J.bare fun b hb=>?_
 obtain ⟨_,f1,f2,f3,f4,f5⟩:=hf b hb
 exact ⟨f3,f1,f4,f5⟩
end
theorem Wr{X:Cx}{elt tg iter:Expr}{ifs:List Expr}{scope:Scope}{pos:Pos}{cl:List (Str×Addr)}{N':List Str}{fr:St->St}{wi:TI}{g:TG}{tf:TT}{te:TE}
  (hc:X.calm=true) (S:Yd X scope cl N' fr) (hi:PI X tg iter wi) (hg:∀s H C ex,PG (Y5 X scope cl N' s H C ex) tg g) (hf:∀s H C ex,PF (Y5 X scope cl N' s H C ex) ifs tf)
  (he:∀s H C ex,PE (Y5 X scope cl N' s H C ex) elt te) (hs:∀x,foldedSetIterable iter X.env x=pure x:=by intro _;rfl):PE X (.ListComp elt [⟨tg,iter,ifs,0⟩] scope pos) (Zvy wi fr g tf te):=by
 intro pins s σ H Q I h
 rw [eval_ListComp]
 refine wpAny_comprehension_free (use:=none) rfl hs S.clos S.kind S.names (thn (hi pins s σ H _ I h) fun v s1 h1=>thn h1 fun itv s2 h2=>?_)
 obtain ⟨it,fp,tn,J,H2,e,I2,T,st2,f2,q⟩:=h2
 subst e
 refine wpAny_newObj_type (wpAny_newFunctionEnv S.cell (by intro y hy;simp at hy) (fun h₁ hns₁ hsb₁=>?_) S.kind)
 dsimp only at hns₁ hsb₁ ⊢
 generalize hP:s2.heap.push { cls:=.type "list",dict:=none,data:=.seq ([]:List Value).toArray }=P at hns₁ hsb₁ ⊢
 have hPz:P.objs.size=s2.heap.objs.size+1:=by rw [<-hP,Heap.size_push]
 have hCD:s2.heap.objs.size<P.objs.size:=by rw [hPz];exact Nat.lt_succ_self _
 have ho2:∀b∈fp,∃o,s2.heap.get? b=some o:=fun b hb=>let ⟨o,e,_⟩:=T.obj _ _ st2 b hb;⟨o,e⟩
 have below:∀b,b<s2.heap.objs.size->b≠P.objs.size:=fun b hb=>Nat.ne_of_lt (Nat.lt_trans hb hCD)
 have old:∀b o,s2.heap.get? b=some o->h₁.get? b=some o:=fun b o e=>hsb₁.extBut b o (below b (Heap.lt_size e)) (Heap.get?_push_of_some _ (hP ▸ Heap.get?_push_of_some _ e))
 have hacc:h₁.get? s2.heap.objs.size=some { cls:=.type "list",data:=.seq ([]:List Value).toArray 0 }:=hsb₁.extBut _ _ (Nat.ne_of_lt hCD) (Heap.get?_push_of_some _ (hP ▸ Heap.get?_push_size _ rfl))
 have fD:H2 s2.heap.objs.size=none:=I2.hok.fresh (Nat.le_refl _)
 obtain ⟨W,⟨m0,w0⟩,turn⟩:=q s2.heap.objs.size fD
 have hz:h₁.objs.size<=P.objs.size+1:=by
  have e:=hsb₁.1
  rw [Heap.size_push] at e
  exact Nat.le_of_eq e
 have st1:tn 0 h₁:=T.keep _ _ _ st2 fun b hb o e=>old b o e
 have stat:∀{pins':List (Addr×Obj)} {H':Hp},(∀p∈pins',p.1∉fp)->(∀b∈fp,H' b=none)->∀b∈fp,Zgn (Y5 X scope cl N' s2 H2 P.objs.size fp) pins' H' b:=fun {pins' H'} hp hn b hb=>by
  obtain ⟨o,e⟩:=ho2 b hb
  obtain ⟨_,f1,f2',f3,f4,f5⟩:=f2 b hb
  refine ⟨hn b hb,below b (Heap.lt_size e),fun z=>?_,.inl hb,fun x c h=>f4 x c (S.sub x c h),fun p hp' z=>?_⟩
  ·rcases List.mem_cons.mp (I2.stkSub b z) with q|q
   ·exact f1 q
   ·exact f2' q
  ·have hp2:p∈pins':=by simpa [Y5] using hp'
   exact hp p hp2 (by rw [z];exact hb)
 have loop:∀s3:Shared,s3={ s2 with heap:=h₁,toks:=s2.toks+([]:List (Str×Value)).length } ->
   codeAny (model X.prog X.w) X.A (.compLoop (.ListComp elt [⟨tg,iter,ifs,0⟩] scope pos) 0 (.ref it) (.ref s2.heap.objs.size) (compEnvC scope cl P.objs.size X.env)) (compPost (model X.prog X.w) X.A X.xe none (EP X pins σ Q) (.ref s2.heap.objs.size) P.objs.size) s3:=by
  rintro s3 rfl
  have I3:Inv (Y5 X scope cl N' s2 H2 P.objs.size fp) [] (fr σ) (upd H2 s2.heap.objs.size (.lst [])) { s2 with heap:=h₁,toks:=s2.toks+([]:List (Str×Value)).length }:=Zh6 I2 S hCD rfl f2 ho2 old hacc hns₁ hz
  refine Zbk (fun n s'=>∃i ys H',Inv (Y5 X scope cl N' s2 H2 P.objs.size fp) [] (fr σ) H' s'/\tn i s'.heap/\(∀b∈fp,H' b=none)/\W i n ys H') ?_ m0 ⟨0,[],_,I3,st1,fun b hb=>?_,w0⟩
  ·rintro n s3 ⟨i,ys,H3,I3,st3,fr3,w3⟩
   rcases turn i n ys H3 w3 with ⟨stop,qn⟩|⟨go,N,hN,step⟩
   ·refine thn (T.done (Y5 X scope cl N' s2 H2 P.objs.size fp) rfl rfl rfl hc i [] s3 (fr σ) H3 _ I3 (stat (by simp) fr3) st3 stop) fun r s4 ⟨hr,I4⟩=>?_
    subst hr
    obtain ⟨m4,hn4,_⟩:=I4.loc
    exact ⟨m4,hn4,fun h' hs'=>⟨.ref s2.heap.objs.size,H3,Zm1 I2 hCD f2 I4 hs',rfl,qn⟩⟩
   ·refine thn (T.item (Y5 X scope cl N' s2 H2 P.objs.size fp) rfl rfl rfl hc i [] s3 (fr σ) H3 _ I3 (stat (by simp) fr3) st3 go) fun r s4 ⟨u,hr,h4⟩=>?_
    subst hr
    refine thn h4 fun _ s5 ⟨x,H5,I5,r5,y5,st5,fr5⟩=>?_
    have I5':=I5.pinned (stat (by simp) fr5) (T.obj _ _ st5)
    refine thn (hg s2 H2 P.objs.size fp _ s5 (fr σ) H5 x u _ I5' r5 (step x H5 y5)) fun _ s6 ⟨σ6,H6,I6,kp,q6⟩=>?_
    refine thn (hf s2 H2 P.objs.size fp _ s6 σ6 H6 _ I6 q6) fun ok s7 ⟨H7,I7,q7⟩=>?_
    have again:∀{σ8:St} {H8:Hp} {s8:Shared} {ys8:List V},Zaq (fr σ) σ8->Inv (Y5 X scope cl N' s2 H2 P.objs.size fp) ([]++Zfn fp s5.heap) σ8 H8 s8->N ys8 H8 ->
      ∃m,m<n/\∃i ys H',Inv (Y5 X scope cl N' s2 H2 P.objs.size fp) [] (fr σ) H' s8/\tn i s8.heap/\(∀b∈fp,H' b=none)/\W i m ys H':=fun {σ8 H8 s8 ys8} kp8 I8 n8=>by
     obtain ⟨m',hm,w8⟩:=hN ys8 H8 n8
     refine ⟨m',hm,i+1,ys8,H8,(I8.unpinned).weak (by rw [I8.len];exact S.len σ I2.len) kp8,T.keep _ _ _ st5 fun b hb o e=>(I8.pin (b,o) (List.mem_append_right _ (List.mem_append_right _ (Zbf hb e)))).1,fun b hb=>?_,w8⟩
     obtain ⟨o,e,d⟩:=T.obj _ _ st5 b hb
     exact (I8.pin (b,o) (List.mem_append_right _ (List.mem_append_right _ (Zbf hb e)))).2.1
    cases ok with
    | false=>exact again kp I7 q7
    | true =>
     refine thn (he s2 H2 P.objs.size fp _ s7 σ6 H7 _ I7 q7) fun uy s8 ⟨y,H8,I8,r8,hD8,hz8,q8⟩=>?_
     exact thn (Y9 _ s8 σ6 H8 (.ref s2.heap.objs.size) [y] (.ref s2.heap.objs.size) [uy] (fun _ H9=>N (ys++[y]) H9) I8 rfl (.cons r8 .nil) ⟨_,ys,y,rfl,rfl,hD8,hz8,q8⟩) fun _ s9 ⟨v9,H9,I9,_,q9⟩=>again kp I9 q9
  ·show upd H2 s2.heap.objs.size (.lst []) b=none
   obtain ⟨o,e⟩:=ho2 b hb
   rw [Zi (Nat.ne_of_lt (Heap.lt_size e))]
   exact (f2 b hb).1
 exact codeAny_compStart_list (loop _ rfl) (T.self X.A 0 _ _ _ st1 (loop _ rfl))
section
variable {K:Frag} {a:Addr} {fr:St->St} {g:TG} {tf:TT} {te:TE} {Q:VK} {σ:St} {H1:Hp} {D:Addr}
def Zcu(fr:St->St)(g:TG)(tf:TT)(te:TE)(σ:St)(D:Addr)(x:V)(ys:List V)(H:Hp)(N:List V->Hp->Prop):Prop :=
 g x (fr σ) H fun σ2 H2=>Zaq (fr σ) σ2/\tf σ2 H2 fun b H3=>if b=true then te σ2 H3 fun y H4=>H4 D=some (.lst ys)/\ys.length<sizeLine/\N (ys++[y]) (upd H4 D (.lst (ys++[y]))) else N ys H3
theorem Xw{xs:List V}(Pv:Nat->List V->Hp->Prop)(h0:Pv 0 [] (upd H1 D (.lst [])))(hl:∀i ys H,i<=xs.length->Pv i ys H->SqL K H a xs)
  (hs:∀i x ys H,xs[i]? =some x->Pv i ys H->Zcu fr g tf te σ D x ys H (Pv (i+1))) (hd:∀ys H,Pv xs.length ys H->Q (.ref D) H):Zda (Itl K a) fr g tf te Q σ H1 D:=by
 refine ⟨fun i m ys H=>m=xs.length-i/\i<=xs.length/\Pv i ys H,⟨xs.length,by simp,Nat.zero_le _,h0⟩,?_⟩
 rintro i m ys H ⟨rfl,hi,p⟩
 have q:=hl i ys H hi p
 by_cases hlt:i<xs.length
 ·refine .inr ⟨⟨xs,xs[i],q,by simp [hlt]⟩,Pv (i+1),fun ys' H' p'=>⟨xs.length-(i+1),by omega,rfl,hlt,p'⟩,fun x H' y=>?_⟩
  obtain ⟨e,y⟩:=y
  subst e
  exact hs i x ys _ (y xs q) p
 ·have e:i=xs.length:=by omega
  subst e
  exact .inl ⟨⟨xs,q,Nat.le_refl _⟩,hd ys H p⟩
theorem Zsu{xs:List V}(Pv:Nat->List V->Hp->Prop)(h0:Pv 0 [] (upd H1 D (.lst [])))(hl:∀i ys H,i<=xs.length->Pv i ys H->SqT K H a xs)
  (hs:∀i x ys H,xs[i]? =some x->Pv i ys H->Zcu fr g tf te σ D x ys H (Pv (i+1))) (hd:∀ys H,Pv xs.length ys H->Q (.ref D) H):Zda (Itt K a) fr g tf te Q σ H1 D:=by
 refine ⟨fun i m ys H=>m=xs.length-i/\i<=xs.length/\Pv i ys H,⟨xs.length,by simp,Nat.zero_le _,h0⟩,?_⟩
 rintro i m ys H ⟨rfl,hi,p⟩
 have q:=hl i ys H hi p
 by_cases hlt:i<xs.length
 ·refine .inr ⟨⟨xs,xs[i],q,by simp [hlt]⟩,Pv (i+1),fun ys' H' p'=>⟨xs.length-(i+1),by omega,rfl,hlt,p'⟩,fun x H' y=>?_⟩
  obtain ⟨e,y⟩:=y
  subst e
  exact hs i x ys _ (y xs q) p
 ·have e:i=xs.length:=by omega
  subst e
  exact .inl ⟨⟨xs,q,Nat.le_refl _⟩,hd ys H p⟩
theorem Zd7{lo:Int}{n:Nat}(Pv:Nat->List V->Hp->Prop)(h0:Pv 0 [] (upd H1 D (.lst [])))
  (hs:∀i ys H,i<n->Pv i ys H->Zcu fr g tf te σ D (.int (lo+i)) ys H (Pv (i+1))) (hd:∀ys H,Pv n ys H->Q (.ref D) H):Zda (Itr lo n) fr g tf te Q σ H1 D:=by
 refine ⟨fun i m ys H=>m=n-i/\i<=n/\Pv i ys H,⟨n,by simp,Nat.zero_le _,h0⟩,?_⟩
 rintro i m ys H ⟨rfl,hi,p⟩
 by_cases hlt:i<n
 ·refine .inr ⟨hlt,Pv (i+1),fun ys' H' p'=>⟨n-(i+1),by omega,rfl,hlt,p'⟩,fun x H' y=>?_⟩
  obtain ⟨e,y⟩:=y
  subst e y
  exact hs i ys _ hlt p
 ·have e:i=n:=by omega
  subst e
  exact .inl ⟨Nat.le_refl _,hd ys H p⟩
def Its(x:Str):It:=⟨fun i _=>i<x.cps.size,fun i H v H'=>H'=H/\∃c,x.cps[i]? =some c/\v=.str ⟨#[c]⟩,fun i _=>x.cps.size<=i⟩
theorem Zrq{x:Str}(Pv:Nat->List V->Hp->Prop)(h0:Pv 0 [] (upd H1 D (.lst [])))
  (hs:∀i c ys H,x.cps[i]? =some c->Pv i ys H->Zcu fr g tf te σ D (.str ⟨#[c]⟩) ys H (Pv (i+1))) (hd:∀ys H,Pv x.cps.size ys H->Q (.ref D) H):Zda (Its x) fr g tf te Q σ H1 D:=by
 refine ⟨fun i m ys H=>m=x.cps.size-i/\i<=x.cps.size/\Pv i ys H,⟨x.cps.size,by simp,Nat.zero_le _,h0⟩,?_⟩
 rintro i m ys H ⟨rfl,hi,p⟩
 by_cases hlt:i<x.cps.size
 ·refine .inr ⟨hlt,Pv (i+1),fun ys' H' p'=>⟨x.cps.size-(i+1),by omega,rfl,hlt,p'⟩,fun v H' y=>?_⟩
  obtain ⟨e,c,hc,ev⟩:=y
  subst e ev
  exact hs i c ys _ hc p
 ·have e:i=x.cps.size:=by omega
  subst e
  exact .inl ⟨Nat.le_refl _,hd ys H p⟩
end
theorem Zn6{P:Program}{w:World}{K:Frag}{tg:Expr}(it:Addr)(x:Str)(t:Tok):Zms P w K tg (Its x) [it] it (fun i h=>h.IsStrIter it "str_ascii_iterator" x t i) where
 mem:=by simp
 obj:=fun i h st b hb=>by
  have e:b=it:=by simpa using hb
  subst e
  obtain ⟨o,e,c,d⟩:=st
  exact ⟨o,e,fun v z=>by rw [d] at z;cases z⟩
 keep:=fun i h h' st k=>by
  obtain ⟨o,e,r⟩:=st
  exact ⟨o,k it (by simp) o e,r⟩
 item:=by
  intro X hP hw hK hc i pins s σ H E I hf st hg
  subst hP hw hK
  obtain ⟨f0,f1,f2,f3,f4,f5⟩:=hf it (by simp)
  have hlt:i<x.cps.size:=hg
  refine wpAny_pyNext_ascii_item st (c:=x.cps[i]) (by simp [hlt]) fun h' st' sb=>?_
  have I1:Inv X pins σ H { s with heap:=h',toks:=s.toks+1 }:=I.turned (fun b o hb e=>(sb.2 b hb).trans e) f0 f1 f3 f4 f5
  obtain ⟨o,e,c,d⟩:=id st'
  exact ⟨_,rfl,Zm3 (s:={ s with heap:=h',toks:=s.toks+1 }) e c d (by decide) ⟨.str ⟨#[x.cps[i]]⟩,H,I1,⟨_,rfl⟩,⟨rfl,_,by simp [hlt],rfl⟩,st',fun b hb=>(hf b hb).1⟩⟩
 done:=by
  intro X hP hw hK hc i pins s σ H E I hf st hg
  subst hP hw hK
  obtain ⟨f0,f1,f2,f3,f4,f5⟩:=hf it (by simp)
  have hle:x.cps.size<=i:=hg
  exact wpAny_pyNext_ascii_end (I.ok.hd hc) st (by simp [hle]) fun h' eb=>⟨rfl,I.turned (t':=s.toks) (fun b o hb e=>eb b o hb e) f0 f1 f3 f4 f5⟩
 self:=fun _ _ _ _ _ st h=>wpAny_pyIter_striter_ascii st h
def Zz9(tl:TE):TI:=fun σ H R=>tl σ H fun v H1=>∃x,v=.str x/\x.cps.all (· < 128)=true/\R (Its x) H1
theorem Zxo{X:Cx}{tg l:Expr}{tl:TE}(hl:PE X l tl):PI X tg l (Zz9 tl):=by
 intro pins s σ H R I h
 refine thn (hl pins s σ H _ I h) fun v s1 ⟨y,H1,I1,r1,q1⟩=>?_
 obtain ⟨x,e,ha,q⟩:=q1
 subst e
 obtain ⟨t,rfl⟩:=r1
 refine wpAny_pyIter_ascii ha ?_
 refine ⟨s1.heap.objs.size,[s1.heap.objs.size],_,_,H1,rfl,I1.kept (t':=s1.toks) fun b o e=>Heap.get?_push_of_some _ e,Zn6 _ x t,⟨_,Heap.get?_push_size _ rfl,rfl,rfl⟩,fun b hb=>?_,q⟩
 have e:b=s1.heap.objs.size:=by simpa using hb
 subst e
 exact I1.fpOk (Nat.le_refl _) (I1.hok.fresh (Nat.le_refl _))
theorem Yc.at_bool:∀{bs:List Bool} {us:List Value} {i:Nat} {u:Value},Yc (bs.map V.bl) us->us[i]? =some u->∃b,bs[i]? =some b/\u=.bool b
 | [],_,_,_,.nil,e=>by simp at e
 | b ::bs,_,0,u,.cons r _,e=>by
  simp at e;subst e
  exact ⟨b,rfl,r⟩
 | b ::bs,_,i+1,u,.cons _ t,e=>by
  obtain ⟨c,h1,h2⟩:=Yc.at_bool (i:=i) t (by simpa using e)
  exact ⟨c,by simpa using h1,h2⟩
theorem Zq6(bs:List Bool):(List.range bs.length).all (fun i=>bs.getD i false)=bs.all id:=by
 have e:(List.range bs.length).map (fun i=>bs.getD i false)=bs:=by
  apply List.ext_getElem
  ·simp
  ·intro i h1 h2
   simp at h1
   simp [h1]
 calc (List.range bs.length).all (fun i=>bs.getD i false)=((List.range bs.length).map (fun i=>bs.getD i false)).all id:=by rw [List.all_map];rfl
  _=bs.all id:=by rw [e]
theorem Zg8{X:Cx}(hc:X.calm=true):W3 X (.builtin "all") (fun xs H Q=>∃(p:Addr) (bs:List Bool),xs=[.ref p]/\SqL X.K H p (bs.map V.bl)/\Q (.bl (bs.all id)) H):=by
 intro pins s σ H xs us Q I r h
 obtain ⟨p,bs,rfl,hq,q⟩:=h
 obtain ⟨u,rfl,ru⟩:=Zdb r
 cases ru
 obtain ⟨its,rv,pl,hz⟩:=I.list hq
 have hlt:p<s.heap.objs.size:=by obtain ⟨_,_,e,_⟩:=pl;exact Heap.lt_size e
 refine call_all_walk (wpAny_pyIter_list pl.isList ?_)
 refine ⟨s.heap.objs.size,_,_,its.toArray.size,_,_,fun i=>bs.getD i false,rfl,Walks.list (A:=X.A.in1) (show X.A.in1.handled=none from I.ok.hd hc) s.heap.objs.size p (Nat.ne_of_lt hlt) its.toArray,⟨⟨_,Heap.get?_push_size _ rfl,rfl,rfl⟩,pl.isList.push _⟩,?_,fun h' tk k=>?_⟩
 ·intro i v s' Q' E' hv hQ
  obtain ⟨b,hb,rfl⟩:=Yc.at_bool (i:=i) rv (by simpa using hv)
  refine wpAny_truthy_bool ?_
  have e:bs.getD i false=b:=by rw [List.getD_eq_getElem?_getD,hb];rfl
  have hQ':Q' (bs.getD i false) s':=hQ
  rw [e] at hQ'
  exact hQ'
 ·have hl:=rv.length
  rw [List.length_map] at hl
  refine ⟨.bl (bs.all id),H,?_,?_,q⟩
  ·refine I.kept (t':=tk) fun b o e=>k b o ?_ (Heap.get?_push_of_some _ e)
   have:=Heap.lt_size e
   intro z
   have z':b=s.heap.objs.size:=by simpa using z
   rw [z'] at this
   exact Nat.lt_irrefl _ this
  ·show Value.bool ((List.range its.toArray.size).all fun i=>bs.getD i false)=Value.bool (bs.all id)
   rw [List.size_toArray,<-hl,Zq6]
theorem Zm8{X:Cx}:W3 X (.builtin "isinstance") (fun xs H Q=>∃x c b t,xs=[x,c]/\Zbs X.K H x t/\((∃n,c=.ty n/\kitOne X.K t (.type n)=some b)\/∃a,c=.ref a/\kitOne X.K t (.ref a)=some b)/\Q (.bl b) H):=by
 intro pins s σ H xs us Q I r h
 obtain ⟨x,c,b,t,rfl,ty,k,q⟩:=h
 obtain ⟨u,w',rfl,rx,rw'⟩:=Zpi r
 rcases k with ⟨n,rfl,k⟩|⟨a,rfl,k⟩
 ·cases rw'
  exact Zkf I rx ty k fun tk=>⟨.bl b,H,I.tok tk,rfl,q⟩
 ·cases rw'
  exact Zkf I rx ty k fun tk=>⟨.bl b,H,I.tok tk,rfl,q⟩
def Zzk:V->Option Int->Option Int->Hp->VK->Prop:=fun x lo hi H Q=>∃z,x=.str z/\z.length<=sizeLine/\Q (.str (Txt.slice z lo hi)) H
theorem Zxi{X:Cx}:SlR X Zzk:=by
 intro pins s σ H x v vl vu lo hi sl Q I rx hs pl pu h
 obtain ⟨z,rfl,hz,q⟩:=h
 obtain ⟨t,rfl⟩:=rx
 refine ⟨"str",_,F.slot_str_getitem.lookup,typeIs_str _ _ _,?_⟩
 obtain ⟨o,ho,hc,hd⟩:=hs
 cases pl with
 | none =>
  cases pu with
  | none=>exact wpAny_getItem_str_slice (l:=none) (u:=none) (st:=none) ⟨o,ho,hc,hd⟩ rfl (post_val_or_str ⟨Nat.le_trans (Txt.slice_le z none none) hz,fun t' k=>⟨.str (Txt.slice z none none),H,I.tok k,⟨t',rfl⟩,q⟩⟩)
  | int j tj=>exact wpAny_getItem_str_slice (l:=none) (u:=some (j,tj)) (st:=none) ⟨o,ho,hc,hd⟩ rfl (post_val_or_str ⟨Nat.le_trans (Txt.slice_le z none (some j)) hz,fun t' k=>⟨.str (Txt.slice z none (some j)),H,I.tok k,⟨t',rfl⟩,q⟩⟩)
 | int i ti =>
  cases pu with
  | none=>exact wpAny_getItem_str_slice (l:=some (i,ti)) (u:=none) (st:=none) ⟨o,ho,hc,hd⟩ rfl (post_val_or_str ⟨Nat.le_trans (Txt.slice_le z (some i) none) hz,fun t' k=>⟨.str (Txt.slice z (some i) none),H,I.tok k,⟨t',rfl⟩,q⟩⟩)
  | int j tj=>exact wpAny_getItem_str_slice (l:=some (i,ti)) (u:=some (j,tj)) (st:=none) ⟨o,ho,hc,hd⟩ rfl (post_val_or_str ⟨Nat.le_trans (Txt.slice_le z (some i) (some j)) hz,fun t' k=>⟨.str (Txt.slice z (some i) (some j)),H,I.tok k,⟨t',rfl⟩,q⟩⟩)
end L2
namespace L2
open PySem PySem.Spec PyProof.Rows
def Zyq(M:St->Hp->St->Hp->Prop)(t:TS):TS:=fun D σ H=>t { D with nx:=M σ H } σ H/\∀σ' H',M σ H σ' H'->D.nx σ' H'
theorem Zws{X:Cx}{st:Stmt}{t:TS}(M:St->Hp->St->Hp->Prop)(h:PS X st t):PS X st (Zyq M t):=by
 intro pins s σ H D I hq
 refine thn (h pins s σ H { D with nx:=M σ H } I hq.1) fun f s' q=>?_
 cases f with
 | next=>obtain ⟨σ',H',I',m⟩:=q;exact ⟨σ',H',I',hq.2 σ' H' m⟩
 | brk=>exact q
 | cont=>exact q
 | ret u=>exact q
end L2
namespace L2
open PySem PySem.Spec PyProof.Rows
def Zru:Expr->Bool
 | .Starred .. =>false
 | _=>true
theorem Zqm{e:Expr}{es:List Expr}{env:Env}(h:Zru e=true):starEach (e ::es) env=(false,eval e env) ::starEach es env:=by
 cases e <;>first
  | rfl
  | exact absurd h Bool.false_ne_true
theorem Zb{X:Cx}{e:Expr}{es:List Expr}{te:TE}{t:TA}(ha:PE X e te)(hr:PA X es t)(h:Zru e=true:=by rfl):PA X (e ::es) (Zkg te t):=Zt9 ha hr (Zqm h)
end L2
namespace L2
open PySem PySem.Spec PyProof.Rows
structure WSs(X:Cx)(b:List Stmt)(D:Ze5)(σ:St)(H:Hp):Prop where
 run:∀(pins:List (Addr×Obj)) (s:Shared),Inv X pins σ H s->wpAny (model X.prog X.w) X.A (execs b X.env) (SP X pins D) X.xe s
structure WS(X:Cx)(st:Stmt)(D:Ze5)(σ:St)(H:Hp):Prop where
 run:∀(pins:List (Addr×Obj)) (s:Shared),Inv X pins σ H s->wpAny (model X.prog X.w) X.A (exec st X.env) (SP X pins D) X.xe s
structure WE(X:Cx)(e:Expr)(σ:St)(H:Hp)(Q:VK):Prop where
 run:∀(pins:List (Addr×Obj)) (s:Shared),Inv X pins σ H s->wpAny (model X.prog X.w) X.A (eval e X.env) (EP X pins σ Q) X.xe s
section
variable {X:Cx} {b Z0:List Stmt} {st:Stmt} {e:Expr} {D:Ze5} {σ:St} {H:Hp} {t:TS} {te:TE} {Q:VK}
theorem Zy:PSs X b (WSs X b):=fun pins s _ _ _ I h=>h.run pins s I
theorem Zz6:PS X st (WS X st):=fun pins s _ _ _ I h=>h.run pins s I
theorem Ztk:PE X e (WE X e):=fun pins s _ _ _ I h=>h.run pins s I
theorem WSs.of(h:PSs X b t)(q:t D σ H):WSs X b D σ H:=⟨fun pins s I=>h pins s σ H D I q⟩
theorem WS.of(h:PS X st t)(q:t D σ H):WS X st D σ H:=⟨fun pins s I=>h pins s σ H D I q⟩
theorem WE.of(h:PE X e te)(q:te σ H Q):WE X e σ H Q:=⟨fun pins s I=>h pins s σ H Q I q⟩
theorem WSs.step(h:PS X st t)(q:t { D with nx:=WSs X Z0 D } σ H):WSs X (st ::Z0) D σ H:=WSs.of (Zsa h Zy) q
theorem WSs.last(h:PS X st t)(q:t D σ H):WSs X [st] D σ H:=WSs.of (Zvl h) q
theorem WSs.cut(M:St->Hp->Prop)(h:WS X st { D with nx:=M } σ H)(k:∀σ' H',M σ' H'->WSs X Z0 D σ' H'):WSs X (st ::Z0) D σ H:=by
 refine WSs.step (t:=Zyq (fun _ _=>M) (WS X st)) (Zws (fun _ _=>M) Zz6) ⟨h,fun σ' H' m=>k σ' H' m⟩
end
end L2
namespace L2
open PySem PySem.Spec PyProof.Rows
end L2
namespace L2
open PySem PySem.Spec PyProof.Rows
end L2
end
section
namespace L2
open PySem PySem.Spec PyProof.Rows
def Zm7{α:Type}(P:α->Prop):List α->Prop
 | []=>True
 | a ::l=>P a/\Zm7 P l
theorem Zm7.mem{α:Type}{P:α->Prop}:∀{l:List α} {a:α},Zm7 P l->a∈l->P a
 | _ ::_,a,h,m=>by
  rcases List.mem_cons.mp m with rfl|m
  ·exact h.1
  ·exact Zm7.mem h.2 m
theorem Zbu{env:Env}:∀{names:List (Str×NameKind)} {x:Str},names.lookup x=some .free ->
  (names.map fun (n,k)=>if (k ==NameKind.free && env.scope.kind ==.function && env.kindOf n ==some .cell) then (n,NameKind.cell) else (n,k)).lookup x=some .cell \/
  (names.map fun (n,k)=>if (k ==NameKind.free && env.scope.kind ==.function && env.kindOf n ==some .cell) then (n,NameKind.cell) else (n,k)).lookup x=some .free
 | [],_,h=>by simp at h
 | (n,k) ::r,x,h=>by
  have ih:=@Zbu env r x
  by_cases hx:x ==n
  ·have hk:k=.free:=by
    rw [List.lookup_cons,hx] at h
    exact Option.some.inj h
   subst hk
   by_cases hc:(NameKind.free ==NameKind.free && env.scope.kind ==.function && env.kindOf n ==some .cell)=true
   ·left
    rw [List.map_cons]
    show List.lookup x ((if _ then (n,NameKind.cell) else (n,NameKind.free)) ::_)=_
    rw [if_pos hc,List.lookup_cons,hx]
   ·right
    rw [List.map_cons]
    show List.lookup x ((if _ then (n,NameKind.cell) else (n,NameKind.free)) ::_)=_
    rw [if_neg hc,List.lookup_cons,hx]
  ·have hx:(x ==n)=false:=by simpa using hx
   rw [List.lookup_cons,hx] at h
   have q:=ih h
   rw [List.map_cons]
   have e:∀(b:Bool) (l:List (Str×NameKind)),List.lookup x ((if b=true then (n,NameKind.cell) else (n,k)) ::l)=l.lookup x:=fun b l=>by
    cases b <;>simp [List.lookup_cons,hx]
   rcases q with q|q
   ·exact .inl ((e _ _).trans q)
   ·exact .inr ((e _ _).trans q)
theorem Zcf{env:Env}:∀{names:List (Str×NameKind)} {x:Str},
    ((names.map fun (n,k)=>if (k ==NameKind.free && env.scope.kind ==.function && env.kindOf n ==some .cell) then (n,NameKind.cell) else (n,k)).lookup x=some .cell \/
     (names.map fun (n,k)=>if (k ==NameKind.free && env.scope.kind ==.function && env.kindOf n ==some .cell) then (n,NameKind.cell) else (n,k)).lookup x=some .free) ->
    names.lookup x=some .cell\/names.lookup x=some .free
  | [],_,h=>by simp at h
  | (n,k) ::r,x,h=>by
    have ih:=@Zcf env r x
    rw [List.map_cons] at h
    by_cases hx:x ==n
    · rw [List.lookup_cons,hx]
      have e:∀(c:Prop) [Decidable c] (l:List (Str×NameKind)),List.lookup x ((if c then (n,NameKind.cell) else (n,k)) ::l)=some (if c then .cell else k):=fun c _ l=>by
        split <;>rw [List.lookup_cons,hx]
      rcases h with h|h
      · have h:=(e _ _).symm.trans h
        have h:=Option.some.inj h
        split at h
        · rename_i c
          right
          have:k=.free:=by
            rw [Bool.and_eq_true,Bool.and_eq_true] at c
            simpa using c.1.1
          rw [this]
        · left;rw [h]
      · have h:=(e _ _).symm.trans h
        have h:=Option.some.inj h
        split at h
        · cases h
        · right;rw [h]
    · have hx:(x ==n)=false:=by simpa using hx
      have e:∀(c:Prop) [Decidable c] (l:List (Str×NameKind)),List.lookup x ((if c then (n,NameKind.cell) else (n,k)) ::l)=l.lookup x:=fun c _ l=>by
        split <;>rw [List.lookup_cons,hx]
      rw [List.lookup_cons,hx]
      exact ih (h.imp (fun z=>(e _ _).symm.trans z) fun z=>(e _ _).symm.trans z)
theorem Yd.std{X:Cx}{scope:Scope}{cl:List (Str×Addr)}{N':List Str}(n:Nat)(js:List Nat)(kind:scope.kind=.function)(cell:∀y∈scope.names,y.2 ≠ .cell)
  (names:∀y∈scope.names,y.2=.local->scope.names.lookup y.1=some .local) (clos:closureFor scope X.env=pure cl) (hcl:Zm7 (fun p=>X.env.cells.lookup p.1=some p.2) cl)
  (hfree:(scope.names.all fun y=>y.2 !=.free || ((cl.lookup y.1).isSome && (X.env.kindOf y.1 ==some .cell || X.env.kindOf y.1 ==some .free)))=true)
  (hN:N'.length=n+js.length) (hj:Zm7 (fun p:Nat×Nat=>∃x,N'[n+p.1]? =some x/\X.N[p.2]? =some x/\scope.names.lookup x=some .free) ((List.range js.length).zip js)) :
  Yd X scope cl N' (fun σ=>List.replicate n none++js.map fun j=>(σ[j]?).join) where
 kind:=kind
 cell:=cell
 names:=names
 clos:=clos
 sub:=fun x c h=>Zm7.mem (P:=fun p=>X.env.cells.lookup p.1=some p.2) (a:=(x,c)) hcl (PySem.mem_of_lookup h)
 has:=fun x h=>by
  rcases Zcf (env:=X.env) h with h|h
  ·exact absurd rfl (cell _ (PySem.mem_of_lookup h))
  ·have q:=List.all_eq_true.mp hfree _ (PySem.mem_of_lookup h)
   simp only [bne_self_eq_false,Bool.false_or,Bool.and_eq_true] at q
   exact Option.isSome_iff_exists.mp q.1
 len:=fun σ _=>by simp [hN]
 fr:=fun σ i x v h1 h2 _=>by
  have hi:n<=i:=by
   rcases Nat.lt_or_ge i n with hlt|hge
   ·rw [List.getElem?_append_left (by simpa using hlt),List.getElem?_replicate,if_pos hlt] at h2
    cases h2
   ·exact hge
  rw [List.getElem?_append_right (by simpa using hi),List.length_replicate,List.getElem?_map] at h2
  cases hjs:js[i-n]? with
  | none=>rw [hjs] at h2;cases h2
  | some j =>
   rw [hjs] at h2
   have h2:(σ[j]?).join=some v:=Option.some.inj h2
   have hlt:i-n<js.length:=by
    rcases Nat.lt_or_ge (i-n) js.length with z|z
    ·exact z
    ·rw [List.getElem?_eq_none z] at hjs;cases hjs
   have hm:(i-n,j)∈(List.range js.length).zip js:=by
    rw [List.mem_iff_getElem?]
    refine ⟨i-n,?_⟩
    rw [List.getElem?_zip_eq_some]
    exact ⟨by simp [hlt],hjs⟩
   obtain ⟨x',e1,e2,e3⟩:=Zm7.mem hj hm
   have e:n+(i-n)=i:=by omega
   simp only [e] at e1
   rw [h1] at e1
   cases e1
   have q:=List.all_eq_true.mp hfree _ (PySem.mem_of_lookup e3)
   simp only [bne_self_eq_false,Bool.false_or,Bool.and_eq_true,Bool.or_eq_true,beq_iff_eq] at q
   refine ⟨Zbu e3,q.2,j,e2,?_⟩
   cases hs:σ[j]? with
   | none=>rw [hs] at h2;cases h2
   | some o=>rw [hs] at h2;exact congrArg some h2
end L2
namespace L2
open PySem PySem.Spec PyProof.Rows
inductive Tr where
 | non | int (i:Int) | str (x:Str) | tup (ts:List Tr) | lst (ts:List Tr)
noncomputable instance:DecidableEq Tr:=fun _ _=>Classical.propDecidable _
mutual
inductive Im(K:Frag)(H:Hp):Nat->Tr->V->Prop where
 | non {n:Nat}:Im K H n .non .non
 | int {n:Nat} (i:Int):Im K H n (.int i) (.int i)
 | str {n:Nat} (x:Str):Im K H n (.str x) (.str x)
 | tupI {n:Nat} {a:Addr} {xs:List V} {ts:List Tr}:SqT K H a xs->Ims K H n ts xs->Im K H (n+1) (.tup ts) (.ref a)
 | lstI {n:Nat} {a:Addr} {xs:List V} {ts:List Tr}:SqL K H a xs->Ims K H n ts xs->Im K H (n+1) (.lst ts) (.ref a)
inductive Ims(K:Frag)(H:Hp):Nat->List Tr->List V->Prop where
 | nil {n:Nat}:Ims K H n [] []
 | cons {n:Nat} {t:Tr} {v:V} {ts:List Tr} {vs:List V}:Im K H n t v->Ims K H n ts vs->Ims K H n (t ::ts) (v ::vs)
end
theorem Ims.toP{K:Frag}{H:Hp}{n:Nat}:∀{ts:List Tr} {xs:List V},Ims K H n ts xs->Paired (Im K H n) ts xs
 | [],_,h=>by cases h;exact .nil
 | _ ::_,_,h=>by
  cases h with
  | cons r t=>exact .cons r t.toP
theorem Ims.ofP{K:Frag}{H:Hp}{n:Nat}:∀{ts:List Tr} {xs:List V},Paired (Im K H n) ts xs->Ims K H n ts xs
 | _,_,.nil=>.nil
 | _,_,.cons r t=>.cons r (Ims.ofP t)
theorem Im.tup{K:Frag}{H:Hp}{n:Nat}{a:Addr}{xs:List V}{ts:List Tr}(sq:SqT K H a xs)(ps:Paired (Im K H n) ts xs):Im K H (n+1) (.tup ts) (.ref a):=.tupI sq (.ofP ps)
theorem Im.lst{K:Frag}{H:Hp}{n:Nat}{a:Addr}{xs:List V}{ts:List Tr}(sq:SqL K H a xs)(ps:Paired (Im K H n) ts xs):Im K H (n+1) (.lst ts) (.ref a):=.lstI sq (.ofP ps)
theorem Paired.get{α β:Type}{R:α->β->Prop}:∀{l₁:List α} {l₂:List β} {i:Nat} {a:α},Paired R l₁ l₂->l₁[i]? =some a->∃b,l₂[i]? =some b/\R a b
 | _,_,_,_,.nil,e=>by simp at e
 | _,_,0,_,.cons r _,e=>by simp at e;subst e;exact ⟨_,rfl,r⟩
 | _,_,i+1,a,.cons _ t,e=>by
  obtain ⟨u,h1,h2⟩:=Paired.get (i:=i) (a:=a) t (by simpa using e)
  exact ⟨u,by simpa using h1,h2⟩
theorem Paired.get'{α β:Type}{R:α->β->Prop}:∀{l₁:List α} {l₂:List β} {i:Nat} {b:β},Paired R l₁ l₂->l₂[i]? =some b->∃a,l₁[i]? =some a/\R a b
 | _,_,_,_,.nil,e=>by simp at e
 | _,_,0,_,.cons r _,e=>by simp at e;subst e;exact ⟨_,rfl,r⟩
 | _,_,i+1,a,.cons _ t,e=>by
  obtain ⟨u,h1,h2⟩:=Paired.get' (i:=i) (b:=a) t (by simpa using e)
  exact ⟨u,by simpa using h1,h2⟩
theorem Paired.append{α β:Type}{R:α->β->Prop}:∀{a₁:List α} {b₁:List β} {a₂:List α} {b₂:List β},Paired R a₁ b₁->Paired R a₂ b₂->Paired R (a₁++a₂) (b₁++b₂)
 | _,_,_,_,.nil,s=>s
 | _,_,_,_,.cons r t,s=>.cons r (Paired.append t s)
theorem Paired.strs{K:Frag}{H:Hp}{n:Nat}:∀xs:List Str,Paired (Im K H n) (xs.map Tr.str) (xs.map V.str)
 | []=>.nil
 | x ::xs=>.cons (.str x) (Paired.strs (K:=K) (H:=H) (n:=n) xs)
theorem Same.at{H H':Hp}{b:Addr}{o:HO}(e:Same H H')(h:H b=some o):H' b=some o:=e b o h
theorem Same.new{H:Hp}{p:Addr}{o:HO}(h:H p=none):Same H (upd H p o):=fun b u e=>by rw [Zi (Zj e h)];exact e
theorem Paired.uniq{α β:Type}{R:α->β->Prop}(f:∀a a' b,R a b->R a' b->a=a'):∀{l l':List α} {m:List β},Paired R l m->Paired R l' m->l=l'
 | _,_,_,.nil,.nil=>rfl
 | _,_,_,.cons r t,.cons r' t'=>by rw [f _ _ _ r r',Paired.uniq f t t']
section
variable {X:Cx} {pins:List (Addr×Obj)} {σ:St} {H:Hp} {s:Shared}
theorem Inv.lt_excl(I:Inv X pins σ H s){a:Addr}{xs ys:List V}(h:SqL X.K H a xs)(h':SqT X.K H a ys):False:=by
 obtain ⟨its,_,pl,_⟩:=I.list h
 obtain ⟨its',_,tp,_⟩:=I.tuple h'
 exact SeqAt.ne_of_list_tuple pl.isList (show s.heap.IsTuple a its'.toArray from tp) rfl
theorem Im.inj(I:Inv X pins σ H s):∀{n:Nat} {t u:Tr} {v:V},Im X.K H n t v->Im X.K H n u v->t=u:=by
 intro n
 induction n with
 | zero=>intro t u v h h';cases h <;>cases h' <;>rfl
 | succ n ih =>
  intro t u v h h'
  cases h with
  | non=>cases h';rfl
  | int i=>cases h';rfl
  | str x=>cases h';rfl
  | tupI sq pm =>
   cases h' with
   | tupI sq' pm' =>
    have e:=I.tuple_inj sq sq'
    subst e
    rw [Paired.uniq (R:=Im X.K H n) (fun _ _ _ z z'=>ih z z') pm.toP pm'.toP]
   | lstI sq' pm'=>exact (I.lt_excl sq' sq).elim
  | lstI sq pm =>
   cases h' with
   | tupI sq' pm'=>exact (I.lt_excl sq sq').elim
   | lstI sq' pm' =>
    have e:=I.list_inj sq sq'
    subst e
    rw [Paired.uniq (R:=Im X.K H n) (fun _ _ _ z z'=>ih z z') pm.toP pm'.toP]
theorem Yf{A:Around}{s:Shared}{u v:Value}{b b':Bool}(h:SeqAt.EqAt A s u v b)(e:b=b'):SeqAt.EqAt A s u v b':=e ▸ h
theorem Zgc(ts us:List Tr):(((List.range (min ts.length us.length)).all fun j=>decide (ts[j]? =us[j]?)) && ts.length ==us.length)=decide (ts=us):=by
 rw [Bool.eq_iff_iff]
 simp only [Bool.and_eq_true,List.all_eq_true,List.mem_range,decide_eq_true_eq,beq_iff_eq]
 constructor
 ·rintro ⟨h,e⟩
  refine List.ext_getElem? fun i=>?_
  by_cases hi:i<ts.length
  ·exact h i (by omega)
  ·rw [List.getElem?_eq_none (by omega),List.getElem?_eq_none (by omega)]
 ·rintro rfl
  exact ⟨fun _ _=>rfl,rfl⟩
theorem Zlf{ts us:List Tr}(h:ts.length=us.length):((List.range ts.length).all fun j=>decide (ts[j]? =us[j]?))=decide (ts=us):=by
 have q:=Zgc ts us
 rw [h,Nat.min_self,beq_self_eq_true,Bool.and_true] at q
 rw [h]
 exact q
theorem Wc(A:Around):A.in1.units=A.units+1:=rfl
theorem Zc1{n:Nat}{A:Around}{ts us:List Tr}{xs ys:List V}{its its':List Value}
  (ih:∀{t u:Tr} {x y:V} {vx vy:Value},Im X.K H n t x->Im X.K H n u y->Yk x vx->Yk y vy->SeqAt.EqAt A s vx vy (decide (t=u)))
  (ps:Paired (Im X.K H n) ts xs) (ps':Paired (Im X.K H n) us ys) (rv:Yc xs its) (rv':Yc ys its') :
  ∀j (h1:j<its.toArray.size) (h2:j<its'.toArray.size),SeqAt.EqAt A s its.toArray[j] its'.toArray[j] (decide (ts[j]? =us[j]?)):=by
 intro j h1 h2
 have l1:=rv.length
 have l2:=rv'.length
 have h1':j<xs.length:=by simpa [l1] using h1
 have h2':j<ys.length:=by simpa [l2] using h2
 obtain ⟨t,e1,r1⟩:=Paired.get' ps (i:=j) (b:=xs[j]) (by simp [h1'])
 obtain ⟨u,e2,r2⟩:=Paired.get' ps' (i:=j) (b:=ys[j]) (by simp [h2'])
 obtain ⟨v1,f1,g1⟩:=rv.get (i:=j) (x:=xs[j]) (by simp [h1'])
 obtain ⟨v2,f2,g2⟩:=rv'.get (i:=j) (x:=ys[j]) (by simp [h2'])
 have k1:its.toArray[j]=v1:=by
  have:its[j]? =some its.toArray[j]:=by simp [show j<its.length by simpa using h1]
  rw [f1] at this
  exact (Option.some.inj this).symm
 have k2:its'.toArray[j]=v2:=by
  have:its'[j]? =some its'.toArray[j]:=by simp [show j<its'.length by simpa using h2]
  rw [f2] at this
  exact (Option.some.inj this).symm
 rw [k1,k2,e1,e2]
 refine Yf (ih r1 r2 g1 g2) ?_
 rw [Bool.eq_iff_iff]
 simp
theorem Im.tuple_rc(I:Inv X pins σ H s){n:Nat}{A:Around}{a b:Addr}{ts us:List Tr}{xs ys:List V}
  (ih:∀{t u:Tr} {x y:V} {vx vy:Value},Im X.K H n t x->Im X.K H n u y->Yk x vx->Yk y vy->SeqAt.EqAt A.in1 s vx vy (decide (t=u))) (hu:A.units<cLine)
  (sq:SqT X.K H a xs) (ps:Paired (Im X.K H n) ts xs) (sq':SqT X.K H b ys) (ps':Paired (Im X.K H n) us ys) :
  SeqAt.RcAt A s (.ref a) (.ref b) (decide (Tr.tup ts=Tr.tup us))/\SeqAt.RcNeAt A s (.ref a) (.ref b) (!decide (Tr.tup ts=Tr.tup us)):=by
 obtain ⟨its,rv,tp,_⟩:=I.tuple sq
 obtain ⟨its',rv',tp',_⟩:=I.tuple sq'
 have l1:=rv.length
 have l2:=rv'.length
 have m1:=Paired.length ps
 have m2:=Paired.length ps'
 have e:((List.range (min its.toArray.size its'.toArray.size)).all (fun j=>decide (ts[j]? =us[j]?)) && its.toArray.size ==its'.toArray.size)=decide (Tr.tup ts=Tr.tup us):=by
  rw [List.size_toArray,List.size_toArray,<-l1,<-l2,<-m1,<-m2,Zgc,Bool.eq_iff_iff]
  simp
 constructor
 ·rw [<-e];exact SeqAt.RcAt.tuples (show s.heap.IsTuple a its.toArray from tp) (show s.heap.IsTuple b its'.toArray from tp') hu (Zc1 ih ps ps' rv rv')
 ·rw [<-e];exact SeqAt.RcNeAt.tuples (show s.heap.IsTuple a its.toArray from tp) (show s.heap.IsTuple b its'.toArray from tp') hu (Zc1 ih ps ps' rv rv')
theorem Im.list_rc(I:Inv X pins σ H s){n:Nat}{A:Around}{a b:Addr}{ts us:List Tr}{xs ys:List V}
  (ih:∀{t u:Tr} {x y:V} {vx vy:Value},Im X.K H n t x->Im X.K H n u y->Yk x vx->Yk y vy->SeqAt.EqAt A.in1 s vx vy (decide (t=u))) (hu:A.units<cLine)
  (sq:SqL X.K H a xs) (ps:Paired (Im X.K H n) ts xs) (sq':SqL X.K H b ys) (ps':Paired (Im X.K H n) us ys) :
  SeqAt.RcAt A s (.ref a) (.ref b) (decide (Tr.lst ts=Tr.lst us))/\SeqAt.RcNeAt A s (.ref a) (.ref b) (!decide (Tr.lst ts=Tr.lst us)):=by
 obtain ⟨its,rv,tp,_⟩:=I.list sq
 obtain ⟨its',rv',tp',_⟩:=I.list sq'
 have l1:=rv.length
 have l2:=rv'.length
 have m1:=Paired.length ps
 have m2:=Paired.length ps'
 by_cases hl:ts.length=us.length
 ·have e:((List.range its.toArray.size).all fun j=>decide (ts[j]? =us[j]?))=decide (Tr.lst ts=Tr.lst us):=by
   rw [List.size_toArray,<-l1,<-m1,Zlf hl,Bool.eq_iff_iff]
   simp
  have hs:its.toArray.size=its'.toArray.size:=by rw [List.size_toArray,List.size_toArray];omega
  constructor
  ·rw [<-e];exact SeqAt.RcAt.lists tp.isList tp'.isList hs hu (Zc1 ih ps ps' rv rv')
  ·rw [<-e];exact SeqAt.RcNeAt.lists tp.isList tp'.isList hs hu (Zc1 ih ps ps' rv rv')
 ·have e:decide (Tr.lst ts=Tr.lst us)=false:=decide_eq_false fun z=>hl (by injection z with z;rw [z])
  have hs:(its.toArray.size !=its'.toArray.size)=true:=by rw [List.size_toArray,List.size_toArray];simp;omega
  rw [e]
  exact ⟨SeqAt.RcAt.lists_lengths tp.isList tp'.isList hs hu,SeqAt.RcNeAt.lists_lengths tp.isList tp'.isList hs hu⟩
theorem Im.eqAt(I:Inv X pins σ H s):∀(n:Nat) (A:Around) {t u:Tr} {x y:V} {vx vy:Value},Im X.K H n t x->Im X.K H n u y->Yk x vx->Yk y vy->A.units+n<cLine->SeqAt.EqAt A s vx vy (decide (t=u)):=by
 intro n
 induction n with
 | zero =>
  intro A t u x y vx vy h h' rx ry hu
  cases h <;>cases h' <;>exact Yf (Zh2 rx ry rfl rfl) (by rw [Bool.eq_iff_iff];simp [eqV])
 | succ n ih =>
  intro A t u x y vx vy h h' rx ry hu
  have hu0:A.units<cLine:=by omega
  have hu1:A.in1.units+n<cLine:=by rw [Wc];omega
  have ih1:∀{t u:Tr} {x y:V} {vx vy:Value},Im X.K H n t x->Im X.K H n u y->Yk x vx->Yk y vy->SeqAt.EqAt A.in1 s vx vy (decide (t=u)):=fun z z' r r'=>ih A.in1 z z' r r' hu1
  cases h with
  | @tupI _ a xs ts sq pm =>
   cases rx
   obtain ⟨its,rv,tp,_⟩:=I.tuple sq
   cases h' with
   | non=>cases ry;exact Yf (SeqAt.EqAt.tuple_none (show s.heap.IsTuple _ its.toArray from tp) hu0) (decide_eq_false fun z=>nomatch z).symm
   | int i=>obtain ⟨t',rfl⟩:=ry;exact Yf (SeqAt.EqAt.tuple_int i t' (show s.heap.IsTuple _ its.toArray from tp) hu0) (decide_eq_false fun z=>nomatch z).symm
   | str i=>obtain ⟨t',rfl⟩:=ry;exact Yf (SeqAt.EqAt.tuple_str i t' (show s.heap.IsTuple _ its.toArray from tp) hu0) (decide_eq_false fun z=>nomatch z).symm
   | @tupI _ b ys us sq' pm' =>
    cases ry
    by_cases hab:a=b
    ·subst hab
     rw [Im.inj I (Im.tupI sq pm) (Im.tupI sq' pm'),decide_eq_true rfl]
     exact SeqAt.EqAt.same _
    ·exact SeqAt.EqAt.of_refs hab (Im.tuple_rc I ih1 hu0 sq pm.toP sq' pm'.toP).1
   | lstI sq' pm' =>
    cases ry
    obtain ⟨its',rv',tp',_⟩:=I.list sq'
    exact Yf (SeqAt.EqAt.tuple_list (show s.heap.IsTuple _ its.toArray from tp) tp'.isList hu0) (decide_eq_false fun z=>nomatch z).symm
  | @lstI _ a xs ts sq pm =>
   cases rx
   obtain ⟨its,rv,tp,_⟩:=I.list sq
   cases h' with
   | non=>cases ry;exact Yf (SeqAt.EqAt.list_none tp.isList hu0) (decide_eq_false fun z=>nomatch z).symm
   | int i=>obtain ⟨t',rfl⟩:=ry;exact Yf (SeqAt.EqAt.list_int i t' tp.isList hu0) (decide_eq_false fun z=>nomatch z).symm
   | str i=>obtain ⟨t',rfl⟩:=ry;exact Yf (SeqAt.EqAt.list_str i t' tp.isList hu0) (decide_eq_false fun z=>nomatch z).symm
   | tupI sq' pm' =>
    cases ry
    obtain ⟨its',rv',tp',_⟩:=I.tuple sq'
    exact Yf (SeqAt.EqAt.list_tuple tp.isList (show s.heap.IsTuple _ its'.toArray from tp') hu0) (decide_eq_false fun z=>nomatch z).symm
   | @lstI _ b ys us sq' pm' =>
    cases ry
    by_cases hab:a=b
    ·subst hab
     rw [Im.inj I (Im.lstI sq pm) (Im.lstI sq' pm'),decide_eq_true rfl]
     exact SeqAt.EqAt.same _
    ·exact SeqAt.EqAt.of_refs hab (Im.list_rc I ih1 hu0 sq pm.toP sq' pm'.toP).1
  | non =>
   cases rx
   cases h' with
   | non=>cases ry;exact Yf (SeqAt.EqAt.same _) (decide_eq_true rfl).symm
   | int i=>obtain ⟨t',rfl⟩:=ry;exact Yf (SeqAt.EqAt.none_int i t') (decide_eq_false fun z=>nomatch z).symm
   | str i=>obtain ⟨t',rfl⟩:=ry;exact Yf (SeqAt.EqAt.none_str i t') (decide_eq_false fun z=>nomatch z).symm
   | tupI sq' pm'=>cases ry;obtain ⟨its',_,tp',_⟩:=I.tuple sq';exact Yf (SeqAt.EqAt.none_tuple (show s.heap.IsTuple _ its'.toArray from tp') hu0) (decide_eq_false fun z=>nomatch z).symm
   | lstI sq' pm'=>cases ry;obtain ⟨its',_,tp',_⟩:=I.list sq';exact Yf (SeqAt.EqAt.none_list tp'.isList hu0) (decide_eq_false fun z=>nomatch z).symm
  | int j =>
   cases h' with
   | tupI sq' pm'=>obtain ⟨t',rfl⟩:=rx;cases ry;obtain ⟨its',_,tp',_⟩:=I.tuple sq';exact Yf (SeqAt.EqAt.int_tuple j t' (show s.heap.IsTuple _ its'.toArray from tp') hu0) (decide_eq_false fun z=>nomatch z).symm
   | lstI sq' pm'=>obtain ⟨t',rfl⟩:=rx;cases ry;obtain ⟨its',_,tp',_⟩:=I.list sq';exact Yf (SeqAt.EqAt.int_list j t' tp'.isList hu0) (decide_eq_false fun z=>nomatch z).symm
   | _=>exact Yf (Zh2 rx ry rfl rfl) (by rw [Bool.eq_iff_iff];simp [eqV])
  | str j =>
   cases h' with
   | tupI sq' pm'=>obtain ⟨t',rfl⟩:=rx;cases ry;obtain ⟨its',_,tp',_⟩:=I.tuple sq';exact Yf (SeqAt.EqAt.str_tuple j t' (show s.heap.IsTuple _ its'.toArray from tp') hu0) (decide_eq_false fun z=>nomatch z).symm
   | lstI sq' pm'=>obtain ⟨t',rfl⟩:=rx;cases ry;obtain ⟨its',_,tp',_⟩:=I.list sq';exact Yf (SeqAt.EqAt.str_list j t' tp'.isList hu0) (decide_eq_false fun z=>nomatch z).symm
   | _=>exact Yf (Zh2 rx ry rfl rfl) (by rw [Bool.eq_iff_iff];simp [eqV])
end
def Zu6(K:Frag)(neg:Bool):R2:=fun x y H Q=>∃n t u,n<=60/\((∃ts us,t=Tr.tup ts/\u=Tr.tup us)\/∃ts us,t=Tr.lst ts/\u=Tr.lst us)/\Im K H n t x/\Im K H n u y/\Q (.bl (if neg then !decide (t=u) else decide (t=u))) H
theorem Zx6{X:Cx}(hu:X.A.units+64<cLine):OpR X (compareOp .Eq) (Zu6 X.K false):=by
 intro pins s σ H x y v u Q I rx ry h
 obtain ⟨n,t,t',hn,hk,h1,h2,q⟩:=h
 rcases hk with ⟨ts,us,rfl,rfl⟩|⟨ts,us,rfl,rfl⟩
 ·cases h1 with
  | tupI sq pm =>
   cases h2 with
   | tupI sq' pm' =>
    cases rx
    cases ry
    exact (Im.tuple_rc (A:=X.A) I (fun z z' r r'=>Im.eqAt I _ _ z z' r r' (by rw [Wc];omega)) (by omega) sq pm.toP sq' pm'.toP).1 _ _ _ _ ⟨.bl _,H,I,rfl,q⟩
 ·cases h1 with
  | lstI sq pm =>
   cases h2 with
   | lstI sq' pm' =>
    cases rx
    cases ry
    exact (Im.list_rc (A:=X.A) I (fun z z' r r'=>Im.eqAt I _ _ z z' r r' (by rw [Wc];omega)) (by omega) sq pm.toP sq' pm'.toP).1 _ _ _ _ ⟨.bl _,H,I,rfl,q⟩
theorem Zxj{X:Cx}(hu:X.A.units+64<cLine):OpR X (compareOp .NotEq) (Zu6 X.K true):=by
 intro pins s σ H x y v u Q I rx ry h
 obtain ⟨n,t,t',hn,hk,h1,h2,q⟩:=h
 rcases hk with ⟨ts,us,rfl,rfl⟩|⟨ts,us,rfl,rfl⟩
 ·cases h1 with
  | tupI sq pm =>
   cases h2 with
   | tupI sq' pm' =>
    cases rx
    cases ry
    exact (Im.tuple_rc (A:=X.A) I (fun z z' r r'=>Im.eqAt I _ _ z z' r r' (by rw [Wc];omega)) (by omega) sq pm.toP sq' pm'.toP).2 _ _ _ _ ⟨.bl _,H,I,rfl,q⟩
 ·cases h1 with
  | lstI sq pm =>
   cases h2 with
   | lstI sq' pm' =>
    cases rx
    cases ry
    exact (Im.list_rc (A:=X.A) I (fun z z' r r'=>Im.eqAt I _ _ z z' r r' (by rw [Wc];omega)) (by omega) sq pm.toP sq' pm'.toP).2 _ _ _ _ ⟨.bl _,H,I,rfl,q⟩
def Zrr(t:TA):TE:=fun σ H Q=>t σ H fun xs H1=>xs.length<=sizeLine/\∀p H',Same H1 H'->H1 p=none->H' p=some (.tup xs)->Q (.ref p) H'
def Zy1(t:TA):TE:=fun σ H Q=>t σ H fun xs H1=>xs.length<=sizeLine/\∀p H',Same H1 H'->H1 p=none->H' p=some (.lst xs)->Q (.ref p) H'
theorem Zg{X:Cx}{es:List Expr}{t:TA}{pos:Pos}{x1}(h:PA X es t):PE X (.Tuple es x1 pos) (Zrr t):=by
 intro pins s σ H Q I hq
 refine wpAny_Tuple_spliced (thn (h pos pins s σ H _ I hq) fun us s1 ⟨xs,H1,I1,r,z,q⟩=>⟨by rw [<-r.length];exact z,?_⟩)
 have hf:H1 s1.heap.objs.size=none:=I1.hok.fresh (Nat.le_refl _)
 refine ⟨.ref s1.heap.objs.size,upd H1 s1.heap.objs.size (.tup xs),I1.laid (t':=s1.toks) (fun b u e=>Heap.get?_push_of_some _ e) (Nat.le_refl _) ?_,rfl,q _ _ (Same.new hf) hf Zh⟩
 exact ⟨z,us,r,⟨_,Heap.get?_push_size _ rfl,rfl,_,rfl⟩⟩
theorem Zl{X:Cx}{es:List Expr}{t:TA}{pos:Pos}(h:PA X es t):PE X (.List es pos) (Zy1 t):=by
 intro pins s σ H Q I hq
 refine wpAny_List_spliced (thn (h pos pins s σ H _ I hq) fun us s1 ⟨xs,H1,I1,r,z,q⟩=>⟨by rw [<-r.length];exact z,?_⟩)
 have hf:H1 s1.heap.objs.size=none:=I1.hok.fresh (Nat.le_refl _)
 refine ⟨.ref s1.heap.objs.size,upd H1 s1.heap.objs.size (.lst xs),I1.laid (t':=s1.toks) (fun b u e=>Heap.get?_push_of_some _ e) (Nat.le_refl _) ?_,rfl,q _ _ (Same.new hf) hf Zh⟩
 exact ⟨z,us,0,r,Heap.get?_push_size _ rfl⟩
theorem OpR.imp{X:Cx}{f:Value->Value->Sem Value}{r r':R2}(h:OpR X f r)(g:∀x y H Q,r' x y H Q->r x y H Q):OpR X f r':=fun pins s σ H x y v u Q I rx ry q=>h pins s σ H x y v u Q I rx ry (g _ _ _ _ q)
theorem SlR.imp{X:Cx}{r r':V->Option Int->Option Int->Hp->VK->Prop}(h:SlR X r)(g:∀x l u H Q,r' x l u H Q->r x l u H Q):SlR X r':=fun pins s σ H x v vl vu lo hi sl Q I rx hs pl pu q=>h pins s σ H x v vl vu lo hi sl Q I rx hs pl pu (g _ _ _ _ _ q)
def New(H:Hp)(o:HO)(Q:VK):Prop:=∀p H',Same H H'->H p=none->H' p=some o->Q (.ref p) H'
theorem New.at{H:Hp}{o:HO}{Q:VK}(h:New H o Q)(p:Addr)(hp:H p=none):Q (.ref p) (upd H p o):=h p _ (Same.new hp) hp Zh
def Zv9:R2:=fun x y H Q=>∃l b xs zs,x=.ref l/\y=.ref b/\H l=some (.lst xs)/\H b=some (.lst zs)/\xs.length+zs.length<=sizeLine/\New H (.lst (xs++zs)) Q
theorem Zvm{X:Cx}:OpR X (binaryOp .Add) Zv9:=Zxk.imp fun x y H Q ⟨l,b,xs,zs,h1,h2,h3,h4,h5,h6⟩=>⟨l,b,xs,zs,h1,h2,h3,h4,h5,fun p hp=>h6.at p hp⟩
def Zv8(K:Frag):V->Option Int->Option Int->Hp->VK->Prop:=fun x lo hi H Q=>∃a xs,x=.ref a/\SqT K H a xs/\¬(HT.sIx xs.length 0 lo=0/\HT.sIx xs.length xs.length hi=xs.length)/\New H (.tup (Zft xs lo hi)) Q
theorem Zt1{X:Cx}:SlR X (Zv8 X.K):=Zxr.imp fun x l u H Q ⟨a,xs,h1,h2,h3,h4⟩=>⟨a,xs,h1,h2,h3,fun p hp=>h4.at p hp⟩
def Zwk(K:Frag):V->Option Int->Option Int->Hp->VK->Prop:=fun x lo hi H Q=>∃a xs,x=.ref a/\SqL K H a xs/\New H (.lst (Zft xs lo hi)) Q
theorem Zr7{X:Cx}:SlR X (Zwk X.K):=Zua.imp fun x l u H Q ⟨a,xs,h1,h2,h4⟩=>⟨a,xs,h1,h2,fun p hp=>h4.at p hp⟩
theorem Zch{X:Cx}{CX:CXT}{k:Nat}{f C:Addr}{fd:FuncData}{ps:List Str}{sp:Sp}{dvs:List V}{ds:List Value}{E:XK}{x:Str}{p pos:Pos}{e:Expr}{es:List Expr}{t:TA}(mr:List V->Hp->VK->Prop)(M:Mk X.K C f)
  (F:Zz X.prog X.w X.K X.mg X.base CX k f fd ps sp) (hr:W6 (k+1) X.A) (hg:Gl X x) (hm:X.mg x=some (.ref C)) (hb:Zbx X.K fd ps ds) (hd:Yc dvs ds) (hx:Zec CX X E)
  (hmr:∀vs H Q,mr vs H Q->∀x dx,H x=none->H dx=none->dx≠x->sp (.ref x ::(vs++dvs)) (upd (upd H dx (.own x)) x (.ins C dx [])) (fun v H2=>v=.non/\Q (.ref x) H2) E)
  (ha:PA X (e ::es) t) (hdb:(x ==("__debug__" :Str))=false:=by decide) (he:starEach (e ::es) X.env=(false,eval e X.env) ::starEach es X.env:=by rfl) (hpl:(backTo pos (starEach es X.env)).any (·.1)=false:=by rfl) :
  PE X (.Call (.Name x p) (e ::es) [] pos) (tCB mr t):=by
 intro pins s σ H Q I h
 refine wpAny_Call_Name_kw (Zl0 I hg hm ?_ hdb)
 refine PySem.W.callWith_K (h₀:=X.base) I.ok.mod.kin M.kp (thn (ha pos pins s σ H _ I h) fun us s1 ⟨vs,H1,I1,r,q⟩=>⟨I1.kIn,?_⟩) he hpl
 exact Zsf M F hr hb hd hx I1 r (hmr vs H1 Q q)
section
variable {X:Cx} {k:Nat}
theorem Zxp(hu:X.A.units+1<cLine):OpR X (compareOp .In) (fun y x H Q=>∃a o,x=.ref a/\W9 H a y o/\Q (.bl o.isSome) H):=by
 intro pins s σ H y x v u Q I ry rx h
 obtain ⟨a,ov,rfl,g,q⟩:=h
 cases rx
 exact Zz3 hu I g ry fun s3 I3=>⟨.bl ov.isSome,H,I3,rfl,q⟩
theorem Zqi(hu:X.A.units+1<cLine):OpR X (compareOp .NotIn) (fun y x H Q=>∃a o,x=.ref a/\W9 H a y o/\Q (.bl (!o.isSome)) H):=by
 intro pins s σ H y x v u Q I ry rx h
 obtain ⟨a,ov,rfl,g,q⟩:=h
 cases rx
 exact Zu7 hu I g ry fun s3 I3=>⟨.bl (!ov.isSome),H,I3,rfl,q⟩
theorem Zaa:OpR X (binaryOp .Add) (fun x y H Q=>rI0 (fun i j=>.int (i+j)) x y H Q\/(∃i j,x=.str i/\y=.str j/\i.length+j.length<=sizeLine/\Q (.str (i++j)) H)\/Zv9 x y H Q):=Zx8.or (Zos.or Zvm)
end
theorem sz{n:Nat}(h:n<=1000):n<=sizeLine:=Nat.le_of_lt (Z1 h)
structure Zow(K:Frag)(x qual:Str)(st:Stmt)(dV:Value)(f:Addr)(fd:FuncData):Prop where
 ex:∃(oc:Value) (od:Option Addr) (kV doc pm:Value) (an:Option Addr) (cdv ct:Value) (osl:Array (Option Value)),
  fd=fnOf x qual (Zn st) (Zm st) (Zd st) dV kV doc pm an cdv ct/\K.lookup f=some ⟨oc,od,.func fd,osl⟩/\codeIn K cdv qual=true
 kp:keepIn K (.ref f)=true
section
variable {P:Program} {w:World} {K:Frag} {mg:Str->Option Value} {base:Heap}
theorem Zow.ok{x qual:Str}{st:Stmt}{dV:Value}{f:Addr}{fd:FuncData}{N ps:List Str}{k:Nat}{sp:Sp}(F:Zow K x qual st dV f fd)(S:Zo N ps (Zd st))(len:∀vs H Q E,sp vs H Q E->vs.length=ps.length)
  (hbody:∀(cdv:Value) (A:Around) (outer:List Env) (s:Shared) (H:Hp) (vs:List V) (Q:VK) (E:XK),W6 k (A.deeper (envOfC qual (Zd st) s.heap.objs.size f cdv))->sp vs H Q E ->
   WSs (Zlt CX0 P w K mg base N qual (Zd st) f cdv A outer s H E).nox (Zm st) { nx:=fun _ H'=>Q .non H',rt:=Q } (start N vs) H):Zz P w K mg base CX0 (k+1) f fd ps sp:=by
 obtain ⟨oc,od,kV,doc,pm,an,cdv,ct,osl,rfl,lk,hcd⟩:=F.ex
 refine Zwb lk hcd S len fun A outer s H vs Q E hr hsp=>?_
 exact ⟨_,PSs.nox Zy,hbody cdv A outer s H vs Q E hr hsp⟩
theorem Fun.okW{x qual:Str}{st:Stmt}{f:Addr}{fd:FuncData}{N ps:List Str}{k:Nat}{sp:Sp}(F:Fun K x qual st f fd)(S:Zo N ps (Zd st))
  (hbody:∀(cdv:Value) (A:Around) (outer:List Env) (s:Shared) (H:Hp) (vs:List V) (Q:VK) (E:XK),W6 k (A.deeper (envOfC qual (Zd st) s.heap.objs.size f cdv))->sp vs H Q E ->
   WSs (Zlt CX0 P w K mg base N qual (Zd st) f cdv A outer s H E).nox (Zm st) { nx:=fun _ H'=>Q .non H',rt:=Q } (start N vs) H) (len:∀vs H Q E,sp vs H Q E->vs.length=ps.length:=by rintro _ _ _ _ h;repeat (first|(obtain ⟨e,_⟩:=h;subst e;rfl)|obtain ⟨_,h⟩:=h)):Zz P w K mg base CX0 (k+1) f fd ps sp :=
 F.ok S len fun cdv A outer s H vs Q E hr h=>⟨_,Zy,hbody cdv A outer s H vs Q E hr h⟩
theorem Zpx{x qual:Str}{st:Stmt}{f:Addr}{oc dV:Value}{od an:Option Addr}{osl:Array (Option Value)}{kV doc pm cdv ct:Value}(l:K.lookup f=some ⟨oc,od,.func (fnOf x qual (Zn st) (Zm st) (Zd st) dV kV doc pm an cdv ct),osl⟩)
  (c:codeIn K cdv qual=true) (k:keepIn K (.ref f)=true):Zow K x qual st dV f (fnOf x qual (Zn st) (Zm st) (Zd st) dV kV doc pm an cdv ct):=⟨⟨oc,od,kV,doc,pm,an,cdv,ct,osl,rfl,l,c⟩,k⟩
end
structure Dn(K:Frag)(x qual:Str)(st:Stmt)(ps:List Str) where
 f:Addr
 fd:FuncData
 F:Fun K x qual st f fd
 b:Zbx K fd ps []
theorem Zhu{α:Type}{l:List α}{i:Nat}{a:α}(h:l[i]? =some a):l.drop i=a ::l.drop (i+1):=by
 have hi:i<l.length:=by
  rcases Nat.lt_or_ge i l.length with z|z
  ·exact z
  ·rw [List.getElem?_eq_none z] at h;cases h
 rw [List.drop_eq_getElem_cons hi]
 rw [List.getElem?_eq_getElem hi] at h
 rw [Option.some.inj h]
theorem Zbc:∀l:List Str,(l.map V.str).all Zc8=true
 | []=>rfl
 | _ ::l=>by rw [List.map_cons,List.all_cons,Zbc l];rfl
theorem Zau(x:Str):∀l:List Str,inV (.str x) (l.map V.str)=decide (x∈l)
 | []=>by simp [inV]
 | y ::l=>by
  have ih:=Zau x l
  unfold inV at ih ⊢
  rw [List.map_cons,List.any_cons,ih,Bool.eq_iff_iff]
  simp only [eqV,Bool.or_eq_true,beq_iff_eq,decide_eq_true_eq,List.mem_cons]
  constructor
  ·rintro (h|h)
   ·exact .inl h.symm
   ·exact .inr h
  ·rintro (h|h)
   ·exact .inl h.symm
   ·exact .inr h
end L2
end
section
namespace NM
def tA:List Int:=[0,1035609595,1591546621,1776858963,1869515134,207121919,1962171305,454727606,934757567,592286321,1177302783,484597899,2054827476,1896763824,227363803,784868522,1541120607,2082079291,1369884984,958709409,1662393215,867403751,1316040773,418501921,1027413738,1329914572,948381912,913256656,1187423725,1664836201,392434261,1903795744,1844302127,161532633,2114781469,949938980,684942492,1304871617,1553096528,632254608,1904938431,1177567069,1507443699,923030587,1731762210,977450723,1282992784,1986753328,513706869,985311221,664957286,2125682195,474190956,1235096585,456628328,1385409768,1667453686,319569803,1906159924,17552705,1269958954,1073116705,951897872,1004962466]
def tB:List Int:=[0,1073741815,1610612722,1789569691,805306361,214748363,1968526660,766958439,1476394995,2028178983,1181115996,1268967599,984263330,412977621,1457221034,787410664,1811939312,1831677213,2087831306,1412818177,590557998,255652813,1708225614,1820692642,492131665,1331439850,1280230625,676059661,728610517,1369946453,393705332,381005160,905969656,1138817076,1989580421,1871378591,1043915653,1421982403,1780150903,137659207,295278999,1126119464,1201568221,1173624774,854112807,1694125974,910346321,525448122,1319807647,1029915618,665719925,610559071,1713857127,1600483082,1411771645,1971780423,1438047073,1902595145,1758715041,1401324063,196852666,1637016209,190502580,1516873357]
end NM
namespace NM
open PySem L2
def Zfb:List Nat:=[97,98,99,100,101,102,103,104,105,106,107,108,109,110,111,112,113,114,115,116,117,118,119,120,121,122]
theorem Zl2:("abcdefghijklmnopqrstuvwxyz" :Str).cps.toList=Zfb:=by trivial
theorem Zg4:("abcdefghijklmnopqrstuvwxyz" :Str).length=26:=by trivial
def uniq(f:Nat->Str):Nat->List Str
 | 0=>[]
 | n+1=>if f n∈uniq f n then uniq f n else uniq f n++[f n]
end NM
end
section
namespace L2
open PySem PySem.Spec PyProof.Rows
def Zy4:HO->Bool
 | .dK _=>true
 | .dT _=>true
 | _=>false
section
variable {X:Cx} {pins:List (Addr×Obj)} {σ:St} {H:Hp} {s:Shared} {d:Addr} {o:Obj} {u:HO}
theorem HOk.retold{P:Program}{w:World}{h:Heap}{v v':HO}(x:HOk P w H h)(hd:H d=some v)(no:∀y,v ≠ .own y)(nt:∀xs,v ≠ .tup xs)(nz:∀o y,v ≠ .frz o (.own y))(new:Yn P w (upd H d v') h d v'):HOk P w (upd H d v') h:=fun b q e=>by
 by_cases hb:b=d
 ·subst hb;rw [Zh] at e;cases e;exact new
 ·rw [Zi hb] at e
  refine (x b q e).stay (fun _ _ _ z=>z) (fun c z=>?_) (fun c xs z=>?_) (fun c ob z=>?_)
  ·rw [Zi (fun y=>by subst y;rw [hd] at z;exact no _ (Option.some.inj z))];exact z
  ·rw [Zi (fun y=>by subst y;rw [hd] at z;exact nt _ (Option.some.inj z))];exact z
  ·rw [Zi (fun y=>by subst y;rw [hd] at z;exact nz _ _ (Option.some.inj z))];exact z
theorem Ze8{P:Program}{w:World}{h:Heap}{v v' u:HO}(hd:H d=some v)(no:∀y,v ≠ .own y)(nt:∀xs,v ≠ .tup xs)(nz:∀o y,v ≠ .frz o (.own y))(x:Yn P w H h d u):Yn P w (upd H d v') h d u :=
 x.stay (fun _ _ _ z=>z) (fun c z=>by rw [Zi (fun y=>by subst y;rw [hd] at z;exact no _ (Option.some.inj z))];exact z) (fun c xs z=>by rw [Zi (fun y=>by subst y;rw [hd] at z;exact nt _ (Option.some.inj z))];exact z) (fun c ob z=>by rw [Zi (fun y=>by subst y;rw [hd] at z;exact nz _ _ (Option.some.inj z))];exact z)
theorem Inv.retell{v':HO}{v:HO}(I:Inv X pins σ H s)(hd:H d=some v)(no:∀y,v ≠ .own y)(nt:∀xs,v ≠ .tup xs)(nz:∀o y,v ≠ .frz o (.own y))(nb:∀ps,v ≠ .tbl ps)(nf:∀o u,X.H₀ d≠some (.frz o u))(new:Yn X.prog X.w (upd H d v') s.heap d v') :
  Inv X pins σ (upd H d v') s:=by
 have nd:∀b,H b=none->b≠d:=fun b n z=>by subst z;rw [n] at hd;cases hd
 refine ⟨I.ok,I.os,I.bare,?_,I.loc,I.cell,?_,fun x c e=>?_,fun p hp=>?_,I.hok.retold hd no nt nz new,I.len⟩
 ·have b:=I.base
  refine ⟨b.keep,b.slot,fun c q e n hx=>?_,b.there,fun c xs e=>?_,fun c ob q e=>?_,fun c ps e=>?_⟩
  ·have z:=b.free c q e n hx
   rw [Zi (nd c z)];exact z
  ·have z:=b.tups c xs e
   rw [Zi (fun y=>by subst y;rw [hd] at z;exact nt _ (Option.some.inj z))];exact z
  ·have z:=b.frzs c ob q e
   rw [Zi (fun y=>by subst y;exact nf _ _ e)];exact z
  ·obtain ⟨m,z⟩:=b.tbls c ps e
   exact ⟨m,by rw [Zi (fun y=>by subst y;rw [hd] at z;exact nb _ (Option.some.inj z))];exact z⟩
 ·rw [Zi (nd _ I.free)];exact I.free
 ·rw [Zi (nd _ (I.freeC x c e))];exact I.freeC x c e
 ·obtain ⟨p1,p2,p3⟩:=I.pin p hp
  exact ⟨p1,by rw [Zi (nd _ p2)];exact p2,p3⟩
theorem Inv.notFrz(I:Inv X pins σ H s){v:HO}(hd:H d=some v)(n:∀o u,v ≠ .frz o u):∀o u,X.H₀ d≠some (.frz o u):=fun o u z=>by
 have:=I.base.frzs d o u z
 rw [hd] at this
 exact n _ _ (Option.some.inj this)
theorem Inv.freeze(I:Inv X pins σ H s)(hd:H d=some u)(hu:Zy4 u=true)(ho:s.heap.get? d=some o):Inv X pins σ (upd H d (.frz o u)) s:=by
 have n1:∀y,u ≠ .own y:=fun y z=>by subst z;cases hu
 have n2:∀xs,u ≠ .tup xs:=fun y z=>by subst z;cases hu
 have n3:∀o y,u ≠ .frz o (.own y):=fun o y z=>by subst z;cases hu
 refine I.retell hd n1 n2 n3 (fun y z=>by subst z;cases hu) (I.notFrz hd fun _ _ z=>by subst z;cases hu) ⟨ho,Ze8 hd n1 n2 n3 (I.hok d u hd)⟩
theorem Inv.thaw(I:Inv X pins σ H s)(hd:H d=some (.frz o u))(nf:∀o u,X.H₀ d≠some (.frz o u))(nu:∀y,u ≠ .own y:=by exact fun _ z=>nomatch z):Inv X pins σ (upd H d u) s:=by
 obtain ⟨_,q⟩:=I.hok d _ hd
 have n3:∀o' y,HO.frz o u ≠ .frz o' (.own y):=fun o' y z=>nu y (HO.frz.inj z).2
 exact I.retell hd (fun _ z=>nomatch z) (fun _ z=>nomatch z) n3 (fun _ z=>nomatch z) nf (Ze8 hd (fun _ z=>nomatch z) (fun _ z=>nomatch z) n3 q)
end
theorem Same.thaw{H H':Hp}{d:Addr}{o:Obj}{u:HO}(hd:H d=some u)(h:Same (upd H d (.frz o u)) H'):Same H (upd H' d u):=fun b q e=>by
 by_cases hb:b=d
 ·subst hb;rw [hd] at e;cases e;exact Zh
 ·rw [Zi hb];exact h b q (by rw [Zi hb];exact e)
def Itd(d:Addr)(o:Obj)(kvs:List (Key×V)):It :=
 ⟨fun i H=>H d=some (.frz o (.dK kvs))/\i<kvs.length,fun i H x H'=>H'=H/\∃kv,kvs[i]? =some kv/\x=kV kv.1,fun i H=>H d=some (.frz o (.dK kvs))/\kvs.length<=i⟩
theorem Zwh{P:Program}{w:World}{k:Key}{u:Value}(h:(Ye P w).is k u=true):Yk (kV k) u:=by
 rcases Y8 (show Zhk k u=true from h) with ⟨i,t,rfl,rfl⟩|⟨x,t,rfl,rfl⟩
 ·exact ⟨t,rfl⟩
 ·exact ⟨t,rfl⟩
theorem KV.get{kvs:List (Key×V)}{vs:List (Key×Value)}{i:Nat}{kv:Key×V}(r:KV kvs vs)(h:kvs[i]? =some kv):∃u,vs[i]? =some (kv.1,u)/\Yk kv.2 u:=by
 obtain ⟨q,h1,h2,h3⟩:=Paired.get r h
 exact ⟨q.2,by rw [h1,h2],h3⟩
theorem Zqq{P:Program}{w:World}{K:Frag}{tg:Expr}{d:Addr}{o:Obj}{kvs:List (Key×V)}{vs:List (Key×Value)}{ep:Nat}(it:Addr)(hk:KV kvs vs)
  (hD:∀h:Heap,h.get? d=some o->h.DictAt (Ye P w) d vs ep):Zms P w K tg (Itd d o kvs) [it] it (fun i h=>h.IsKeyIter it d i vs.length ep) where
 mem:=by simp
 obj:=fun i h st b hb=>by
  have e:b=it:=by simpa using hb
  subst e
  obtain ⟨ob,e,c,dd⟩:=st
  exact ⟨ob,e,fun v z=>by rw [dd] at z;cases z⟩
 keep:=fun i h h' st k=>st.at fun ob e=>k it (by simp) ob e
 item:=by
  intro X hP hw hK hc i pins s σ H E I hf st hg
  subst hP hw hK
  obtain ⟨hq,hlt⟩:=hg
  obtain ⟨f0,f1,f2,f3,f4,f5⟩:=hf it (by simp)
  have hdo:s.heap.get? d=some o:=(I.hok d _ hq).1
  obtain ⟨u,hu,_⟩:=hk.get (i:=i) (kv:=kvs[i]) (by simp [hlt])
  refine wpAny_pyNext_dict_item (knd:=Ye X.prog X.w) st (hD _ hdo) hu fun key h' hkey st' sb=>?_
  have I1:Inv X pins σ H { s with heap:=h' }:=I.turned (t':=s.toks) (fun b o hb e=>(sb.2 b hb).trans e) f0 f1 f3 f4 f5
  obtain ⟨ob,e,c,dd⟩:=id st'
  exact ⟨key,rfl,Zm3 (s:={ s with heap:=h' }) e c dd (by decide) ⟨kV kvs[i].1,H,I1,Zwh hkey,⟨rfl,kvs[i],by simp [hlt],rfl⟩,st',fun b hb=>(hf b hb).1⟩⟩
 done:=by
  intro X hP hw hK hc i pins s σ H E I hf st hg
  subst hP hw hK
  obtain ⟨hq,hle⟩:=hg
  obtain ⟨f0,f1,f2,f3,f4,f5⟩:=hf it (by simp)
  have hdo:s.heap.get? d=some o:=(I.hok d _ hq).1
  have hl:=KV.length hk
  exact wpAny_pyNext_dict_end (knd:=Ye X.prog X.w) (I.ok.hd hc) st (hD _ hdo) (List.getElem?_eq_none (by omega)) fun h' eb=>⟨rfl,I.turned (t':=s.toks) (fun b o hb e=>eb b o hb e) f0 f1 f3 f4 f5⟩
 self:=fun _ _ _ _ _ st h=>wpAny_pyIter_keyiter st h
def NF(X:Cx)(d:Addr)(u:HO):Prop:=(∀o u,X.H₀ d≠some (.frz o u))/\∀y,u ≠ .own y
def Zel(X:Cx)(Q:Hp->Prop)(H:Hp):Prop:=∃d o u,H d=some (.frz o u)/\NF X d u/\Q (upd H d u)
theorem Zel.run{X:Cx}{pins:List (Addr×Obj)}{σ:St}{H:Hp}{s:Shared}{Q:Hp->Prop}(I:Inv X pins σ H s)(h:Zel X Q H):∃H',Inv X pins σ H' s/\Q H':=by
 obtain ⟨d,o,u,hd,nf,q⟩:=h
 exact ⟨_,I.thaw hd nf.1 nf.2,q⟩
def Zzp(X:Cx)(tl:TE):TI:=fun σ H R=>tl σ H fun x H1=>∃d kvs,x=.ref d/\H1 d=some (.dK kvs)/\∀o,NF X d (.dK kvs)->R (Itd d o kvs) (upd H1 d (.frz o (.dK kvs)))
theorem Zfq{P:Program}{w:World}{h:Heap}{d:Addr}{o:Obj}{vs:List (Key×Value)}(x:h.DictOf (Ye P w) d vs)(ho:h.get? d=some o):∃ep,∀h':Heap,h'.get? d=some o->h'.DictAt (Ye P w) d vs ep:=by
 obtain ⟨o',es,ep,e,r⟩:=x
 rw [ho] at e
 cases e
 exact ⟨ep,fun h' e'=>⟨o,es,e',r⟩⟩
theorem Zzu{X:Cx}{tg l:Expr}{tl:TE}(hl:PE X l tl):PI X tg l (Zzp X tl):=by
 intro pins s σ H R I h
 refine thn (hl pins s σ H _ I h) fun v s1 ⟨y,H1,I1,r1,q1⟩=>?_
 obtain ⟨d,kvs,rfl,hd,q⟩:=q1
 cases r1
 obtain ⟨hz,hs,vs,kv,dd⟩:=Zp1 I1.hok hd
 obtain ⟨o,_,_,ho,_⟩:=id dd
 obtain ⟨ep,hD⟩:=Zfq dd ho
 have I2:=I1.freeze hd rfl ho
 refine wpAny_pyIter_dict (knd:=Ye X.prog X.w) hs (hD _ ho) ?_
 have I3:Inv X pins σ (upd H1 d (.frz o (.dK kvs))) { s1 with heap:=s1.heap.push { cls:=.type "dict_keyiterator",data:=.fields #[.ref d,.int 0 0,.int vs.length 0,.int ep 0] } }:=I2.kept (t':=s1.toks) fun b o e=>Heap.get?_push_of_some _ e
 refine ⟨s1.heap.objs.size,[s1.heap.objs.size],_,_,_,rfl,I3,Zqq _ kv hD,⟨_,Heap.get?_push_size _ rfl,rfl,rfl⟩,fun b hb=>?_,q o ⟨I1.notFrz hd (fun _ _ z=>nomatch z),fun _ z=>nomatch z⟩⟩
 have e:b=s1.heap.objs.size:=by simpa using hb
 subst e
 exact I2.fpOk (Nat.le_refl _) (I2.hok.fresh (Nat.le_refl _))
def Zyf(X:Cx)(t:TS):TS:=fun D σ H=>t { nx:=fun σ'=>Zel X (D.nx σ'),rt:=fun v=>Zel X (D.rt v),bk:=fun σ'=>Zel X (D.bk σ'),ct:=fun σ'=>Zel X (D.ct σ') } σ H
theorem Zvw{X:Cx}{st:Stmt}{t:TS}(h:PS X st t):PS X st (Zyf X t):=by
 intro pins s σ H D I hq
 refine thn (h pins s σ H _ I hq) fun f s' z=>?_
 cases f with
 | next=>obtain ⟨σ',H',I',q⟩:=z;obtain ⟨H2,I2,q2⟩:=q.run I';exact ⟨σ',H2,I2,q2⟩
 | brk=>obtain ⟨σ',H',I',q⟩:=z;obtain ⟨H2,I2,q2⟩:=q.run I';exact ⟨σ',H2,I2,q2⟩
 | cont=>obtain ⟨σ',H',I',q⟩:=z;obtain ⟨H2,I2,q2⟩:=q.run I';exact ⟨σ',H2,I2,q2⟩
 | ret u=>obtain ⟨v,σ',H',I',r,q⟩:=z;obtain ⟨H2,I2,q2⟩:=q.run I';exact ⟨v,σ',H2,I2,r,q2⟩
def Zxm(X:Cx)(t:TE):TE:=fun σ H Q=>t σ H fun v=>Zel X (Q v)
theorem Zue{X:Cx}{e:Expr}{t:TE}(h:PE X e t):PE X e (Zxm X t):=by
 intro pins s σ H Q I hq
 refine thn (h pins s σ H _ I hq) fun u s' ⟨v,H',I',r,q⟩=>?_
 obtain ⟨H2,I2,q2⟩:=q.run I'
 exact ⟨v,H2,I2,r,q2⟩
theorem Zzm{d:Addr}{o:Obj}{kvs:List (Key×V)}{g:TG}{tb:TS}{D:Ze5}{σ:St}{H:Hp}(Pv:Nat->St->Hp->Prop)(h0:Pv 0 σ H)(hl:∀i σ H,i<=kvs.length->Pv i σ H->H d=some (.frz o (.dK kvs)))
  (hs:∀i kv σ H,kvs[i]? =some kv->Pv i σ H->g (kV kv.1) σ H fun σ2 H2=>tb { D with nx:=Pv (i+1),ct:=Pv (i+1),bk:=D.nx } σ2 H2) (hd:∀σ H,Pv kvs.length σ H->D.nx σ H) :
  ∃W:Nat->Nat->St->Hp->Prop,(∃m,W 0 m σ H)/\∀i m σ H,W i m σ H ->
   ((Itd d o kvs).stop i H/\D.nx σ H)\/((Itd d o kvs).go i H/\∃N:St->Hp->Prop,(∀σ' H',N σ' H'->∃m',m'<m/\W (i+1) m' σ' H')/\∀x H',(Itd d o kvs).yld i H x H'->g x σ H' fun σ2 H2=>tb { D with nx:=N,ct:=N,bk:=D.nx } σ2 H2):=by
 refine ⟨fun i m σ H=>m=kvs.length-i/\i<=kvs.length/\Pv i σ H,⟨kvs.length,by simp,Nat.zero_le _,h0⟩,?_⟩
 rintro i m σ H ⟨rfl,hi,p⟩
 have q:=hl i σ H hi p
 by_cases hlt:i<kvs.length
 ·refine .inr ⟨⟨q,hlt⟩,Pv (i+1),fun σ' H' p'=>⟨kvs.length-(i+1),by omega,rfl,hlt,p'⟩,fun x H' y=>?_⟩
  obtain ⟨e,kv,hkv,ex⟩:=y
  subst e ex
  exact hs i kv σ _ hkv p
 ·have e:i=kvs.length:=by omega
  subst e
  exact .inl ⟨⟨q,Nat.le_refl _⟩,hd σ H p⟩
section
variable {X:Cx} {pins:List (Addr×Obj)} {σ:St} {H:Hp} {s:Shared}
theorem Inv.turnedNew{ch:List Addr}{o:HO}{h':Heap}{t':Nat}(I:Inv X pins σ H s)(hf:∀b∈ch,Zgn X pins H b)(k:∀b u,b∉ch->s.heap.get? b=some u->h'.get? b=some u)
  (new:Yn X.prog X.w (upd H s.heap.objs.size o) h' s.heap.objs.size o):Inv X pins σ (upd H s.heap.objs.size o) { s with heap:=h',toks:=t' }:=by
 have hn:H s.heap.objs.size=none:=I.fresh
 have old:∀b u,s.heap.get? b=some u->b≠s.heap.objs.size:=fun b u e=>Nat.ne_of_lt (Heap.lt_size e)
 have trk:∀b u,H b=some u->b∉ch:=fun b u e z=>by rw [(hf b z).1] at e;cases e
 refine I.step (g':=s.gens) (d':=s.drawn) (ch:=ch) (fun b hb=>?_) (fun b o _ _ hc e _=>k b o hc e) (fun b o _ _ hc e _=>⟨o.slots,k b o hc e⟩) (fun b o _ e n=>by rw [Zi (old b o e)];exact n)
  (fun b o hc e=>⟨o,k b o hc e⟩) (fun b xs e=>by rw [Zi (Zj e hn)];exact e) (fun b ob u e=>by rw [Zi (Zj e hn)];exact e) (fun b ps e=>⟨#[],by rw [Zi (Zj e hn),e];simp⟩) (fun m hm=>?_) (fun b u e=>?_) I.bare
 ·obtain ⟨f0,f1,f2,f3,f4,f5⟩:=hf b hb
  exact ⟨f3,f1,f4,f5⟩
 ·obtain ⟨ob,es,ep,ho,r⟩:=hm
  exact ⟨ob,es,ep,k _ ob (fun z=>(hf _ z).2.1 rfl) ho,r⟩
 ·by_cases hb:b=s.heap.objs.size
  ·subst hb;rw [Zh] at e;cases e;exact new
  ·rw [Zi hb] at e
   refine (I.hok b u e).stay (fun c v hc q=>k c v ?_ q) (fun c q=>by rw [Zi (Zj q hn)];exact q) fun c xs q=>by rw [Zi (Zj q hn)];exact q
   rcases hc with z|z
   ·rw [z];exact trk b u e
   ·exact trk c _ z
end
def Ite(K:Frag)(l:Addr):It :=
 ⟨fun i H=>∃xs x,SqL K H l xs/\xs[i]? =some x,fun i H x H'=>∃p y,x=.ref p/\H p=none/\H'=upd H p (.tup [.int (i:Nat),y])/\∀xs,SqL K H l xs->xs[i]? =some y,fun i H=>∃xs,SqL K H l xs/\xs.length<=i⟩
theorem Zqf{P:Program}{w:World}{K:Frag}{elts:List Expr}{x1:Nat}{pos:Pos}{l:Addr}(e it:Addr)(hne:e≠it) :
  Zms P w K (.Tuple elts x1 pos) (Ite K l) [e,it] e (fun i h=>(∃old,IsEnum h e it (i:Nat) old)/\h.IsListIter it l i) where
 mem:=by simp
 obj:=fun i h st b hb=>by
  obtain ⟨⟨old,he⟩,hi⟩:=st
  rcases List.mem_cons.mp hb with rfl|hb
  ·exact ⟨_,he,fun v z=>nomatch z⟩
  ·have q:b=it:=by simpa using hb
   subst q
   obtain ⟨o,e,c,d⟩:=hi
   exact ⟨o,e,fun v z=>by rw [d] at z;cases z⟩
 keep:=fun i h h' st k=>by
  obtain ⟨⟨old,he⟩,hi⟩:=st
  exact ⟨⟨old,k e (by simp) _ he⟩,hi.at fun o q=>k it (by simp) o q⟩
 item:=by
  intro X hP hw hK hc i pins s σ H E I hf st hg
  subst hP hw hK
  obtain ⟨⟨old,he⟩,hi⟩:=st
  obtain ⟨xs,x,hq,hx⟩:=hg
  obtain ⟨its,rv,p,hz⟩:=I.list hq
  obtain ⟨u,hu,ru⟩:=rv.get hx
  refine wpAny_pyNext_enum_item he hi p.isList (x:=u) (by simpa using hu) hne fun h' ho hi' ht hsz kk=>?_
  refine ⟨_,rfl,wpAny_letOwnedTupleGo_enum ho fun h2 he2 sb=>?_⟩
  have hel:e<s.heap.objs.size:=Heap.lt_size he
  have hil:it<s.heap.objs.size:=let ⟨o,q,_⟩:=hi;Heap.lt_size q
  have k2:∀b v,b∉[e,it]->s.heap.get? b=some v->h2.get? b=some v:=fun b v hb q=>by
   have b1:b≠e:=fun z=>hb (by simp [z])
   have b2:b≠it:=fun z=>hb (by simp [z])
   exact (sb.2 b b1).trans (kk b v b1 b2 q)
  have htup:h2.get? s.heap.objs.size=some { cls:=.type "tuple",data:=.seq #[.int i s.toks,u] }:=(sb.2 _ (Nat.ne_of_gt hel)).trans ht
  have new:Yn X.prog X.w (upd H s.heap.objs.size (.tup [.int (i:Nat),x])) h2 s.heap.objs.size (.tup [.int (i:Nat),x]) :=
   ⟨sz (by simp),[.int i s.toks,u],.cons ⟨_,rfl⟩ (.cons ru .nil),⟨_,htup,rfl,_,rfl⟩⟩
  refine ⟨.ref s.heap.objs.size,_,I.turnedNew (t':=s.toks+1) hf k2 new,rfl,⟨_,x,rfl,I.fresh,rfl,fun ys hy=>by rw [I.list_inj hy hq];exact hx⟩,⟨⟨_,he2⟩,?_⟩,fun b hb=>?_⟩
  ·exact hi'.at fun o q=>(sb.2 it hne.symm).trans q
  ·rw [Zi ?_]
   ·exact (hf b hb).1
   ·rcases List.mem_cons.mp hb with rfl|hb
    ·exact Nat.ne_of_lt hel
    ·have q:b=it:=by simpa using hb
     subst q
     exact Nat.ne_of_lt hil
 done:=by
  intro X hP hw hK hc i pins s σ H E I hf st hg
  subst hP hw hK
  obtain ⟨⟨old,he⟩,hi⟩:=st
  obtain ⟨xs,hq,hx⟩:=hg
  obtain ⟨its,rv,p,hz⟩:=I.list hq
  obtain ⟨f0,f1,f2,f3,f4,f5⟩:=hf it (by simp)
  have hl:=rv.length
  exact wpAny_pyNext_enum_end (I.ok.hd hc) he hi p.isList (by simp;omega) fun h' eb=>⟨rfl,I.turned (t':=s.toks) (fun b o hb e=>eb b o hb e) f0 f1 f3 f4 f5⟩
 self:=fun _ _ _ _ _ st h=>by
  obtain ⟨⟨old,he⟩,_⟩:=st
  exact wpAny_pyIter_enum he h
def Zyl(K:Frag)(ta:TA):TI:=fun σ H R=>ta σ H fun vs H1=>∃l,vs=[.ref l]/\(∃xs,SqL K H1 l xs)/\R (Ite K l) H1
theorem Zg7{X:Cx}{elts:List Expr}{x1:Nat}{tpos:Pos}{a:Expr}{ta:TA}{p pos:Pos} (hg:Gl X "enumerate") (hm:X.mg "enumerate" =none) (ha:PA X [a] ta) (hs:starEach [a] X.env=[(false,eval a X.env)]:=by rfl) :
  PI X (.Tuple elts x1 tpos) (.Call (.Name "enumerate" p) [a] [] pos) (Zyl X.K ta):=by
 intro pins s σ H R I h
 refine Call_ (Zem I hg hm boot_enumerate (PyProof.Rows.callWith_type1 (thn (ha pos pins s σ H _ I h) fun us s1 ⟨vs,H1,I1,r1,q1⟩=>?_) hs rfl))
 obtain ⟨l,e,⟨xs,hq⟩,q⟩:=q1
 subst e
 obtain ⟨u,rfl,ru⟩:=Zdb r1
 cases ru
 obtain ⟨its,rv,pl,hz⟩:=I1.list hq
 refine call_enumerate_list pl.isList fun h' he hi hsz kk=>wpAny_pyIter_enum he ?_
 have I2:Inv X pins σ H1 { s1 with heap:=h' }:=I1.kept (t':=s1.toks) kk
 refine ⟨s1.heap.objs.size+1,[s1.heap.objs.size+1,s1.heap.objs.size],_,_,H1,rfl,I2,Zqf _ _ (Nat.succ_ne_self _),⟨⟨_,he⟩,hi⟩,fun b hb=>?_,q⟩
 rcases List.mem_cons.mp hb with rfl|hb
 ·exact I1.fpOk (Nat.le_succ _) (I1.hok.fresh (Nat.le_succ _))
 ·have e:b=s1.heap.objs.size:=by simpa using hb
  subst e
  exact I1.fpOk (Nat.le_refl _) (I1.hok.fresh (Nat.le_refl _))
theorem Zfc{K:Frag}{l:Addr}{xs:List V}{g:TG}{tb:TS}{D:Ze5}{σ:St}{H:Hp}(Pv:Nat->St->Hp->Prop)(h0:Pv 0 σ H)(hl:∀i σ H,i<=xs.length->Pv i σ H->SqL K H l xs)
  (hs:∀i x σ H,xs[i]? =some x->Pv i σ H->∀p H1,Same H H1->H p=none->H1 p=some (.tup [.int (i:Nat),x])->g (.ref p) σ H1 fun σ2 H2=>tb { D with nx:=Pv (i+1),ct:=Pv (i+1),bk:=D.nx } σ2 H2) (hd:∀σ H,Pv xs.length σ H->D.nx σ H) :
  ∃W:Nat->Nat->St->Hp->Prop,(∃m,W 0 m σ H)/\∀i m σ H,W i m σ H ->
   ((Ite K l).stop i H/\D.nx σ H)\/((Ite K l).go i H/\∃N:St->Hp->Prop,(∀σ' H',N σ' H'->∃m',m'<m/\W (i+1) m' σ' H')/\∀x H',(Ite K l).yld i H x H'->g x σ H' fun σ2 H2=>tb { D with nx:=N,ct:=N,bk:=D.nx } σ2 H2):=by
 refine ⟨fun i m σ H=>m=xs.length-i/\i<=xs.length/\Pv i σ H,⟨xs.length,by simp,Nat.zero_le _,h0⟩,?_⟩
 rintro i m σ H ⟨rfl,hi,p⟩
 have q:=hl i σ H hi p
 by_cases hlt:i<xs.length
 ·refine .inr ⟨⟨xs,xs[i],q,by simp [hlt]⟩,Pv (i+1),fun σ' H' p'=>⟨xs.length-(i+1),by omega,rfl,hlt,p'⟩,fun x H' y=>?_⟩
  obtain ⟨a,y,e,hn,e2,hy⟩:=y
  subst e e2
  exact hs i y σ H (hy xs q) p a _ (Same.new hn) hn Zh
 ·have e:i=xs.length:=by omega
  subst e
  exact .inl ⟨⟨xs,q,Nat.le_refl _⟩,hd σ H p⟩
def Iti(d:Addr)(o:Obj)(kvs:List (Key×V)):It :=
 ⟨fun i H=>H d=some (.frz o (.dK kvs))/\i<kvs.length,fun i H x H'=>∃p kv,x=.ref p/\H p=none/\kvs[i]? =some kv/\H'=upd H p (.tup [kV kv.1,kv.2]),fun i H=>H d=some (.frz o (.dK kvs))/\kvs.length<=i⟩
theorem Znu{P:Program}{w:World}{K:Frag}{elts:List Expr}{x1:Nat}{pos:Pos}{d:Addr}{o:Obj}{kvs:List (Key×V)}{vs:List (Key×Value)}{ep:Nat}(it:Addr)(hk:KV kvs vs)
  (hD:∀h:Heap,h.get? d=some o->h.DictAt (Ye P w) d vs ep):Zms P w K (.Tuple elts x1 pos) (Iti d o kvs) [it] it (fun i h=>∃ok ov,IsItemIter h it d i vs.length ep ok ov) where
 mem:=by simp
 obj:=fun i h st b hb=>by
  have e:b=it:=by simpa using hb
  subst e
  obtain ⟨ok,ov,e⟩:=st
  exact ⟨_,e,fun v z=>nomatch z⟩
 keep:=fun i h h' st k=>by
  obtain ⟨ok,ov,e⟩:=st
  exact ⟨ok,ov,k it (by simp) _ e⟩
 item:=by
  intro X hP hw hK hc i pins s σ H E I hf st hg
  subst hP hw hK
  obtain ⟨ok,ov,hi⟩:=st
  obtain ⟨hq,hlt⟩:=hg
  have hdo:s.heap.get? d=some o:=(I.hok d _ hq).1
  obtain ⟨u,hu,ru⟩:=hk.get (i:=i) (kv:=kvs[i]) (by simp [hlt])
  refine wpAny_pyNext_items_item (knd:=Ye X.prog X.w) hi (hD _ hdo) hu fun key h' hkey ho ht hsz kk=>?_
  refine ⟨_,rfl,wpAny_letOwnedTupleGo_items ho fun h2 he2 sb=>?_⟩
  have hel:it<s.heap.objs.size:=Heap.lt_size hi
  have k2:∀b v,b∉[it]->s.heap.get? b=some v->h2.get? b=some v:=fun b v hb q=>by
   have b1:b≠it:=fun z=>hb (by simp [z])
   exact (sb.2 b b1).trans (kk b v b1 q)
  have htup:h2.get? s.heap.objs.size=some { cls:=.type "tuple",data:=.seq #[key,u] }:=(sb.2 _ (Nat.ne_of_gt hel)).trans ht
  have new:Yn X.prog X.w (upd H s.heap.objs.size (.tup [kV kvs[i].1,kvs[i].2])) h2 s.heap.objs.size (.tup [kV kvs[i].1,kvs[i].2]) :=
   ⟨sz (by simp),[key,u],.cons (Zwh hkey) (.cons ru .nil),⟨_,htup,rfl,_,rfl⟩⟩
  refine ⟨.ref s.heap.objs.size,_,I.turnedNew (t':=s.toks) hf k2 new,rfl,⟨_,kvs[i],rfl,I.fresh,by simp [hlt],rfl⟩,⟨_,_,he2⟩,fun b hb=>?_⟩
  have e:b=it:=by simpa using hb
  subst e
  rw [Zi (Nat.ne_of_lt hel)]
  exact (hf _ hb).1
 done:=by
  intro X hP hw hK hc i pins s σ H E I hf st hg
  subst hP hw hK
  obtain ⟨ok,ov,hi⟩:=st
  obtain ⟨hq,hle⟩:=hg
  obtain ⟨f0,f1,f2,f3,f4,f5⟩:=hf it (by simp)
  have hdo:s.heap.get? d=some o:=(I.hok d _ hq).1
  have hl:=KV.length hk
  exact wpAny_pyNext_items_end (knd:=Ye X.prog X.w) (I.ok.hd hc) hi (hD _ hdo) (List.getElem?_eq_none (by omega)) fun h' eb=>⟨rfl,I.turned (t':=s.toks) (fun b o hb e=>eb b o hb e) f0 f1 f3 f4 f5⟩
 self:=fun _ _ _ _ _ st h=>by
  obtain ⟨ok,ov,hi⟩:=st
  exact PySem.W.kcp_self hi h
def Zwu(X:Cx)(tl:TE):TI:=fun σ H R=>tl σ H fun x H1=>∃d kvs,x=.ref d/\H1 d=some (.dK kvs)/\∀o,NF X d (.dK kvs)->R (Iti d o kvs) (upd H1 d (.frz o (.dK kvs)))
theorem Zmn{X:Cx}{elts:List Expr}{x1:Nat}{tpos apos cpos:Pos}{o:Expr}{to:TE}(ho:PE X o to) (hbase:attributeBase o "items" X.env (eval o X.env)=eval o X.env:=by rfl) (hline:(apos.endLine ==cpos.line)=true:=by rfl) :
  PI X (.Tuple elts x1 tpos) (.Call (.Attribute o "items" apos) [] [] cpos) (Zwu X to):=by
 intro pins s σ H R I h
 refine wpAny_Call_method0_late hbase hline (thn (ho pins s σ H _ I h) fun v s1 ⟨y,H1,I1,r1,q1⟩=>?_)
 obtain ⟨d,kvs,rfl,hd,q⟩:=q1
 cases r1
 obtain ⟨hz,hs,vs,kv,dd⟩:=Zp1 I1.hok hd
 obtain ⟨ob,_,_,hob,hex,_⟩:=id dd
 obtain ⟨ep,hD⟩:=Zfq dd hob
 refine ⟨"dict", "dict.items",PySem.F.plainAttrs_dict,PySem.F.slot_dict_items,PySem.F.type_dict_items,dd.typeIs,fun a e=>?_,Calls.callWith_builtin rfl (PySem.evalArgs_none ?_)⟩
 ·cases e
  exact ⟨ob,hob,hex.2.1⟩
 refine call_meetsIn PySem.F.slot_dict_items dd.typeIs PySem.F.entry_dict_items (PySem.F.args_dict_items_1 _) (meets_dict_items (Ye X.prog X.w) d hs) ⟨⟨vs,dd⟩,?_⟩
 have I2:=I1.freeze hd rfl hob
 have I3:Inv X pins σ (upd H1 d (.frz ob (.dK kvs))) { s1 with heap:=s1.heap.push { cls:=.type "dict_items",data:=.fields #[.ref d] } }:=I2.kept (t':=s1.toks) fun b o e=>Heap.get?_push_of_some _ e
 refine wpAny_pyIter_items (knd:=Ye X.prog X.w) (d:=d) ⟨_,Heap.get?_push_size _ rfl,rfl,rfl⟩ (hD _ (Heap.get?_push_of_some _ hob)) ?_
 refine ⟨_,[_],_,_,_,rfl,I3.kept (t':=s1.toks) fun b o e=>Heap.get?_push_of_some _ e,Znu _ kv hD,⟨_,_,Heap.get?_push_size _ rfl⟩,fun b hb=>?_,q ob ⟨I1.notFrz hd (fun _ _ z=>nomatch z),fun _ z=>nomatch z⟩⟩
 have e:=List.mem_singleton.mp hb
 subst e
 exact I3.fpOk (Nat.le_refl _) (I3.hok.fresh (Nat.le_refl _))
theorem Zrj{d:Addr}{o:Obj}{kvs:List (Key×V)}{g:TG}{tb:TS}{D:Ze5}{σ:St}{H:Hp}(Pv:Nat->St->Hp->Prop)(h0:Pv 0 σ H)(hl:∀i σ H,i<=kvs.length->Pv i σ H->H d=some (.frz o (.dK kvs)))
  (hs:∀i kv σ H,kvs[i]? =some kv->Pv i σ H->∀p H1,Same H H1->H p=none->H1 p=some (.tup [kV kv.1,kv.2])->g (.ref p) σ H1 fun σ2 H2=>tb { D with nx:=Pv (i+1),ct:=Pv (i+1),bk:=D.nx } σ2 H2) (hd:∀σ H,Pv kvs.length σ H->D.nx σ H) :
  ∃W:Nat->Nat->St->Hp->Prop,(∃m,W 0 m σ H)/\∀i m σ H,W i m σ H ->
   ((Iti d o kvs).stop i H/\D.nx σ H)\/((Iti d o kvs).go i H/\∃N:St->Hp->Prop,(∀σ' H',N σ' H'->∃m',m'<m/\W (i+1) m' σ' H')/\∀x H',(Iti d o kvs).yld i H x H'->g x σ H' fun σ2 H2=>tb { D with nx:=N,ct:=N,bk:=D.nx } σ2 H2):=by
 refine ⟨fun i m σ H=>m=kvs.length-i/\i<=kvs.length/\Pv i σ H,⟨kvs.length,by simp,Nat.zero_le _,h0⟩,?_⟩
 rintro i m σ H ⟨rfl,hi,p⟩
 have q:=hl i σ H hi p
 by_cases hlt:i<kvs.length
 ·refine .inr ⟨⟨q,hlt⟩,Pv (i+1),fun σ' H' p'=>⟨kvs.length-(i+1),by omega,rfl,hlt,p'⟩,fun x H' y=>?_⟩
  obtain ⟨a,kv,e,hn,hkv,e2⟩:=y
  subst e e2
  exact hs i kv σ H hkv p a _ (Same.new hn) hn Zh
 ·have e:i=kvs.length:=by omega
  subst e
  exact .inl ⟨⟨q,Nat.le_refl _⟩,hd σ H p⟩
def Zkh(K:Frag)(H:Hp)(x y:V):Prop:=(Zc8 x=true/\Zc8 y=true/\eqV x y=true)\/∃n t,n<=60/\Im K H n t x/\Im K H n t y
theorem Zkh.eqAt{X:Cx}{pins:List (Addr×Obj)}{σ:St}{H:Hp}{s:Shared}{A:Around}{x y:V}{u v:Value}(I:Inv X pins σ H s)(h:Zkh X.K H x y)(rx:Yk x u)(ry:Yk y v)(hu:A.units+60<cLine):SeqAt.EqAt A s u v true:=by
 rcases h with ⟨f1,f2,e⟩|⟨n,t,hn,i1,i2⟩
 ·exact Yf (Zh2 rx ry f1 f2) e
 ·exact Yf (Im.eqAt I n A i1 i2 rx ry (by omega)) (decide_eq_true rfl)
def Zyz(K:Frag):R2:=fun x y H Q=>∃a b ka kb,x=.ref a/\y=.ref b/\Rd H a (.dK ka)/\Rd H b (.dK kb)/\ka.length=kb.length/\(∀kv∈ka,∃v,Yv kb kv.1=some v/\Zkh K H kv.2 v)/\Q (.bl true) H
theorem Zw4{X:Cx}(hu:X.A.units+64<cLine):OpR X (compareOp .Eq) (Zyz X.K):=by
 intro pins s σ H x y v u Q I rx ry h
 obtain ⟨a,b,ka,kb,rfl,rfl,ha,hb,hl,hall,q⟩:=h
 cases rx
 cases ry
 obtain ⟨_,sa,va,ra,da⟩:=Zdf I.hok ha
 obtain ⟨_,sb,vb,rb,db⟩:=Zdf I.hok hb
 have la:=KV.length ra
 have lb:=KV.length rb
 have hits:∀{ka':List (Key×V)} {va':List (Key×Value)},KV ka' va'->(∀kv∈ka',∃v,Yv kb kv.1=some v/\Zkh X.K H kv.2 v)->PySem.W.KeqHits X.A.in1 s vb va' true:=by
  intro ka' va' r
  induction r with
  | nil=>intro _;exact .nil
  | cons r t ih =>
   rename_i p q l m
   intro hv
   obtain ⟨e1,r2⟩:=r
   obtain ⟨v,hv1,hv2⟩:=hv p List.mem_cons_self
   have hval:=KV.val rb p.1
   rw [hv1] at hval
   obtain ⟨y,hy,ry⟩:=Zc7.some_of hval
   rw [e1] at hy
   have:=PySem.W.KeqHits.hit (k:=q.1) (v:=q.2) hy (hv2.eqAt (A:=X.A.in1) I r2 ry (by rw [Wc];omega)) (ih fun kv hkv=>hv kv (List.mem_cons_of_mem _ hkv))
   simpa using this
 refine PySem.W.keq_eq (knd:=Ye X.prog X.w) sa sb da db (by omega) (fun _=>hits ra hall) ⟨.bl true,H,I,?_,q⟩
 rw [show (va.length ==vb.length)=true by rw [<-la,<-lb,hl];simp]
 rfl
def Zat(K:Frag):R2:=fun x y H Q=>rEq x y H Q\/Zu6 K false x y H Q\/Zyz K x y H Q
def Za5(K:Frag):List V->Hp->VK->Prop:=fun xs H Q=>(∃p ys,xs=[.ref p]/\(SqL K H p ys\/SqT K H p ys)/\Q (.int ys.length) H)\/(∃z,xs=[.str z]/\z.length<=sizeLine/\Q (.int z.length) H)\/∃a kvs,xs=[V.ref a]/\H a=some (.dK kvs)/\Q (.int kvs.length) H
def Zjn(K:Frag):V->Option Int->Option Int->Hp->VK->Prop:=fun x lo hi H Q=>Zv8 K x lo hi H Q\/Zwk K x lo hi H Q\/Zzk x lo hi H Q
section
variable {X:Cx} {k:Nat}
theorem Za4(hr:W6 k X.A):OpR X (compareOp .Eq) (Zat X.K):=Zyw.or ((Zx6 hr.units).or (Zw4 hr.units))
theorem Zbo:W3 X (.builtin "len") (Za5 X.K):=Zls.or (Zl5.or Zqt)
theorem Zlp:SlR X (Zjn X.K):=Zt1.or (Zr7.or Zxi)
def Zt8:TE:=fun _ H Q=>New H (.dK []) Q
theorem Zfl{pos:Pos}:PE X (.Dict [] [] pos) Zt8:=fun pins s σ H Q I h=>Zsn pins s σ H Q I fun p hp=>h.at p hp
def Zvo:TE:=fun _ H Q=>New H (.dT []) Q
theorem Zdr{pos:Pos}:PE X (.Dict [] [] pos) Zvo:=fun pins s σ H Q I h=>Zrs pins s σ H Q I fun p hp=>h.at p hp
def Zys(K:Frag):List V->Hp->VK->Prop:=fun xs H Q=>∃(p:Addr) (bs:List Bool),xs=[.ref p]/\SqL K H p (bs.map V.bl)/\Q (.bl (bs.all id)) H
theorem Zq8(hc:X.calm=true):W3 X (.builtin "all") (Zys X.K):=Zg8 hc
def Zra(K:Frag):List V->Hp->VK->Prop:=fun xs H Q=>∃x c b t,xs=[x,c]/\Zbs K H x t/\((∃n,c=.ty n/\kitOne K t (.type n)=some b)\/∃a,c=.ref a/\kitOne K t (.ref a)=some b)/\Q (.bl b) H
theorem Zcy:W3 X (.builtin "isinstance") (Zra X.K):=Zm8
end
theorem Za8{X:Cx}{i:Nat}{y:Str}{py spos:Pos}{elt tg iter:Expr}{ifs:List Expr}{scope:Scope}{pos:Pos}{cl:List (Str×Addr)}{N':List Str}{fr:St->St}{wi:TI}{g:TG}{tf:TT}{te:TE}
  (hN:X.N.Nodup) (hi':X.N[i]? =some y) (hy:Loc X.env.scope y) (hc:X.calm=true) (S:Yd X scope cl N' fr) (hi:PI X tg iter wi) (hg:∀s H C ex,PG (Y5 X scope cl N' s H C ex) tg g) (hf:∀s H C ex,PF (Y5 X scope cl N' s H C ex) ifs tf)
  (he:∀s H C ex,PE (Y5 X scope cl N' s H C ex) elt te) (hs:∀x,foldedSetIterable iter X.env x=pure x:=by intro _;rfl)
  (hsw:swapsWith (.ListComp elt [⟨tg,iter,ifs,0⟩] scope pos) (some (.Name y py)) spos.line X.env=pure true:=by rfl) (hfn:X.fn y=true\/X.env.scope.names.lookup y=some .local:=by first | exact .inl rfl | exact .inr rfl | assumption) :
  PS X (.Assign [.Name y py] (.ListComp elt [⟨tg,iter,ifs,0⟩] scope pos) spos) (Zvf (Zvy wi fr g tf te) (Zc9 i)):=by
 intro pins s σ H D I h
 rw [exec_Assign_Name_used _ _ _ _ hsw]
 refine wpAny_bind (wpAny_standAt (wpAny_bind ?_))
 show wpAny _ X.A (do let _ <-comprehension (.ListComp elt [⟨tg,iter,ifs,0⟩] scope pos) scope X.env _ (newList []) false (eval iter X.env) (some (assign (.Name y py) X.env))) _ _ s
 refine wpAny_bind (wpAny_mono (wpAny_comprehension_free (use:=some (assign (.Name y py) X.env)) (Q:=fun _ s'=>∃σ' H',Inv X pins σ' H' s'/\D.nx σ' H') rfl hs S.clos S.kind S.names (thn (hi pins s σ H _ I h) fun v s1 h1=>thn h1 fun itv s2 h2=>?_)) (fun _ s' hq=>wpAny_pure (wpAny_pure hq)) fun _ _ e=>e)
 obtain ⟨it,fp,tn,J,H2,e,I2,T,st2,f2,q⟩:=h2
 subst e
 refine wpAny_newObj_type (wpAny_newFunctionEnv S.cell (by intro y hy;simp at hy) (fun h₁ hns₁ hsb₁=>?_) S.kind)
 dsimp only at hns₁ hsb₁ ⊢
 generalize hP:s2.heap.push { cls:=.type "list",dict:=none,data:=.seq ([]:List Value).toArray }=P at hns₁ hsb₁ ⊢
 have hPz:P.objs.size=s2.heap.objs.size+1:=by rw [<-hP,Heap.size_push]
 have hCD:s2.heap.objs.size<P.objs.size:=by rw [hPz];exact Nat.lt_succ_self _
 have ho2:∀b∈fp,∃o,s2.heap.get? b=some o:=fun b hb=>let ⟨o,e,_⟩:=T.obj _ _ st2 b hb;⟨o,e⟩
 have below:∀b,b<s2.heap.objs.size->b≠P.objs.size:=fun b hb=>Nat.ne_of_lt (Nat.lt_trans hb hCD)
 have old:∀b o,s2.heap.get? b=some o->h₁.get? b=some o:=fun b o e=>hsb₁.extBut b o (below b (Heap.lt_size e)) (Heap.get?_push_of_some _ (hP ▸ Heap.get?_push_of_some _ e))
 have hacc:h₁.get? s2.heap.objs.size=some { cls:=.type "list",data:=.seq ([]:List Value).toArray 0 }:=hsb₁.extBut _ _ (Nat.ne_of_lt hCD) (Heap.get?_push_of_some _ (hP ▸ Heap.get?_push_size _ rfl))
 have fD:H2 s2.heap.objs.size=none:=I2.hok.fresh (Nat.le_refl _)
 obtain ⟨W,⟨m0,w0⟩,turn⟩:=q s2.heap.objs.size fD
 have hz:h₁.objs.size<=P.objs.size+1:=by
  have e:=hsb₁.1
  rw [Heap.size_push] at e
  exact Nat.le_of_eq e
 have st1:tn 0 h₁:=T.keep _ _ _ st2 fun b hb o e=>old b o e
 have stat:∀{pins':List (Addr×Obj)} {H':Hp},(∀p∈pins',p.1∉fp)->(∀b∈fp,H' b=none)->∀b∈fp,Zgn (Y5 X scope cl N' s2 H2 P.objs.size fp) pins' H' b:=fun {pins' H'} hp hn b hb=>by
  obtain ⟨o,e⟩:=ho2 b hb
  obtain ⟨_,f1,f2',f3,f4,f5⟩:=f2 b hb
  refine ⟨hn b hb,below b (Heap.lt_size e),fun z=>?_,.inl hb,fun x c h=>f4 x c (S.sub x c h),fun p hp' z=>?_⟩
  ·rcases List.mem_cons.mp (I2.stkSub b z) with q|q
   ·exact f1 q
   ·exact f2' q
  ·have hp2:p∈pins':=by simpa [Y5] using hp'
   exact hp p hp2 (by rw [z];exact hb)
 have loop:∀s3:Shared,s3={ s2 with heap:=h₁,toks:=s2.toks+([]:List (Str×Value)).length } ->
   codeAny (model X.prog X.w) X.A (.compLoop (.ListComp elt [⟨tg,iter,ifs,0⟩] scope pos) 0 (.ref it) (.ref s2.heap.objs.size) (compEnvC scope cl P.objs.size X.env)) (compPost (model X.prog X.w) X.A X.xe (some (assign (.Name y py) X.env)) (fun _ s'=>∃σ' H',Inv X pins σ' H' s'/\D.nx σ' H') (.ref s2.heap.objs.size) P.objs.size) s3:=by
  rintro s3 rfl
  have I3:Inv (Y5 X scope cl N' s2 H2 P.objs.size fp) [] (fr σ) (upd H2 s2.heap.objs.size (.lst [])) { s2 with heap:=h₁,toks:=s2.toks+([]:List (Str×Value)).length }:=Zh6 I2 S hCD rfl f2 ho2 old hacc hns₁ hz
  refine Zbk (fun n s'=>∃i ys H',Inv (Y5 X scope cl N' s2 H2 P.objs.size fp) [] (fr σ) H' s'/\tn i s'.heap/\(∀b∈fp,H' b=none)/\W i n ys H') ?_ m0 ⟨0,[],_,I3,st1,fun b hb=>?_,w0⟩
  ·rintro n s3 ⟨i,ys,H3,I3,st3,fr3,w3⟩
   rcases turn i n ys H3 w3 with ⟨stop,qn⟩|⟨go,N,hN,step⟩
   ·refine thn (T.done (Y5 X scope cl N' s2 H2 P.objs.size fp) rfl rfl rfl hc i [] s3 (fr σ) H3 _ I3 (stat (by simp) fr3) st3 stop) fun r s4 ⟨hr,I4⟩=>?_
    subst hr
    obtain ⟨m4,hn4,_⟩:=I4.loc
    obtain ⟨oC,esC,epC,hoC,hrC⟩:=id hn4
    have J0:Inv X pins σ H3 s4:=Zm1 I2 hCD f2 I4 (h':=s4.heap) ⟨rfl,fun _ _=>rfl⟩
    have big:s2.heap.objs.size<=P.objs.size:=Nat.le_of_lt hCD
    have fC:H3 P.objs.size=none:=I4.free
    have okC:=I2.fpOk big fC
    have J1:Inv X (pins++[(P.objs.size,oC)]) σ H3 s4:=J0.pins_of fun p hp=>by
     rcases List.mem_append.mp hp with hp|hp
     ·exact J0.pin p (List.mem_append_right _ hp)
     ·have e:p=(P.objs.size,oC):=by simpa using hp
      subst e
      exact ⟨hoC,fC,okC.2.1,okC.2.2.1,fun v z=>by rw [hrC.1] at z;cases z⟩
    refine thn (Zkw hN hi' hy hfn (X:=X) (pos:=py) _ s4 σ H3 (.ref s2.heap.objs.size) (.ref s2.heap.objs.size) _ J1 rfl qn) fun _ s5 ⟨σ5,H5,I5,q5⟩=>?_
    obtain ⟨p1,p2,p3,p4,p5⟩:=I5.pin (P.objs.size,oC) (List.mem_append_right _ (List.mem_append_right _ (by simp)))
    exact ⟨m4,⟨oC,esC,epC,p1,hrC⟩,fun h' hs'=>⟨σ5,H5,(I5.unpinned).turned (t':=s5.toks) (it:=P.objs.size) (fun b o hb e=>(hs'.2 b hb).trans e) p2 p3 okC.2.2.2.1 okC.2.2.2.2.1 okC.2.2.2.2.2,q5⟩⟩
   ·refine thn (T.item (Y5 X scope cl N' s2 H2 P.objs.size fp) rfl rfl rfl hc i [] s3 (fr σ) H3 _ I3 (stat (by simp) fr3) st3 go) fun r s4 ⟨u,hr,h4⟩=>?_
    subst hr
    refine thn h4 fun _ s5 ⟨x,H5,I5,r5,y5,st5,fr5⟩=>?_
    have I5':=I5.pinned (stat (by simp) fr5) (T.obj _ _ st5)
    refine thn (hg s2 H2 P.objs.size fp _ s5 (fr σ) H5 x u _ I5' r5 (step x H5 y5)) fun _ s6 ⟨σ6,H6,I6,kp,q6⟩=>?_
    refine thn (hf s2 H2 P.objs.size fp _ s6 σ6 H6 _ I6 q6) fun ok s7 ⟨H7,I7,q7⟩=>?_
    have again:∀{σ8:St} {H8:Hp} {s8:Shared} {ys8:List V},Zaq (fr σ) σ8->Inv (Y5 X scope cl N' s2 H2 P.objs.size fp) ([]++Zfn fp s5.heap) σ8 H8 s8->N ys8 H8 ->
      ∃m,m<n/\∃i ys H',Inv (Y5 X scope cl N' s2 H2 P.objs.size fp) [] (fr σ) H' s8/\tn i s8.heap/\(∀b∈fp,H' b=none)/\W i m ys H':=fun {σ8 H8 s8 ys8} kp8 I8 n8=>by
     obtain ⟨m',hm,w8⟩:=hN ys8 H8 n8
     refine ⟨m',hm,i+1,ys8,H8,(I8.unpinned).weak (by rw [I8.len];exact S.len σ I2.len) kp8,T.keep _ _ _ st5 fun b hb o e=>(I8.pin (b,o) (List.mem_append_right _ (List.mem_append_right _ (Zbf hb e)))).1,fun b hb=>?_,w8⟩
     obtain ⟨o,e,d⟩:=T.obj _ _ st5 b hb
     exact (I8.pin (b,o) (List.mem_append_right _ (List.mem_append_right _ (Zbf hb e)))).2.1
    cases ok with
    | false=>exact again kp I7 q7
    | true =>
     refine thn (he s2 H2 P.objs.size fp _ s7 σ6 H7 _ I7 q7) fun uy s8 ⟨y,H8,I8,r8,hD8,hz8,q8⟩=>?_
     exact thn (Y9 _ s8 σ6 H8 (.ref s2.heap.objs.size) [y] (.ref s2.heap.objs.size) [uy] (fun _ H9=>N (ys++[y]) H9) I8 rfl (.cons r8 .nil) ⟨_,ys,y,rfl,rfl,hD8,hz8,q8⟩) fun _ s9 ⟨v9,H9,I9,_,q9⟩=>again kp I9 q9
  ·show upd H2 s2.heap.objs.size (.lst []) b=none
   obtain ⟨o,e⟩:=ho2 b hb
   rw [Zi (Nat.ne_of_lt (Heap.lt_size e))]
   exact (f2 b hb).1
 exact codeAny_compStart_list (loop _ rfl) (T.self X.A 0 _ _ _ st1 (loop _ rfl))
theorem Zkz{X:Cx}{K:Frag}{es:List Expr}{k:Nat}{pos:Pos}{t:TGs}{n:Nat}(hK:X.K=K)(hc:X.calm=true)(h:PGs X es t)
  (hn:(assignEach es X.env).length=n:=by rfl) (hst:(assignEach es X.env).findIdx? (·.1)=none:=by rfl):PG X (.Tuple es k pos) (Zzd K n t):=hK ▸ Zbt hc h hn hst
end L2
end
section
namespace L2
open PySem PySem.Spec PyProof.Rows
def Zym(K:Frag):R2:=fun x y H Q=>∃a b ka kb,x=.ref a/\y=.ref b/\Rd H a (.dK ka)/\Rd H b (.dK kb)/\ka.length=kb.length/\(∀kv∈ka,∃v,Yv kb kv.1=some v/\Zkh K H kv.2 v)/\Q (.bl false) H
theorem Zx4{X:Cx}(hu:X.A.units+64<cLine):OpR X (compareOp .NotEq) (Zym X.K):=by
 intro pins s σ H x y v u Q I rx ry h
 obtain ⟨a,b,ka,kb,rfl,rfl,ha,hb,hl,hall,q⟩:=h
 cases rx
 cases ry
 obtain ⟨_,sa,va,ra,da⟩:=Zdf I.hok ha
 obtain ⟨_,sb,vb,rb,db⟩:=Zdf I.hok hb
 have la:=KV.length ra
 have lb:=KV.length rb
 have hits:∀{ka':List (Key×V)} {va':List (Key×Value)},KV ka' va'->(∀kv∈ka',∃v,Yv kb kv.1=some v/\Zkh X.K H kv.2 v)->PySem.W.KeqHits X.A.in1 s vb va' true:=by
  intro ka' va' r
  induction r with
  | nil=>intro _;exact .nil
  | cons r t ih =>
   rename_i p q l m
   intro hv
   obtain ⟨e1,r2⟩:=r
   obtain ⟨v,hv1,hv2⟩:=hv p List.mem_cons_self
   have hval:=KV.val rb p.1
   rw [hv1] at hval
   obtain ⟨y,hy,ry⟩:=Zc7.some_of hval
   rw [e1] at hy
   have:=PySem.W.KeqHits.hit (k:=q.1) (v:=q.2) hy (hv2.eqAt (A:=X.A.in1) I r2 ry (by rw [Wc];omega)) (ih fun kv hkv=>hv kv (List.mem_cons_of_mem _ hkv))
   simpa using this
 refine PySem.W.keq_ne (knd:=Ye X.prog X.w) sa sb da db (by omega) (fun _=>hits ra hall) ⟨.bl false,H,I,?_,q⟩
 rw [show (va.length ==vb.length)=true by rw [<-la,<-lb,hl];simp]
 rfl
def Zuy(K:Frag)(neg:Bool):R2:=fun x y H Q=>∃(p:Addr) (n:Nat) (t:Tr) (ts:List Tr) (as:List Addr),y=.ref p/\SqL K H p (as.map V.ref)/\n<=60/\Im K H n t x/\Paired (Im K H n) ts (as.map V.ref)/\Q (.bl (if neg then !decide (t∈ts) else decide (t∈ts))) H
noncomputable def Zi2 (K:Frag) (H:Hp) (n:Nat) (t:Tr) (u:Value):Bool:=match u with
 | .ref a=>@decide (Im K H n t (.ref a)) (Classical.propDecidable _)
 | _=>false
theorem Zg9{X:Cx}{pins:List (Addr×Obj)}{σ:St}{H:Hp}{s:Shared}(I:Inv X pins σ H s){n:Nat}{t:Tr}:∀{ts:List Tr} {as:List Addr} {us:List Value},Paired (Im X.K H n) ts (as.map V.ref)->Yc (as.map V.ref) us->us.any (Zi2 X.K H n t)=decide (t∈ts)
 | [],[],_,_,v=>by rw [List.map_nil] at v;cases v;simp
 | [],a ::as,_,p,_=>by rw [List.map_cons] at p;cases p
 | t' ::ts,[],_,p,_=>by rw [List.map_nil] at p;cases p
 | t' ::ts,a ::as,us,p,v=>by
  rw [List.map_cons] at p v
  cases p with
  | cons i p =>
   cases v with
   | cons r v =>
    cases r
    rw [List.any_cons,Zg9 I p v,Bool.eq_iff_iff,Bool.or_eq_true]
    simp only [Zi2,decide_eq_true_eq,List.mem_cons]
    constructor
    ·rintro (z|z)
     ·exact .inl (Im.inj I z i)
     ·exact .inr z
    ·rintro (z|z)
     ·exact .inl (z ▸ i)
     ·exact .inr z
theorem Zh7{X:Cx}{pins:List (Addr×Obj)}{σ:St}{H:Hp}{s:Shared}(I:Inv X pins σ H s){n:Nat}{A:Around}(hu:A.units+n<cLine){t:Tr}{x:V}{vx:Value}(hx:Im X.K H n t x)(rx:Yk x vx) :
  ∀{ts:List Tr} {as:List Addr} {us:List Value},Paired (Im X.K H n) ts (as.map V.ref)->Yc (as.map V.ref) us->∀u∈us,SeqAt.EqAt A s u vx (Zi2 X.K H n t u)
 | [],[],_,_,v=>by rw [List.map_nil] at v;cases v;simp
 | [],a ::as,_,p,_=>by rw [List.map_cons] at p;cases p
 | t' ::ts,[],_,p,_=>by rw [List.map_nil] at p;cases p
 | t' ::ts,a ::as,us,p,v=>by
  rw [List.map_cons] at p v
  cases p with
  | cons i p =>
   cases v with
   | cons r v =>
    cases r
    intro u hm
    rcases List.mem_cons.mp hm with e|e
    ·subst e
     refine Yf (Im.eqAt I n A i hx rfl rx hu) ?_
     simp only [Zi2,decide_eq_decide]
     exact ⟨fun z=>z ▸ i,fun z=>(Im.inj I z i).symm⟩
    ·exact Zh7 I hu hx rx p v u e
theorem Zxn{X:Cx}(hu:X.A.units+64<cLine):OpR X (compareOp .In) (Zuy X.K false):=by
 intro pins s σ H x y v u Q I rx ry h
 obtain ⟨p,n,t,ts,as,rfl,hq,hn,hx,hp,q⟩:=h
 cases ry
 obtain ⟨its,r,pl,hz⟩:=I.list hq
 refine SeqAt.in_listAt (Zi2 X.K H n t) pl.isList (fun w hw=>Zh7 I (by rw [Wc];omega) hx rx hp r w (by simpa using hw)) ⟨.bl _,H,I,rfl,?_⟩
 rw [show its.toArray.any (Zi2 X.K H n t)=its.any (Zi2 X.K H n t) by simp,Zg9 I hp r]
 exact q
theorem Zqo{X:Cx}(hu:X.A.units+64<cLine):OpR X (compareOp .NotIn) (Zuy X.K true):=by
 intro pins s σ H x y v u Q I rx ry h
 obtain ⟨p,n,t,ts,as,rfl,hq,hn,hx,hp,q⟩:=h
 cases ry
 obtain ⟨its,r,pl,hz⟩:=I.list hq
 refine SeqAt.notIn_listAt (Zi2 X.K H n t) pl.isList (fun w hw=>Zh7 I (by rw [Wc];omega) hx rx hp r w (by simpa using hw)) ⟨.bl _,H,I,rfl,?_⟩
 rw [show its.toArray.any (Zi2 X.K H n t)=its.any (Zi2 X.K H n t) by simp,Zg9 I hp r]
 exact q
section
variable {X:Cx} {k:Nat}
def Ziz(K:Frag):R2:=fun x y H Q=>rNe x y H Q\/Zu6 K true x y H Q\/Zym K x y H Q
theorem Zmh(hr:W6 k X.A):OpR X (compareOp .NotEq) (Ziz X.K):=Zyo.or ((Zxj hr.units).or (Zx4 hr.units))
def Zhh(K:Frag):R2:=fun x y H Q=>rIn K false x y H Q\/(∃a o,y=.ref a/\W9 H a x o/\Q (.bl o.isSome) H)\/(∃i j,x=.str i/\y=.str j/\Q (.bl (!(Builtin.Str.occurrences j i 0 j.length 1).isEmpty)) H)\/Zuy K false x y H Q
theorem Zi7(hr:W6 k X.A):OpR X (compareOp .In) (Zhh X.K):=Zqz.or ((Zxp (X0 hr)).or (Zrn.or (Zxn hr.units)))
def Zbz(K:Frag):R2:=fun x y H Q=>rIn K true x y H Q\/(∃a o,y=.ref a/\W9 H a x o/\Q (.bl (!o.isSome)) H)\/Zuy K true x y H Q
theorem Zcj(hr:W6 k X.A):OpR X (compareOp .NotIn) (Zbz X.K):=Zlb.or ((Zqi (X0 hr)).or (Zqo hr.units))
end
end L2
end
section
namespace L2
open PySem
section
variable {M:Model} {A:Around} {E:Value->Shared->Prop} {s:Shared} {base:Heap} {env:Env} {outer l:List Env} {L e:Addr} {oe:Obj} {vs:Array Value} {head a0 cls fl:Value} {dx:Option Addr} {Q:Unit->Shared->Prop}
end
end L2
end
section
namespace L2
open PySem PySem.Spec PyProof.Rows
theorem Yn.there{P:Program}{w:World}{H:Hp}{h:Heap}{a:Addr}{o:HO}(x:Yn P w H h a o):∃ob,h.get? a=some ob:=by
 cases o with
 | lst xs=>obtain ⟨_,_,_,_,e⟩:=x;exact ⟨_,e⟩
 | tup xs=>obtain ⟨_,_,_,_,e,_⟩:=x;exact ⟨_,e⟩
 | dK kvs=>obtain ⟨_,_,_,_,o,_,_,e,_⟩:=x;exact ⟨_,e⟩
 | dT kvs=>obtain ⟨_,_,_,_,o,_,_,e,_⟩:=x;exact ⟨_,e⟩
 | set S n=>obtain ⟨o,_,_,_,e,_⟩:=x;exact ⟨_,e⟩
 | ins C dx fs=>obtain ⟨_,_,_,e,_⟩:=x;exact ⟨_,e⟩
 | own y=>obtain ⟨_,e⟩:=x;exact ⟨_,e⟩
 | xd fs=>obtain ⟨_,⟨_,_,_,e,_⟩,_⟩:=x;exact ⟨_,e⟩
 | rng lo hi=>obtain ⟨_,_,_,e⟩:=x;exact ⟨_,e⟩
 | frz ob u=>obtain ⟨e,_⟩:=x;exact ⟨_,e⟩
 | tbl ps =>
  obtain ⟨_,_,_,_,_,_,_,e | ⟨_,_,_,_,_,_,_,e⟩⟩:=x
  ·exact ⟨_,e⟩
  ·exact ⟨_,e⟩
 | met f y=>exact ⟨_,show h.get? a=some _ from x⟩
 | ext φ=>obtain ⟨_,⟨_,e⟩,_⟩:=x;exact ⟨_,e⟩
section
variable {P:Program} {w:World} {K:Frag} {mg:Str->Option Value} {base:Heap} {N:List Str} {qual:Str} {scope:Scope} {f:Addr} {cd:Value} {A:Around} {outer:List Env} {s₀:Shared} {H₀:Hp} {E:XK}
end
abbrev Cx.caught(X:Cx)(ea:Addr):Cx:={ X with A:=X.A.mark (some (.ref ea)),calm:=false,xe:=fun _ _=>False }
section
variable {X:Cx} {pins pins':List (Addr×Obj)} {σ:St} {H:Hp} {s:Shared} {E:Value->Shared->Prop}
end
section
variable {P:Program} {w:World} {K:Frag} {mg:Str->Option Value} {base:Heap}
end
end L2
end
section
namespace L2
open PySem PySem.Spec PyProof.Rows
theorem Zp5:∀{ss:List Str} {us:List Value},Yc (ss.map V.str) us->StrsAre us ss
 | [],_,r=>by rw [List.map_nil] at r;cases r;exact .nil
 | x ::ss,_,r=>by
  rw [List.map_cons] at r
  cases r with
  | cons r t =>
   obtain ⟨tk,rfl⟩:=r
   exact .cons _ _ (Zp5 t)
theorem Inv.laidAt{X:Cx}{pins:List (Addr×Obj)}{σ:St}{H:Hp}{s:Shared}{h':Heap}{t':Nat}{a:Addr}{o:HO}(I:Inv X pins σ H s)(k:∀b u,s.heap.get? b=some u->h'.get? b=some u)(hn:s.heap.get? a=none)(new:Yn X.prog X.w (upd H a o) h' a o) :
  H a=none/\Inv X pins σ (upd H a o) { s with heap:=h',toks:=t' }:=by
 have hH:H a=none:=by
  cases e:H a with
  | none=>rfl
  | some u =>
   obtain ⟨ob,z⟩:=(I.hok a u e).there
   rw [hn] at z
   cases z
 have ne:∀b u,s.heap.get? b=some u->b≠a:=fun b u e z=>by rw [z,hn] at e;cases e
 refine ⟨hH,I.call' (s':={ s with heap:=h',toks:=t' }) rfl ⟨fun b u e _ _ _=>k b u e,fun b u e _ _ _=>⟨u.slots,k b u e⟩,fun b u e n _=>by rw [Zi (ne b u e)];exact n,fun b u e _=>⟨u,k b u e⟩,fun b xs e=>?_,fun b q u e=>?_,fun b ps e=>⟨#[],?_⟩⟩ (fun b u e=>?_) I.bare (fun b z=>absurd z List.not_mem_nil)⟩
 ·rw [Zi (Zj e hH)];exact e
 ·rw [Zi (Zj e hH)];exact e
 ·rw [Zi (Zj e hH)];simpa using e
 ·by_cases z:b=a
  ·rw [z,Zh] at e
   cases e
   rw [z]
   exact new
  ·rw [Zi z] at e
   exact (I.hok b u e).stay (fun c v _ h=>k c v h) (fun c h=>by rw [Zi (Zj h hH)];exact h) (fun c ys h=>by rw [Zi (Zj h hH)];exact h)
def Zrf(tl:TE):TE:=fun σ H Q=>tl σ H fun x H1=>∃d kvs,x=.ref d/\Rd H1 d (.dK kvs)/\New H1 (.lst (kvs.map fun kv=>kv.2)) Q
theorem Zjp:∀{kvs:List (Key×V)} {va:List (Key×Value)},KV kvs va->Yc (kvs.map fun kv=>kv.2) (va.map fun kv=>kv.2)
 | [],_,.nil=>.nil
 | _ ::_,_ ::_,.cons r t=>.cons r.2 (Zjp t)
theorem Zmx{X:Cx}{apos cpos p' pos':Pos}{o:Expr}{to:TE}(hc:X.calm=true) (hgl:Gl X "list") (hml:X.mg "list" =none) (ho:PE X o to) (hbase:attributeBase o "values" X.env (eval o X.env)=eval o X.env:=by rfl) (hline:(apos.endLine ==cpos.line)=true:=by rfl) :
  PE X (.Call (.Name "list" p') [.Call (.Attribute o "values" apos) [] [] cpos] [] pos') (Zrf to):=by
 intro pins s σ H Q I h
 refine wpAny_Call_Name_kw (Zem I hgl hml PyProof.Rows.boot_list ?_)
 refine PyProof.Rows.callWith_type1 ?_ rfl rfl
 refine Calls.spliced_cons ?_
 refine wpAny_Call_method0_late hbase hline (thn (ho pins s σ H _ I h) fun v s1 ⟨y,H1,I1,r1,q1⟩=>?_)
 obtain ⟨d,kvs,rfl,hd,q⟩:=q1
 cases r1
 obtain ⟨hz,hs,vs,kv,dd⟩:=Zdf I1.hok hd
 obtain ⟨ob,_,_,hob,hex,_⟩:=id dd
 obtain ⟨ep,hD⟩:=Zfq dd hob
 refine ⟨"dict", "dict.values",PySem.F.plainAttrs_dict,PySem.F.slot_dict_values,PySem.F.type_dict_values,dd.typeIs,fun a e=>?_,Calls.callWith_builtin rfl (PySem.evalArgs_none ?_)⟩
 ·cases e
  exact ⟨ob,hob,hex.2.1⟩
 refine call_meetsIn PySem.F.slot_dict_values dd.typeIs PySem.F.entry_dict_values (PySem.F.args_dict_values_1 _) (meets_dict_values (Ye X.prog X.w) d hs) ⟨⟨vs,dd⟩,?_⟩
 refine Calls.spliced_nil ?_
 have I2:Inv X pins σ H1 { s1 with heap:=s1.heap.push { cls:=.type "dict_values",data:=.fields #[.ref d] } }:=I1.kept (t':=s1.toks) fun b o e=>Heap.get?_push_of_some _ e
 have hl:=KV.length kv
 refine PySem.W.kdl_call (PySem.W.kdl_values (knd:=Ye X.prog X.w) (r:=s1.heap.objs.size) (d:=d) (kvs:=vs) (ep:=ep)) (I2.ok.hd hc) ⟨⟨_,Heap.get?_push_size _ rfl,rfl,rfl⟩,hD _ (Heap.get?_push_of_some _ hob)⟩ (by omega) fun h' tk acc' c' hk hD' hacc=>?_
 have e1:acc'.toList=vs.map (·.2):=PySem.W.kdl_vals_eq acc'.toList (by rw [Array.length_toList];exact hacc.1) fun j v e=>hacc.2 j v (by rw [<-Array.getElem?_toList];exact e)
 have hv:Yc (kvs.map fun kv=>kv.2) acc'.toList:=by rw [e1];exact Zjp kv
 exact ⟨.ref _,_,I2.laid (o:=.lst _) (t':=tk) hk (Nat.le_refl _) (show Yn X.prog X.w _ h' _ (.lst _) from ⟨by rw [List.length_map];exact hz,acc'.toList,c',hv,by rw [hD']⟩),rfl,q.at _ (I2.hok.fresh (Nat.le_refl _))⟩
end L2
end
section
namespace L2
open PySem PySem.Spec PyProof.Rows Builtin Builtin.ObjectAttr
section
variable {P:Program} {w:World} {H:Hp} {h:Heap} {e C t:Addr} {dx:Option Addr}
end
section
variable {X:Cx} {pins:List (Addr×Obj)} {σ:St} {H:Hp} {s:Shared}
end
section
variable {X:Cx} {pins:List (Addr×Obj)} {σ:St} {H:Hp} {s:Shared} {e C Y t:Addr} {f:Str} {A:Around} {E:Value->Shared->Prop}
end
section
variable {prog:Program} {w:World} {A:Around} {E:Value->Shared->Prop} {s:Shared} {K:Frag} {x C:Addr} {ox:Obj} {od:Option Obj} {name:Str} {tk:Tok}
end
section
variable {X:Cx} {f:Str}
end
end L2
end
section
namespace L2
open PySem PySem.Spec PyProof.Rows
section
variable {prog:Program} {w:World} {A:Around} {E:Value->Shared->Prop} {h:Heap} {g:Array GenState} {d:Drawn} {tk:Nat} {os:OsState} {nm qn:Str} {C N:Addr} {bs bm bmB:List Value} {hdct:Bool} {sn:List Str} {sub:List Value} {ab:Bool} {col:Option Bool} {dd:Option Addr} {k0 k1 k2 k3 k5:Option Value} {B newId initId:String}
 {Z0:List Value} {fI:Addr} {oI:Obj}
end
section
variable {M:Model} {A:Around} {E:Value->Shared->Prop} {s:Shared} {env:Env} {nm qn:Str} {C N:Addr} {bs bm:List Value} {hdct:Bool} {sn:List Str} {sub:List Value} {ab:Bool} {col:Option Bool} {dd:Option Addr} {k0 k1 k2 k3 k5:Option Value} {newId:String}
end
section
variable {P:Program} {w:World} {K:Frag} {mg:Str->Option Value} {base:Heap} {N:List Str} {qual:Str} {scope:Scope} {f:Addr} {cd:Value} {A:Around} {outer:List Env} {s₀:Shared} {H₀:Hp} {E:XK}
end
section
variable {K:Frag} {M:Model} {A:Around} {E:Value->Shared->Prop} {s:Shared} {e C B:Addr} {o:Obj} {r:Bool}
end
section
variable {X:Cx} {σ:St} {H:Hp}
end
theorem Zet:∀{cs:List Addr} {its:List Value},Yc (cs.map V.ref) its->its=cs.map Value.ref
 | [],_,.nil=>rfl
 | c ::cs,_,.cons r t=>by
  rw [Zet t]
  cases r
  rfl
end L2
end
section
namespace L2
open PySem PySem.Spec PyProof.Rows
theorem Zkt:typeLookup (.type "list") "keys" =pure none:=by rw [typeLookup_type,builtinLookup_eq_fast];kernel_rfl
theorem Zgt:typeLookup (.type "list") "__getattr__" =pure none:=by rw [typeLookup_type,builtinLookup_eq_fast];kernel_rfl
theorem Zot:isSubtype (.type "AttributeError") (.type "AttributeError")=pure true:=by rw [isSubtype_type];kernel_rfl
section
variable {prog:Program} {w:World} {A:Around} {E:Value->Shared->Prop} {h:Heap} {g:Array GenState} {d:Drawn} {t:Nat} {os:OsState} {a:Addr} {vs:Array Value} {n:Nat}
theorem Zu2{β:Type}{msg:Str}{Q:β->Shared->Prop}(hh:A.handled=none)(hm:msg.length<=sizeLine)
  (hq:∀h' e tk',(∀b u,h.get? b=some u->h'.get? b=some u)->(∃oe,h'.get? e=some oe/\oe.cls=.type "AttributeError")->E (.ref e) ⟨h',g,d,tk',os⟩) :
  wpAny (model prog w) A (raiseAttrError (.ref a) "keys" msg:Sem β) Q E ⟨h,g,d,t,os⟩:=by
 have f5:=Zot
 have hm':¬msg.length >sizeLine:=by omega
 unfold raiseAttrError newExc
 repeat (any_goals (first | assumption | rw [if_neg hm'] | wp_step))
 generalize hoX:({ cls:=Value.type "AttributeError",data:=Data.fields (#[Value.ref h.objs.size,Value.none,Value.none,Value.none,Value.bool false,if ((Manifest.find? "AttributeError").elim false fun t=>t.mro.contains "StopIteration" || t.mro.contains "SystemExit")=true then [Value.str msg t].headD Value.none else Value.none]++ownMembersOf (Value.type "AttributeError") [Value.str msg t]) }:Obj)=oX
 have hcX:oX.cls=.type "AttributeError" :=by rw [<-hoX]
 have hdX:∃ws,oX.data=.fields ws:=⟨_,by rw [<-hoX]⟩
 obtain ⟨ws,hdX⟩:=hdX
 have hX:((h.push { cls:=Value.type "tuple",data:=Data.seq #[Value.str msg t] }).push oX).get? (h.push { cls:=Value.type "tuple",data:=Data.seq #[Value.str msg t] }).objs.size=some oX:=Heap.get?_push_size _ (Obj.isFreed_of_fields hdX)
 refine wpAny_raiseNew_none hh (hq _ _ _ (fun b u hb=>?_) ⟨_,Heap.get?_update_self _ hX (Obj.isFreed_of_fields (Obj.data_mapFields hdX _)),by rw [Obj.cls_mapFields];exact hcX⟩)
 rw [Heap.get?_update_other _ _ (by rw [Heap.size_push];exact Nat.ne_of_gt (Nat.lt_succ_of_lt (Heap.lt_size hb)))]
 exact Heap.get?_push_of_some _ (Heap.get?_push_of_some _ hb)
theorem Zox{tk:Tok}{Q:Fin->Shared->Prop}(hh:A.handled=none) (hx:h.get? a=some { cls:=.type "list",data:=.seq vs n })
  (hq:∀h' e tk',(∀b u,h.get? b=some u->h'.get? b=some u)->(∃oe,h'.get? e=some oe/\oe.cls=.type "AttributeError")->E (.ref e) ⟨h',g,d,tk',os⟩) :
  wpAny (model prog w) A (Builtin.«object.__getattribute__» ⟨[.ref a,.str "keys" tk],[]⟩) Q E ⟨h,g,d,t,os⟩:=by
 have hT:(⟨h,g,d,t,os⟩:Shared).TypeIs (.ref a) "list" :=⟨_,hx,rfl⟩
 have f4:=Zkt
 have f5:=Zot
 repeat (any_goals (first | assumption | wp_step))
 exact Zu2 hh (by trivial) hq
theorem Zql{Q:Option Value->Shared->Prop}(hh:A.handled=none) (hx:h.get? a=some { cls:=.type "list",data:=.seq vs n })
  (hq:∀h' tk',(∀b u,h.get? b=some u->h'.get? b=some u)->Q none ⟨h',g,d,tk',os⟩):wpAny (model prog w) A (getAttr? (.ref a) "keys") Q E ⟨h,g,d,t,os⟩:=by
 have hT:(⟨h,g,d,t,os⟩:Shared).TypeIs (.ref a) "list" :=⟨_,hx,rfl⟩
 have f2:=F.slot_list_getattribute.lookup
 have f3:=F.slot_list_getattribute.bind (.ref a)
 have f5:=Zot
 have f6:=Zgt
 unfold getAttr? getAttrBy?
 repeat (any_goals (first | assumption | wp_step))
 refine codeAny_call_builtin F.slot_list_getattribute.plain F.entry_list_ga (F.slot_list_getattribute.check _ _ _ _ _ _ _ _ (show (⟨h,g,d,t+1,os⟩:Shared).TypeIs (.ref a) "list" from ⟨_,hx,rfl⟩) (F.args_list_getattribute_2 _ _) (Zox hh hx fun h' e tk' kp ⟨oe,he,hc⟩=>?_))
 have hTe:(⟨h',g,d,tk',os⟩:Shared).TypeIs (.ref e) "AttributeError" :=⟨_,he,hc⟩
 have hq':=hq h' tk' kp
 unfold getattributeRaised
 repeat (any_goals (first | assumption | wp_step))
 all_goals trace_state
end
theorem Zkk:entryFor table "dict.update.loop" =some Builtin.«dict.update.loop» :=entryFor_of_tree (by kernel_rfl)
section
variable {prog:Program} {w:World} {KT:Type} [DecidableEq KT] {knd:KeyKind prog w KT} {A:Around} {R:Result->Shared->Prop} {l d it:Addr} {tps:List Addr} {prs D0:List (KT×Value)} {h₀:Heap}
end
end L2
namespace L2
open PySem PySem.Spec PyProof.Rows
theorem Zn7{d:Addr}{o:Obj}{kvs:List (Key×V)}{fr:St->St}{g:TG}{tf:TT}{te:TE}{Q:VK}{σ:St}{H1:Hp}{D:Addr}(Pv:Nat->List V->Hp->Prop)(h0:Pv 0 [] (upd H1 D (.lst [])))(hl:∀i ys H,i<=kvs.length->Pv i ys H->H d=some (.frz o (.dK kvs)))
  (hs:∀i kv ys H,kvs[i]? =some kv->Pv i ys H->∀p H2,Same H H2->H p=none->H2 p=some (.tup [kV kv.1,kv.2])->Zcu fr g tf te σ D (.ref p) ys H2 (Pv (i+1))) (hd:∀ys H,Pv kvs.length ys H->Q (.ref D) H):Zda (Iti d o kvs) fr g tf te Q σ H1 D:=by
 refine ⟨fun i m ys H=>m=kvs.length-i/\i<=kvs.length/\Pv i ys H,⟨kvs.length,by simp,Nat.zero_le _,h0⟩,?_⟩
 rintro i m ys H ⟨rfl,hi,p⟩
 have q:=hl i ys H hi p
 by_cases hlt:i<kvs.length
 ·refine .inr ⟨⟨q,hlt⟩,Pv (i+1),fun ys' H' p'=>⟨kvs.length-(i+1),by omega,rfl,hlt,p'⟩,fun x H' y=>?_⟩
  obtain ⟨a,kv,e,hn,hkv,e2⟩:=y
  subst e e2
  exact hs i kv ys H hkv p a _ (Same.new hn) hn Zh
 ·have e:i=kvs.length:=by omega
  subst e
  exact .inl ⟨⟨q,Nat.le_refl _⟩,hd ys H p⟩
end L2
end
section
namespace L2
open PySem
end L2
end
section
namespace L2
open PySem PySem.Spec PyProof.Rows
section
variable {prog:Program} {w:World} {KT:Type} [DecidableEq KT] {knd:KeyKind prog w KT} {A:Around} {l d:Addr} {tps:List Addr} {prs D0:List (KT×Value)} {s:Shared} {Q:Value->Shared->Prop} {E:Value->Shared->Prop} {n:Nat}
end
section
variable {X:Cx} {o e:Expr} {apos cpos:Pos} {td ty:TE}
end
end L2
namespace L2
open PySem PySem.Spec PyProof.Rows
section
variable {X:Cx} {pins:List (Addr×Obj)} {σ:St} {H:Hp} {s:Shared} {Q:Value->Shared->Prop} {la:Arguments} {lb:Expr} {ls:Scope} {lp:Pos} {c Pt:Addr} {clos:List (Str×Addr)}
end
section
variable {X:Cx} {pins:List (Addr×Obj)} {σ:St} {H:Hp} {s:Shared} {Q:VK}
end
section
variable {P:Program} {w:World} {K:Frag} {mg:Str->Option Value} {base:Heap}
end
def offL(H:Hp)(cells:List (Str×Addr)):Hp:=fun b=>if b∈cells.map Prod.snd then none else H b
section
variable {P:Program} {w:World} {K:Frag} {mg:Str->Option Value} {base:Heap}
end
end L2
namespace L2
open PySem PySem.Spec PyProof.Rows
end L2
end
section
namespace L2
open PySem PySem.Spec PyProof.Rows
section
variable {X:Cx} {pins:List (Addr×Obj)} {σ:St} {H:Hp} {s:Shared}
end
end L2
end
section
namespace L2
open PySem PySem.Spec PyProof.Rows
end L2
end
section
namespace L2
open PySem PySem.Spec PyProof.Rows
section
variable {X:Cx} {σ:St} {H:Hp}
end
theorem Zhx{X:Cx}{x v:Str}{pos:Pos}(hg:Gl X x)(h:∃tk,X.mg x=some (.str v tk)) (hd:(x ==("__debug__" :Str))=false:=by decide):PE X (.Name x pos) (tC (.str v)):=by
 obtain ⟨tk,h⟩:=h
 exact Zeq hg h ⟨tk,rfl⟩ hd
end L2
end
section
namespace L2
open PySem PyProof.Rows
theorem Zj1{P:Program}{w:World}{A:Around}{E:Value->Shared->Prop}{it l:Addr}{its:Array Value}(hh:A.handled=none)(hne:l≠it):∀(n i:Nat) (s:Shared) (Q:List Value->Shared->Prop),(s.heap.IsListIter it l i/\s.heap.IsList l its)->i+n<=its.size ->
  (∀h' tk,(h'.IsListIter it l (i+n)/\h'.IsList l its)->(∀b o,b∉[it]->s.heap.get? b=some o->h'.get? b=some o)->Q ((its.toList.drop i).take n) { s with heap:=h',toks:=tk })->wpAny (model P w) A (draw (.ref it) n) Q E s
 | 0,i,s,Q,hst,_,hQ=>by
  show wpAny _ _ (pure []) Q E s
  exact wpAny_pure (by simpa using hQ s.heap s.toks hst fun _ _ _ e=>e)
 | n+1,i,s,Q,hst,hle,hQ=>by
  have hlt:i<its.size:=by omega
  show wpAny _ _ (pyNext (.ref it) >>=_) Q E s
  refine wpAny_bind ((Walks.list (prog:=P) (w:=w) hh it l hne its).item i s _ _ hlt hst fun v h1 tk1 hv hst1 hk1=>?_)
  refine wpAny_bind (wpAny_holding (Zj1 hh hne n (i+1) _ _ hst1 (by omega) fun h2 tk2 hst2 hk2=>wpAny_pure ?_))
  have hd:its.toList.drop i=its[i] ::its.toList.drop (i+1):=by simp [List.drop_eq_getElem_cons,hlt]
  have ev:v=its[i]:=by rw [Array.getElem?_eq_getElem hlt] at hv;exact (Option.some.inj hv).symm
  have:=hQ h2 tk2 (by rw [show i+(n+1)=i+1+n by omega];exact hst2) fun b o hb e=>hk2 b o hb (hk1 b o hb e)
  rw [hd,List.take_succ_cons,<-ev] at this
  exact this
theorem Zmu{P:Program}{w:World}{A:Around}{E:Value->Shared->Prop}{s:Shared}{l:Addr}{its:Array Value}{targets:List (Bool×(Value->Sem Unit))}{Q:Unit->Shared->Prop}(hh:A.handled=none)(hl:s.heap.IsList l its)
  (hn:targets.length=its.size) (hstar:targets.findIdx? (·.1)=none)
  (h:∀h' tk,(∀b o,s.heap.get? b=some o->h'.get? b=some o)->wpAny (model P w) A (assignInOrder (targets.map (·.2)) its.toList) Q E { s with heap:=h',toks:=tk }) :
  wpAny (model P w) A (unpack (.ref l) targets) Q E s:=by
 have hlt:l<s.heap.objs.size:=by obtain ⟨o,ho,_⟩:=hl;exact Heap.lt_size ho
 have ty:s.TypeIs (.ref l) "list" :=by obtain ⟨o,ho,hc,_⟩:=hl;exact ⟨o,ho,hc⟩
 unfold unpack
 rw [hn,hstar]
 refine wpAny_bind (wpAny_holding ?_)
 unfold unpackItems
 refine wpAny_bind ?_
 unfold notIterableAtAll
 refine wpAny_bind (wpAny_specialOf ty F.slot_list_iter.lookup ?_)
 refine wpAny_pure ?_
 simp only [Bool.false_eq_true,if_false]
 refine wpAny_bind (wpAny_holding (wpAny_pyIter_list hl ?_))
 have hne:l≠s.heap.objs.size:=Nat.ne_of_lt hlt
 refine wpAny_bind (wpAny_holding (Zj1 hh hne its.size 0 _ _ ⟨⟨_,Heap.get?_push_size _ rfl,rfl,rfl⟩,hl.push _⟩ (by omega) fun h1 tk1 hst1 hk1=>?_))
 have hall:List.take its.size (List.drop 0 its.toList)=its.toList:=by
  rw [List.drop_zero];exact List.take_of_length_le (by simp)
 rw [hall]
 rw [if_neg (by simp)]
 rw [Nat.zero_add] at hst1
 refine wpAny_bind (wpAny_holding ((Walks.list (prog:=P) (w:=w) hh s.heap.objs.size l hne its).done _ _ _ hst1 fun h2 tk2 hk2=>?_))
 simp only [Option.isSome_none,Bool.false_eq_true,if_false]
 refine wpAny_pure (h h2 tk2 fun b o e=>?_)
 have hb:b∉[s.heap.objs.size]:=fun z=>by
  have z':b=s.heap.objs.size:=by simpa using z
  rw [z'] at e
  exact Nat.lt_irrefl _ (Heap.lt_size e)
 exact hk2 b o hb (hk1 b o hb (Heap.get?_push_of_some _ e))
def Yag(K:Frag)(n:Nat)(t:TGs):TG:=fun v σ H Q=>∃a xs,v=.ref a/\SqL K H a xs/\xs.length=n/\t xs σ H Q
theorem Zx5{X:Cx}{pos:Pos}{es:List Expr}{k:Nat}{t:TGs}{n:Nat}(hc:X.calm=true)(h:PGs X es t)
  (hn:(assignEach es X.env).length=n:=by rfl) (hst:(assignEach es X.env).findIdx? (·.1)=none:=by rfl):PG X (.Tuple es k pos) (Yag X.K n t):=by
 intro pins s σ H v u Q I r hw
 obtain ⟨a,xs,e1,hq,hl,hw⟩:=hw
 subst e1
 cases r
 obtain ⟨its,rv,ht,hz⟩:=I.list hq
 rw [assign_Tuple]
 refine wpAny_bind (wpAny_standAt (Zmu (I.ok.hd hc) ht.isList (by simp [hn,<-hl,rv.length]) hst fun h' tk hx=>?_))
 have I1:Inv X pins σ H { s with heap:=h',toks:=tk }:=I.kept (t':=tk) fun b o e=>hx b o e
 exact h pins _ σ H xs _ Q I1 (by simpa using rv) hw
def Zr0(ns:List Int):Int:=ns.foldl (· + ·) 0
theorem Zf8(ns:List Int):∀j,preSum (fun i=>ns.getD i 0) j=Zr0 (ns.take j)\/ns.length<j
 | 0=>.inl rfl
 | j+1=>by
  by_cases h:ns.length<j+1
  ·exact .inr h
  ·refine .inl ?_
   rcases Zf8 ns j with e|e
   ·have hj:j<ns.length:=by omega
    rw [preSum,e,List.take_add_one,List.getElem?_eq_getElem hj]
    unfold Zr0
    rw [List.foldl_append,List.getD_eq_getElem?_getD,List.getElem?_eq_getElem hj]
    rfl
   ·omega
theorem Zs8{X:Cx}(hc:X.calm=true):W3 X (.builtin "sum") (fun xs H Q=>∃(p:Addr) (ns:List Int),xs=[.ref p]/\SqL X.K H p (ns.map V.int)/\Q (.int (Zr0 ns)) H):=by
 intro pins s σ H xs us Q I r h
 obtain ⟨p,ns,rfl,hq,q⟩:=h
 obtain ⟨u,rfl,ru⟩:=Zdb r
 cases ru
 obtain ⟨its,rv,pl,hz⟩:=I.list hq
 have hlt:p<s.heap.objs.size:=by obtain ⟨_,_,e,_⟩:=pl;exact Heap.lt_size e
 refine call_sum_walkG (wpAny_pyIter_list pl.isList ?_)
 refine ⟨s.heap.objs.size,_,_,its.toArray.size,_,_,fun i=>ns.getD i 0,rfl,Walks.list (A:=X.A.in1) (show X.A.in1.handled=none from I.ok.hd hc) s.heap.objs.size p (Nat.ne_of_lt hlt) its.toArray,⟨⟨_,Heap.get?_push_size _ rfl,rfl,rfl⟩,pl.isList.push _⟩,?_,?_,fun h' tk t' k=>?_⟩
 ·intro b hb
  have:=Heap.size_push s.heap { cls:=.type "list_iterator",data:=.fields #[.ref p,.int 0 0] }
  have hb':b=s.heap.objs.size\/b=p:=by simpa using hb
  show b<(s.heap.push _).objs.size
  rw [this]
  rcases hb' with rfl|rfl
  ·exact Nat.lt_succ_self _
  ·exact Nat.lt_succ_of_lt hlt
 ·intro i v hv
  obtain ⟨x,hx,rx⟩:=Paired.get' rv (i:=i) (b:=v) (by simpa using hv)
  rw [List.getElem?_map] at hx
  obtain ⟨n,hn,rfl⟩:=Option.map_eq_some_iff.mp hx
  obtain ⟨t,rfl⟩:=rx
  exact ⟨t,by show Value.int n t=Value.int (ns.getD i 0) t;rw [List.getD_eq_getElem?_getD,hn];rfl⟩
 ·have hl:=rv.length
  rw [List.length_map] at hl
  refine ⟨.int (Zr0 ns),H,?_,?_,q⟩
  ·refine I.kept (t':=tk) fun b o e=>k b o ?_ (Heap.get?_push_of_some _ e)
   have:=Heap.lt_size e
   intro z
   have z':b=s.heap.objs.size:=by simpa using z
   rw [z'] at this
   exact Nat.lt_irrefl _ this
  ·refine ⟨t',?_⟩
   rw [List.size_toArray,<-hl]
   rcases Zf8 ns ns.length with e|e
   ·rw [e,List.take_length]
   ·omega
def Zfp(x:Str)(n:Nat):Str:=⟨(List.replicate n x.cps).foldl (· ++ ·) #[]⟩
def Zy2:R2:=fun x y H Q=>∃(z:Str) (n:Nat),x=.str z/\y=.int n/\z.length * n<=1000/\n<=1000/\Q (.str (Zfp z n)) H
theorem Zub{X:Cx}:OpR X (binaryOp .Mult) Zy2:=by
 intro pins s σ H x y v u Q I rx ry h
 obtain ⟨z,n,rfl,rfl,hz,hn,q⟩:=h
 obtain ⟨t,rfl⟩:=rx
 obtain ⟨t',rfl⟩:=ry
 refine PySem.P.mul_str ?_ ?_ ?_ ?_
 ·rw [decide_eq_false (by omega),decide_eq_false (by omega)];rfl
 ·intro h1 h2 h3
  have:((2:Int) ^ 63-1) / (n:Int) ≥ 1000:=by
   rw [ge_iff_le,Int.le_ediv_iff_mul_le (by omega)]
   omega
  have hz1:z.length<=z.length * n:=Nat.le_mul_of_pos_right _ (by omega)
  omega
 ·intro h1 h2
  show decide (z.length * (n:Int).toNat >sizeLine)=false
  rw [decide_eq_false]
  have:=sz (n:=z.length * n) hz
  rw [Int.toNat_natCast]
  omega
 ·by_cases h0:n=0
  ·subst h0
   rw [if_pos (by decide)]
   exact ⟨by decide,.str (Zfp z 0),H,I.kept fun b o e=>e,⟨_,rfl⟩,q⟩
  ·rw [if_neg (by omega)]
   by_cases h1:((n:Int) ==1 || z.length ==0)=true
   ·rw [if_pos h1]
    refine ⟨.str (Zfp z n),H,I,⟨t,?_⟩,q⟩
    have:Zfp z n=z:=by
     rw [Bool.or_eq_true,beq_iff_eq,beq_iff_eq] at h1
     rcases h1 with e|e
     ·have e:n=1:=by omega
      subst e
      unfold Zfp
      simp
     ·have e:z.cps=#[]:=Array.eq_empty_of_size_eq_zero e
      have:∀m,(List.replicate m (#[]:Array Nat)).foldl (· ++ ·) #[]=#[]:=fun m=>by
       induction m with
       | zero=>rfl
       | succ m ih=>rw [List.replicate_succ,List.foldl_cons];simpa using ih
      unfold Zfp
      rw [e,this n]
      cases z
      simp at e
      rw [e]
    rw [this]
   ·rw [if_neg h1,Int.toNat_natCast]
    refine ⟨?_,.str (Zfp z n),H,I.kept fun b o e=>e,⟨_,rfl⟩,q⟩
    exact fits_reps (by show decide (_ >sizeLine)=false;rw [decide_eq_false];have:=sz (n:=z.length * n) hz;omega)
def Zz5(K:Frag)(te:TE)(ts:TO):TE:=fun σ H Q=>te σ H fun x H1=>ts σ H1 fun k H2=>∃a xs,k=some (-1)/\x=.ref a/\SqL K H2 a xs/\New H2 (.lst xs.reverse) Q
theorem Yc.rev{xs:List V}{us:List Value}(h:Yc xs us):Yc xs.reverse us.reverse:=by
 induction h with
 | nil=>exact .nil
 | cons r _ ih=>rw [List.reverse_cons,List.reverse_cons];exact Paired.append ih (.cons r .nil)
theorem Zx9{X:Cx}{e st:Expr}{te:TE}{ts:TO}{p2 pos:Pos}{ops:Value->Value->List Value}(he:PE X e te)(hst:PO X (some st) ts)(hs:∀l r,subscripted (.Slice none none (some st) p2) false l r=operate (ops l r) (getItem l r)):PE X (.Subscript e (.Slice none none (some st) p2) pos) (Zz5 X.K te ts):=by
 intro pins s σ H Q I h
 refine Subscript_ (thn (he pins s σ H _ I h) fun v s1 ⟨x,H1,I1,r1,q1⟩=>?_)
 refine wpAny_Slice ?_
 rw [evalPart_none]
 refine wpAny_pure ?_
 refine wpAny_pure ?_
 refine thn (hst pins s1 σ H1 _ I1 q1) fun vk s3 ⟨k,H3,I3,pk,a,xs,hk,hx,hq,q⟩=>?_
 subst hk hx
 cases r1
 have I4:Inv X pins σ H3 { s3 with heap:=s3.heap.push { cls:=.type "slice",data:=.fields #[.none,.none,vk] } }:=I3.kept (t':=s3.toks) fun b ob q=>Heap.get?_push_of_some _ q
 obtain ⟨its,r,ht,hz⟩:=I4.list hq
 show wpAny (model X.prog X.w) X.A (subscriptTail e (.Slice none none (some st) p2) (.ref a) (.ref s3.heap.objs.size)) (EP X pins σ Q) X.xe { s3 with heap:=s3.heap.push { cls:=.type "slice",data:=.fields #[.none,.none,vk] } }
 refine tail_any (ops:=ops (.ref a) (.ref s3.heap.objs.size)) ht.isList.typeIs slot_list_getitem.lookup ?_ (hs _ _)
 refine wpAny_getItem_list_slice ht.isList (Heap.IsSliceOf.new ..) .none .none pk (by simp) ?_ (by rw [List.size_toArray,<-r.length];exact hz)
 rw [PySem.W.krv_pick]
 refine ⟨.ref _,_,I4.laid (t':=s3.toks) (o:=.lst xs.reverse) (fun b ob q=>Heap.get?_push_of_some _ q) (Nat.le_refl _) ?_,rfl,q.at _ (I4.hok.fresh (Nat.le_refl _))⟩
 exact ⟨by rw [List.length_reverse];exact hz,_,0,Yc.rev r,Heap.get?_push_size _ rfl⟩
end L2
end
section
namespace L2
open PySem PySem.Spec PyProof.Rows
structure DnD(K:Frag)(x qual:Str)(st:Stmt)(ps:List Str)(v:V) where
 f:Addr
 fd:FuncData
 dV:Value
 F:Zow K x qual st dV f fd
 b:Zbx K fd ps []
 u:Value
 r:Yk v u
 b1:Zbx K fd ps [u]
theorem Zow.okW{P:Program}{w:World}{K:Frag}{mg:Str->Option Value}{base:Heap}{x qual:Str}{st:Stmt}{dV:Value}{f:Addr}{fd:FuncData}{N ps:List Str}{k:Nat}{sp:Sp}(F:Zow K x qual st dV f fd)(S:Zo N ps (Zd st))
  (hbody:∀(cdv:Value) (A:Around) (outer:List Env) (s:Shared) (H:Hp) (vs:List V) (Q:VK) (E:XK),W6 k (A.deeper (envOfC qual (Zd st) s.heap.objs.size f cdv))->sp vs H Q E ->
   WSs (Zlt CX0 P w K mg base N qual (Zd st) f cdv A outer s H E).nox (Zm st) { nx:=fun _ H'=>Q .non H',rt:=Q } (start N vs) H) (len:∀vs H Q E,sp vs H Q E->vs.length=ps.length:=by rintro _ _ _ _ h;repeat (first|(obtain ⟨e,_⟩:=h;subst e;rfl)|obtain ⟨_,h⟩:=h)):Zz P w K mg base CX0 (k+1) f fd ps sp:=Zow.ok F S len hbody
theorem Zdo{X:Cx}{x:Str}{v:Int}{pos:Pos}(hg:Gl X x)(h:∃tk,X.mg x=some (.int v tk)) (hd:(x ==("__debug__" :Str))=false:=by decide):PE X (.Name x pos) (tC (.int v)):=by
 obtain ⟨tk,h⟩:=h
 exact Zeq hg h ⟨tk,rfl⟩ hd
theorem Zdp{α:Type}{l:List α}{i:Nat}{a:α}(nd:l.Nodup)(h:l[i]? =some a):a∉l.take i:=fun m=>by
 have e:l=l.take i++(a ::l.drop (i+1)):=by rw [<-Zhu h,List.take_append_drop]
 rw [e,List.nodup_append] at nd
 exact nd.2.2 a m a List.mem_cons_self rfl
section
variable {prog:Program} {w:World} {KT:Type} [DecidableEq KT] {knd:HeapKind prog w KT} {A:Around} {E:Value->Shared->Prop} {s:Shared}
theorem Zn1(c:Addr)(hc:(c ==sysModules)=false):MeetsIn prog w (Builtin.«dict.__len__» ⟨[.ref c],[]⟩) (fun _ R s=>∃ys,s.heap.DictOfH knd c ys/\R (.ok (.ret (.int ys.length s.toks))) { s with toks:=s.toks+1 }) :=
 .of_wp fun A R s ⟨ys,hm,h⟩=>by
  obtain ⟨ob,es,ep,hob,_,hda,hen,_,_⟩:=hm
  show wpAny _ _ (dictSize c >>=_) _ _ s
  unfold dictSize
  refine wpAny_bind (wpAny_bind (wpAny_dictEntries hob hda (wpAny_pure ?_)))
  show wpAny _ _ (Builtin.Dict.pendingCount c >>=_) _ _ s
  refine wpAny_bind (wpAny_pendingCount_other hc (wpAny_ret_mkInt ?_))
  rw [Nat.add_zero,size_of_entries hen];exact h
theorem Zqb{c:Addr}{ys:List (KT×Addr×Value)}{Q:Value->Shared->Prop}(hc:(c ==sysModules)=false)(hm:s.heap.DictOfH knd c ys)(hf:(ys.length:Int)<2 ^ 63)
  (h:Q (.int ys.length (s.toks+1)) { s with toks:=s.toks+1+1 }):wpAny (model prog w) A (call (.builtin "len") [.ref c]) Q E s:=by
 refine Calls.call_function_entry kind_len plain_len entry_len (args_len1 _) ?_
 unfold Builtin.«len»
 refine wpAny_bind (m:=oneArg "len" _) (wpAny_pure (wpAny_bind (m:=callSpecial? (.ref c) (Str.ofString "__len__")) ?_))
 refine wpAny_callSpecial?_slot (name:=Str.ofString "__len__") hm.typeIs F.slot_dict_len (call_meetsIn F.slot_dict_len hm.typeIs F.entry_dict_len (F.args_dict_len_1 _) (Zn1 (knd:=knd) c hc) ⟨ys,hm,?_⟩)
 show wpAny _ _ _ _ _ { s with toks:=s.toks+1 }
 refine wpAny_bind (wpAny_holding (wpAny_pure (wpAny_bind (wpAny_letGo ?_))))
 show wpAny _ _ (if ((ys.length:Nat):Int)<0 then _ else _) _ _ _
 rw [if_neg (by omega)]
 show wpAny _ _ (if ((ys.length:Nat):Int) ≥ 2 ^ 63 then _ else _) _ _ _
 rw [if_neg (by omega)]
 exact wpAny_bind (wpAny_mkInt (wpAny_pure ⟨_,rfl,h⟩))
end
def Zs9:List V->Hp->VK->Prop:=fun xs H Q=>∃a kvs,xs=[V.ref a]/\H a=some (.dT kvs)/\Q (.int kvs.length) H
theorem Zjz{X:Cx}:W3 X (.builtin "len") Zs9:=by
 intro pins s σ H xs us Q I r h
 obtain ⟨a,kvs,rfl,ha,q⟩:=h
 obtain ⟨u,rfl,ru⟩:=Zdb r
 cases ru
 obtain ⟨z,hd,ys,rel,dd⟩:=Zv2 I.hok ha
 have hl:kvs.length=ys.length:=Paired.length rel
 refine Zqb hd dd (by rw [<-hl];rw [sizeLine_eq] at z;omega) ?_
 rw [<-hl]
 exact ⟨.int _,H,I.tok _,⟨_,rfl⟩,q⟩
section
variable {prog:Program} {w:World} {KT:Type} [DecidableEq KT] {knd:HeapKind prog w KT} {A:Around} {R:Result->Shared->Prop} {l d it:Addr} {tps:List Addr} {qs:List (KT×Addr×Value)} {h₀:Heap}
def Zcv(knd:HeapKind prog w KT)(h:Heap)(tps:List Addr)(qs:List (KT×Addr×Value)):Prop :=
 Paired (fun p (q:KT×Addr×Value)=>(∃o n,h.get? p=some o/\o.cls=.type "tuple" /\o.data=.seq #[.ref q.2.1,q.2.2] n)/\∃ok,h.get? q.2.1=some ok/\∀h':Heap,h'.get? q.2.1=some ok->knd.is h' q.1 q.2.1) tps qs
theorem Zcv.key{h:Heap}(hp:Zcv knd h tps qs):∀q∈qs,∃ok,h.get? q.2.1=some ok/\∀h':Heap,h'.get? q.2.1=some ok->knd.is h' q.1 q.2.1:=by
 unfold Zcv at hp
 induction hp with
 | nil=>intro q z;cases z
 | cons r _ ih =>
  intro q z
  rcases List.mem_cons.mp z with rfl|z
  ·exact r.2
  ·exact ih q z
theorem Zhq{h h':Heap}{ys:List (KT×Addr×Value)}(hD:h.DictOfH knd d ys)(hd:∀o,h.get? d=some o->h'.get? d=some o)(hk:∀y∈ys,knd.is h' y.1 y.2.1):h'.DictOfH knd d ys:=by
 obtain ⟨o,es,ep,ho,r1,r2,r3,_,r5⟩:=hD
 exact ⟨o,es,ep,hd o ho,r1,r2,r3,hk,r5⟩
theorem Zm9(hh:A.handled=none)(hu:knd.room A.in1)(hdi:d≠it)(hl:h₀.IsList l (tps.map Value.ref).toArray)(hld:l≠d)(hli:l≠it)(hp:Zcv knd h₀ tps qs)(hnd:(qs.map (·.1)).Nodup)(hsz:qs.length<=sizeLine)
  (hpd:∀p∈tps,p≠d/\p≠it) (hqd:∀q∈qs,q.2.1≠d/\q.2.1≠it) :
  ∀(n i:Nat) (s:Shared) (j:Int) (tk:Tok),i+n=qs.length->s.heap.IsListIter it l i->s.heap.DictOfH knd d (qs.take i)->(∀b o,b≠d->b≠it->h₀.get? b=some o->s.heap.get? b=some o) ->
   (∀h' tk',h'.DictOfH knd d qs->(∀b o,b≠d->b≠it->h₀.get? b=some o->h'.get? b=some o)->R (.ok (.ret .none)) { s with heap:=h',toks:=tk' }) ->
   codeAny (model prog w) A (.builtin "dict.update.loop" ⟨[.ref d,.ref it,.int j tk,.none],[]⟩) R s:=by
 have hlen:tps.length=qs.length:=Paired.length hp
 have hkey:=hp.key
 have hu':∀args:Args,knd.room (A.under (.builtin "dict.update.loop" args)):=fun args=>by rw [Around.under_plainId (by trivial)];exact hu
 have is_:∀h':Heap,(∀b o,b≠d->b≠it->h₀.get? b=some o->h'.get? b=some o)->∀q∈qs,knd.is h' q.1 q.2.1:=fun h' kp q hq=>by
  obtain ⟨ok,h1,h2⟩:=hkey q hq
  exact h2 h' (kp _ _ (hqd q hq).1 (hqd q hq).2 h1)
 intro n
 induction n with
 | zero =>
  intro i s j tk hi hit hD keep hq
  have hl':s.heap.IsList l (tps.map Value.ref).toArray:=by
   obtain ⟨o,ho,r⟩:=hl
   exact ⟨o,keep _ _ hld hli ho,r⟩
  refine codeAny_builtin Zkk ?_
  unfold Builtin.«dict.update.loop»
  dsimp only
  refine wpAny_bind (wpAny_pyNext_list_end hh hit hl' (by rw [List.getElem?_toArray,List.getElem?_map,List.getElem?_eq_none (by omega)];rfl) fun h' eb=>?_)
  dsimp only
  refine wpAny_bind (wpAny_pure (wpAny_pure ?_))
  have kp:∀b o,b≠d->b≠it->h₀.get? b=some o->h'.get? b=some o:=fun b o h1 h2 h3=>eb b o h2 (keep b o h1 h2 h3)
  refine hq h' s.toks ?_ kp
  rw [show qs.take i=qs from List.take_of_length_le (by omega)] at hD
  exact Zhq hD (fun o ho=>eb d o hdi ho) (is_ h' kp)
 | succ n ih =>
  intro i s j tk hi hit hD keep hq
  have hl':s.heap.IsList l (tps.map Value.ref).toArray:=by
   obtain ⟨o,ho,r⟩:=hl
   exact ⟨o,keep _ _ hld hli ho,r⟩
  have hit':i<tps.length:=by omega
  obtain ⟨q,hqi,⟨ot,nt,hpt,hct,hdt⟩,_⟩:=Paired.get hp (i:=i) (a:=tps[i]) (List.getElem?_eq_getElem hit')
  obtain ⟨nd,ni⟩:=hpd tps[i] (List.getElem_mem hit')
  have hqm:q∈qs:=List.mem_of_getElem? hqi
  refine codeAny_builtin Zkk ?_
  unfold Builtin.«dict.update.loop»
  dsimp only
  refine wpAny_bind (wpAny_pyNext_list_item hit hl' (x:=.ref tps[i]) (by rw [List.getElem?_toArray,List.getElem?_map,List.getElem?_eq_getElem hit'];rfl) fun h1 it1 sb1=>?_)
  have hpt1:h1.get? tps[i]=some ot:=by rw [sb1.2 _ ni];exact keep _ _ nd ni hpt
  have hT:({ s with heap:=h1 }:Shared).TypeIs (.ref tps[i]) "tuple" :=⟨_,hpt1,hct⟩
  have kp1:∀b o,b≠d->b≠it->h₀.get? b=some o->h1.get? b=some o:=fun b o z1 z2 z3=>by rw [sb1.2 _ z2];exact keep b o z1 z2 z3
  have hD1:h1.DictOfH knd d (qs.take i):=Zhq hD (fun o ho=>by rw [sb1.2 _ hdi];exact ho) fun y hy=>is_ h1 kp1 y (List.mem_of_mem_take hy)
  refine wpAny_bind (wpAny_holding (wpAny_bind (wpAny_tryCatch ?_)))
  unfold Builtin.Dict.pairItems
  refine wpAny_bind (wpAny_typeOf hT ?_)
  rw [if_pos (by decide)]
  refine wpAny_bind (wpAny_seqItems (s:={ s with heap:=h1 }) hpt1 hdt (wpAny_pure ?_))
  refine wpAny_holding (wpAny_dictSet_heap (s:={ s with heap:=h1 }) (hu' _) (is_ h1 kp1 q hqm) hD1 (fun h2 hD2 sb2=>?_) ?_)
  ·refine wpAny_pure ⟨Code.quiet_builtin _ (by trivial),?_⟩
   have hno:atKey (qs.take i) q.1=none:=by
    cases e:atKey (qs.take i) q.1 with
    | none=>rfl
    | some z =>
     unfold atKey at e
     obtain ⟨y,hy,_⟩:=Option.map_eq_some_iff.mp e
     have y0:=List.find?_some hy
     have y1:y.1=q.1:=of_decide_eq_true y0
     have m1:y.1∈(qs.map (·.1)).take i:=by rw [<-List.map_take];exact List.mem_map.mpr ⟨y,List.mem_of_find?_eq_some hy,rfl⟩
     rw [y1] at m1
     exact absurd m1 (Zdp hnd (by rw [List.getElem?_map,hqi];rfl))
   have hst:storedH (qs.take i) q.1 q.2.1 q.2.2=qs.take (i+1):=by rw [storedH_new hno,List.take_add_one,hqi];rfl
   rw [hst] at hD2
   refine ih (i+1) { s with heap:=h2,toks:=_ } (j+1) _ (by omega) ?_ hD2 (fun b o n1 n2 z=>?_) fun h' tk'=>hq h' tk'
   ·exact it1.at fun o z=>by rw [sb2.2 _ hdi.symm];exact z
   ·rw [sb2.2 _ n1];exact kp1 b o n1 n2 z
  ·rw [List.length_take];omega
theorem Zfu{n:Nat}{s:Shared}{Q:Value->Shared->Prop}{E:Value->Shared->Prop}(hh:A.handled=none)(hu:knd.room A.in1.in1) (hx:s.heap.get? l=some { cls:=.type "list",data:=.seq (tps.map Value.ref).toArray n }) (hp:Zcv knd s.heap tps qs) (hnd:(qs.map (·.1)).Nodup) (hsz:qs.length<=sizeLine)
  (h:∀h' tk' dd,h'.DictOfH knd dd qs->dd=s.heap.objs.size->s.heap.get? dd=none->(∀b o,s.heap.get? b=some o->h'.get? b=some o)->Q (.ref dd) { s with heap:=h',toks:=tk' }) :
  wpAny (model prog w) A (call (.type "dict") [.ref l]) Q E s:=by
 refine callType_codes (Q₁:=fun obj s₁=>obj=.ref s.heap.objs.size/\s₁={ s with heap:=s.heap.push { cls:=.type "dict",data:=.dict #[] } }) F.kt_called_dict (F.kt_typeCall_dict_1 _) F.entry_dict_init (kt_code_dict_new _ ⟨rfl,rfl⟩) ?_
 rintro obj s₁ ⟨rfl,rfl⟩
 have hnew:(s.heap.push { cls:=.type "dict",data:=.dict #[] }).DictOfH knd s.heap.objs.size []:=Heap.DictOfH.new s.heap
 have hx1:(s.heap.push { cls:=.type "dict",data:=.dict #[] }).get? l=some { cls:=.type "list",data:=.seq (tps.map Value.ref).toArray n }:=Heap.get?_push_of_some _ hx
 refine ⟨hnew.typeIs,F.args_dict_init_2 _ _,?_⟩
 unfold Builtin.«dict.__init__»
 refine wpAny_bind ?_
 unfold Builtin.Dict.selfAndRest
 refine wpAny_bind (wpAny_notOrdered_dict hnew.typeIs ?_)
 show wpAny _ _ (pure (s.heap.objs.size,[Value.ref l])) _ _ _
 refine wpAny_pure ?_
 show wpAny _ _ (Builtin.Dict.updateFrom "dict.__init__" s.heap.objs.size (.ref l) [] .none) _ _ _
 unfold Builtin.Dict.updateFrom
 refine wpAny_bind (wpAny_typeOf (T := "list") ⟨_,hx1,rfl⟩ ?_)
 rw [if_pos (by decide)]
 obtain ⟨h0,g0,d0,t0,os0⟩:=s
 dsimp only at *
 refine wpAny_bind (Zql hh hx1 fun h1 tk1 k1=>?_)
 simp only [Option.isNone_none,if_true]
 have hx2:=k1 _ _ hx1
 have hl2:h1.IsList l (tps.map Value.ref).toArray:=⟨_,hx2,rfl,n,rfl⟩
 refine wpAny_bind (wpAny_rule (wpAny_bind (wpAny_pyIter_list (s:=⟨h1,g0,d0,tk1,os0⟩) hl2 (wpAny_pure ⟨Code.quiet_builtin _ (by trivial),?_⟩))))
 have k2:∀b o,h0.get? b=some o->(h1.push { cls:=.type "list_iterator",data:=.fields #[.ref l,.int 0 0] }).get? b=some o:=fun b o z=>Heap.get?_push_of_some _ (k1 _ _ (Heap.get?_push_of_some _ z))
 have hd1:h1.get? h0.objs.size=some { cls:=.type "dict",data:=.dict #[] }:=k1 _ _ (Heap.get?_push_size h0 rfl)
 have lt1:h0.objs.size<h1.objs.size:=Heap.lt_size hd1
 have hll:l<h0.objs.size:=Heap.lt_size hx
 have hfar:∀c o,h0.get? c=some o->c≠h0.objs.size/\c≠h1.objs.size:=fun c o z=>by
  have:=Heap.lt_size z
  exact ⟨Nat.ne_of_lt this,Nat.ne_of_lt (Nat.lt_trans this lt1)⟩
 refine Zm9 (A:=A.in1) (knd:=knd) (h₀:=h1.push { cls:=.type "list_iterator",data:=.fields #[.ref l,.int 0 0] }) (l:=l) (tps:=tps) (qs:=qs) hh hu (Nat.ne_of_lt lt1) ?_ (Nat.ne_of_lt hll) (Nat.ne_of_lt (Nat.lt_trans hll lt1)) ?_ hnd hsz (fun p z=>?_) (fun q z=>?_) qs.length 0 ⟨h1.push { cls:=.type "list_iterator",data:=.fields #[.ref l,.int 0 0] },g0,d0,tk1,os0⟩ 0 0 (by omega) ?_ ?_ (fun _ _ _ _ z=>z) fun h' tk' hD kp=>?_
 ·exact ⟨_,k2 _ _ hx,rfl,n,rfl⟩
 ·exact Paired.mapP hp fun p q ⟨⟨o,m,z2,z3⟩,ok,z4,z5⟩=>⟨⟨o,m,k2 _ _ z2,z3⟩,ok,k2 _ _ z4,z5⟩
 ·obtain ⟨i,hi,rfl⟩:=List.getElem_of_mem z
  obtain ⟨q,_,⟨o,m,z2,_⟩,_⟩:=Paired.get hp (i:=i) (a:=tps[i]) (List.getElem?_eq_getElem hi)
  exact hfar _ _ z2
 ·obtain ⟨ok,z4,_⟩:=hp.key q z
  exact hfar _ _ z4
 ·exact ⟨_,Heap.get?_push_size h1 rfl,rfl,rfl⟩
 ·exact Zhq hnew (fun o ho=>Heap.get?_push_of_some _ (k1 _ _ ho)) fun y hy=>by cases hy
 ·refine ⟨rfl,h h' tk' h0.objs.size hD rfl (Heap.get?_none_of_le (Nat.le_refl _)) fun b o z=>kp b o ?_ ?_ (k2 b o z)⟩
  ·exact (hfar _ _ z).1
  ·exact (hfar _ _ z).2
end
def Zs4:List V->Hp->VK->Prop:=fun xs H Q=>∃(l:Addr) (tps:List Addr) (kvs:List (List Key×V)),xs=[.ref l]/\H l=some (.lst (tps.map V.ref)) /\
 Paired (fun t (q:List Key×V)=>∃a,H t=some (.tup [.ref a,q.2])/\H a=some (.tup (q.1.map kV))) tps kvs/\(kvs.map Prod.fst).Nodup/\New H (.dT kvs) Q
theorem Zn0{X:Cx}(hc:X.calm=true)(hu:X.A.units+64<cLine):W3 X (.type "dict") Zs4:=by
 intro pins s σ H xs us Q I r h
 obtain ⟨l,tps,kvs,rfl,hl,hp,hn,q⟩:=h
 obtain ⟨u,rfl,ru⟩:=Zdb r
 cases ru
 obtain ⟨hz,its,n,rv,hg⟩:=(show Yn X.prog X.w H s.heap l (.lst (tps.map V.ref)) from I.hok l _ hl)
 rw [Zet rv] at hg
 have key:∀{tps:List Addr} {kvs:List (List Key×V)},Paired (fun t (q:List Key×V)=>∃a,H t=some (.tup [.ref a,q.2])/\H a=some (.tup (q.1.map kV))) tps kvs->∃qs,KT H kvs qs/\Zcv (tupleKind (Ye X.prog X.w)) s.heap tps qs:=by
  intro tps kvs hp
  induction hp with
  | nil=>exact ⟨[],.nil,.nil⟩
  | cons r t ih =>
   rename_i p q _ _
   obtain ⟨qs,h1,h2⟩:=ih
   obtain ⟨a,ra,rk⟩:=r
   obtain ⟨_,its,rv,o,ho,hcl,m,hd⟩:=(show Yn X.prog X.w H s.heap p (.tup [.ref a,q.2]) from I.hok p _ ra)
   obtain ⟨k,v,rfl,rk1,rv2⟩:=Zpi rv
   cases (show k=Value.ref a from rk1)
   obtain ⟨_,its2,r2,o2,ho2,hcl2,m2,hd2⟩:=(show Yn X.prog X.w H s.heap a (.tup (q.1.map kV)) from I.hok a _ rk)
   exact ⟨(q.1,a,v) ::qs,.cons ⟨rfl,rk,rv2⟩ h1,.cons ⟨⟨o,m,ho,hcl,hd⟩,o2,ho2,fun h' e=>⟨o2,_,m2,e,hcl2,hd2,by simpa using Zfi r2⟩⟩ h2⟩
 obtain ⟨qs,hkv,hpi⟩:=key hp
 have hql:kvs.length=qs.length:=Paired.length hkv
 have hle:kvs.length<=sizeLine:=by
  have:=Paired.length hp
  rw [List.length_map] at hz
  omega
 have hnd:(qs.map (·.1)).Nodup:=by
  have:∀{kvs:List (List Key×V)} {qs:List (List Key×Addr×Value)},KT H kvs qs->qs.map (·.1)=kvs.map Prod.fst:=by
   intro kvs qs z
   induction z with
   | nil=>rfl
   | cons r t ih=>rw [List.map_cons,List.map_cons,ih,r.1]
  rw [this hkv]
  exact hn
 refine Zfu (knd:=tupleKind (Ye X.prog X.w)) (I.ok.hd hc) (tupleKind_room_in1 (A:=X.A.in1) (by show X.A.units+1+1<cLine;omega)) hg hpi hnd (by rw [<-hql];exact hle) fun h' tk' dd hD hdd hn' k=>?_
 have hsm:dd≠sysModules:=fun z=>by
  have hb:=I.big
  rw [<-hdd,z] at hb
  exact Nat.lt_irrefl _ hb
 have hH0:H dd=none:=by
  cases e:H dd with
  | none=>rfl
  | some u =>
   obtain ⟨ob,z⟩:=(I.hok dd u e).there
   rw [hn'] at z
   cases z
 obtain ⟨o,es,ep,e1,e2,e3,e4,_,e5⟩:=hD
 obtain ⟨hH,J⟩:=I.laidAt (t':=tk') (o:=.dT kvs) k hn' (show Yn X.prog X.w (upd H dd (.dT kvs)) h' dd (.dT kvs) from ⟨hle,beq_eq_false_iff_ne.mpr hsm,qs,hkv.keeps fun b ys e=>by rw [Zi (Zj e hH0)];exact e,o,es,ep,e1,e2,e3,e4,e5⟩)
 exact ⟨.ref dd,_,J,rfl,q.at dd hH⟩
end L2
end
section
namespace L2
open PySem PySem.Spec PyProof.Rows
section
variable {prog:Program} {w:World} {A:Around} {E:Value->Shared->Prop} {s:Shared}
theorem Zqg{a b:Str}{t u:Tok}{Q:Bool->Shared->Prop}(h:Q (decide (a.cps.toList<b.cps.toList)) s):wpAny (model prog w) A (oneLt' false (.str a t) (.str b u)) Q E s:=by
 rw [oneLt'_eq]
 simp only [Bool.false_eq_true,if_false]
 refine wpAny_bind (wpAny_richCompare_same (op:=.Lt) (typeIs_str s a t) (typeIs_str s b u) slot_str_lt (call_str_lt ⟨(fun z=>nomatch z),?_⟩))
 exact wpAny_truthy_bool h
theorem Zoj{x y:Addr}{ox oy:Obj}{n e p q p' q':Str}{t1 t2 t3 t4 u1 u2 u3 u4:Tok}{m1 m2:Nat}{Q:Bool->Shared->Prop}(hx:s.heap.get? x=some ox)(dx:ox.data=.seq #[.str n t1,.str e t2,.str p t3,.str q t4] m1)
  (hy:s.heap.get? y=some oy) (dy:oy.data=.seq #[.str n u1,.str e u2,.str p' u3,.str q' u4] m2) (ne:p≠p') (h:Q (decide (p.cps.toList<p'.cps.toList)) s):wpAny (model prog w) A (keyLt' (tuples' true) (.ref x) (.ref y)) Q E s:=by
 show wpAny _ _ (Builtin.List.listItems (.ref x) >>=fun xs=>_) Q E s
 refine wpAny_bind (listItems_at hx dx ?_)
 show wpAny _ _ (Builtin.List.listItems (.ref y) >>=fun ys=>_) Q E s
 refine wpAny_bind (listItems_at hy dy ?_)
 have hz:(#[Value.str n t1,.str e t2,.str p t3,.str q t4].toList.zip #[Value.str n u1,.str e u2,.str p' u3,.str q' u4].toList).zipIdx=[((.str n t1,.str n u1),0),((.str e t2,.str e u2),1),((.str p t3,.str p' u3),2),((.str q t4,.str q' u4),3)]:=rfl
 rw [hz,List.forIn_cons]
 refine wpAny_bind (wpAny_bind (wpAny_bind (wpAny_eqBool_str ?_)))
 rw [decide_eq_true rfl]
 refine wpAny_pure ?_
 show wpAny _ _ (forIn _ _ _) _ _ _
 rw [List.forIn_cons]
 refine wpAny_bind (wpAny_bind (wpAny_eqBool_str ?_))
 rw [decide_eq_true rfl]
 refine wpAny_pure ?_
 show wpAny _ _ (forIn _ _ _) _ _ _
 rw [List.forIn_cons]
 refine wpAny_bind (wpAny_bind (wpAny_eqBool_str ?_))
 rw [decide_eq_false ne]
 refine wpAny_bind (Zqg ?_)
 exact wpAny_pure (wpAny_pure (wpAny_pure h))
theorem Zj9{x:Addr}{ox:Obj}{v:Value}{xs:List Value}{m:Nat}{Q:Option Value->Shared->Prop}(hx:s.heap.get? x=some ox) (cx:ox.cls=.type "tuple") (dx:ox.data=.seq (v ::xs).toArray m) (h:Q (some v) s):wpAny (model prog w) A (firstOfTuple' (.ref x)) Q E s:=by
 show wpAny _ _ (typeOf (.ref x) >>=fun ty=>_) Q E s
 refine wpAny_bind (wpAny_typeOf (T := "tuple") ⟨_,hx,cx⟩ ?_)
 simp only [bne_self_eq_false,Bool.false_eq_true,if_false]
 exact wpAny_bind (listItems_at hx dx (wpAny_pure h))
theorem Zlh{x y:Addr}{ox oy:Obj}{n n':Str}{xs ys:List Value}{t u:Tok}{m1 m2:Nat}{Q:SortKind->Shared->Prop}(hx:s.heap.get? x=some ox) (cx:ox.cls=.type "tuple") (dx:ox.data=.seq (.str n t ::xs).toArray m1)
  (hy:s.heap.get? y=some oy) (cy:oy.cls=.type "tuple") (dy:oy.data=.seq (.str n' u ::ys).toArray m2) (h:Q (tuples' true) s):wpAny (model prog w) A (keyKind' #[.ref x,.ref y]) Q E s:=by
 have tx:s.TypeIs (.ref x) "tuple" :=⟨_,hx,cx⟩
 have ty:s.TypeIs (.ref y) "tuple" :=⟨_,hy,cy⟩
 rw [keyKind'_eq,show (#[Value.ref x,.ref y]:Array Value)=[Value.ref x,.ref y].toArray from rfl,List.mapM_toArray,List.mapM_cons,List.mapM_cons,List.mapM_nil]
 simp only [map_bind,map_pure,bind_assoc,pure_bind]
 refine wpAny_bind (Zj9 hx cx dx (wpAny_bind (Zj9 hy cy dy ?_)))
 rw [if_pos (by simp)]
 refine wpAny_bind (wpAny_rule ?_)
 rw [show Array.filterMap id #[some (Value.str n t),some (.str n' u)]=[Value.str n t,.str n' u].toArray from rfl,oneTypeOnly'_eq,List.mapM_toArray,List.mapM_cons,List.mapM_cons,List.mapM_nil]
 refine wpAny_pure ((congrArg (fun b=>Q (tuples' b) s) (?_:_=true)).mpr h)
 rw [if_pos (by simp)]
 rfl
theorem Zvd{x y:Value}{kd:SortKind}{st:SortSt}{Q:Option Nat->SortSt->Prop}(hk:kindOf st=kd)(ha:arrOf st=#[(x,x),(y,y)])(hlt:∀(E':Value->Shared->Prop) (Q':Bool->Shared->Prop),Q' false s->wpAny (model prog w) A (keyLt' kd y x) Q' E' s)
  (h:Q (some 2) st):wpS (model prog w) A E s (countRun' 0 2) Q st:=by
 rw [countRun0_eq]
 unfold ascLoop
 refine wpS_bind (wpS_forRange (I:=fun i c st'=>st'=st/\c=(none,i)) ?_ ?_ ⟨rfl,rfl⟩)
 ·rintro i c st' h1 h2 ⟨rfl,rfl⟩
  have:i=1:=by omega
  subst this
  rw [ltAt'_eq]
  refine wpS_bind (wpS_bind (wpS_get ?_))
  show wpS _ _ _ _ (do let p <-elem' (arrOf st') 1;let q <-elem' (arrOf st') 0;lt' p q) _ st'
  rw [ha,elem'_eq,elem'_eq]
  refine wpS_bind (wpS_pure (wpS_bind (wpS_pure ?_)))
  rw [lt'_eq]
  refine wpS_bind (wpS_get ?_)
  rw [hk]
  refine wpS_bind (wpS_lift (wpAny_attempt (hlt _ _ ⟨rfl,?_⟩)))
  exact wpS_pure (wpS_pure ⟨rfl,rfl⟩)
 ·rintro c st' ⟨rfl,rfl⟩
  exact wpS_pure h
theorem Zsr{x y:Value}{kd:SortKind}{Q:Unit->SortSt->Prop}(hlt:∀(E':Value->Shared->Prop) (Q':Bool->Shared->Prop),Q' false s->wpAny (model prog w) A (keyLt' kd y x) Q' E' s)
  (h:∀p,Q () (SortSt.mk' kd #[(x,x),(y,y)] p 7 none)):wpS (model prog w) A E s sortRuns' Q (SortSt.mk' kd #[(x,x),(y,y)] #[] 7 none):=by
 rw [sortRuns'_eq]
 refine wpS_bind (wpS_get ?_)
 dsimp only
 refine wpS_bind (wpS_mono (wpS_forRange (I:=fun i c st'=>(i=0/\c=(none,0)/\st'=SortSt.mk' kd #[(x,x),(y,y)] #[] 7 none)\/(1<=i/\c=(none,2)/\st'=SortSt.mk' kd #[(x,x),(y,y)] #[(0,2,0)] 7 none))
  (Q:=fun c st'=>c=(none,2)/\st'=SortSt.mk' kd #[(x,x),(y,y)] #[(0,2,0)] 7 none) ?_ ?_ (.inl ⟨rfl,rfl,rfl⟩)) ?_)
 ·rintro i c st' _ hi (⟨rfl,rfl,rfl⟩|⟨h1,rfl,rfl⟩)
  ·dsimp only
   rw [if_neg (by show ¬(0:Nat) ≥ 2;decide)]
   refine wpS_bind (Zvd rfl rfl hlt ?_)
   dsimp only
   rw [if_neg (by show ¬(2:Nat)<minRun' 2 2 0;decide)]
   refine wpS_bind (wpS_get ?_)
   exact wpS_bind (wpS_modify (wpS_pure (.inr ⟨by omega,rfl,rfl⟩)))
  ·dsimp only
   rw [if_pos (by show (2:Nat) ≥ 2;decide)]
   exact wpS_pure ⟨rfl,rfl⟩
 ·rintro c st' (⟨z,_,_⟩|⟨_,h1,h2⟩)
  ·exact absurd z (by show ¬max 0 2=0;decide)
  ·exact ⟨h1,h2⟩
 ·rintro c st' ⟨rfl,rfl⟩
  dsimp only
  refine wpS_bind (wpS_mono (wpS_forRange (I:=fun _ c st'=>c=(none,())/\st'=SortSt.mk' kd #[(x,x),(y,y)] #[(0,2,0)] 7 none) (Q:=fun c st'=>c=(none,())/\st'=SortSt.mk' kd #[(x,x),(y,y)] #[(0,2,0)] 7 none) ?_ (fun _ _ z=>z) ⟨rfl,rfl⟩) ?_)
  ·rintro i c st' _ _ ⟨rfl,rfl⟩
   refine wpS_bind (wpS_get ?_)
   rw [if_pos (by show (1:Nat)<=1;decide)]
   exact wpS_pure ⟨rfl,rfl⟩
  ·rintro c st' ⟨rfl,rfl⟩
   exact wpS_pure (h _)
def Zzo(prog:Program)(w:World)(A:Around)(s:Shared)(a:Addr)(vs:List Value):Prop:=vs.length<2\/∃x y kd,vs=[x,y]/\∀s':Shared,(∀b o,b≠a->s.heap.get? b=some o->s'.heap.get? b=some o) ->
 (∀(E':Value->Shared->Prop) (Q':SortKind->Shared->Prop),Q' kd s'->wpAny (model prog w) A (keyKind' #[x,y]) Q' E' s')/\∀(E':Value->Shared->Prop) (Q':Bool->Shared->Prop),Q' false s'->wpAny (model prog w) A (keyLt' kd y x) Q' E' s'
theorem Zqy{a:Addr}{vs:List Value}{n:Nat}{P:Fin->Shared->Prop} (hl:s.heap.get? a=some (seqObj "list" vs.toArray n)) (hc:Zzo prog w A s a vs)
  (h:P (.done (.ret .none)) { s with heap:=sortedHeap s.heap a vs vs.toArray }):wpAny (model prog w) A (Builtin.«list.sort» ⟨[.ref a],[]⟩) P E s:=by
 rw [list_sort_plain]
 have hlt:a<s.heap.objs.size:=Heap.lt_size hl
 have hfew:vs.length<=sizeLine:=by
  rw [sizeLine_eq]
  rcases hc with hc|⟨x,y,kd,rfl,_⟩
  ·omega
  ·show 2<=_;omega
 refine wpAny_bind (listItems_at hl rfl (wpAny_bind (listUpdate_at hl rfl ?_ (hsz:=by simpa using hfew))))
 obtain ⟨e1,hl1⟩:∃e1,(s.heap.update a (Obj.mapSeq fun _=>#[])).get? a=some (seqObj "list" #[] e1):=⟨_,get?_update_seq hl _⟩
 refine wpAny_bind (seqEpoch_at hl1 rfl (wpAny_bind (wpAny_newTuple (hsz:=by simpa using hfew) (wpAny_bind (wpAny_newList (wpAny_holding ?_))))))
 have hl2:(((s.heap.update a (Obj.mapSeq fun _=>#[])).push (seqObj "tuple" vs.toArray 0)).push (seqObj "list" #[] 0)).get? a=some (seqObj "list" #[] e1):=by
  rw [Heap.get?_push_ne _ _ _ (by rw [size_push',Heap.size_update];exact Nat.ne_of_lt (Nat.lt_succ_of_lt hlt)),Heap.get?_push_ne _ _ _ (by rw [Heap.size_update];exact Nat.ne_of_lt hlt)]
  exact hl1
 have keep:∀b o,b≠a->s.heap.get? b=some o->(((s.heap.update a (Obj.mapSeq fun _=>#[])).push (seqObj "tuple" vs.toArray 0)).push (seqObj "list" #[] 0)).get? b=some o:=fun b o ne hb=>by
  have hb':=Heap.lt_size hb
  rw [Heap.get?_push_ne _ _ _ (by rw [size_push',Heap.size_update];exact Nat.ne_of_lt (Nat.lt_succ_of_lt hb')),Heap.get?_push_ne _ _ _ (by rw [Heap.size_update];exact Nat.ne_of_lt hb'),Heap.get?_update_other _ _ (Ne.symm ne)]
  exact hb
 show wpAny (model prog w) A _ P E { s with heap:=((s.heap.update a (Obj.mapSeq fun _=>#[])).push (seqObj "tuple" vs.toArray 0)).push (seqObj "list" #[] 0) }
 dsimp only
 rcases hc with hc|⟨x,y,kd,rfl,hc⟩
 ·have h2:vs.toArray.size<2:=by simpa using hc
  rw [if_pos h2,if_pos h2]
  refine wpAny_bind (wpAny_pure ?_)
  rw [StateT.run_pure]
  refine wpAny_bind (wpAny_pure ?_)
  dsimp only
  refine wpAny_bind (seqEpoch_at hl2 rfl (wpAny_bind (listUpdate_at hl2 rfl ?_ (hsz2:=by rw [Array.size_map];show (pairsOf vs).size<=_;rw [pairsOf_size,sizeLine_eq];omega))))
  simp only [bne_self_eq_false,Bool.false_eq_true,if_false]
  have:(vs.toArray.zip vs.toArray).map (·.2)=vs.toArray:=by
   match vs,hc with
   | [],_=>simp
   | [_],_=>simp
  refine wpAny_pure ?_
  show P _ { s with heap:=(((s.heap.update a (Obj.mapSeq fun _=>#[])).push (seqObj "tuple" vs.toArray 0)).push (seqObj "list" #[] 0)).update a (Obj.mapSeq fun _=>(vs.toArray.zip vs.toArray).map (·.2)) }
  rw [this]
  exact h
 ·obtain ⟨c1,c2⟩:=hc { s with heap:=(((s.heap.update a (Obj.mapSeq fun _=>#[])).push (seqObj "tuple" [x,y].toArray 0)).push (seqObj "list" #[] 0)) } keep
  rw [if_neg (by show ¬(2:Nat)<2;decide),if_neg (by show ¬(2:Nat)<2;decide)]
  refine wpAny_bind (c1 _ _ ?_)
  rw [show [x,y].toArray.zip [x,y].toArray=#[(x,x),(y,y)] by simp]
  refine wpAny_bind (wpAny_mono (Zsr (Q:=fun _ st=>∃p,st=SortSt.mk' kd #[(x,x),(y,y)] p 7 none) c2 fun p=>⟨p,rfl⟩) ?_ fun _ _ e=>e)
  rintro ⟨⟨⟩,st'⟩ s' ⟨rfl,p,rfl⟩
  dsimp only
  refine wpAny_bind (seqEpoch_at hl2 rfl (wpAny_bind (listUpdate_at hl2 rfl ?_ (hsz2:=by rw [Array.size_map];show (2:Nat)<=_;rw [sizeLine_eq];omega))))
  simp only [bne_self_eq_false,Bool.false_eq_true,if_false]
  refine wpAny_pure ?_
  show P _ { s with heap:=(((s.heap.update a (Obj.mapSeq fun _=>#[])).push (seqObj "tuple" [x,y].toArray 0)).push (seqObj "list" #[] 0)).update a (Obj.mapSeq fun _=>(#[(x,x),(y,y)]:Array (Value×Value)).map (·.2)) }
  rw [show (#[(x,x),(y,y)]:Array (Value×Value)).map (·.2)=[x,y].toArray by simp]
  exact h
theorem Zma{l:Addr}{vs:List Value}{Q:Value->Shared->Prop}(hl:s.heap.IsList l vs.toArray)(hz:vs.length<=sizeLine)
  (hc:∀s':Shared,(∀b o,s.heap.get? b=some o->s'.heap.get? b=some o)->Zzo prog w A.in1.in1 s' (s.heap.objs.size+1) vs)
  (h:Q (.ref (s.heap.objs.size+1)) { s with heap:=sortedAll s.heap vs vs.toArray }):wpAny (model prog w) A (call (.builtin "sorted") [.ref l]) Q E s:=by
 refine Calls.call_function_entry kind_sorted plain_sorted entry_sorted (args_sorted1 _) ?_
 unfold Builtin.«sorted»
 refine wpAny_bind (m:=checkCount "sorted" 1 1 _) (wpAny_pure (wpAny_bind (collect_list hl (hsz:=hz) (wpAny_bind (wpAny_newList (hsz:=hz) ?_)))))
 have hs:((s.heap.push (seqObj "list" #[] 0)).update s.heap.objs.size (Obj.mapSeq (· ++ vs.toArray))).objs.size=s.heap.objs.size+1:=by rw [Heap.size_update,size_push']
 have hL:(((s.heap.push (seqObj "list" #[] 0)).update s.heap.objs.size (Obj.mapSeq (· ++ vs.toArray))).push (seqObj "list" vs.toArray 0)).get? (s.heap.objs.size+1)=some (seqObj "list" vs.toArray 0):=by
  rw [<-hs];exact Heap.get?_push_size _ rfl
 have kp:∀b o,s.heap.get? b=some o->(((s.heap.push (seqObj "list" #[] 0)).update s.heap.objs.size (Obj.mapSeq (· ++ vs.toArray))).push (seqObj "list" vs.toArray 0)).get? b=some o:=fun b o hb=>by
  have lt:=Heap.lt_size hb
  rw [Heap.get?_push_ne _ _ _ (by rw [hs];exact Nat.ne_of_lt (Nat.lt_succ_of_lt lt)),Heap.get?_update_other _ _ (Nat.ne_of_gt lt)]
  exact Heap.get?_push_of_some _ hb
 show wpAny _ _ _ _ _ { s with heap:=((s.heap.push (seqObj "list" #[] 0)).update s.heap.objs.size (Obj.mapSeq (· ++ vs.toArray))).push (seqObj "list" vs.toArray 0) }
 rw [hs]
 refine wpAny_bind (wpAny_holding (wpAny_call_entry slot_list_sort ⟨_,hL,rfl⟩ entry_list_sort (Zqy hL (hc _ kp) ⟨_,rfl,?_⟩) (args_list_sort _)))
 exact wpAny_pure ⟨_,rfl,h⟩
end
theorem Zr5{a b c d:Str}{us:List Value}(h:Yc [.str a,.str b,.str c,.str d] us):∃t1 t2 t3 t4,us=[.str a t1,.str b t2,.str c t3,.str d t4]:=by
 cases h with
 | cons z1 h =>
  cases h with
  | cons z2 h =>
   cases h with
   | cons z3 h =>
    cases h with
    | cons z4 h =>
     cases h
     obtain ⟨t1,rfl⟩:=z1
     obtain ⟨t2,rfl⟩:=z2
     obtain ⟨t3,rfl⟩:=z3
     obtain ⟨t4,rfl⟩:=z4
     exact ⟨_,_,_,_,rfl⟩
def Zpr(K:Frag):List V->Hp->VK->Prop:=fun xs H Q=>∃(p:Addr) (as:List Addr),xs=[.ref p]/\H p=some (.lst (as.map V.ref)) /\
 (as.length<2\/∃(a b:Addr) (n e x1 x2 y1 y2:Str),as=[a,b]/\H a=some (.tup [.str n,.str e,.str x1,.str x2])/\H b=some (.tup [.str n,.str e,.str y1,.str y2])/\y1≠x1/\¬y1.cps.toList<x1.cps.toList)/\New H (.lst (as.map V.ref)) Q
theorem Zmd{X:Cx}:W3 X (.builtin "sorted") (Zpr X.K):=by
 intro pins s σ H xs us Q I r h
 obtain ⟨p,as,rfl,hp,hc,q⟩:=h
 obtain ⟨u,rfl,rx⟩:=Zdb r
 cases rx
 obtain ⟨hz,its,n,rv,hg⟩:=(show Yn X.prog X.w H s.heap p (.lst (as.map V.ref)) from I.hok p _ hp)
 have hits:=Zet rv
 rw [hits] at hg
 rw [List.length_map] at hz
 refine Zma (vs:=as.map Value.ref) ⟨_,hg,rfl,n,rfl⟩ (by rw [List.length_map];exact hz) (fun s' kp=>?_) ?_
 ·rcases hc with hc|⟨a,b,m,e,x1,x2,y1,y2,rfl,ha,hb,ne,hlt⟩
  ·exact .inl (by rw [List.length_map];exact hc)
  ·obtain ⟨_,ia,ra,oa,ga,ca,na,da⟩:=(show Yn X.prog X.w H s.heap a (.tup [.str m,.str e,.str x1,.str x2]) from I.hok a _ ha)
   obtain ⟨_,ib,rb,ob,gb,cb,nb,db⟩:=(show Yn X.prog X.w H s.heap b (.tup [.str m,.str e,.str y1,.str y2]) from I.hok b _ hb)
   refine .inr ⟨.ref a,.ref b,tuples' true,rfl,fun s2 k2=>?_⟩
   have far:∀{c:Addr} {o:Obj},s.heap.get? c=some o->c≠s.heap.objs.size+1:=fun {c o} z=>Nat.ne_of_lt (Nat.lt_succ_of_lt (Heap.lt_size z))
   have ga2:=k2 a _ (far ga) (kp _ _ ga)
   have gb2:=k2 b _ (far gb) (kp _ _ gb)
   obtain ⟨t1,t2,t3,t4,rfl⟩:=Zr5 ra
   obtain ⟨u1,u2,u3,u4,rfl⟩:=Zr5 rb
   refine ⟨fun E' Q' h=>Zlh ga2 ca da gb2 cb db h,fun E' Q' h=>Zoj gb2 db ga2 da ne ?_⟩
   rw [decide_eq_false hlt]
   exact h
 ·obtain ⟨e,he⟩:=sortedAll_at s.heap (as.map Value.ref) (as.map Value.ref).toArray
  have hn:H (s.heap.objs.size+1)=none:=I.hok.fresh (Nat.le_succ _)
  exact ⟨.ref (s.heap.objs.size+1),_,I.laid (a:=s.heap.objs.size+1) (o:=.lst (as.map V.ref)) (t':=s.toks) (fun b o h=>sortedAll_old h) (Nat.le_succ _) (show Yn X.prog X.w _ _ _ (.lst _) from ⟨by rw [List.length_map];exact hz,as.map Value.ref,e,hits ▸ rv,he⟩),rfl,q.at _ hn⟩
end L2
end
section
namespace L2
open PySem PySem.Spec PyProof.Rows
section
variable {prog:Program} {w:World} {A:Around} {E:Value->Shared->Prop} {s:Shared} {o:Array Keyed} {κ:KeyKind} {kd:SortKind}
def Lts(prog:Program)(w:World)(A:Around)(s:Shared)(κ:KeyKind)(kd:SortKind):Prop :=
 ∀(x y:Value) (a b:κ.α) (E':Value->Shared->Prop) (Q':Bool->Shared->Prop),κ.keyOf x=some a->κ.keyOf y=some b->a≠b->Q' (κ.blt a b) s->wpAny (model prog w) A (keyLt' kd x y) Q' E' s
def Zy5(κ:KeyKind)(o:Array Keyed):Prop:=(o.toList.map fun p=>κ.keyOf p.1).Nodup
variable (hL:Lts prog w A s κ kd) (k:KeysOf κ o) (d:Zy5 κ o)
include hL k d
end
end L2
namespace L2
open PySem PySem.Spec PyProof.Rows
def Yal(h:Heap):Value->Option (List Nat)
 | .ref a=>match h.get? a with
  | some o=>match o.cls,o.data with
   | .type "tuple",.seq its _=>match (its[0]? :Option Value) with
    | some (.str x _)=>some x.cps.toList
    | _=>none
   | _,_=>none
  | none=>none
 | _=>none
section
variable {prog:Program} {w:World} {A:Around} {E:Value->Shared->Prop} {s:Shared}
theorem Zyb:∀{vs:List Value},vs.length<2->(vs.toArray.zip vs.toArray).map (·.2)=vs.toArray
 | [],_=>by simp
 | [_],_=>by simp
 | _ ::_ ::_,h=>absurd h (by simp)
theorem Zzl{α β:Type}{f:α->β}{R:β->β->Prop}:∀{vs:List α},vs.length<2->(vs.map f).Pairwise R
 | [],_=>.nil
 | [_],_=>List.pairwise_singleton _ _
 | _ ::_ ::_,h=>absurd h (by simp)
theorem Yat{α:Type}:∀{vs:List α},2<=vs.length->∃a b r,vs=a ::b ::r
 | a ::b ::r,_=>⟨a,b,r,rfl⟩
end
end L2
namespace L2
open PySem PySem.Spec PyProof.Rows
def Zbm:Value->Addr
 | .ref a=>a
 | _=>0
theorem Zjq:∀{out:List Value} {as:List Addr},(∀v∈out,v∈as.map Value.ref)->out=(out.map Zbm).map Value.ref
 | [],_,_=>rfl
 | v ::out,as,h=>by
  obtain ⟨a,_,e⟩:=List.mem_map.mp (h v List.mem_cons_self)
  rw [List.map_cons,List.map_cons,<-Zjq fun u hu=>h u (List.mem_cons_of_mem _ hu),<-e]
  rfl
theorem Zj8:∀as:List Addr,Yc (as.map V.ref) (as.map Value.ref)
 | []=>.nil
 | a ::as=>.cons rfl (Zj8 as)
end L2
end
section
namespace L2
open PySem PySem.Spec PyProof.Rows
end L2
end
section
namespace L2
open PySem PyProof.Rows
section
variable {prog:Program} {w:World} {A:Around} {E:Value->Shared->Prop} {s:Shared} {o:Array Keyed} {kd:SortKind} {p:Array (Nat×Nat×Nat)} {st:SortSt} {G:Keyed->Keyed->Prop}
def SdS(G:Keyed->Keyed->Prop)(x y:Keyed):Bool->Prop
 | true=>G x y
 | false=>G y x
def TrG(G:Keyed->Keyed->Prop):Prop:=∀x y z,G x y->G y z->G x z
def Zsz(prog:Program)(w:World)(A:Around)(s:Shared)(kd:SortKind)(o:Array Keyed)(G:Keyed->Keyed->Prop):Prop :=
 TrG G/\∀x∈o,∀y∈o,∀(E':Value->Shared->Prop) (Q':Bool->Shared->Prop),(∀b,SdS G x y b->Q' b s)->wpAny (model prog w) A (keyLt' kd x.1 y.1) Q' E' s
structure Ps(kd:SortKind)(o:Array Keyed)(p:Array (Nat×Nat×Nat))(st:SortSt):Prop where
 perm:(arrOf st).Perm o
 kind:kindOf st=kd
 good:failedOf st=none
 pend:pendingOf st=p
theorem Ps.many(h:Ps kd o p st):(arrOf st).size=o.size:=h.perm.size_eq
theorem Ps.to(h:Ps kd o p st){xs:Array Keyed}(q:xs.Perm (arrOf st)):Ps kd o p (setArr st xs):=⟨q.trans h.perm,h.kind,h.good,h.pend⟩
theorem Ps.mem(h:Ps kd o p st){x:Keyed}(hx:x∈arrOf st):x∈o:=h.perm.mem_iff.mp hx
theorem Xa{arr:Array Keyed}{i:Nat}{Q:Keyed->SortSt->Prop}(hi:i<arr.size)(q:Q arr[i] st):wpS (model prog w) A E s (elem' arr i) Q st:=by
 rw [elem'_eq,getElem?_pos arr i hi]
 exact wpS_pure q
theorem ifS{α:Type}{c:Prop}[Decidable c]{x y:StateT SortSt Sem α}{R:α->SortSt->Prop}(h1:c->wpS (model prog w) A E s x R st)(h2:¬c->wpS (model prog w) A E s y R st):wpS (model prog w) A E s (if c then x else y) R st:=by
 by_cases z:c
 ·rw [if_pos z];exact h1 z
 ·rw [if_neg z];exact h2 z
theorem Zw6{α:Type}{m n:StateT SortSt Sem α}{Q:α->SortSt->Prop}(C:SortSt->Prop)(a:(∀st2:SortSt,C st2->wpS (model prog w) A E s m Q st2)->wpS (model prog w) A E s n Q st)(b:∀st2:SortSt,C st2->wpS (model prog w) A E s m Q st2):wpS (model prog w) A E s n Q st:=a b
theorem Zxy{α β:Type}{m:β->StateT SortSt Sem α}{Q:α->SortSt->Prop}{n:StateT SortSt Sem α}(C:β->SortSt->Prop)(a:(∀x st2,C x st2->wpS (model prog w) A E s (m x) Q st2)->wpS (model prog w) A E s n Q st)(b:∀x st2,C x st2->wpS (model prog w) A E s (m x) Q st2):wpS (model prog w) A E s n Q st:=a b
theorem Zut{α β γ:Type}{m:β->γ->StateT SortSt Sem α}{Q:α->SortSt->Prop}{n:StateT SortSt Sem α}(C:β->γ->SortSt->Prop)(a:(∀x y st2,C x y st2->wpS (model prog w) A E s (m x y) Q st2)->wpS (model prog w) A E s n Q st)(b:∀x y st2,C x y st2->wpS (model prog w) A E s (m x y) Q st2):wpS (model prog w) A E s n Q st:=a b
def Zw5:Nat->StateT SortSt Sem Unit:=sortPriv% PySem.Builtin.setMinGallop
def Gs(st st2:SortSt):Prop:=kindOf st2=kindOf st/\arrOf st2=arrOf st/\pendingOf st2=pendingOf st/\failedOf st2=failedOf st
theorem Zg5{g:Nat}{Q:Unit->SortSt->Prop}{st0:SortSt}(h:Gs st0 st)(q:∀st2,Gs st0 st2->Q () st2):wpS (model prog w) A E s (Zw5 g) Q st:=wpS_modify (q _ ⟨h.1,h.2.1,h.2.2.1,h.2.2.2⟩)
def GqS(G:Keyed->Keyed->Prop)(xs:Array Keyed)(i j:Nat):Prop:=∀x y,xs[i]? =some x->xs[j]? =some y->G x y
def UpS(G:Keyed->Keyed->Prop)(xs:Array Keyed)(i j:Nat):Prop:=∀p q,i<=p->p<q->q<j->GqS G xs p q
def DnS(G:Keyed->Keyed->Prop)(xs:Array Keyed)(i j:Nat):Prop:=∀p q,i<=p->p<q->q<j->GqS G xs q p
def FrS(lo:Nat)(xs ys:Array Keyed):Prop:=∀k,k<lo->ys[k]? =xs[k]?
section
variable {xs ys zs:Array Keyed} {i j k:Nat} (t:TrG G)
theorem FrS.refl:FrS i xs xs:=fun _ _=>rfl
theorem FrS.trans(h:FrS i xs ys)(h2:FrS i ys zs):FrS i xs zs:=fun k hk=>(h2 k hk).trans (h k hk)
theorem FrS.mirror(h:i<=j)(hk:k<=xs.size):FrS i xs (PyProof.Rows.mirror xs j k ((k-j) / 2)):=fun n hn=>by rw [getElem?_mirror_all hk,if_neg (by omega)]
theorem UpS.one:UpS G xs i (i+1):=fun p q _ _ _=>by omega
theorem DnS.one:DnS G xs i (i+1):=fun p q _ _ _=>by omega
theorem UpS.less(h:UpS G xs i j)(hk:k<=j):UpS G xs i k:=fun p q h1 h2 h3=>h p q h1 h2 (by omega)
theorem UpS.fr(h:UpS G xs i j)(f:FrS k xs ys)(hk:j<=k):UpS G ys i j:=fun p q h1 h2 h3=>by
 unfold GqS
 rw [f p (by omega),f q (by omega)]
 exact h p q h1 h2 h3
include t
theorem GqS.trans(h1:GqS G xs i j)(h2:GqS G xs j k)(hj:j<xs.size):GqS G xs i k:=fun x y hx hy=>t _ _ _ (h1 x _ hx (getElem?_pos xs j hj)) (h2 _ y (getElem?_pos xs j hj) hy)
theorem UpS.more(h:UpS G xs i j)(hij:i<j)(hj:j<=xs.size)(g:GqS G xs (j-1) j)(e:k=j+1:=by omega):UpS G xs i k:=fun p q h1 h2 h3=>by
 by_cases z:q<j
 ·exact h p q h1 h2 z
 have:q=j:=by omega
 subst this
 by_cases z:p=q-1
 ·subst z;exact g
 ·exact (h p (q-1) h1 (by omega) (by omega)).trans t g (by omega)
theorem DnS.more(h:DnS G xs i j)(hij:i<j)(hj:j<=xs.size)(g:GqS G xs j (j-1))(e:k=j+1:=by omega):DnS G xs i k:=fun p q h1 h2 h3=>by
 by_cases z:q<j
 ·exact h p q h1 h2 z
 have:q=j:=by omega
 subst this
 by_cases z:p=q-1
 ·subst z;exact g
 ·exact g.trans t (h p (q-1) h1 (by omega) (by omega)) (by omega)
omit t
theorem UpS.turn(h:UpS G xs i j)(hj:j<=xs.size):DnS G (mirror xs i j ((j-i) / 2)) i j:=fun p q h1 h2 h3=>by
 unfold GqS
 rw [getElem?_mirror_all hj,getElem?_mirror_all hj,if_pos (by omega),if_pos (by omega)]
 exact h _ _ (by omega) (by omega) (by omega)
theorem DnS.turn(h:DnS G xs i j)(hj:j<=xs.size):UpS G (mirror xs i j ((j-i) / 2)) i j:=fun p q h1 h2 h3=>by
 unfold GqS
 rw [getElem?_mirror_all hj,getElem?_mirror_all hj,if_pos (by omega),if_pos (by omega)]
 exact h _ _ (by omega) (by omega) (by omega)
theorem DnS.level(h:DnS G xs i j)(u:UpS G xs k j)(hik:i<=k)(hj:j<=xs.size):DnS G (mirror xs k j ((j-k) / 2)) i j:=fun p q h1 h2 h3=>by
 unfold GqS
 rw [getElem?_mirror_all hj,getElem?_mirror_all hj]
 by_cases z:k<=p
 ·rw [if_pos (by omega),if_pos (by omega)]
  exact u _ _ (by omega) (by omega) (by omega)
 rw [if_neg (c:=k<=p/\p<j) (by omega)]
 by_cases z:k<=q
 ·rw [if_pos (by omega)]
  exact h _ _ (by omega) (by omega) (by omega)
 ·rw [if_neg (by omega)]
  exact h _ _ (by omega) (by omega) (by omega)
end
variable (L:Zsz prog w A s kd o G)
include L
theorem Zhb{x y:Keyed}{Q:Option Bool->SortSt->Prop}(hk:kindOf st=kd)(hx:x∈o)(hy:y∈o)(q:∀b,SdS G x y b->Q (some b) st):wpS (model prog w) A E s (lt' x y) Q st:=by
 rw [lt'_eq]
 refine wpS_bind (wpS_get ?_)
 rw [hk]
 exact wpS_bind (wpS_lift (wpAny_attempt (L.2 x hx y hy _ _ fun b hb=>⟨rfl,wpS_pure (q b hb)⟩)))
def GbS(G:Keyed->Keyed->Prop)(xs:Array Keyed)(i j:Nat):Bool->Prop
 | true=>GqS G xs i j
 | false=>GqS G xs j i
theorem Zh8{i j:Nat}{Q:Option Bool->SortSt->Prop}(h:Ps kd o p st)(hi:i<o.size)(hj:j<o.size)(q:∀b,GbS G (arrOf st) i j b->Q (some b) st):wpS (model prog w) A E s (ltAt' i j) Q st:=by
 rw [ltAt'_eq]
 have hi':i<(arrOf st).size:=by rw [h.many];exact hi
 have hj':j<(arrOf st).size:=by rw [h.many];exact hj
 refine wpS_bind (wpS_get (wpS_bind (Xa hi' (wpS_bind (Xa hj' ?_)))))
 refine Zhb L h.kind (h.mem (Array.getElem_mem _)) (h.mem (Array.getElem_mem _)) fun b hb=>q b ?_
 cases b with
 | true =>
  intro x y hx hy
  rw [getElem?_pos (arrOf st) i hi'] at hx
  rw [getElem?_pos (arrOf st) j hj'] at hy
  cases hx;cases hy;exact hb
 | false =>
  intro x y hx hy
  rw [getElem?_pos (arrOf st) j hj'] at hx
  rw [getElem?_pos (arrOf st) i hi'] at hy
  cases hx;cases hy;exact hb
theorem Zqu{lo m:Nat}{Q:Option Nat->SortSt->Prop}(h:Ps kd o p st)(h1:1<=m)(hm:lo+m<=o.size)(q:∀n st2,Ps kd o p st2->1<=n->n<=m->FrS lo (arrOf st) (arrOf st2)->UpS G (arrOf st2) lo (lo+n)->Q (some n) st2):wpS (model prog w) A E s (countRun' lo m) Q st:=by
 have t:=L.1
 have up:∀(a:Nat) (st:SortSt) (R:Option (Option Nat)×Nat->SortSt->Prop),1<=a->a<=m->Ps kd o p st->UpS G (arrOf st) lo (lo+a)->(∀n,a<=n->n<=m->UpS G (arrOf st) lo (lo+n)->(n<m->GqS G (arrOf st) (lo+n) (lo+n-1))->R (none,n) st) ->
   wpS (model prog w) A E s (forIn [a:m] ((none,a):Option (Option Nat)×Nat) fun _ __s=>do
    let __x <-ltAt' (lo+__s.snd) (lo+__s.snd-1)
    match __x with
    | some smaller=>if smaller=true then pure (ForInStep.done (none,__s.snd)) else pure (ForInStep.yield (none,__s.snd+1))
    | _=>pure (ForInStep.done (some none,__s.snd))) R st:=fun a st R h1 h2 h u q=>by
  have hs:=h.many
  refine wpS_forRange (I:=fun n c st2=>st2=st/\c=(none,n)/\UpS G (arrOf st) lo (lo+n)) ?_ ?_ ⟨rfl,rfl,u⟩
  ·rintro n c st2 a1 a2 ⟨rfl,rfl,u⟩
   refine wpS_bind (Zh8 L h (by omega) (by omega) fun b hb=>?_)
   cases b with
   | true=>exact wpS_pure (q n a1 (by omega) u fun _=>hb)
   | false=>exact wpS_pure ⟨rfl,rfl,u.more t (by omega) (by omega) hb⟩
  ·rintro c st2 ⟨rfl,rfl,u⟩
   exact q _ (by omega) (by omega) u (fun z=>by omega)
 have hs:=h.many
 rw [countRun'_eq]
 refine wpS_bind (up 1 st _ (Nat.le_refl _) h1 h UpS.one fun n n1 n2 u gn=>?_)
 dsimp only
 by_cases hnm:n=m
 ·rw [if_pos (by simpa using hnm)]
  exact wpS_pure (q n st h n1 n2 FrS.refl u)
 rw [if_neg (by simpa using hnm)]
 have gn:=gn (by omega)
 apply Zw6 (fun st2=>Ps kd o p st2/\FrS lo (arrOf st) (arrOf st2)/\DnS G (arrOf st2) lo (lo+(n+1)))
 case a =>
  intro Z0
  by_cases hb:n >1
  ·rw [if_pos hb]
   refine wpS_bind (Zh8 L h (by omega) (by omega) fun b hb=>?_)
   cases b with
   | true=>exact wpS_pure (q n st h n1 n2 FrS.refl u)
   | false =>
    refine wpS_bind (wpS_reverse (Z0 _ ⟨h.to (mirror_perm _ _ _ _),FrS.mirror (Nat.le_refl _) (by omega),?_⟩))
    refine (u.turn (by omega)).more t (by omega) (by show _<=(mirror _ _ _ _).size;rw [mirror_size];omega) ?_
    unfold GqS
    rw [getElem?_mirror_all (by omega),getElem?_mirror_all (by omega),if_neg (by omega),if_pos (by omega),show lo+(lo+n)-1-(lo+n-1)=lo by omega]
    exact gn.trans t hb (by omega)
  ·rw [if_neg hb]
   have:n=1:=by omega
   subst this
   exact Z0 st ⟨h,FrS.refl,DnS.one.more t (by omega) (by omega) gn⟩
 rintro st2 ⟨h2,f2,d2⟩
 refine wpS_bind (wpS_lift (wpAny_rule ⟨rfl,?_⟩))
 refine wpS_bind (wpS_mono (wpS_forRange (I:=fun i c st3=>Ps kd o p st3/\FrS lo (arrOf st) (arrOf st3)/\DnS G (arrOf st3) lo (lo+i)/\∃e,c=(none,i,e)/\e+1<=i/\UpS G (arrOf st3) (lo+i-(e+1)) (lo+i)) (Q:=fun c st3=>Ps kd o p st3/\FrS lo (arrOf st) (arrOf st3)/\∃i e,c=(none,i,e)/\n+1<=i/\i<=m/\DnS G (arrOf st3) lo (lo+i)/\e+1<=i/\UpS G (arrOf st3) (lo+i-(e+1)) (lo+i)) ?_ ?_ ⟨h2,f2,d2,0,rfl,by omega,fun p q _ _ _=>by omega⟩) ?_)
 ·rintro i c st3 a1 a2 ⟨h3,f3,d3,e,rfl,e1,u3⟩
  have hs:=h3.many
  dsimp only
  refine wpS_bind (Zh8 L h3 (by omega) (by omega) fun b hb=>?_)
  cases b with
  | true =>
   show wpS _ _ _ _ (if e >0 then _ else _) _ _
   by_cases he:e >0
   ·rw [if_pos he]
    refine wpS_bind (wpS_reverse (wpS_pure ⟨h3.to (mirror_perm _ _ _ _),f3.trans (FrS.mirror (by omega) (by omega)),?_,0,rfl,by omega,fun p q _ _ _=>by omega⟩))
    refine (d3.level u3 (by omega) (by omega)).more t (by omega) (by show _<=(mirror _ _ _ _).size;rw [mirror_size];omega) ?_
    unfold GqS
    rw [getElem?_mirror_all (by omega),getElem?_mirror_all (by omega),if_neg (by omega),if_pos (by omega),show lo+i-(e+1)+(lo+i)-1-(lo+i-1)=lo+i-(e+1) by omega]
    exact GqS.trans t hb (d3 _ _ (by omega) (by omega) (by omega)) (by omega)
   ·rw [if_neg he]
    exact wpS_pure ⟨h3,f3,d3.more t (by omega) (by omega) hb,0,rfl,by omega,fun p q _ _ _=>by omega⟩
  | false =>
   refine wpS_bind (Zh8 L h3 (by omega) (by omega) fun b hb2=>?_)
   cases b with
   | true=>exact wpS_pure ⟨h3,f3,i,e,rfl,a1,by omega,d3,e1,u3⟩
   | false=>exact wpS_pure ⟨h3,f3,d3.more t (by omega) (by omega) hb2,e+1,rfl,by omega,by
     have:UpS G (arrOf st3) (lo+i-(e+1)) (lo+(i+1)):=u3.more t (by omega) (by omega) hb
     rw [show lo+(i+1)-(e+1+1)=lo+i-(e+1) by omega]
     exact this⟩
 ·rintro c st3 ⟨h3,f3,d3,e,rfl,e1,u3⟩
  exact ⟨h3,f3,_,e,rfl,by omega,by omega,d3,e1,u3⟩
 ·rintro c st3 ⟨h3,f3,i,e,rfl,a1,a2,d3,e1,u3⟩
  have hs:=h3.many
  dsimp only
  apply Zw6 (fun st2=>Ps kd o p st2/\FrS lo (arrOf st) (arrOf st2)/\DnS G (arrOf st2) lo (lo+i))
  case a =>
   intro Z0
   by_cases he:e >0
   ·rw [if_pos he]
    exact wpS_bind (wpS_reverse (Z0 _ ⟨h3.to (mirror_perm _ _ _ _),f3.trans (FrS.mirror (by omega) (by omega)),d3.level u3 (by omega) (by omega)⟩))
   ·rw [if_neg he]
    exact Z0 st3 ⟨h3,f3,d3⟩
  rintro st4 ⟨h4,f4,d4⟩
  have hs:=h4.many
  refine wpS_bind (wpS_reverse ?_)
  have h5:=h4.to (mirror_perm (arrOf st4) lo (lo+i) ((lo+i-lo) / 2))
  exact wpS_bind (up i _ _ (by omega) a2 h5 (d4.turn (by omega)) fun k k1 k2 u5 _=>wpS_pure (q k _ h5 (by omega) k2 (f4.trans (FrS.mirror (Nat.le_refl _) (by omega))) u5))
theorem Zvj{lo n r:Nat}{Q:Bool->SortSt->Prop}(h:Ps kd o p st)(hn:lo+n<=o.size)(hr:r<=n)(u:UpS G (arrOf st) lo (lo+r))(q:∀st2,Ps kd o p st2->FrS lo (arrOf st) (arrOf st2)->UpS G (arrOf st2) lo (lo+n)->Q true st2):wpS (model prog w) A E s (binarySort' lo n r) Q st:=by
 have t:=L.1
 rw [binarySort'_eq]
 refine wpS_bind (wpS_mono (wpS_forRange (I:=fun x c st2=>c=(none,())/\Ps kd o p st2/\FrS lo (arrOf st) (arrOf st2)/\UpS G (arrOf st2) lo (lo+x)) (Q:=fun c st2=>c=(none,())/\Ps kd o p st2/\FrS lo (arrOf st) (arrOf st2)/\UpS G (arrOf st2) lo (lo+n)) ?_ (fun c st2 z=>⟨z.1,z.2.1,z.2.2.1,z.2.2.2.less (by omega)⟩) ⟨rfl,h,FrS.refl,?_⟩) ?_)
 ·rintro x c st2 x1 x2 ⟨rfl,h2,f2,u2⟩
  have hs:=h2.many
  refine wpS_bind (wpS_mono (wpS_forRange (I:=fun i c st3=>st3=st2/\∃l u,c=(none,l,u)/\u<=x/\l<=u/\u<=l+(x-i)/\(∀k,k<l->GqS G (arrOf st2) (lo+k) (lo+x))/\∀k,u<=k->k<x->GqS G (arrOf st2) (lo+x) (lo+k)) (Q:=fun c st3=>st3=st2/\∃l,c=(none,l,l)/\l<=x/\(∀k,k<l->GqS G (arrOf st2) (lo+k) (lo+x))/\∀k,l<=k->k<x->GqS G (arrOf st2) (lo+x) (lo+k)) ?_ ?_ ⟨rfl,0,x,rfl,Nat.le_refl _,Nat.zero_le _,by omega,fun k hk=>by omega,fun k h1 h2=>by omega⟩) ?_)
  ·rintro y c st3 _ _ ⟨rfl,l,u,rfl,hu,hlu,hd,ha,hb⟩
   dsimp only
   by_cases z:l ≥ u
   ·rw [if_pos z]
    have:u=l:=by omega
    subst this
    exact wpS_pure ⟨rfl,u,rfl,hu,ha,hb⟩
   ·rw [if_neg z]
    refine wpS_bind (Zh8 L h2 (by omega) (by omega) fun b g=>?_)
    cases b with
    | true =>
     refine wpS_pure ⟨rfl,l,(l+u) / 2,rfl,by omega,by omega,by omega,ha,fun k h1 h2=>?_⟩
     by_cases z:k=(l+u) / 2
     ·subst z;exact g
     ·exact GqS.trans t g (u2 _ _ (by omega) (by omega) (by omega)) (by omega)
    | false =>
     refine wpS_pure ⟨rfl,(l+u) / 2+1,u,rfl,hu,by omega,by omega,fun k h1=>?_,hb⟩
     by_cases z:k=(l+u) / 2
     ·subst z;exact g
     ·exact (u2 _ _ (by omega) (by omega) (by omega)).trans t g (by omega)
  ·rintro c st3 ⟨rfl,l,u,rfl,hu,hlu,hd,ha,hb⟩
   have:u=l:=by omega
   subst this
   exact ⟨rfl,u,rfl,hu,ha,hb⟩
  ·rintro c st3 ⟨rfl,l,rfl,hu,ha,hb⟩
   show wpS _ _ _ _ (do moveDown' (lo+x) (lo+l);pure (ForInStep.yield (none,()))) _ _
   rw [moveDown'_eq]
   have gb:=fun k=>getElem?_bubble (xs:=arrOf st3) (src:=lo+x) (by omega) (lo+x-(lo+l)) (by omega) k
   refine wpS_bind (wpS_modify (wpS_pure ⟨rfl,h2.to (bubble_perm _ _ _),f2.trans fun k hk=>?_,fun p q h1 h3 h4=>?_⟩))
   ·exact (gb k).trans (by rw [if_neg (by omega),if_neg (by omega)])
   ·show GqS G (bubble (arrOf st3) (lo+x) (lo+x-(lo+l))) p q
    unfold GqS
    rw [gb p,gb q]
    rcases Nat.lt_trichotomy p (lo+l) with zp|zp|zp
    ·rw [if_neg (c:=p=_) (by omega),if_neg (c:=_<p/\_) (by omega)]
     rcases Nat.lt_trichotomy q (lo+l) with zq|zq|zq
     ·rw [if_neg (by omega),if_neg (by omega)]
      exact u2 _ _ h1 h3 (by omega)
     ·rw [if_pos (by omega)]
      have:=ha (p-lo) (by omega)
      rw [show lo+(p-lo)=p by omega] at this
      exact this
     ·rw [if_neg (by omega),if_pos (by omega)]
      exact u2 _ _ h1 (by omega) (by omega)
    ·rw [if_pos (c:=p=_) (by omega),if_neg (c:=q=_) (by omega),if_pos (c:=_<q/\_) (by omega)]
     have:=hb (q-1-lo) (by omega) (by omega)
     rw [show lo+(q-1-lo)=q-1 by omega] at this
     exact this
    ·rw [if_neg (c:=p=_) (by omega),if_pos (c:=_<p/\_) (by omega),if_neg (c:=q=_) (by omega),if_pos (c:=_<q/\_) (by omega)]
     exact u2 _ _ (by omega) (by omega) (by omega)
 ·by_cases z:r=0
  ·subst z;exact UpS.one
  ·exact u.less (by omega)
 ·rintro c st2 ⟨rfl,h2,f2,u2⟩
  exact wpS_pure (q st2 h2 f2 u2)
def Zvn:Bool->Keyed->Array Keyed->Nat->Nat->Nat->StateT SortSt Sem (Option Nat):=sortPriv% PySem.Builtin.gallop
def Ztc:Array Keyed->Array Keyed->StateT SortSt Sem (Array Keyed):=sortPriv% PySem.Builtin.mergeLo
def Zts:Array Keyed->Array Keyed->StateT SortSt Sem (Array Keyed):=sortPriv% PySem.Builtin.mergeHi
def BkS(G:Keyed->Keyed->Prop)(arr:Array Keyed)(key:Keyed)(i:Nat):Bool->Prop
 | true=>∀x,arr[i]? =some x->G x key
 | false=>∀x,arr[i]? =some x->G key x
theorem Zds{left:Bool}{key:Keyed}{arr:Array Keyed}{base n hint:Nat}{Q:Option Nat->SortSt->Prop}(hk:kindOf st=kd)(hkey:key∈o)(ha:∀x∈arr,x∈o)(hb:base+n<=arr.size)(hh:hint<n)(us:UpS G arr base (base+n))(q:∀k,k<=n->(∀i,i<k->BkS G arr key (base+i) true)->(∀i,k<=i->i<n->BkS G arr key (base+i) false)->Q (some k) st) :
  wpS (model prog w) A E s (Zvn left key arr base n hint) Q st:=by
 have t:=L.1
 have bey:∀(i:Nat) (R:Option Bool->SortSt->Prop),i<n->(∀b,BkS G arr key (base+i) b->R (some b) st)->wpS (model prog w) A E s (do
   let x <-elem' arr (base+i)
   if left=true then lt' x key else do
    let y <-lt' key x
    pure (Option.map (fun x=>!x) y)) R st:=fun i R hi r=>by
  have hi':base+i<arr.size:=by omega
  refine wpS_bind (Xa hi' ?_)
  have hm:=ha _ (Array.getElem_mem hi')
  have one:∀{x},arr[base+i]? =some x->x=arr[base+i]:=fun z=>by rw [getElem?_pos arr (base+i) hi'] at z;exact (Option.some.inj z).symm
  cases left with
  | true=>exact Zhb L hk hm hkey fun b hb=>r b (by cases b <;>exact fun x hx=>by rw [one hx];exact hb)
  | false=>exact wpS_bind (Zhb L hk hkey hm fun b hb=>wpS_pure (r _ (by cases b <;>exact fun x hx=>by rw [one hx];exact hb)))
 have low:∀{i:Nat},i<n->BkS G arr key (base+i) true->∀k,k<i+1->BkS G arr key (base+k) true:=fun {i} hi g k hk x hx=>by
  by_cases z:k=i
  ·subst z;exact g x hx
  ·exact t _ _ _ (us _ _ (by omega) (by omega) (by omega) x _ hx (getElem?_pos arr (base+i) (by omega))) (g _ (getElem?_pos arr (base+i) (by omega)))
 have high:∀{i:Nat},i<n->BkS G arr key (base+i) false->∀k,i<=k->k<n->BkS G arr key (base+k) false:=fun {i} hi g k h1 h2 x hx=>by
  by_cases z:k=i
  ·subst z;exact g x hx
  ·exact t _ _ _ (g _ (getElem?_pos arr (base+i) (by omega))) (us (base+i) (base+k) (by omega) (by omega) (by omega) _ x (getElem?_pos arr (base+i) (by omega)) hx)
 refine wpS_bind (bey hint _ hh fun b hb0=>?_)
 have on:∀{f:Nat->Option (Option Nat)×Nat×Nat->StateT SortSt Sem (ForInStep (Option (Option Nat)×Nat×Nat))} {R:Option (Option Nat)×Nat×Nat->SortSt->Prop} (J:Nat->Nat->Nat->Prop) (D:Nat->Nat->Prop) {l u:Nat},J 0 l u->(∀l u,J n l u->D l u) ->
   (∀i l u (R':ForInStep (Option (Option Nat)×Nat×Nat)->SortSt->Prop),i<n->J i l u->(∀l u,D l u->R' (.done (none,l,u)) st)->(∀l u,J (i+1) l u->R' (.yield (none,l,u)) st)->wpS (model prog w) A E s (f i (none,l,u)) R' st)->(∀l u,D l u->R (none,l,u) st)->wpS (model prog w) A E s (forIn [:n] (none,l,u) f) R st:=fun {f R} J D {l u} g fin hf r =>
  wpS_mono (wpS_forRange (I:=fun i c st2=>st2=st/\∃l u,c=(none,l,u)/\J i l u) (Q:=fun c st2=>st2=st/\∃l u,c=(none,l,u)/\D l u) (fun i c st2 _ hi ⟨e,l,u,e2,gu⟩=>by subst e e2;exact hf i l u _ hi gu (fun l u d=>⟨rfl,l,u,rfl,d⟩) fun l u j=>⟨rfl,l,u,rfl,j⟩) (fun c st2 ⟨e,l,u,e2,gu⟩=>⟨e,l,u,e2,fin l u (by rw [Nat.max_eq_right (Nat.zero_le n)] at gu;exact gu)⟩) ⟨rfl,l,u,rfl,g⟩) fun c st2 ⟨e,l,u,e2,gu⟩=>by subst e e2;exact r l u gu
 have find:∀{f:Nat->Option (Option Nat)×Nat×Nat->StateT SortSt Sem (ForInStep (Option (Option Nat)×Nat×Nat))} {R:Option (Option Nat)×Nat×Nat->SortSt->Prop} {l u:Nat},u<=n->(∀i,i<l->BkS G arr key (base+i) true)->(∀i,u<=i->i<n->BkS G arr key (base+i) false) ->
   (∀i l u (R':ForInStep (Option (Option Nat)×Nat×Nat)->SortSt->Prop),(l ≥ u->R' (.done (none,l,u)) st)->(¬l ≥ u->(BkS G arr key (base+(l+(u-l) / 2)) true->R' (.yield (none,l+(u-l) / 2+1,u)) st)/\(BkS G arr key (base+(l+(u-l) / 2)) false->R' (.yield (none,l,l+(u-l) / 2)) st))->u<=n->wpS (model prog w) A E s (f i (none,l,u)) R' st) ->
   (∀l u,u<=n->(∀i,i<u->BkS G arr key (base+i) true)->(∀i,u<=i->i<n->BkS G arr key (base+i) false)->R (none,l,u) st)->wpS (model prog w) A E s (forIn [:n] (none,l,u) f) R st:=fun {f R l u} hu h1 h2 hf r =>
  on (fun i l u=>u<=n/\u-l<=n-i/\(∀i,i<l->BkS G arr key (base+i) true)/\∀i,u<=i->i<n->BkS G arr key (base+i) false) (fun l u=>u<=n/\u<=l/\(∀i,i<l->BkS G arr key (base+i) true)/\∀i,u<=i->i<n->BkS G arr key (base+i) false) ⟨hu,by omega,h1,h2⟩ (fun l u j=>⟨j.1,by have:=j.2.1;omega,j.2.2⟩)
   (fun i l u R' hi j d y=>hf i l u R' (fun z=>d l u ⟨j.1,z,j.2.2⟩) (fun z=>⟨fun g=>y _ _ ⟨j.1,by have:=j.2.1;omega,low (by have:=j.1;omega) g,j.2.2.2⟩,fun g=>y _ _ ⟨by have:=j.1;omega,by have:=j.2.1;omega,j.2.2.1,high (by have:=j.1;omega) g⟩⟩) j.1)
   (fun l u d=>r l u d.1 (fun i hi=>d.2.2.1 i (by have:=d.2.1;omega)) d.2.2.2)
 cases b with
 | true =>
  refine wpS_bind (on (fun i l u=>i+1<=u/\l<u/\hint+l<n/\BkS G arr key (base+(hint+l)) true) (fun l u=>l<u/\hint+l<n/\BkS G arr key (base+(hint+l)) true/\(u<n-hint->BkS G arr key (base+(hint+u)) false)) ⟨by omega,by omega,hh,hb0⟩ (fun l u j=>⟨j.2.1,j.2.2.1,j.2.2.2,fun z=>by have:=j.1;omega⟩)
   (fun i l u R' _ j d y=>ifS (fun (z:u ≥ n-hint)=>wpS_pure (d l u ⟨j.2.1,j.2.2.1,j.2.2.2,fun z2=>absurd z (by omega)⟩)) fun (z:¬u ≥ n-hint)=>wpS_bind (bey (hint+u) _ (show hint+u<n by omega) fun b hb=>?_)) fun l u d=>?_)
  ·cases b with
   | true=>exact wpS_pure (y u (2 * u+1) ⟨by have:=j.1;omega,by omega,by omega,hb⟩)
   | false=>exact wpS_pure (d _ _ ⟨j.2.1,j.2.2.1,j.2.2.2,fun _=>hb⟩)
  ·refine wpS_bind (find (l:=hint+l+1) (u:=hint+min u (n-hint)) (by omega) (low (i:=hint+l) d.2.1 d.2.2.1) (fun i h1 h2=>high (i:=hint+u) (by omega) (d.2.2.2 (by omega)) i (by omega) h2) (fun i l u R' d y hu=>ifS (fun z=>wpS_pure (d z)) fun (z:¬l ≥ u)=>wpS_bind (bey (l+(u-l) / 2) _ (show l+(u-l) / 2<n by omega) fun b hb=>?_)) fun l u hu g1 g2=>wpS_pure (q u hu g1 g2))
   cases b with
   | true=>exact wpS_pure ((y z).1 hb)
   | false=>exact wpS_pure ((y z).2 hb)
 | false =>
  refine wpS_bind (on (fun i l u=>i+1<=u/\l<u/\l<=hint/\BkS G arr key (base+(hint-l)) false) (fun l u=>l<u/\l<=hint/\BkS G arr key (base+(hint-l)) false/\(u<hint+1->BkS G arr key (base+(hint-u)) true)) ⟨by omega,by omega,by omega,hb0⟩ (fun l u j=>⟨j.2.1,j.2.2.1,j.2.2.2,fun z=>by have:=j.1;omega⟩)
   (fun i l u R' _ j d y=>ifS (fun (z:u ≥ hint+1)=>wpS_pure (d l u ⟨j.2.1,j.2.2.1,j.2.2.2,fun z2=>absurd z (by omega)⟩)) fun (z:¬u ≥ hint+1)=>wpS_bind (bey (hint-u) _ (show hint-u<n by omega) fun b hb=>?_)) fun l u d=>?_)
  ·cases b with
   | true=>exact wpS_pure (d _ _ ⟨j.2.1,j.2.2.1,j.2.2.2,fun _=>hb⟩)
   | false=>exact wpS_pure (y u (2 * u+1) ⟨by have:=j.1;omega,by omega,by omega,hb⟩)
  ·refine wpS_bind (find (l:=hint+1-min u (hint+1)) (u:=hint-l) (by omega) (fun i h1=>low (i:=hint-u) (by omega) (d.2.2.2 (by omega)) i (by omega)) (high (i:=hint-l) (by omega) d.2.2.1) (fun i l u R' d y hu=>ifS (fun z=>wpS_pure (d z)) fun (z:¬l ≥ u)=>wpS_bind (bey (l+(u-l) / 2) _ (show l+(u-l) / 2<n by omega) fun b hb=>?_)) fun l u hu g1 g2=>wpS_pure (q u hu g1 g2))
   cases b with
   | true=>exact wpS_pure ((y z).1 hb)
   | false=>exact wpS_pure ((y z).2 hb)
omit L
def Mg(G:Keyed->Keyed->Prop)(l out x y:List Keyed):Prop:=(out++(x++y)).Perm l/\(out++x).Pairwise G/\(out++y).Pairwise G
def RsS(G:Keyed->Keyed->Prop)(l:List Keyed)(r:Array Keyed):Prop:=r.toList.Perm l/\r.toList.Pairwise G
section
variable {l x y x' y':List Keyed} {out z a b arr:Array Keyed} {v u:Keyed} {i j k n:Nat} (t:TrG G)
theorem Mg.swap{out:List Keyed}(h:Mg G l out x y):Mg G l out y x:=⟨(List.perm_append_comm.append_left _).trans h.1,h.2.2,h.2.1⟩
include t
theorem Mg.ones(h:Mg G l out.toList x y)(ex:x=z.toList++x')(ey:y=u ::y')(g:∀w∈z.toList,G w u):Mg G l (out++z).toList x' y:=by
 obtain ⟨h1,h2,h3⟩:=h
 subst ex ey
 rw [Array.toList_append]
 rw [<-List.append_assoc] at h2
 refine ⟨by rw [List.append_assoc,<-List.append_assoc z.toList];exact h1,h2,?_⟩
 rw [List.pairwise_append] at h2 h3 ⊢
 refine ⟨h2.1,h3.2.1,fun c hc d hd=>?_⟩
 rcases List.mem_append.mp hc with hc|hc
 ·exact h3.2.2 c hc d hd
 rcases List.mem_cons.mp hd with rfl|hd
 ·exact g c hc
 ·exact t _ _ _ (g c hc) ((List.pairwise_cons.mp h3.2.1).1 d hd)
theorem Mg.twos(h:Mg G l out.toList x y)(ex:x=v ::x')(ey:y=z.toList++y')(g:∀w∈z.toList,G w v):Mg G l (out++z).toList x y':=(h.swap.ones t ey ex g).swap
theorem Mg.one(h:Mg G l out.toList x y)(ex:x=v ::x')(ey:y=u ::y')(g:G v u):Mg G l (out.push v).toList x' y:=by
 have:=h.ones t (z:=#[v]) ex ey (fun w hw=>by rw [List.mem_singleton.mp hw];exact g)
 rwa [Array.toList_append,<-Array.toList_push] at this
theorem Mg.two(h:Mg G l out.toList x y)(ex:x=v ::x')(ey:y=u ::y')(g:G u v):Mg G l (out.push u).toList x y':=(h.swap.one t ey ex g).swap
omit t
theorem Wx(h:i<arr.size):arr.toList.drop i=arr[i] ::arr.toList.drop (i+1):=by
 rw [List.drop_eq_getElem_cons (by simpa using h),Array.getElem_toList]
theorem Zj0:arr.toList.drop i=(arr.extract i (i+k)).toList++arr.toList.drop (i+k):=by
 rw [Array.toList_extract,List.extract_eq_take_drop,show i+k-i=k by omega,<-List.drop_drop,List.take_append_drop]
theorem Zc6:(arr.extract i arr.size).toList=arr.toList.drop i:=by
 rw [Array.toList_extract,List.extract_eq_take_drop,List.take_of_length_le (by simp)]
theorem Zcl(h1:1<=i)(h:i<=arr.size):(arr.toList.take i).reverse=arr[i-1] ::(arr.toList.take (i-1)).reverse:=by
 have:arr.toList.take i=arr.toList.take (i-1)++[arr[i-1]]:=by
  have e:=List.take_add_one (l:=arr.toList) (i:=i-1)
  rw [show i-1+1=i by omega,List.getElem?_eq_getElem (by simp;omega),Array.getElem_toList] at e
  exact e
 rw [this,List.reverse_append];rfl
theorem Zj4(h:i<=n):(arr.toList.take n).reverse=(arr.extract i n).reverse.toList++(arr.toList.take i).reverse:=by
 have e:arr.toList.take n=arr.toList.take i++(arr.extract i n).toList:=by
  have:=List.take_add (l:=arr.toList) (i:=i) (j:=n-i)
  rw [show i+(n-i)=n by omega] at this
  rw [this,Array.toList_extract,List.extract_eq_take_drop]
 rw [e,Array.toList_reverse,List.reverse_append]
theorem Zfw:(arr.extract 0 i).toList=arr.toList.take i:=by
 rw [Array.toList_extract,List.extract_eq_take_drop]
 rfl
theorem Zme(h:arr.toList.Pairwise G):UpS G arr i j:=fun p q _ h2 _ x y hx hy=>by
 rw [<-Array.getElem?_toList] at hx hy
 obtain ⟨p1,rfl⟩:=List.getElem?_eq_some_iff.mp hx
 obtain ⟨q1,rfl⟩:=List.getElem?_eq_some_iff.mp hy
 exact List.pairwise_iff_getElem.mp h p q p1 q1 h2
theorem Zcq{w:Keyed}(h:w∈(arr.extract i j).toList):∃k,i<=k/\k<j/\arr[k]? =some w:=by
 rw [Array.toList_extract,List.extract_eq_take_drop] at h
 obtain ⟨n,hn⟩:=List.getElem?_of_mem h
 have n1:=(List.getElem?_eq_some_iff.mp hn).1
 rw [List.length_take] at n1
 rw [List.getElem?_take_of_lt (by omega),List.getElem?_drop,Array.getElem?_toList] at hn
 exact ⟨i+n,by omega,by omega,hn⟩
theorem Zuh(m:Mg G l out.toList (a.toList.drop i) (b.toList.drop j))(h:j=b.size):RsS G l (out++a.extract i a.size++b.extract j b.size):=by
 have e:b.toList.drop j=[]:=List.drop_eq_nil_of_le (by simp;omega)
 rw [e] at m
 unfold RsS
 rw [Array.toList_append,Array.toList_append,Zc6,Zc6,e,List.append_nil]
 exact ⟨by have:=m.1;rwa [List.append_nil] at this,m.2.1⟩
theorem Yas(m:Mg G l out.toList (a.toList.drop i) (b.toList.drop j))(h:i=a.size):RsS G l (out++a.extract i a.size++b.extract j b.size):=by
 have e:a.toList.drop i=[]:=List.drop_eq_nil_of_le (by simp;omega)
 rw [e] at m
 unfold RsS
 rw [Array.toList_append,Array.toList_append,Zc6,Zc6,e,List.append_nil]
 exact ⟨m.1,m.2.2⟩
theorem Zp3{out y:List Keyed}(h1:(out++y).Pairwise G)(h2:(out++[v]).Pairwise G)(g:∀u∈y,G u v):(out++y++[v]).Pairwise G:=by
 rw [List.pairwise_append]
 refine ⟨h1,List.pairwise_singleton _ _,fun c hc d hd=>?_⟩
 rw [List.mem_singleton.mp hd]
 rcases List.mem_append.mp hc with hc|hc
 ·exact (List.pairwise_append.mp h2).2.2 c hc v (List.mem_singleton_self v)
 ·exact g c hc
theorem Zt5(m:Mg G l out.toList (a.toList.drop i) (b.toList.drop j))(h:i+1=a.size)(g1:∀u∈b.toList,BkS G a u (a.size-1) false):RsS G l (out++b.extract j b.size++a.extract i a.size):=by
 have e:a.toList.drop i=[a[i]]:=by rw [Wx (by omega),List.drop_eq_nil_of_le (by simp;omega)]
 have m:=m.swap
 unfold RsS
 rw [Array.toList_append,Array.toList_append,Zc6,Zc6,List.append_assoc]
 refine ⟨m.1,?_⟩
 rw [<-List.append_assoc,e]
 rw [e] at m
 exact Zp3 m.2.1 m.2.2 fun u hu=>g1 u (List.mem_of_mem_drop hu) _ (by rw [show a.size-1=i by omega];exact getElem?_pos a i (by omega))
theorem Zvc(m:Mg (fun x y=>G y x) l out.toList (a.toList.take i).reverse (b.toList.take j).reverse)(h:i=0):RsS G l (a.extract 0 i++b.extract 0 j++out.reverse):=by
 subst h
 unfold RsS
 rw [Array.toList_append,Array.toList_append,Zfw,Zfw,Array.toList_reverse,List.take_zero,List.nil_append]
 have e:b.toList.take j++out.toList.reverse=(out.toList++(b.toList.take j).reverse).reverse:=by rw [List.reverse_append,List.reverse_reverse]
 rw [e,List.pairwise_reverse]
 exact ⟨(List.reverse_perm _).trans (by have:=m.1;rwa [List.take_zero,List.reverse_nil,List.nil_append] at this),m.2.2⟩
theorem Yan(m:Mg (fun x y=>G y x) l out.toList (a.toList.take i).reverse (b.toList.take j).reverse)(h:j=0):RsS G l (a.extract 0 i++b.extract 0 j++out.reverse):=by
 subst h
 unfold RsS
 rw [Array.toList_append,Array.toList_append,Zfw,Zfw,Array.toList_reverse,List.take_zero,List.append_nil]
 have e:a.toList.take i++out.toList.reverse=(out.toList++(a.toList.take i).reverse).reverse:=by rw [List.reverse_append,List.reverse_reverse]
 rw [e,List.pairwise_reverse]
 exact ⟨(List.reverse_perm _).trans (by have:=m.1;rwa [List.take_zero,List.reverse_nil,List.append_nil] at this),m.2.1⟩
theorem Zu4(m:Mg (fun x y=>G y x) l out.toList (a.toList.take i).reverse (b.toList.take j).reverse)(h:j=1)(hb:1<=b.size)(g0:∀u∈a.toList,BkS G b u 0 true):RsS G l (b.extract 0 j++a.extract 0 i++out.reverse):=by
 subst h
 have e1:(b.toList.take 1).reverse=[b[0]]:=by rw [Zcl (Nat.le_refl _) hb];rfl
 unfold RsS
 rw [Array.toList_append,Array.toList_append,Zfw,Zfw,Array.toList_reverse]
 have e:b.toList.take 1++a.toList.take i++out.toList.reverse=(out.toList++(a.toList.take i).reverse++(b.toList.take 1).reverse).reverse:=by rw [List.reverse_append,List.reverse_append,List.reverse_reverse,List.reverse_reverse,List.append_assoc]
 rw [e,List.pairwise_reverse]
 refine ⟨(List.reverse_perm _).trans (by rw [List.append_assoc];exact m.1),?_⟩
 rw [e1] at m ⊢
 exact Zp3 m.2.1 m.2.2 fun u hu=>g0 u (List.mem_of_mem_take (List.mem_reverse.mp hu)) _ (getElem?_pos b 0 (by omega))
end
section
variable {C D F:Type} {pd:Array Keyed->Nat->Nat->Prop} {fd:Array Keyed->Nat->Nat->D->C} {ls:List Keyed} {fu:Array Keyed->F->C} {R R1 R2:C->SortSt->Prop}
def GoS(st:SortSt)(pd:Array Keyed->Nat->Nat->Prop)(fd:Array Keyed->Nat->Nat->D->C)(c:C)(s2:SortSt):Prop:=Gs st s2/\∃o i j d,c=fd o i j d/\pd o i j
def UnS(st:SortSt)(G:Keyed->Keyed->Prop)(ls:List Keyed)(fu:Array Keyed->F->C)(c:C)(s2:SortSt):Prop:=Gs st s2/\∃r d,c=fu r d/\RsS G ls r
theorem Zaz(h:∀o i j d s2,Gs st s2->pd o i j->R (fd o i j d) s2)(c:C)(s2:SortSt)(z:GoS st pd fd c s2):R c s2:=by
 obtain ⟨h2,o,i,j,d,rfl,hp⟩:=z
 exact h o i j d s2 h2 hp
theorem Zfs(h:∀r d s2,Gs st s2->RsS G ls r->R (fu r d) s2)(c:C)(s2:SortSt)(z:UnS st G ls fu c s2):R c s2:=by
 obtain ⟨h2,r,d,rfl,hp⟩:=z
 exact h r d s2 h2 hp
theorem Zli(h1:∀c s2,R1 c s2->R c s2)(h2:∀c s2,R2 c s2->R c s2)(c:C)(s2:SortSt)(z:R1 c s2\/R2 c s2):R c s2:=z.elim (h1 c s2) (h2 c s2)
end
variable {a b:Array Keyed}
def DlS(G:Keyed->Keyed->Prop)(a b:Array Keyed)(n:Nat)(out:Array Keyed)(i j:Nat):Prop:=Mg G (a.toList++b.toList) out.toList (a.toList.drop i) (b.toList.drop j)/\i+1<a.size/\j<b.size/\n<i+j
def DhS(G:Keyed->Keyed->Prop)(a b:Array Keyed)(n:Nat)(out:Array Keyed)(i j:Nat):Prop:=Mg (fun x y=>G y x) (a.toList++b.toList) out.toList (a.toList.take i).reverse (b.toList.take j).reverse/\1<=i/\i<=a.size/\2<=j/\j<=b.size/\n+i+j<a.size+b.size
include L
theorem Zx2{Q:Array Keyed->SortSt->Prop}(hk:kindOf st=kd)(ha:∀x∈a,x∈o)(hb:∀x∈b,x∈o)(a1:1<=a.size)(b1:1<=b.size)(pa:a.toList.Pairwise G)(pb:b.toList.Pairwise G)(g0:∀u∈a.toList,BkS G b u 0 true)(g1:∀u∈b.toList,BkS G a u (a.size-1) false)(q:∀(r:Array Keyed) st2,Gs st st2->RsS G (a.toList++b.toList) r->Q r st2):wpS (model prog w) A E s (Ztc a b) Q st:=by
 have t:=L.1
 have h:Gs st st:=⟨rfl,rfl,rfl,rfl⟩
 refine wpS_bind (wpS_lift (wpAny_rule ⟨rfl,?_⟩))
 refine wpS_bind (Xa (show 0<b.size by omega) ?_)
 have m0:Mg G (a.toList++b.toList) (#[b[0]]:Array Keyed).toList (a.toList.drop 0) (b.toList.drop 1):=by
  have:Mg G (a.toList++b.toList) (#[]:Array Keyed).toList (a.toList.drop 0) (b.toList.drop 0):=⟨List.Perm.refl _,pa,pb⟩
  exact this.two t (Wx (show 0<a.size by omega)) (Wx (show 0<b.size by omega)) (g0 a[0] (by rw [Array.mem_toList_iff];exact Array.getElem_mem _) _ (getElem?_pos b 0 (by omega)))
 refine ifS (fun z=>wpS_pure (q _ _ h (Zuh m0 (by simpa using z)))) fun e1=>ifS (fun z=>wpS_pure (q _ _ h (Zt5 m0 (by simpa using z) g1))) fun e2=>?_
 have e1:¬1=b.size:=by simpa using e1
 have e2:¬1=a.size:=by simpa using e2
 refine wpS_bind (wpS_get ?_)
 refine wpS_bind (wpS_mono (wpS_forRange
  (I:=fun k=>GoS st (DlS G a b k) fun o i j d=>(none,o,i,j,d))
  (Q:=UnS st G (a.toList++b.toList) fun r d=>(some r,d)) ?_ ?_ ⟨h,_,_,_,_,rfl,m0,by omega,by omega,by omega⟩) ?_)
 rotate_left
 ·exact Zaz fun o i j d s2 h2 hp=>absurd hp.2.2.2 (by have:=hp.2.1;have:=hp.2.2.1;omega)
 ·exact Zfs fun r d s2 h2 hr=>wpS_pure (q r s2 h2 hr)
 intro k c st2 _ k2
 revert c st2
 refine Zaz fun out i j d st2 h2 hp=>?_
 refine wpS_bind (wpS_mono (wpS_forRange
  (I:=fun k'=>GoS st (DlS G a b (k+k')) fun o i j d=>(none,o,i,j,d))
  (Q:=fun c s2=>UnS st G (a.toList++b.toList) (fun r d=>(some r,d)) c s2\/GoS st (DlS G a b (k+1)) (fun o i j d=>(none,o,i,j,d)) c s2) ?_ ?_ ⟨h2,_,_,_,_,rfl,hp⟩) ?_)
 ·clear hp h2
  intro k' c st3 _ k3
  revert c st3
  refine Zaz fun out i j d st3 h3 hp=>?_
  have m:=hp.1;have i1:=hp.2.1;have j1:=hp.2.2.1;have k1:=hp.2.2.2
  have i0:i<a.size:=by omega
  dsimp only
  refine wpS_bind (Xa j1 (wpS_bind (Xa i0 (wpS_bind (Zhb L (h3.1.trans hk) (hb _ (Array.getElem_mem _)) (ha _ (Array.getElem_mem _)) fun c gc=>?_)))))
  cases c with
  | true =>
   refine wpS_bind (Xa j1 ?_)
   have m:=m.two t (Wx i0) (Wx j1) gc
   refine ifS (fun z=>wpS_pure (.inl ⟨h3,_,_,rfl,Zuh m (by simpa using z)⟩)) fun (z:¬(j+1 ==b.size)=true)=>?_
   have z:¬j+1=b.size:=by simpa using z
   exact ifS (fun _=>wpS_pure (.inr ⟨h3,_,_,_,_,rfl,m,i1,by omega,by omega⟩)) fun _=>wpS_pure ⟨h3,_,_,_,_,rfl,m,i1,by omega,by omega⟩
  | false =>
   refine wpS_bind (Xa i0 ?_)
   have m:=m.one t (Wx i0) (Wx j1) gc
   refine ifS (fun z=>wpS_pure (.inl ⟨h3,_,_,rfl,Zt5 m (by simpa using z) g1⟩)) fun (z:¬(i+1+1 ==a.size)=true)=>?_
   have z:¬i+1+1=a.size:=by simpa using z
   exact ifS (fun _=>wpS_pure (.inr ⟨h3,_,_,_,_,rfl,m,by omega,j1,by omega⟩)) fun _=>wpS_pure ⟨h3,_,_,_,_,rfl,m,by omega,j1,by omega⟩
 ·exact Zaz fun o i j d s2 h2 hp=>.inr ⟨h2,_,_,_,_,rfl,hp.1,hp.2.1,hp.2.2.1,by have:=hp.2.2.2;omega⟩
 clear hp h2
 refine Zli (Zfs fun r d st3 h3 hr=>wpS_pure ⟨h3,r,_,rfl,hr⟩) (Zaz fun out i j d st3 h3 hp=>?_)
 refine wpS_bind (wpS_lift (wpAny_rule ⟨rfl,?_⟩))
 refine wpS_bind (wpS_mono (wpS_forRange
  (I:=fun k'=>GoS st (DlS G a b (k+1)) fun o i j d=>(none,o,i,j,d))
  (Q:=fun c s2=>UnS st G (a.toList++b.toList) (fun r d=>(some r,d)) c s2\/GoS st (DlS G a b (k+1)) (fun o i j d=>(none,o,i,j,d)) c s2) ?_ (fun _ _=>.inr) ⟨h3,_,_,_,_,rfl,hp⟩) ?_)
 ·clear hp h3
  intro k' c st3 _ k3
  revert c st3
  refine Zaz fun out i j d st3 h3 hp=>?_
  have m:=hp.1;have i1:=hp.2.1;have j1:=hp.2.2.1;have k1:=hp.2.2.2
  dsimp only
  generalize d.1=g
  apply Zxy (fun (_:Nat) st2=>Gs st st2)
  case a =>
   intro Z0
   refine ifS (fun _=>?_) (fun _=>?_)
   ·generalize g-1=g'
    exact Z0 g' st3 h3
   ·exact Z0 g st3 h3
  intro g st4 h4
  refine wpS_bind (Zg5 h4 fun st5 h5=>?_)
  refine wpS_bind (Xa j1 (wpS_bind (Zds L (h5.1.trans hk) (hb _ (Array.getElem_mem _)) ha (by omega) (by omega) (Zme pa) fun k5 hk5 g5 g6=>?_)))
  dsimp only
  have m5:=m.ones t (Zj0 (i:=i) (k:=k5)) (Wx j1) (fun w hw=>by
   obtain ⟨n,n1,n2,hn⟩:=Zcq hw
   exact g5 (n-i) (by omega) w (by rw [show i+(n-i)=n by omega];exact hn))
  apply Zut (fun (out:Array Keyed) (i:Nat) st2=>Gs st st2/\Mg G (a.toList++b.toList) out.toList (a.toList.drop i) (b.toList.drop j)/\i+1<a.size/\k+1<i+j/\BkS G a b[j] i false)
  case a =>
   intro Z0
   refine ifS (fun _=>ifS (fun z=>wpS_pure (.inl ⟨h5,_,_,rfl,Zt5 m5 (by simpa using z) g1⟩)) fun z1=>ifS (fun z=>wpS_pure (.inl ⟨h5,_,_,rfl,Yas m5 (by simpa using z)⟩)) fun z2=>?_) (fun z0=>?_)
   ·have z1:¬i+k5+1=a.size:=by simpa using z1
    have z2:¬i+k5=a.size:=by simpa using z2
    have r1:i+k5+1<a.size:=by omega
    have r2:k+1<i+k5+j:=by omega
    have r4:=g6 k5 (Nat.le_refl _) (by omega)
    have r3:=m5
    revert r3 r1 r2 r4
    generalize i+k5=i'
    generalize out++a.extract i i'=out'
    exact fun r1 r2 r4 r3=>Z0 out' i' st5 ⟨h5,r3,r1,r2,r4⟩
   ·exact Z0 out i st5 ⟨h5,m,i1,k1,g6 0 (by omega) (by omega)⟩
  clear m5 m i1 k1 h5 hk5 g5 g6
  intro out i st6 hp
  have h6:=hp.1;have m:=hp.2.1;have i1:=hp.2.2.1;have k1:=hp.2.2.2.1
  have i0:i<a.size:=by omega
  have m:=m.two t (Wx i0) (Wx j1) (hp.2.2.2.2 _ (getElem?_pos a i i0))
  refine wpS_bind (Xa j1 ?_)
  refine ifS (fun z=>wpS_pure (.inl ⟨h6,_,_,rfl,Zuh m (by simpa using z)⟩)) fun z=>?_
  have z:¬j+1=b.size:=by simpa using z
  refine wpS_bind (Xa i0 (wpS_bind (Zds L (h6.1.trans hk) (ha _ (Array.getElem_mem _)) hb (by omega) (by omega) (Zme pb) fun k7 hk7 g7 g8=>?_)))
  dsimp only
  have m8:=m.twos t (Wx i0) (Zj0 (i:=j+1) (k:=k7)) (fun w hw=>by
   obtain ⟨n,n1,n2,hn⟩:=Zcq hw
   exact g7 (n-(j+1)) (by omega) w (by rw [show j+1+(n-(j+1))=n by omega];exact hn))
  apply Zut (fun (out:Array Keyed) (j:Nat) st2=>Gs st st2/\Mg G (a.toList++b.toList) out.toList (a.toList.drop i) (b.toList.drop j)/\j<b.size/\k+1<i+j/\BkS G b a[i] j false)
  case a =>
   intro Z0
   refine ifS (fun _=>ifS (fun z=>wpS_pure (.inl ⟨h6,_,_,rfl,Zuh m8 (by simpa using z)⟩)) fun z1=>?_) (fun z0=>?_)
   ·have z1:¬j+1+k7=b.size:=by simpa using z1
    have r1:j+1+k7<b.size:=by omega
    have r2:k+1<i+(j+1+k7):=by omega
    have r4:=g8 k7 (Nat.le_refl _) (by omega)
    have r3:=m8
    revert r3 r1 r2 r4
    generalize j+1+k7=j'
    generalize out.push b[j]++b.extract (j+1) j'=out'
    exact fun r1 r2 r4 r3=>Z0 out' j' st6 ⟨h6,r3,r1,r2,r4⟩
   ·exact Z0 _ _ st6 ⟨h6,m,by omega,by omega,g8 0 (by omega) (by omega)⟩
  clear m8 m k1 h6 hk7 z j1 hp g7 g8
  intro out j st7 hp
  have h7:=hp.1;have m:=hp.2.1;have j1:=hp.2.2.1;have k1:=hp.2.2.2.1
  have m:=m.one t (Wx i0) (Wx j1) (hp.2.2.2.2 _ (getElem?_pos b j j1))
  refine wpS_bind (Xa i0 ?_)
  refine ifS (fun z=>wpS_pure (.inl ⟨h7,_,_,rfl,Zt5 m (by simpa using z) g1⟩)) fun z=>?_
  have z:¬i+1+1=a.size:=by simpa using z
  exact ifS (fun _=>wpS_pure (.inr ⟨h7,_,_,_,_,rfl,m,by omega,j1,by omega⟩)) fun _=>wpS_pure ⟨h7,_,_,_,_,rfl,m,by omega,j1,by omega⟩
 exact Zli (Zfs fun r d st3 h3 hr=>wpS_pure ⟨h3,r,_,rfl,hr⟩) (Zaz fun out i j d st3 h3 hp=>wpS_bind (Zg5 h3 fun st5 h5=>wpS_pure ⟨h5,_,_,_,_,rfl,hp⟩))
theorem Zxd{Q:Array Keyed->SortSt->Prop}(hk:kindOf st=kd)(ha:∀x∈a,x∈o)(hb:∀x∈b,x∈o)(a1:1<=a.size)(b1:1<=b.size)(pa:a.toList.Pairwise G)(pb:b.toList.Pairwise G)(g0:∀u∈a.toList,BkS G b u 0 true)(g1:∀u∈b.toList,BkS G a u (a.size-1) false)(q:∀(r:Array Keyed) st2,Gs st st2->RsS G (a.toList++b.toList) r->Q r st2):wpS (model prog w) A E s (Zts a b) Q st:=by
 have t:TrG (fun x y=>G y x):=fun x y z h1 h2=>L.1 _ _ _ h2 h1
 have h:Gs st st:=⟨rfl,rfl,rfl,rfl⟩
 refine wpS_bind (wpS_lift (wpAny_rule ⟨rfl,?_⟩))
 refine wpS_bind (Xa (show a.size-1<a.size by omega) ?_)
 have m0:Mg (fun x y=>G y x) (a.toList++b.toList) (#[a[a.size-1]]:Array Keyed).toList (a.toList.take (a.size-1)).reverse (b.toList.take b.size).reverse:=by
  have:Mg (fun x y=>G y x) (a.toList++b.toList) (#[]:Array Keyed).toList (a.toList.take a.size).reverse (b.toList.take b.size).reverse:=by
   rw [List.take_of_length_le (by simp),List.take_of_length_le (by simp)]
   exact ⟨(List.reverse_perm _).append (List.reverse_perm _),List.pairwise_reverse.mpr pa,List.pairwise_reverse.mpr pb⟩
  exact this.one t (Zcl a1 (Nat.le_refl _)) (Zcl b1 (Nat.le_refl _)) (g1 b[b.size-1] (by rw [Array.mem_toList_iff];exact Array.getElem_mem _) _ (getElem?_pos a (a.size-1) (by omega)))
 refine ifS (fun z=>wpS_pure (q _ _ h (Zvc m0 (by simpa using z)))) fun e1=>ifS (fun z=>wpS_pure (q _ _ h (Zu4 m0 (by simpa using z) b1 g0))) fun e2=>?_
 have e1:¬a.size-1=0:=by simpa using e1
 have e2:¬b.size=1:=by simpa using e2
 refine wpS_bind (wpS_get ?_)
 refine wpS_bind (wpS_mono (wpS_forRange
  (I:=fun k=>GoS st (DhS G a b k) fun o i j d=>(none,i,j,o,d))
  (Q:=UnS st G (a.toList++b.toList) fun r d=>(some r,d)) ?_ ?_ ⟨h,_,_,_,_,rfl,m0,by omega,by omega,by omega,by omega,by omega⟩) ?_)
 rotate_left
 ·exact Zaz fun o i j d s2 h2 hp=>absurd hp.2.2.2.2.2 (by have:=hp.2.1;have:=hp.2.2.2.1;omega)
 ·exact Zfs fun r d s2 h2 hr=>wpS_pure (q r s2 h2 hr)
 intro k c st2 _ k2
 revert c st2
 refine Zaz fun out i j d st2 h2 hp=>?_
 refine wpS_bind (wpS_mono (wpS_forRange
  (I:=fun k'=>GoS st (DhS G a b (k+k')) fun o i j d=>(none,i,j,o,d))
  (Q:=fun c s2=>UnS st G (a.toList++b.toList) (fun r d=>(some r,d)) c s2\/GoS st (DhS G a b (k+1)) (fun o i j d=>(none,i,j,o,d)) c s2) ?_ ?_ ⟨h2,_,_,_,_,rfl,hp⟩) ?_)
 ·clear hp h2
  intro k' c st3 _ k3
  revert c st3
  refine Zaz fun out i j d st3 h3 hp=>?_
  have m:=hp.1;have i1:=hp.2.1;have i2:=hp.2.2.1;have j1:=hp.2.2.2.1;have j2:=hp.2.2.2.2.1;have k1:=hp.2.2.2.2.2
  dsimp only
  have ea:=Zcl i1 i2
  have eb:=Zcl (show 1<=j by omega) j2
  refine wpS_bind (Xa (show j-1<b.size by omega) (wpS_bind (Xa (show i-1<a.size by omega) (wpS_bind (Zhb L (h3.1.trans hk) (hb _ (Array.getElem_mem _)) (ha _ (Array.getElem_mem _)) fun c gc=>?_)))))
  cases c with
  | true =>
   refine wpS_bind (Xa (show i-1<a.size by omega) ?_)
   have m:=m.one t ea eb gc
   refine ifS (fun z=>wpS_pure (.inl ⟨h3,_,_,rfl,Zvc m (by simpa using z)⟩)) fun z=>?_
   have z:¬i-1=0:=by simpa using z
   exact ifS (fun _=>wpS_pure (.inr ⟨h3,_,_,_,_,rfl,m,by omega,by omega,j1,j2,by omega⟩)) fun _=>wpS_pure ⟨h3,_,_,_,_,rfl,m,by omega,by omega,j1,j2,by omega⟩
  | false =>
   refine wpS_bind (Xa (show j-1<b.size by omega) ?_)
   have m:=m.two t ea eb gc
   refine ifS (fun z=>wpS_pure (.inl ⟨h3,_,_,rfl,Zu4 m (by simpa using z) b1 g0⟩)) fun z=>?_
   have z:¬j-1=1:=by simpa using z
   exact ifS (fun _=>wpS_pure (.inr ⟨h3,_,_,_,_,rfl,m,i1,i2,by omega,by omega,by omega⟩)) fun _=>wpS_pure ⟨h3,_,_,_,_,rfl,m,i1,i2,by omega,by omega,by omega⟩
 ·exact Zaz fun o i j d s2 h2 hp=>.inr ⟨h2,_,_,_,_,rfl,hp.1,hp.2.1,hp.2.2.1,hp.2.2.2.1,hp.2.2.2.2.1,by have:=hp.2.2.2.2.2;omega⟩
 clear hp h2
 refine Zli (Zfs fun r d st3 h3 hr=>wpS_pure ⟨h3,r,_,rfl,hr⟩) (Zaz fun out i j d st3 h3 hp=>?_)
 refine wpS_bind (wpS_lift (wpAny_rule ⟨rfl,?_⟩))
 refine wpS_bind (wpS_mono (wpS_forRange
  (I:=fun k'=>GoS st (DhS G a b (k+1)) fun o i j d=>(none,i,j,o,d))
  (Q:=fun c s2=>UnS st G (a.toList++b.toList) (fun r d=>(some r,d)) c s2\/GoS st (DhS G a b (k+1)) (fun o i j d=>(none,i,j,o,d)) c s2) ?_ (fun _ _=>.inr) ⟨h3,_,_,_,_,rfl,hp⟩) ?_)
 ·clear hp h3
  intro k' c st3 _ k3
  revert c st3
  refine Zaz fun out i j d st3 h3 hp=>?_
  have m:=hp.1;have i1:=hp.2.1;have i2:=hp.2.2.1;have j1:=hp.2.2.2.1;have j2:=hp.2.2.2.2.1;have k1:=hp.2.2.2.2.2
  dsimp only
  generalize d.1=g
  apply Zxy (fun (_:Nat) st2=>Gs st st2)
  case a =>
   intro Z0
   refine ifS (fun _=>?_) (fun _=>?_)
   ·generalize g-1=g'
    exact Z0 g' st3 h3
   ·exact Z0 g st3 h3
  intro g st4 h4
  refine wpS_bind (Zg5 h4 fun st5 h5=>?_)
  have eb:=Zcl (show 1<=j by omega) j2
  refine wpS_bind (Xa (show j-1<b.size by omega) (wpS_bind (Zds L (h5.1.trans hk) (hb _ (Array.getElem_mem _)) ha (by omega) (by omega) (Zme pa) fun k5 hk5 g5 g6=>?_)))
  dsimp only
  generalize hac:i-k5=ac
  have m5:=m.ones t (Zj4 (i:=k5) hk5) eb (fun w hw=>by
   obtain ⟨n,n1,n2,hn⟩:=Zcq (List.mem_reverse.mp (by rwa [Array.toList_reverse] at hw))
   exact g6 n (by omega) (by omega) w (by rw [Nat.zero_add];exact hn))
  apply Zut (fun (out:Array Keyed) (i:Nat) st2=>Gs st st2/\Mg (fun x y=>G y x) (a.toList++b.toList) out.toList (a.toList.take i).reverse (b.toList.take j).reverse/\1<=i/\i<=a.size/\k+1+i+j<a.size+b.size/\BkS G a b[j-1] (i-1) true)
  case a =>
   intro Z0
   refine ifS (fun _=>ifS (fun z=>wpS_pure (.inl ⟨h5,_,_,rfl,Zvc m5 (by simpa using z)⟩)) fun z1=>?_) (fun z0=>?_)
   ·have z1:¬k5=0:=by simpa using z1
    have r1:1<=k5:=by omega
    have r2:k5<=a.size:=by omega
    have r3:k+1+k5+j<a.size+b.size:=by omega
    have r4:=m5
    have r5:BkS G a b[j-1] (k5-1) true:=by have:=g5 (k5-1) (by omega);rwa [Nat.zero_add] at this
    revert r4 r1 r2 r3 r5
    generalize out++(a.extract k5 i).reverse=out'
    generalize k5=i'
    exact fun r1 r2 r3 r4 r5=>Z0 out' i' st5 ⟨h5,r4,r1,r2,r3,r5⟩
   ·exact Z0 out i st5 ⟨h5,m,i1,i2,k1,by have:=g5 (i-1) (by omega);rwa [Nat.zero_add] at this⟩
  clear m5 m i1 i2 k1 h5 hk5 g5 g6
  intro out i st6 hp
  have h6:=hp.1;have m:=hp.2.1;have i1:=hp.2.2.1;have i2:=hp.2.2.2.1;have k1:=hp.2.2.2.2.1
  have ea:=Zcl i1 i2
  refine wpS_bind (Xa (show j-1<b.size by omega) ?_)
  have m:=m.two t ea eb (hp.2.2.2.2.2 _ (getElem?_pos a (i-1) (by omega)))
  refine ifS (fun z=>wpS_pure (.inl ⟨h6,_,_,rfl,Zu4 m (by simpa using z) b1 g0⟩)) fun z=>?_
  have z:¬j-1=1:=by simpa using z
  refine wpS_bind (Xa (show i-1<a.size by omega) (wpS_bind (Zds L (h6.1.trans hk) (ha _ (Array.getElem_mem _)) hb (by omega) (by omega) (Zme pb) fun k7 hk7 g7 g8=>?_)))
  dsimp only
  generalize hbc:j-1-k7=bc
  have m8:=m.twos t ea (Zj4 (i:=k7) hk7) (fun w hw=>by
   obtain ⟨n,n1,n2,hn⟩:=Zcq (List.mem_reverse.mp (by rwa [Array.toList_reverse] at hw))
   exact g8 n (by omega) (by omega) w (by rw [Nat.zero_add];exact hn))
  apply Zut (fun (out:Array Keyed) (j:Nat) st2=>Gs st st2/\Mg (fun x y=>G y x) (a.toList++b.toList) out.toList (a.toList.take i).reverse (b.toList.take j).reverse/\2<=j/\j<=b.size/\k+1+i+j<a.size+b.size/\BkS G b a[i-1] (j-1) true)
  case a =>
   intro Z0
   refine ifS (fun _=>ifS (fun z=>wpS_pure (.inl ⟨h6,_,_,rfl,Zu4 m8 (by simpa using z) b1 g0⟩)) fun z1=>ifS (fun z=>wpS_pure (.inl ⟨h6,_,_,rfl,Yan m8 (by simpa using z)⟩)) fun z2=>?_) (fun z0=>?_)
   ·have z1:¬k7=1:=by simpa using z1
    have z2:¬k7=0:=by simpa using z2
    have r1:2<=k7:=by omega
    have r2:k7<=b.size:=by omega
    have r3:k+1+i+k7<a.size+b.size:=by omega
    have r4:=m8
    have r5:BkS G b a[i-1] (k7-1) true:=by have:=g7 (k7-1) (by omega);rwa [Nat.zero_add] at this
    revert r4 r1 r2 r3 r5
    generalize out.push b[j-1]++(b.extract k7 (j-1)).reverse=out'
    generalize k7=j'
    exact fun r1 r2 r3 r4 r5=>Z0 out' j' st6 ⟨h6,r4,r1,r2,r3,r5⟩
   ·exact Z0 _ _ st6 ⟨h6,m,by omega,by omega,by omega,by have:=g7 (j-1-1) (by omega);rwa [Nat.zero_add] at this⟩
  clear m8 m k1 h6 hk7 z g7 g8 hbc
  intro out j st7 hp
  have h7:=hp.1;have m:=hp.2.1;have j1:=hp.2.2.1;have j2:=hp.2.2.2.1;have k1:=hp.2.2.2.2.1
  refine wpS_bind (Xa (show i-1<a.size by omega) ?_)
  have m:=m.one t ea (Zcl (show 1<=j by omega) j2) (hp.2.2.2.2.2 _ (getElem?_pos b (j-1) (by omega)))
  refine ifS (fun z=>wpS_pure (.inl ⟨h7,_,_,rfl,Zvc m (by simpa using z)⟩)) fun z=>?_
  have z:¬i-1=0:=by simpa using z
  exact ifS (fun _=>wpS_pure (.inr ⟨h7,_,_,_,_,rfl,m,by omega,by omega,j1,j2,by omega⟩)) fun _=>wpS_pure ⟨h7,_,_,_,_,rfl,m,by omega,by omega,j1,j2,by omega⟩
 exact Zli (Zfs fun r d st3 h3 hr=>wpS_pure ⟨h3,r,_,rfl,hr⟩) (Zaz fun out i j d st3 h3 hp=>wpS_bind (Zg5 h3 fun st5 h5=>wpS_pure ⟨h5,_,_,_,_,rfl,hp⟩))
omit L
theorem Zvv{σ:Type}{M:Model}{Q:PUnit->σ->Prop}{s0 s1:σ}(h:Q ⟨⟩ s1):wpS M A E s (set s1:StateT σ Sem PUnit) Q s0:=by
 unfold wpS
 rw [StateT.run_set]
 exact wpAny_pure ⟨rfl,h⟩
theorem Zei:∀(l:List Keyed) (off k:Nat) (arr:Array Keyed),off+k+l.length<=arr.size->((l.zipIdx k).foldl (fun a x=>a.setIfInBounds (off+x.2) x.1) arr).toList=arr.toList.take (off+k)++l++arr.toList.drop (off+k+l.length)
 | [],off,k,arr,_=>by simp
 | x ::l,off,k,arr,h=>by
  rw [List.length_cons] at h
  rw [List.zipIdx_cons,List.foldl_cons,Zei l off (k+1) _ (by rw [Array.size_setIfInBounds];omega),Array.toList_setIfInBounds]
  have e1:(arr.toList.set (off+k) x).take (off+(k+1))=arr.toList.take (off+k)++[x]:=by
   rw [show off+(k+1)=off+k+1 by omega,List.take_add_one,List.take_set_of_le (Nat.le_refl _),List.getElem?_set_self (by simpa using (by omega:off+k<arr.size))]
   rfl
  rw [e1,List.drop_set_of_lt (by omega),List.length_cons,List.append_assoc,List.append_assoc,show off+(k+1)+l.length=off+k+(l.length+1) by omega]
  simp
section
variable {arr m:Array Keyed} {i j k:Nat}
theorem Zpu(hij:i<=j)(hjk:j<=k):(arr.extract i j).toList++(arr.extract j k).toList=(arr.toList.drop i).take (k-i):=by
 rw [Array.toList_extract,Array.toList_extract,List.extract_eq_take_drop,List.extract_eq_take_drop,show k-i=(j-i)+(k-j) by omega,List.take_add,List.drop_drop,show i+(j-i)=j by omega]
theorem Zmp(hij:i<=j)(hjk:j<=k)(hk:k<=arr.size)(hm:m.toList.Perm ((arr.extract i j).toList++(arr.extract j k).toList)):m.toList.length=k-i:=by
 rw [Zpu hij hjk] at hm
 have hl:=hm.length_eq
 have ha:arr.toList.length=arr.size:=Array.length_toList
 rw [List.length_take,List.length_drop,ha] at hl
 omega
theorem Zqe(hij:i<=j)(hjk:j<=k)(hk:k<=arr.size)(hm:m.toList.Perm ((arr.extract i j).toList++(arr.extract j k).toList)) :
  ((m.toList.zipIdx).foldl (fun a x=>a.setIfInBounds (i+x.2) x.1) arr).Perm arr:=by
 have hl:=Zmp hij hjk hk hm
 rw [Zpu hij hjk] at hm
 rw [Array.perm_iff_toList_perm,Zei m.toList i 0 arr (by omega)]
 have e2:arr.toList=arr.toList.take i++(arr.toList.drop i).take (k-i)++arr.toList.drop (i+(k-i)):=by
  rw [<-List.take_add,List.take_append_drop]
 rw [show i+0+m.toList.length=i+(k-i) by omega]
 exact ((hm.append_left _).append_right _).trans (by rw [Nat.add_zero,<-e2])
theorem Zsi(hl:m.toList.length=k-i)(hik:i<=k)(hk:k<=arr.size)(n:Nat):((m.toList.zipIdx).foldl (fun a x=>a.setIfInBounds (i+x.2) x.1) arr)[n]? =if i<=n/\n<k then m[n-i]? else arr[n]? :=by
 rw [<-Array.getElem?_toList,Zei m.toList i 0 arr (by omega),Nat.add_zero,show i+m.toList.length=k by omega]
 have h1:(arr.toList.take i).length=i:=by rw [List.length_take,Array.length_toList];omega
 by_cases z:n<i
 ·rw [if_neg (by omega),List.append_assoc,List.getElem?_append_left (by omega),List.getElem?_take_of_lt z,Array.getElem?_toList]
 by_cases z2:n<k
 ·rw [if_pos (by omega),List.append_assoc,List.getElem?_append_right (by omega),h1,List.getElem?_append_left (by omega),Array.getElem?_toList]
 ·rw [if_neg (by omega),List.getElem?_append_right (by rw [List.length_append];omega),List.length_append,h1,hl,List.getElem?_drop,Array.getElem?_toList]
  congr 1
  omega
theorem Zn3(h:UpS G arr i j):(arr.extract i j).toList.Pairwise G:=by
 rw [List.pairwise_iff_getElem]
 intro p q hp hq hpq
 rw [Array.length_toList,Array.size_extract] at hp hq
 refine h (i+p) (i+q) (by omega) (by omega) (by omega) _ _ ?_ ?_
 ·rw [Array.getElem_toList,Array.getElem_extract];exact getElem?_pos arr (i+p) (by omega)
 ·rw [Array.getElem_toList,Array.getElem_extract];exact getElem?_pos arr (i+q) (by omega)
end
def Ch:Nat->List (Nat×Nat×Nat)->Nat->Prop
 | a,[],b=>a=b
 | a,x ::r,b=>x.1=a/\1<=x.2.1/\Ch (a+x.2.1) r b
theorem Ch.le:∀{l:List (Nat×Nat×Nat)} {a b:Nat},Ch a l b->a+l.length<=b
 | [],_,_,h=>Nat.le_of_eq h
 | x ::r,a,b,⟨_,h1,h⟩=>by have:=h.le;rw [List.length_cons];omega
theorem Ch.snoc{n q:Nat}:∀{l:List (Nat×Nat×Nat)} {a b:Nat},Ch a l b->1<=n->Ch a (l++[(b,n,q)]) (b+n)
 | [],_,_,h,hn=>by cases (h:_=_);exact ⟨rfl,hn,rfl⟩
 | _ ::_,_,_,⟨h1,h2,h⟩,hn=>⟨h1,h2,h.snoc hn⟩
def RnS(G:Keyed->Keyed->Prop)(xs:Array Keyed)(l:List (Nat×Nat×Nat)):Prop:=∀x∈l,UpS G xs x.1 (x.1+x.2.1)
theorem Ch.mod{f:Nat×Nat×Nat->Nat×Nat×Nat}(hf:∀x,(f x).1=x.1/\(f x).2.1=x.2.1){xs:Array Keyed}:∀{l:List (Nat×Nat×Nat)} {k a b:Nat},Ch a l b->RnS G xs l->Ch a (l.modify k f) b/\RnS G xs (l.modify k f)
 | [],k,_,_,h,r=>by rw [List.modify_nil];exact ⟨h,r⟩
 | x ::l,0,_,_,⟨h1,h2,h⟩,r=>by
  rw [List.modify_zero_cons]
  refine ⟨⟨(hf x).1.trans h1,by rw [(hf x).2];exact h2,by rw [(hf x).2];exact h⟩,fun y hy=>?_⟩
  rcases List.mem_cons.mp hy with rfl|hy
  ·rw [(hf x).1,(hf x).2];exact r x List.mem_cons_self
  ·exact r y (List.mem_cons_of_mem _ hy)
 | x ::l,k+1,_,_,⟨h1,h2,h⟩,r=>by
  rw [List.modify_succ_cons]
  have:=h.mod hf (k:=k) (fun y hy=>r y (List.mem_cons_of_mem _ hy))
  refine ⟨⟨h1,h2,this.1⟩,fun y hy=>?_⟩
  rcases List.mem_cons.mp hy with rfl|hy
  ·exact r _ List.mem_cons_self
  ·exact this.2 y hy
theorem Ch.ends{x:Nat×Nat×Nat}:∀{l:List (Nat×Nat×Nat)} {a b:Nat},Ch a l b->x∈l->a<=x.1/\x.1+x.2.1<=b
 | y ::r,a,b,⟨h1,h2,h⟩,hx=>by
  rcases List.mem_cons.mp hx with rfl|hx
  ·have:=h.le;omega
  ·have:=h.ends hx;omega
theorem Ch.two{x y:Nat×Nat×Nat}{post:List (Nat×Nat×Nat)}:∀{pre:List (Nat×Nat×Nat)} {a b:Nat},Ch a (pre++x ::y ::post) b->x.1+x.2.1=y.1/\1<=x.2.1/\1<=y.2.1/\y.1+y.2.1<=b/\Ch a (pre++(x.1,x.2.1+y.2.1,x.2.2) ::post) b/\(∀z∈pre,z.1+z.2.1<=x.1)/\∀z∈post,y.1+y.2.1<=z.1
 | [],a,b,⟨h1,h2,h3,h4,h⟩=>⟨by rw [h1,h3],h2,h4,by have:=h.le;omega,⟨h1,by show 1<=x.2.1+y.2.1;omega,by show Ch (a+(x.2.1+y.2.1)) post b;rw [<-Nat.add_assoc];exact h⟩,(fun z hz=>nomatch hz),fun z hz=>by have:=(h.ends hz).1;omega⟩
 | z ::pre,a,b,⟨h1,h2,h⟩=>by
  obtain ⟨g1,g2,g3,g4,g,g5,g6⟩:=h.two
  refine ⟨g1,g2,g3,g4,⟨h1,h2,g⟩,fun u hu=>?_,g6⟩
  rcases List.mem_cons.mp hu with rfl|hu
  ·have:=(h.ends (x:=x) (List.mem_append_right _ List.mem_cons_self)).1;omega
  ·exact g5 u hu
include L
theorem Zul{pre post:List (Nat×Nat×Nat)}{x y:Nat×Nat×Nat}{Q:Bool->SortSt->Prop}(h:Ps kd o p st)(hp:p.toList=pre++x ::y ::post)(e:x.1+x.2.1=y.1)(hb:y.1+y.2.1<=o.size)(n1:1<=x.2.1)(n2:1<=y.2.1)(ux:UpS G (arrOf st) x.1 (x.1+x.2.1))(uy:UpS G (arrOf st) y.1 (y.1+y.2.1))
  (q:∀(p2:Array (Nat×Nat×Nat)) st2,p2.toList=pre++(x.1,x.2.1+y.2.1,x.2.2) ::post->Ps kd o p2 st2->(∀k,k<x.1\/y.1+y.2.1<=k->(arrOf st2)[k]? =(arrOf st)[k]?)->UpS G (arrOf st2) x.1 (y.1+y.2.1)->Q true st2):wpS (model prog w) A E s (mergeAt' pre.length) Q st:=by
 have t:=L.1
 obtain ⟨sa,na,pw⟩:=x
 obtain ⟨sb,nb,qw⟩:=y
 have g1:(pendingOf st)[pre.length]? =some (sa,na,pw):=by rw [h.pend,<-Array.getElem?_toList,hp];simp
 have g2:(pendingOf st)[pre.length+1]? =some (sb,nb,qw):=by rw [h.pend,<-Array.getElem?_toList,hp];simp
 dsimp only at e hb n1 n2 q ux uy
 have es:=h.many
 refine wpS_bind (wpS_get ?_)
 show wpS _ _ _ _ (match ((pendingOf st)[pre.length]?,(pendingOf st)[pre.length+1]?) with
  | (some (sa,na,power),some (sb,nb,snd))=>_
  | x=>_) _ _
 rw [g1,g2]
 refine wpS_bind (Zvv ?_)
 have p2:(((pendingOf st).setIfInBounds pre.length (sa,na+nb,pw)).eraseIdxIfInBounds (pre.length+1)).toList=pre++(sa,na+nb,pw) ::post:=by
  rw [h.pend,Array.toList_eraseIdxIfInBounds,Array.toList_setIfInBounds,hp,List.set_append_right _ _ (Nat.le_refl _),List.eraseIdx_append_of_length_le (Nat.le_succ _)]
  simp
 have hm:∀x∈arrOf st,x∈o:=fun x hx=>h.mem hx
 have hk2:=fun (st2:SortSt) (z:Ps kd o (((pendingOf st).setIfInBounds pre.length (sa,na+nb,pw)).eraseIdxIfInBounds (pre.length+1)) st2)=>q _ st2 p2 z
 clear q
 have hsb:sb<(arrOf st).size:=by omega
 have gb:=getElem?_pos (arrOf st) sb hsb
 refine wpS_bind (Xa hsb (wpS_bind (Zds L h.kind (hm _ (Array.getElem_mem _)) hm (show sa+na<=(arrOf st).size by omega) (show 0<na by omega) ux fun k hk u1 u2=>?_)))
 refine ifS (fun z=>wpS_pure (hk2 _ ⟨h.perm,h.kind,h.good,rfl⟩ (fun _ _=>rfl) fun p q h1 h2 h3=>?_)) fun (z:¬(na-k ==0)=true)=>?_
 ·have z:na-k=0:=by simpa using z
  by_cases zq:q<sb
  ·exact ux p q h1 h2 (by omega)
  by_cases zp:sb<=p
  ·exact uy p q zp h2 h3
  have a1:GqS G (arrOf st) p sb:=fun x y hx hy=>by
   rw [gb] at hy
   have:=u1 (p-sa) (by omega) x (by rw [show sa+(p-sa)=p by omega];exact hx)
   rwa [Option.some.inj hy] at this
  by_cases zs:q=sb
  ·subst zs;exact a1
  ·exact a1.trans t (uy sb q (Nat.le_refl _) (by omega) h3) hsb
 have z:¬na-k=0:=by simpa using z
 have hsl:sa+k+(na-k)-1<(arrOf st).size:=by omega
 have gl:=getElem?_pos (arrOf st) (sa+k+(na-k)-1) hsl
 refine wpS_bind (Xa hsl (wpS_bind (Zds L h.kind (hm _ (Array.getElem_mem _)) hm (show sb+nb<=(arrOf st).size by omega) (show nb-1<nb by omega) uy fun k2 hk3 v1 v2=>?_)))
 have zl:sa+k+(na-k)-1=sb-1:=by omega
 have la:∀p,sa<=p->p<sb->p≠sb-1->GqS G (arrOf st) p (sb-1):=fun p h1 h2 h3=>ux p (sb-1) h1 (by omega) (by omega)
 have l2:∀q,sb+k2<=q->q<sb+nb->GqS G (arrOf st) (sb-1) q:=fun q h1 h2 x y hx hy=>by
  rw [<-zl,gl] at hx
  have:=v2 (q-sb) (by omega) (by omega) y (by rw [show sb+(q-sb)=q by omega];exact hy)
  rwa [Option.some.inj hx] at this
 have ab:∀p q,sa<=p->p<sb->sb+k2<=q->q<sb+nb->GqS G (arrOf st) p q:=fun p q h1 h2 h3 h4=>by
  by_cases zp:p=sb-1
  ·subst zp;exact l2 q h3 h4
  ·exact (la p h1 h2 zp).trans t (l2 q h3 h4) (by omega)
 refine ifS (fun z2=>wpS_pure (hk2 _ ⟨h.perm,h.kind,h.good,rfl⟩ (fun _ _=>rfl) fun p q h1 h2 h3=>?_)) fun (z2:¬(k2 ==0)=true)=>?_
 ·have z2:k2=0:=by simpa using z2
  by_cases zq:q<sb
  ·exact ux p q h1 h2 (by omega)
  by_cases zp:sb<=p
  ·exact uy p q zp h2 h3
  ·exact ab p q h1 (by omega) (by omega) h3
 have z2:¬k2=0:=by simpa using z2
 have jn:∀(r:Array Keyed) (st1 st2:SortSt),Gs st1 st2->arrOf st1=arrOf st->kindOf st1=kd->failedOf st1=none->pendingOf st1=((pendingOf st).setIfInBounds pre.length (sa,na+nb,pw)).eraseIdxIfInBounds (pre.length+1)->RsS G (((arrOf st).extract (sa+k) sb).toList++((arrOf st).extract sb (sb+k2)).toList) r ->
   wpS (model prog w) A E s (do
    modify fun s=>setArr s (r.toList.zipIdx.foldl (fun a x=>a.setIfInBounds (sa+k+x.2) x.1) (arrOf s))
    let x <-get
    pure (failedOf x).isNone) Q st2:=fun r st1 st2 g b1 b2 b3 b4 hr=>by
  refine wpS_bind (wpS_modify (wpS_bind (wpS_get (wpS_pure ?_))))
  have e3:failedOf st2=none:=g.2.2.2.trans b3
  have e4:=g.2.1.trans b1
  show Q (failedOf st2).isNone _
  rw [e3]
  have bg:=Zsi (arr:=arrOf st) (Zmp (by omega) (by omega) (by omega) hr.1) (by omega) (by omega)
  refine hk2 _ ⟨?_,g.1.trans b2,e3,g.2.2.1.trans b4⟩ ?_ ?_
  ·show (r.toList.zipIdx.foldl (fun a x=>a.setIfInBounds (sa+k+x.2) x.1) (arrOf st2)).Perm o
   rw [e4]
   exact (Zqe (by omega) (by omega) (by omega) hr.1).trans h.perm
  ·intro n hn
   show (r.toList.zipIdx.foldl (fun a x=>a.setIfInBounds (sa+k+x.2) x.1) (arrOf st2))[n]? =_
   rw [e4,bg n,if_neg (by omega)]
  ·show UpS G (r.toList.zipIdx.foldl (fun a x=>a.setIfInBounds (sa+k+x.2) x.1) (arrOf st2)) sa (sb+nb)
   rw [e4]
   intro p q h1 h2 h3
   unfold GqS
   rw [bg p,bg q]
   have old:∀{n:Nat} {x:Keyed},r[n]? =some x->∃m,sa+k<=m/\m<sb+k2/\(arrOf st)[m]? =some x:=fun {n x} hx=>by
    rw [<-Array.getElem?_toList] at hx
    rcases List.mem_append.mp (hr.1.subset (List.mem_of_getElem? hx)) with z|z
    ·obtain ⟨m,m1,m2,hm⟩:=Zcq z
     exact ⟨m,m1,by omega,hm⟩
    ·obtain ⟨m,m1,m2,hm⟩:=Zcq z
     exact ⟨m,by omega,m2,hm⟩
   have ea:∀p q,sa<=p->p<sa+k->p<q->q<sb+nb->GqS G (arrOf st) p q:=fun p q h1 h2 h3 h4=>by
    by_cases zq:q<sb
    ·exact ux p q h1 h3 (by omega)
    have a1:GqS G (arrOf st) p sb:=fun x y hx hy=>by
     rw [gb] at hy
     have:=u1 (p-sa) (by omega) x (by rw [show sa+(p-sa)=p by omega];exact hx)
     rwa [Option.some.inj hy] at this
    by_cases zs:q=sb
    ·subst zs;exact a1
    ·exact a1.trans t (uy sb q (Nat.le_refl _) (by omega) h4) hsb
   have eb:∀p q,sa<=p->p<sb+k2->sb+k2<=q->q<sb+nb->GqS G (arrOf st) p q:=fun p q h1 h2 h3 h4=>by
    by_cases zp:p<sb
    ·exact ab p q h1 zp h3 h4
    ·exact uy p q (by omega) (by omega) h4
   by_cases zp:p<sa+k
   ·rw [if_neg (c:=sa+k<=p/\_) (by omega)]
    by_cases zq:sa+k<=q/\q<sb+k2
    ·rw [if_pos zq]
     intro x y hx hy
     obtain ⟨m,m1,m2,hm⟩:=old hy
     exact ea p m h1 zp (by omega) (by omega) x y hx hm
    ·rw [if_neg zq]
     exact ea p q h1 zp h2 h3
   by_cases zp2:p<sb+k2
   ·rw [if_pos (c:=sa+k<=p/\_) (by omega)]
    by_cases zq:q<sb+k2
    ·rw [if_pos (by omega)]
     exact Zme hr.2 (p-(sa+k)) (q-(sa+k)) (Nat.zero_le _) (by omega) (Nat.lt_succ_self _)
    ·rw [if_neg (by omega)]
     intro x y hx hy
     obtain ⟨m,m1,m2,hm⟩:=old hx
     exact eb m q (by omega) m2 (by omega) h3 x y hm hy
   ·rw [if_neg (by omega),if_neg (by omega)]
    exact uy p q (by omega) h2 h3
 have z0:1<=((arrOf st).extract (sa+k) sb).size:=by rw [Array.size_extract];omega
 have z3:1<=((arrOf st).extract sb (sb+k2)).size:=by rw [Array.size_extract];omega
 have c1:∀{i j:Nat},∀x∈(arrOf st).extract i j,x∈o:=fun x hx=>hm x (by
  rw [<-Array.mem_toList_iff] at hx ⊢
  rw [Array.toList_extract,List.extract_eq_take_drop] at hx
  exact List.mem_of_mem_drop (List.mem_of_mem_take hx))
 have pa:((arrOf st).extract (sa+k) sb).toList.Pairwise G:=Zn3 fun p q h1 h2 h3=>ux p q (by omega) h2 (by omega)
 have pb:((arrOf st).extract sb (sb+k2)).toList.Pairwise G:=Zn3 fun p q h1 h2 h3=>uy p q h1 h2 (by omega)
 have d0:∀u∈((arrOf st).extract (sa+k) sb).toList,BkS G ((arrOf st).extract sb (sb+k2)) u 0 true:=fun u hu x hx=>by
  obtain ⟨m,m1,m2,hm⟩:=Zcq hu
  rw [Array.getElem?_extract,if_pos (by omega),Nat.add_zero,gb] at hx
  have:=u2 (m-sa) (by omega) (by omega) u (by rw [show sa+(m-sa)=m by omega];exact hm)
  rwa [Option.some.inj hx] at this
 have d1:∀u∈((arrOf st).extract sb (sb+k2)).toList,BkS G ((arrOf st).extract (sa+k) sb) u (((arrOf st).extract (sa+k) sb).size-1) false:=fun u hu x hx=>by
  obtain ⟨m,m1,m2,hm⟩:=Zcq hu
  have es2:((arrOf st).extract (sa+k) sb).size=na-k:=by rw [Array.size_extract];omega
  rw [es2,Array.getElem?_extract,if_pos (by omega),show sa+k+(na-k-1)=sa+k+(na-k)-1 by omega,gl] at hx
  have:=v1 (m-sb) (by omega) u (by rw [show sb+(m-sb)=m by omega];exact hm)
  rwa [Option.some.inj hx] at this
 exact ifS (fun _=>wpS_bind (Zx2 L h.kind c1 c1 z0 z3 pa pb d0 d1 fun r st2 g hr=>jn r _ st2 g rfl h.kind h.good rfl hr)) (fun _=>wpS_bind (Zxd L h.kind c1 c1 z0 z3 pa pb d0 d1 fun r st2 g hr=>jn r _ st2 g rfl h.kind h.good rfl hr))
structure SgS(G:Keyed->Keyed->Prop)(kd:SortKind)(o:Array Keyed)(lo:Nat)(p:Array (Nat×Nat×Nat))(st:SortSt):Prop where
 ps:Ps kd o p st
 ch:Ch 0 p.toList lo
 rn:RnS G (arrOf st) p.toList
theorem Zo7{lo i:Nat}{Q:Bool->SortSt->Prop}(h:SgS G kd o lo p st)(hlo:lo<=o.size)(hi:i+1<p.size)(q:∀(p2:Array (Nat×Nat×Nat)) st2,SgS G kd o lo p2 st2->p2.size+1=p.size->(∀k,lo<=k->(arrOf st2)[k]? =(arrOf st)[k]?)->Q true st2):wpS (model prog w) A E s (mergeAt' i) Q st:=by
 have hi':i+1<p.toList.length:=by simpa using hi
 obtain ⟨pre,x,y,post,e,rfl⟩:∃pre x y post,p.toList=pre++x ::y ::post/\pre.length=i:=by
  refine ⟨p.toList.take i,p.toList[i],p.toList[i+1],p.toList.drop (i+2),?_,by rw [List.length_take];omega⟩
  rw [<-List.drop_eq_getElem_cons,<-List.drop_eq_getElem_cons,List.take_append_drop]
 have c:=h.ch
 have r:=h.rn
 rw [e] at c r
 obtain ⟨c1,c2,c3,c4,c5,c6,c7⟩:=c.two
 refine Zul L h.ps e c1 (by omega) c2 c3 (r x (by simp)) (r y (by simp)) fun p2 st2 e2 h2 f2 u2=>q p2 st2 ⟨h2,by rw [e2];exact c5,?_⟩ ?_ fun k hk=>f2 k (.inr (by omega))
 ·rw [e2]
  have keep:∀z:Nat×Nat×Nat,UpS G (arrOf st) z.1 (z.1+z.2.1)->(z.1+z.2.1<=x.1\/y.1+y.2.1<=z.1)->UpS G (arrOf st2) z.1 (z.1+z.2.1):=fun z u hz p q h1 h2 h3=>by
   unfold GqS
   rw [f2 p (by omega),f2 q (by omega)]
   exact u p q h1 h2 h3
  intro z hz
  rcases List.mem_append.mp hz with hz|hz
  ·exact keep z (r z (List.mem_append_left _ hz)) (.inl (c6 z hz))
  rcases List.mem_cons.mp hz with rfl|hz
  ·show UpS G (arrOf st2) x.1 (x.1+(x.2.1+y.2.1))
   rw [show x.1+(x.2.1+y.2.1)=y.1+y.2.1 by omega]
   exact u2
  ·exact keep z (r z (List.mem_append_right _ (List.mem_cons_of_mem _ (List.mem_cons_of_mem _ hz)))) (.inr (c7 z hz))
 ·rw [<-Array.length_toList,<-Array.length_toList,e,e2]
  simp
  omega
theorem Ztw{Q:Unit->SortSt->Prop}(h:Ps kd o #[] st)(q:∀st2,(arrOf st2).Perm o->(arrOf st2).toList.Pairwise G->failedOf st2=none->Q () st2):wpS (model prog w) A E s sortRuns' Q st:=by
 rw [sortRuns'_eq]
 refine wpS_bind (wpS_get ?_)
 dsimp only
 rw [h.many]
 generalize minRun' o.size o.size 0=mr
 refine wpS_bind (wpS_mono (wpS_forRange (I:=fun i c st2=>∃lo p,c=(none,lo)/\SgS G kd o lo p st2/\lo<=o.size/\i<=lo) (Q:=fun c st2=>∃p,c=(none,o.size)/\SgS G kd o o.size p st2) ?_ ?_ ⟨0,#[],rfl,⟨h,rfl,(fun x hx=>nomatch hx)⟩,Nat.zero_le _,Nat.le_refl _⟩) ?_)
 ·rintro x c st2 _ hx ⟨lo,p,rfl,h2,hlo,hxl⟩
  dsimp only
  refine ifS (fun z=>wpS_pure ?_) fun z=>?_
  ·have:lo=o.size:=by omega
   subst this
   exact ⟨p,rfl,h2⟩
  refine wpS_bind (Zqu L h2.ps (by omega) (by omega) fun n st3 h3 n1 n2 f3 u3=>?_)
  have r3:RnS G (arrOf st3) p.toList:=fun y hy=>(h2.rn y hy).fr f3 (h2.ch.ends hy).2
  have c2:=h2.ch
  dsimp only
  apply Zxy (fun (n:Nat) st2=>Ps kd o p st2/\RnS G (arrOf st2) p.toList/\1<=n/\lo+n<=o.size/\UpS G (arrOf st2) lo (lo+n))
  case a =>
   intro Z0
   refine ifS (fun z2=>wpS_bind (wpS_lift (wpAny_rule ⟨rfl,wpS_bind (Zvj L h3 (n:=min (o.size-lo) mr) (by omega) (by omega) u3 fun st4 h4 f4 u4=>?_)⟩))) fun _=>?_
   ·have r1:1<=min (o.size-lo) mr:=by omega
    have r2:lo+min (o.size-lo) mr<=o.size:=by omega
    have r4:RnS G (arrOf st4) p.toList:=fun y hy=>(r3 y hy).fr f4 (c2.ends hy).2
    have r5:=u4
    simp only [Bool.not_true,Bool.false_eq_true,if_false]
    revert r1 r2 r5
    generalize min (o.size-lo) mr=n'
    exact fun r1 r2 r5=>Z0 n' st4 ⟨h4,r4,r1,r2,r5⟩
   ·exact Z0 n st3 ⟨h3,r3,n1,by omega,u3⟩
  clear h2 h3 n1 n2 r3 u3 f3
  rintro n st4 ⟨h4,r4,n1,n2,u4⟩
  refine wpS_bind (wpS_get ?_)
  apply Zw6 (fun st2=>∃p,SgS G kd o lo p st2/\UpS G (arrOf st2) lo (lo+n))
  case a =>
   intro Z0
   cases hb:(pendingOf st4).back? with
   | none=>exact Z0 st4 ⟨p,⟨h4,c2,r4⟩,u4⟩
   | some y =>
    refine wpS_bind (wpS_mono (wpS_forRange (I:=fun _ c st5=>c=(none,())/\∃p,SgS G kd o lo p st5/\UpS G (arrOf st5) lo (lo+n)) (Q:=fun c st5=>c=(none,())/\∃p,SgS G kd o lo p st5/\UpS G (arrOf st5) lo (lo+n)) ?_ (fun _ _ z=>z) ⟨rfl,p,⟨h4,c2,r4⟩,u4⟩) ?_)
    ·rintro x c st5 _ _ ⟨rfl,p5,h5,u5⟩
     refine wpS_bind (wpS_get ?_)
     by_cases hs:(pendingOf st5).size >1
     ·rw [if_pos hs,getElem?_pos (pendingOf st5) ((pendingOf st5).size-2) (by omega)]
      refine ifS (fun _=>wpS_pure ⟨rfl,p5,h5,u5⟩) fun _=>wpS_bind (Zo7 L h5 hlo ?_ fun p6 st6 h6 _ f6=>wpS_pure ⟨rfl,p6,h6,fun p q h1 h2 h3=>?_⟩)
      ·rw [<-h5.ps.pend]
       omega
      ·unfold GqS
       rw [f6 p (by omega),f6 q (by omega)]
       exact u5 p q h1 h2 h3
     ·rw [if_neg hs]
      exact wpS_pure ⟨rfl,p5,h5,u5⟩
    ·rintro c st5 ⟨rfl,p5,h5,u5⟩
     refine wpS_bind (wpS_modify (Z0 _ ⟨_,⟨⟨h5.ps.perm,h5.ps.kind,h5.ps.good,rfl⟩,?_,?_⟩,u5⟩))
     ·rw [h5.ps.pend,Array.toList_modify]
      refine (Ch.mod (fun _=>?_) h5.ch h5.rn).1
      exact ⟨rfl,rfl⟩
     ·rw [h5.ps.pend,Array.toList_modify]
      refine (Ch.mod (fun _=>?_) h5.ch h5.rn).2
      exact ⟨rfl,rfl⟩
  rintro st5 ⟨p5,h5,u5⟩
  refine wpS_bind (wpS_modify (wpS_pure ⟨lo+n,_,rfl,⟨⟨h5.ps.perm,h5.ps.kind,h5.ps.good,rfl⟩,?_,?_⟩,n2,by omega⟩))
  ·rw [h5.ps.pend,Array.toList_push]
   exact h5.ch.snoc n1
  ·rw [h5.ps.pend,Array.toList_push]
   intro y hy
   rcases List.mem_append.mp hy with hy|hy
   ·exact h5.rn y hy
   ·rw [List.mem_singleton.mp hy];exact u5
 ·rintro c st2 ⟨lo,p,rfl,h2,hlo,hxl⟩
  have:lo=o.size:=by omega
  subst this
  exact ⟨p,rfl,h2⟩
 ·rintro c st2 ⟨p,rfl,h2⟩
  dsimp only
  refine wpS_bind (wpS_mono (wpS_forRange (I:=fun i c st5=>c=(none,())/\∃p,SgS G kd o o.size p st5/\(p.size<=1\/p.size+i<=o.size)) (Q:=fun c st5=>c=(none,())/\∃p,SgS G kd o o.size p st5/\p.size<=1) ?_ ?_ ⟨rfl,p,h2,.inr ?_⟩) ?_)
  ·rintro x c st3 _ _ ⟨rfl,p3,h3,b3⟩
   refine wpS_bind (wpS_get ?_)
   refine ifS (fun z=>wpS_pure ⟨rfl,p3,h3,by rw [<-h3.ps.pend];exact z⟩) fun z=>wpS_bind (Zo7 L h3 (Nat.le_refl _) ?_ fun p6 st6 h6 b6 _=>wpS_pure ⟨rfl,p6,h6,?_⟩)
   ·rw [h3.ps.pend] at z ⊢
    have hif:∀b:Bool,(if b=true then p3.size-2-1 else p3.size-2)+1<p3.size:=fun b=>by cases b <;>simp <;>omega
    exact hif _
   ·rw [h3.ps.pend] at z
    exact .inr (by omega)
  ·rintro c st3 ⟨rfl,p3,h3,b3⟩
   exact ⟨rfl,p3,h3,by omega⟩
  ·have:=h2.ch.le
   rw [Array.length_toList] at this
   omega
  ·rintro c st3 ⟨rfl,p3,h3,b3⟩
   refine wpS_pure (q st3 h3.ps.perm ?_ h3.ps.good)
   have hs:=h3.ps.many
   have c3:=h3.ch
   have r3:=h3.rn
   have whole:UpS G (arrOf st3) 0 o.size:=by
    rw [<-Array.length_toList] at b3
    match p3.toList,c3,r3,b3 with
    | [],c,_,_=>exact fun p q _ _ h3=>absurd h3 (by have:0=o.size:=c;omega)
    | [x],⟨x1,_,(c:_=_)⟩,r,_ =>
     have u:=r x List.mem_cons_self
     rw [x1] at u
     rw [<-c];exact u
   have:=Zn3 whole
   rw [<-hs] at this
   rw [Zc6] at this
   exact this
omit L
end
end L2
end
section
namespace L2
open PySem PySem.Spec PyProof.Rows
section
variable {prog:Program} {w:World} {A:Around} {E:Value->Shared->Prop} {s:Shared} {d it:Addr} {i ep:Nat} {es:Array DictEntry}
end
end L2
end
section
namespace L2
open PySem PySem.Spec PyProof.Rows
section
variable {prog:Program} {w:World} {A:Around} {E:Value->Shared->Prop} {s:Shared}
theorem Zt2:∀{vs:List Value},vs.length<2->(vs.toArray.zip vs.toArray).map (·.2)=vs.toArray
 | [],_=>by simp
 | [_],_=>by simp
 | _ ::_ ::_,h=>absurd h (by simp)
end
end L2
end
section
namespace L2
open PySem PySem.Spec PyProof.Rows
theorem Zjt{α β:Type}{R:α->β->Prop}{as as':List α}(p:as'.Perm as):∀{bs:List β},Paired R as bs->∃bs',bs'.Perm bs/\Paired R as' bs':=by
 induction p with
 | nil=>exact fun h=>⟨_,List.Perm.refl _,h⟩
 | cons x _ ih =>
  rintro _ (_|⟨r,t⟩)
  obtain ⟨bs',p,q⟩:=ih t
  exact ⟨_,p.cons _,.cons r q⟩
 | swap x y l =>
  rintro _ (_|⟨r,_|⟨r',t⟩⟩)
  exact ⟨_,.swap _ _ _,.cons r' (.cons r t)⟩
 | trans _ _ ih1 ih2 =>
  intro bs h
  obtain ⟨b1,p1,q1⟩:=ih2 h
  obtain ⟨b2,p2,q2⟩:=ih1 q1
  exact ⟨b2,p2.trans p1,q2⟩
end L2
end
section
namespace L2
open PySem PySem.Spec PyProof.Rows
end L2
end
section
namespace L2
open PySem PySem.Spec PyProof.Rows
section
variable {prog:Program} {w:World} {A:Around} {E:Value->Shared->Prop} {s:Shared}
def Zdh{α:Type}[DecidableEq α](lt:α->α->Bool):List α->List α->Bool
 | [],[]=>false
 | [],_ ::_=>true
 | _ ::_,[]=>false
 | a ::x,b ::y=>if a=b then Zdh lt x y else lt a b
def ltT(a b:Str):Bool:=decide (a.cps.toList<b.cps.toList)
theorem Zd9:∀{ks:List Str} {vs:List Value},ItemsAre (PySem.strKind prog w) ks vs->StrsAre vs ks
 | _,_,.nil=>.nil
 | _,_,.cons h t=>by
  obtain ⟨u,rfl⟩:=Value.isStrOf_shape h
  exact .cons _ _ (Zd9 t)
theorem Zi3{x y:List Str}{a b:Addr}{P:Fin->Shared->Prop}(hx:IsTupleKey (PySem.strKind prog w) s.heap x a)(hy:IsTupleKey (PySem.strKind prog w) s.heap y b)(h:P (.done (.ret (.bool (Zdh ltT x y)))) s) :
  wpAny (model prog w) A (Builtin.«tuple.__lt__» ⟨[.ref a,.ref b],[]⟩) P E s:=by
 have hTb:=hy.typeIs
 obtain ⟨oa,xs,na,hoa,_,hda,hia⟩:=hx
 obtain ⟨ob,ys,nb,hob,_,hdb,hib⟩:=hy
 show wpAny _ _ (isInstance (.ref b) (.type "tuple") >>=_) _ _ s
 refine wpAny_bind (wpAny_isInstance hTb isSubtype_tuple_tuple ?_)
 simp only [Bool.not_true,Bool.false_eq_true,if_false]
 refine wpAny_bind (wpAny_tupleItemsOf hoa hda (wpAny_bind (wpAny_tupleItemsOf hob hdb (wpAny_bind ?_))))
 have hia:=Zd9 hia
 have hib:=Zd9 hib
 refine wpAny_forIn_list _ (fun Z0 r s'=>r.1=none/\s'=s/\∃x' y' xs' ys',Z0=List.zip xs' ys'/\StrsAre xs' x'/\StrsAre ys' y'/\Zdh ltT x' y'=Zdh ltT x y/\decide (xs'.length<ys'.length)=decide (xs.size<ys.size)) _ ?_ ?_ _ _ ⟨rfl,rfl,x,y,xs.toList,ys.toList,rfl,hia,hib,rfl,by simp⟩
 ·rintro ⟨u,v⟩ Z0 r s' ⟨hr,rfl,x',y',xs',ys',hz,hx',hy',hdec,hlen⟩
  cases hx' with
  | nil=>simp at hz
  | cons k1 t1 hx'' =>
   cases hy' with
   | nil=>simp at hz
   | cons k2 t2 hy'' =>
    simp only [List.zip_cons_cons,List.cons.injEq,Prod.mk.injEq] at hz
    obtain ⟨⟨rfl,rfl⟩,rfl⟩:=hz
    refine wpAny_bind (wpAny_eqBool_str ?_)
    by_cases hk:k1=k2
    ·rw [decide_eq_true hk]
     simp only [Bool.not_true,Bool.false_eq_true,if_false]
     refine wpAny_pure ⟨rfl,rfl,_,_,_,_,rfl,hx'',hy'',?_,by simpa using hlen⟩
     rw [<-hdec]
     exact (if_pos hk).symm
    ·rw [decide_eq_false hk]
     simp only [Bool.not_false,if_true]
     have hf:ltT k1 k2=Zdh ltT x y:=by rw [<-hdec];exact (if_neg hk).symm
     refine wpAny_bind (wpAny_rule (wpAny_bind (wpAny_richCompare_same (op:=.Lt) (typeIs_str s' k1 t1) (typeIs_str s' k2 t2) slot_str_lt (call_str_lt ⟨(fun z=>nomatch z),?_⟩))))
     rw [<-hf] at h
     exact wpAny_bind (wpAny_pure (wpAny_pure (wpAny_pure h)))
 ·rintro ⟨r1,r2⟩ s' ⟨hr,rfl,x',y',xs',ys',hz,hx',hy',hdec,hlen⟩
  simp only at hr
  subst hr
  refine wpAny_pure ?_
  have hfin:decide (xs.size<ys.size)=Zdh ltT x y:=by
   rw [<-hdec,<-hlen]
   cases hx' with
   | nil =>
    cases hy' with
    | nil=>simp [Zdh]
    | cons _ _ _=>simp [Zdh]
   | cons _ _ _ =>
    cases hy' with
    | nil=>simp [Zdh]
    | cons _ _ _=>simp at hz
  show P (.done (.ret (.bool (decide (xs.size<ys.size))))) s'
  rw [hfin]
  exact h
theorem Zqv{x y:List Str}{a b:Addr}{Q:Bool->Shared->Prop}(hu:A.units<cLine)(hx:IsTupleKey (PySem.strKind prog w) s.heap x a)(hy:IsTupleKey (PySem.strKind prog w) s.heap y b)(h:Q (Zdh ltT x y) s):wpAny (model prog w) A (oneLt' false (.ref a) (.ref b)) Q E s:=by
 rw [oneLt'_eq]
 simp only [Bool.false_eq_true,if_false]
 exact wpAny_bind (wpAny_richCompare_same_room (op:=.Lt) hx.typeIs hy.typeIs PySem.F.slot_tuple_lt (wpAny_call_entry PySem.F.slot_tuple_lt hx.typeIs PySem.F.entry_tuple_lt (Zi3 hx hy ⟨_,rfl,(fun e=>nomatch e),wpAny_truthy_bool h⟩) (PySem.F.args_tuple_lt_2 _ _)) hu)
end
end L2
end
section
namespace L2
open PySem PySem.Spec PyProof.Rows
def Znq(K:Frag):R2:=fun x y H Q=>∃a b xs ys,x=.ref a/\y=.ref b/\SqT K H a xs/\SqT K H b ys/\xs≠[]/\ys≠[]/\xs.length+ys.length<=sizeLine/\New H (.tup (xs++ys)) Q
theorem Zeo{X:Cx}:OpR X (binaryOp .Add) (Znq X.K):=Zvq.imp fun x y H Q ⟨a,b,xs,ys,h1,h2,h3,h4,h5,h6,h7,h8⟩=>⟨a,b,xs,ys,h1,h2,h3,h4,h5,h7,fun z=>absurd z h6,fun _ p hp=>h8.at p hp⟩
section
variable {prog:Program} {w:World} {A:Around} {E:Value->Shared->Prop} {s:Shared}
def RtV(prog:Program)(w:World)(h:Heap)(v:Value):Prop:=∃(a:Addr) (ob:Obj) (p:Str) (t:Tok) (xs:List Value) (n:Nat),v=.ref a/\h.get? a=some ob/\ob.cls=.type "tuple" /\ob.data=.seq (.str p t ::xs).toArray n/\∀y∈xs,∃b ks,y=Value.ref b/\IsTupleKey (PySem.strKind prog w) h ks b
theorem Zml:∀{ks:List Str} {vs:List Value},StrsAre vs ks->ItemsAre (PySem.strKind prog w) ks vs
 | _,_,.nil=>.nil
 | _,_,.cons x t h=>.cons (by simp [PySem.strKind,Value.isStrOf]) (Zml h)
theorem Zsq{vs:List Value}{Q:SortKind->Shared->Prop}(h:∀v∈vs,RtV prog w s.heap v)(h2:2<=vs.length)(q:Q (tuples' true) s):wpAny (model prog w) A (keyKind' vs.toArray) Q E s:=by
 have all:∀l:List Value,(∀v∈l,RtV prog w s.heap v)->∃fs,PySem.W.KatTups s.heap l fs/\fs.length=l.length/\∀f∈fs,∃p t,f=Value.str p t:=by
  intro l
  induction l with
  | nil=>exact fun _=>⟨[],PySem.W.KatTups.nil,rfl,fun _ z=>nomatch z⟩
  | cons v l ih =>
   intro h
   obtain ⟨fs,h1,h2,h3⟩:=ih fun v hv=>h v (List.mem_cons_of_mem _ hv)
   obtain ⟨a,oa,p,t,us,n,rfl,ga,ca,da,ra⟩:=h v List.mem_cons_self
   refine ⟨.str p t ::fs,PySem.W.KatTups.cons ga ca da rfl h1,by rw [List.length_cons,List.length_cons,h2],fun f hf=>?_⟩
   rcases List.mem_cons.mp hf with rfl|hf
   ·exact ⟨p,t,rfl⟩
   ·exact h3 f hf
 obtain ⟨fs,h1,e,h3⟩:=all vs h
 refine PySem.W.kat_kind (T:=.type "str") h1 (by omega) (fun v hv=>?_) (by decide) q
 obtain ⟨p,t,rfl⟩:=h3 v hv
 exact .now
end
end L2
end
section
namespace L2
open PySem PySem.Spec PyProof.Rows
section
variable {α:Type} [DecidableEq α] {lt:α->α->Bool}
structure Lin(lt:α->α->Bool):Prop where
 asym:∀a b,lt a b=true->lt b a=false
 neg:∀a b c,lt a c=true->lt a b=true\/lt b c=true
 one:∀a b,lt a b=false->lt b a=false->a=b
theorem Za1{a b:α}{x y:List α}(h:a≠b):Zdh lt (a ::x) (b ::y)=lt a b:=if_neg h
theorem Zdq{a:α}{x y:List α}:Zdh lt (a ::x) (a ::y)=Zdh lt x y:=if_pos rfl
theorem Lin.lex(L:Lin lt):Lin (Zdh lt) where
 asym:=by
  intro a
  induction a with
  | nil=>intro b h;cases b <;>first | rfl | exact absurd h (by decide)
  | cons a x ih =>
   intro b h
   cases b with
   | nil=>exact absurd h (by decide:¬false=true)
   | cons b y =>
    by_cases e:a=b
    ·subst e;rw [Zdq] at h ⊢;exact ih y h
    ·rw [Za1 e] at h;rw [Za1 (Ne.symm e)];exact L.asym _ _ h
 neg:=by
  intro a
  induction a with
  | nil =>
   intro b c h
   cases c with
   | nil=>exact absurd h (by decide:¬false=true)
   | cons c z =>
    cases b with
    | nil=>exact .inr rfl
    | cons b y=>exact .inl rfl
  | cons a x ih =>
   intro b c h
   cases c with
   | nil=>exact absurd h (by decide:¬false=true)
   | cons c z =>
    cases b with
    | nil=>exact .inr rfl
    | cons b y =>
     by_cases e:a=c
     ·subst e
      rw [Zdq] at h
      by_cases f:a=b
      ·subst f;rw [Zdq,Zdq];exact ih y z h
      ·rw [Za1 f,Za1 (Ne.symm f)]
       cases g:lt a b with
       | true=>exact .inl rfl
       | false=>cases g2:lt b a with
        | true=>exact .inr rfl
        | false=>exact absurd (L.one _ _ g g2) f
     ·rw [Za1 e] at h
      by_cases f:a=b
      ·subst f;rw [Za1 e];exact .inr h
      ·rw [Za1 f]
       by_cases f2:b=c
       ·subst f2;exact .inl h
       ·rw [Za1 f2];exact L.neg a b c h
 one:=by
  intro a
  induction a with
  | nil=>intro b h h2;cases b <;>first | rfl | exact absurd h (by decide:¬true=false)
  | cons a x ih =>
   intro b h h2
   cases b with
   | nil=>exact absurd h2 (by decide:¬true=false)
   | cons b y =>
    by_cases e:a=b
    ·subst e;rw [Zdq] at h h2;rw [ih y h h2]
    ·rw [Za1 e] at h;rw [Za1 (Ne.symm e)] at h2
     exact absurd (L.one _ _ h h2) e
end
theorem Zup:Lin ltT where
 asym a b h:=(strKind.toKeyOrd).klt_asymm (a:=a.cps.toList) (b:=b.cps.toList) h
 neg a b c h:=strKind.negTrans a.cps.toList b.cps.toList c.cps.toList h
 one a b h h2:=by
  have:=strKind.total a.cps.toList b.cps.toList h h2
  cases a;cases b
  congr 1
  exact Array.toList_inj.mp this
abbrev Ks:=List (List Str)
def ltK:Ks->Ks->Bool:=Zdh (Zdh ltT)
theorem Zoi:Lin ltK:=Zup.lex.lex
def leK(a b:Ks):Prop:=ltK b a=false
theorem leK.trans{a b c:Ks}(h:leK a b)(h2:leK b c):leK a c:=by
 unfold leK at *
 cases g:ltK c a with
 | false=>rfl
 | true =>
  rcases Zoi.neg c b a g with z|z
  ·rw [h2] at z;cases z
  ·rw [h] at z;cases z
theorem Zth:∀{x y:List Ks},x.Perm y->x.Pairwise leK->y.Pairwise leK->x=y
 | [],y,p,_,_=>(List.nil_perm.mp p).symm
 | a ::x,[],p,_,_=>absurd p.length_eq (by simp)
 | a ::x,b ::y,p,h,h2=>by
  have e:a=b:=by
   rcases List.mem_cons.mp (p.subset List.mem_cons_self) with z|z
   ·exact z
   rcases List.mem_cons.mp (p.symm.subset List.mem_cons_self) with z2|z2
   ·exact z2.symm
   exact Zoi.one _ _ ((List.pairwise_cons.mp h2).1 a z) ((List.pairwise_cons.mp h).1 b z2)
  subst e
  rw [Zth (List.perm_cons a |>.mp p) (List.pairwise_cons.mp h).2 (List.pairwise_cons.mp h2).2]
section
variable {prog:Program} {w:World} {A:Around} {E:Value->Shared->Prop} {s:Shared}
def Zlu(prog:Program)(w:World)(h:Heap):List Value->Ks->Prop:=Paired fun y ks=>∃b,y=Value.ref b/\IsTupleKey (PySem.strKind prog w) h ks b
def RtD(prog:Program)(w:World)(h:Heap)(p:Str)(v:Value)(ks:Ks):Prop:=∃(a:Addr) (ob:Obj) (t:Tok) (xs:List Value) (n:Nat),v=.ref a/\h.get? a=some ob/\ob.cls=.type "tuple" /\ob.data=.seq (.str p t ::xs).toArray n/\Zlu prog w h xs ks
theorem RtD.rt{h:Heap}{p:Str}{v:Value}{ks:Ks}(x:RtD prog w h p v ks):RtV prog w h v:=by
 obtain ⟨a,ob,t,xs,n,e,f,c,d,r⟩:=x
 refine ⟨a,ob,p,t,xs,n,e,f,c,d,fun y hy=>?_⟩
 obtain ⟨i,hi⟩:=List.getElem?_of_mem hy
 obtain ⟨k,_,b,e2,hb⟩:=Paired.get r hi
 exact ⟨b,k,e2,hb⟩
theorem RtD.mono{h h':Heap}{p:Str}{v:Value}{ks:Ks} (k:∀b ob,ob.cls=.type "tuple" ->h.get? b=some ob->h'.get? b=some ob) (x:RtD prog w h p v ks):RtD prog w h' p v ks:=by
 obtain ⟨a,ob,t,xs,n,e,f,c,d,r⟩:=x
 exact ⟨a,ob,t,xs,n,e,k a ob c f,c,d,Paired.mapP r fun y ks ⟨b,e2,o,its,m,h1,h2,h3⟩=>⟨b,e2,o,its,m,k b o h2 h1,h2,h3⟩⟩
theorem Zr8{fin:Bool}{Q:Bool->Shared->Prop}(hu:A.units<cLine):∀{us vs:List Value} {x y:Ks} (i:Nat),Zlu prog w s.heap us x->Zlu prog w s.heap vs y->fin=decide (us.length<vs.length)->Q (ltK x y) s->PySem.W.KatLex prog w A true fin Q (us.zip vs) (i+1) s
 | [],[],_,_,_,.nil,.nil,e,q=>PySem.W.kat_nil (by rw [e];exact q)
 | [],_ ::_,_,_,_,.nil,.cons _ _,e,q=>PySem.W.kat_nil (by rw [e];exact q)
 | _ ::_,[],_,_,_,.cons _ _,.nil,e,q=>PySem.W.kat_nil (by rw [e];exact q)
 | u ::us,v ::vs,k ::x,m ::y,i,.cons h1 hs,.cons h2 hs2,e,q=>by
  obtain ⟨b,rfl,k1⟩:=h1
  obtain ⟨c,rfl,k2⟩:=h2
  refine PySem.W.kat_cons (wpAny_eqBool_tuple hu k1 k2 (PySem.W.kat_go (fun z=>PySem.W.kat_yes ?_) fun z=>PySem.W.kat_no (show wpAny _ _ (oneLt' false (.ref b) (.ref c)) _ _ _ from Zqv hu k1 k2 ?_)))
  ·have z:k=m:=of_decide_eq_true z
   subst z
   refine Zr8 hu (i+1) hs hs2 (by rw [e,List.length_cons,List.length_cons];simp) ?_
   have:ltK (k ::x) (k ::y)=ltK x y:=Zdq
   rwa [this] at q
  ·have z:k≠m:=of_decide_eq_false z
   have:ltK (k ::x) (m ::y)=Zdh ltT k m:=Za1 z
   rwa [this] at q
theorem Zu1{vs:List Value}{p:Str}{f:Value->Ks}(hu:A.units<cLine)(h:∀v∈vs,RtD prog w s.heap p v (f v)):Zsz prog w A s (tuples' true) (pairsOf vs) (fun x y=>leK (f x.1) (f y.1)):=by
 refine ⟨fun x y z h h2=>h.trans h2,fun x hx y hy E' Q' q=>?_⟩
 have mem:∀x∈pairsOf vs,RtD prog w s.heap p x.1 (f x.1):=fun x hx=>by
  rw [<-Array.mem_toList_iff,pairsOf_toList] at hx
  exact h _ (List.of_mem_zip hx).1
 have q:Q' (ltK (f x.1) (f y.1)) s:=q _ (by
  cases g:ltK (f x.1) (f y.1) with
  | true=>exact Zoi.asym _ _ g
  | false=>exact g)
 revert q
 have mx:=mem x hx
 have my:=mem y hy
 generalize f x.1=kx at mx
 generalize f y.1=ky at my
 intro q
 obtain ⟨a,oa,t,us,n,ea,ga,ca,da,ra⟩:=mx
 obtain ⟨b,ob,t',vs,m,eb,gb,cb,db,rb⟩:=my
 rw [ea,eb]
 refine PySem.W.kat_lt ga da gb db ?_
 refine PySem.W.kat_cons (wpAny_eqBool_str (PySem.W.kat_go (fun _=>PySem.W.kat_yes (Zr8 hu 0 ra rb ?_ q)) fun z=>absurd rfl (of_decide_eq_false z)))
 simp
theorem Zs2{a:Addr}{vs:List Value}{n:Nat}{kd:SortKind}{P:Fin->Shared->Prop}{G:Value->Value->Prop} (hl:s.heap.get? a=some (seqObj "list" vs.toArray n)) (hz:vs.length<=sizeLine)
  (hk:2<=vs.length->∀hp:Heap,(∀b ob,b≠a->s.heap.get? b=some ob->hp.get? b=some ob)->(∀Q:SortKind->Shared->Prop,Q kd { s with heap:=hp }->wpAny (model prog w) A (keyKind' vs.toArray) Q E { s with heap:=hp })/\Zsz prog w A { s with heap:=hp } kd (pairsOf vs) (fun x y=>G x.1 y.1))
  (h:∀out:List Value,out.Perm vs->out.Pairwise G->P (.done (.ret .none)) { s with heap:=sortedHeap s.heap a vs out.toArray }):wpAny (model prog w) A (Builtin.«list.sort» ⟨[.ref a],[]⟩) P E s:=by
 rw [list_sort_plain]
 have hlt:a<s.heap.objs.size:=Heap.lt_size hl
 refine wpAny_bind (listItems_at hl rfl (wpAny_bind (listUpdate_at hl rfl ?_ (hsz:=by simpa using hz))))
 obtain ⟨e1,hl1⟩:∃e1,(s.heap.update a (Obj.mapSeq fun _=>#[])).get? a=some (seqObj "list" #[] e1):=⟨_,get?_update_seq hl _⟩
 refine wpAny_bind (seqEpoch_at hl1 rfl (wpAny_bind (wpAny_newTuple (hsz:=by simpa using hz) (wpAny_bind (wpAny_newList (wpAny_holding ?_))))))
 generalize hH:((s.heap.update a (Obj.mapSeq fun _=>#[])).push (seqObj "tuple" vs.toArray 0)).push (seqObj "list" #[] 0)=hp
 have keep:∀b ob,(s.heap.update a (Obj.mapSeq fun _=>#[])).get? b=some ob->hp.get? b=some ob:=fun b ob hb=>by
  rw [<-hH]
  exact Heap.get?_push_of_some _ (Heap.get?_push_of_some _ hb)
 have hl2:=keep _ _ hl1
 have keep:∀b ob,b≠a->s.heap.get? b=some ob->hp.get? b=some ob:=fun b ob ne hb=>keep b ob (by rw [Heap.get?_update_other _ _ (Ne.symm ne)];exact hb)
 have fin:∀out:List Value,out.Perm vs->out.Pairwise G->P (.done (.ret .none)) { s with heap:=hp.update a (Obj.mapSeq fun _=>out.toArray) }:=fun out h1 h2=>by
  have:=h out h1 h2
  unfold sortedHeap at this
  rw [hH] at this
  exact this
 show wpAny (model prog w) A _ P E { s with heap:=hp }
 dsimp only
 by_cases h2:vs.toArray.size<2
 ·rw [if_pos h2,if_pos h2]
  refine wpAny_bind (wpAny_pure ?_)
  rw [StateT.run_pure]
  refine wpAny_bind (wpAny_pure ?_)
  dsimp only
  refine wpAny_bind (seqEpoch_at hl2 rfl (wpAny_bind (listUpdate_at hl2 rfl ?_ (hsz2:=by rw [Array.size_map];show (pairsOf vs).size<=_;rw [pairsOf_size];omega))))
  simp only [bne_self_eq_false,Bool.false_eq_true,if_false]
  refine wpAny_pure ?_
  show P _ { s with heap:=hp.update a (Obj.mapSeq fun _=>(vs.toArray.zip vs.toArray).map (·.2)) }
  have h2:vs.length<2:=by simpa using h2
  rw [Zt2 h2]
  refine fin vs (List.Perm.refl _) ?_
  match vs,h2 with
  | [],_=>exact .nil
  | [_],_=>exact List.pairwise_singleton _ _
  | _ ::_ ::_,h=>exact absurd h (by simp)
 ·rw [if_neg h2,if_neg h2]
  have h2':2<=vs.length:=by
   have:¬vs.length<2:=by simpa using h2
   omega
  obtain ⟨k1,k2⟩:=hk h2' hp keep
  refine wpAny_bind (k1 _ ?_)
  refine wpAny_bind (wpAny_mono (Ztw k2 (st:=SortSt.mk' kd (vs.toArray.zip vs.toArray) #[] 7 none) (Q:=fun _ st=>(arrOf st).Perm (pairsOf vs)/\failedOf st=none/\(arrOf st).toList.Pairwise fun x y=>G x.1 y.1) ⟨Array.Perm.refl _,rfl,rfl,rfl⟩ fun st z1 z3 z2=>⟨z1,z2,z3⟩) ?_ fun _ _ e=>e)
  rintro ⟨⟨⟩,st⟩ s' ⟨rfl,p1,p2,p3⟩
  dsimp only
  have hsz:(arrOf st).size=vs.length:=p1.size_eq.trans (pairsOf_size _)
  refine wpAny_bind (seqEpoch_at hl2 rfl (wpAny_bind (listUpdate_at hl2 rfl ?_ (hsz2:=by rw [Array.size_map,hsz];omega))))
  rw [p2]
  simp only [bne_self_eq_false,Bool.false_eq_true,if_false]
  refine wpAny_pure ?_
  have pl:(arrOf st).toList.Perm (vs.zip vs):=by rw [<-pairsOf_toList];exact Array.perm_iff_toList_perm.mp p1
  have eo:(arrOf st).map (·.2)=((arrOf st).toList.map (·.2)).toArray:=by rw [<-Array.toList_map,Array.toArray_toList]
  show P _ { s with heap:=hp.update a (Obj.mapSeq fun _=>(arrOf st).map (·.2)) }
  rw [eo]
  refine fin _ ((pl.map _).trans (by rw [List.map_snd_zip (Nat.le_refl _)])) ?_
  rw [List.pairwise_map]
  refine List.Pairwise.imp_of_mem (fun hx hy g=>?_) p3
  rw [<-(mem_zip_self (pl.subset hx)).1,<-(mem_zip_self (pl.subset hy)).1]
  exact g
end
theorem Znp{X:Cx}(hu:X.A.units+64<cLine){pins:List (Addr×Obj)}{s:Shared}{σ:St}{H:Hp}{Q:VK}{p:Addr}{ts:List Addr}(I:Inv X pins σ H s)(pl:PlainL s.heap p (ts.map Value.ref).toArray)(hzl:(ts.map Value.ref).length<=sizeLine){sig:Str}{f:Addr->Ks}(tx:∀v∈ts.map Value.ref,RtD X.prog X.w s.heap sig v (f (Zbm v)))
  (q:∀ts':List Addr,ts'.Perm ts->ts'.Pairwise (fun a b=>leK (f a) (f b))->New H (.lst (ts'.map V.ref)) Q):wpAny (model X.prog X.w) X.A (call (.builtin "sorted") [.ref p]) (EP X pins σ Q) X.xe s:=by
 refine Calls.call_function_entry kind_sorted plain_sorted entry_sorted (args_sorted1 _) ?_
 unfold Builtin.«sorted»
 refine wpAny_bind (m:=checkCount "sorted" 1 1 _) (wpAny_pure (wpAny_bind (collect_list pl.isList (hsz:=hzl) (wpAny_bind (wpAny_newList (hsz:=hzl) ?_)))))
 generalize hV:ts.map Value.ref=vs at tx hzl pl ⊢
 have hs:((s.heap.push (seqObj "list" #[] 0)).update s.heap.objs.size (Obj.mapSeq (· ++ vs.toArray))).objs.size=s.heap.objs.size+1:=by rw [Heap.size_update,size_push']
 have hL:(((s.heap.push (seqObj "list" #[] 0)).update s.heap.objs.size (Obj.mapSeq (· ++ vs.toArray))).push (seqObj "list" vs.toArray 0)).get? (s.heap.objs.size+1)=some (seqObj "list" vs.toArray 0):=by
  rw [<-hs];exact Heap.get?_push_size _ rfl
 have kp:∀b o,s.heap.get? b=some o->(((s.heap.push (seqObj "list" #[] 0)).update s.heap.objs.size (Obj.mapSeq (· ++ vs.toArray))).push (seqObj "list" vs.toArray 0)).get? b=some o:=fun b o hb=>by
  have lt:=Heap.lt_size hb
  rw [Heap.get?_push_ne _ _ _ (by rw [hs];exact Nat.ne_of_lt (Nat.lt_succ_of_lt lt)),Heap.get?_update_other _ _ (Nat.ne_of_gt lt)]
  exact Heap.get?_push_of_some _ hb
 show wpAny _ _ _ _ _ { s with heap:=((s.heap.push (seqObj "list" #[] 0)).update s.heap.objs.size (Obj.mapSeq (· ++ vs.toArray))).push (seqObj "list" vs.toArray 0) }
 rw [hs]
 have fin:∀out:List Value,out.Perm vs->out.Pairwise (fun x y=>leK (f (Zbm x)) (f (Zbm y)))->∃y H',Inv X pins σ H' { s with heap:=sortedAll s.heap vs out.toArray }/\Yk y (.ref (s.heap.objs.size+1))/\Q y H':=fun out hp2 hw=>by
  subst hV
  have eo:out=(out.map Zbm).map Value.ref:=Zjq fun v hv=>hp2.mem_iff.mp hv
  have hperm:(out.map Zbm).Perm ts:=by
   have:=hp2.map Zbm
   rw [List.map_map,show (Zbm ∘ Value.ref)=id from rfl,List.map_id] at this
   exact this
  have hw2:(out.map Zbm).Pairwise fun a b=>leK (f a) (f b):=List.pairwise_map.mpr hw
  clear hw
  generalize hA:out.map Zbm=as' at eo hperm hw2
  subst eo
  obtain ⟨e,he⟩:=sortedAll_at s.heap (ts.map Value.ref) (as'.map Value.ref).toArray
  have hl:=hperm.length_eq
  rw [List.length_map] at hzl
  exact ⟨.ref (s.heap.objs.size+1),_,I.laid (a:=s.heap.objs.size+1) (o:=.lst (as'.map V.ref)) (t':=s.toks) (fun b o h=>sortedAll_old h) (Nat.le_succ _) (show Yn X.prog X.w _ _ _ (.lst _) from ⟨by rw [List.length_map];omega,as'.map Value.ref,e,Zj8 _,he⟩),rfl,(q as' hperm hw2).at _ (I.hok.fresh (Nat.le_succ _))⟩
 unfold sortedAll at fin
 generalize hG:((s.heap.push (seqObj "list" #[] 0)).update s.heap.objs.size (Obj.mapSeq (· ++ vs.toArray))).push (seqObj "list" vs.toArray 0)=hp at hL kp fin ⊢
 have so:∀(A:Around) (E:Value->Shared->Prop) (P:Fin->Shared->Prop),A.units<cLine->(∀out:List Value,out.Perm vs->out.Pairwise (fun x y=>leK (f (Zbm x)) (f (Zbm y)))->P (.done (.ret .none)) { s with heap:=sortedHeap hp (s.heap.objs.size+1) vs out.toArray })->wpAny (model X.prog X.w) A (Builtin.«list.sort» ⟨[.ref (s.heap.objs.size+1)],[]⟩) P E { s with heap:=hp }:=fun A E P hA h =>
  have mono:∀h2:Heap,(∀b ob,b≠s.heap.objs.size+1->hp.get? b=some ob->h2.get? b=some ob)->∀v∈vs,RtD X.prog X.w h2 sig v (f (Zbm v)):=fun h2 k v hv=>(tx v hv).mono fun b ob c hb=>k b ob (fun z=>by
   have:=Heap.lt_size hb
   rw [z] at this
   exact absurd this (Nat.not_lt.mpr (Nat.le_succ _))) (kp b ob hb)
  Zs2 (s:={ s with heap:=hp }) (kd:=tuples' true) (G:=fun x y=>leK (f (Zbm x)) (f (Zbm y))) hL hzl (fun l2 h2 k=>⟨fun Q q=>Zsq (s:={ s with heap:=h2 }) (fun v hv=>(mono h2 k v hv).rt) l2 q,Zu1 (s:={ s with heap:=h2 }) (f:=fun v=>f (Zbm v)) hA (mono h2 k)⟩) h
 exact wpAny_bind (wpAny_holding (wpAny_call_entry slot_list_sort ⟨_,hL,rfl⟩ entry_list_sort (so _ _ _ (by simp only [Wc];omega) fun out hp2 hw=>⟨_,rfl,wpAny_pure ⟨_,rfl,fin out hp2 hw⟩⟩) (args_list_sort _)))
def Zod(K:Frag):List V->Hp->VK->Prop:=fun xs H Q=>∃(p:Addr) (ts:List Addr) (sig:Str) (f:Addr->Ks),xs=[.ref p]/\SqL K H p (ts.map V.ref)/\(∀t∈ts,∃us:List Addr,H t=some (.tup (.str sig ::us.map V.ref))/\Paired (fun u l=>H u=some (.tup (l.map V.str))) us (f t))/\∀ts':List Addr,ts'.Perm ts->ts'.Pairwise (fun a b=>leK (f a) (f b))->New H (.lst (ts'.map V.ref)) Q
theorem Zr1{prog:Program}{w:World}{H:Hp}{h:Heap}(ok:HOk prog w H h):∀{us:List Addr} {ks:Ks},Paired (fun u l=>H u=some (.tup (l.map V.str))) us ks->Zlu prog w h (us.map Value.ref) ks
 | _,_,.nil=>.nil
 | u ::_,l ::_,.cons e r=>.cons (by
  obtain ⟨_,ws,rw',o3,g1,g2,m3,g3⟩:=(show Yn prog w H h u (.tup (l.map V.str)) from ok _ _ e)
  exact ⟨u,rfl,o3,ws.toArray,m3,g1,g2,g3,by simpa using Zml (Zp5 rw')⟩) (Zr1 ok r)
theorem Zhs{X:Cx}(hu:X.A.units+64<cLine):W3 X (.builtin "sorted") (Zod X.K):=by
 intro pins s σ H xs us Q I r h
 obtain ⟨p,ts,sig,f,rfl,hp,hf,q⟩:=h
 obtain ⟨u,rfl,rx⟩:=Zdb r
 cases rx
 obtain ⟨its,rv,pl,hz⟩:=I.list hp
 have hits:=Zet rv
 subst hits
 have hzl:(ts.map Value.ref).length<=sizeLine:=by rw [List.length_map] at hz ⊢;exact hz
 have tx:∀v∈ts.map Value.ref,RtD X.prog X.w s.heap sig v (f (Zbm v)):=fun v hv=>by
  obtain ⟨t,ht,rfl⟩:=List.mem_map.mp hv
  obtain ⟨us,h1,h2⟩:=hf t ht
  obtain ⟨_,its,rl,o2,f1,f2,m,f3⟩:=(show Yn X.prog X.w H s.heap t (.tup (.str sig ::us.map V.ref)) from I.hok _ _ h1)
  cases rl with
  | cons z zs =>
   obtain ⟨tk,rfl⟩:=z
   have hits:=Zet zs
   subst hits
   refine ⟨t,o2,tk,_,m,rfl,f1,f2,f3,?_⟩
   exact Zr1 I.hok h2
 exact Znp hu I pl hzl tx q
end L2
end
section
namespace YM
open PySem L2 NM
def Zd4(c k:Int):Int:=((c+7919 * k) * 48271%2147483647) * ((c+7919 * k) * 48271%2147483647+2 * k+1)%2147483629
theorem Zst(c k:Int):0<=Zd4 c k:=Int.emod_nonneg _ (by decide)
theorem Zrv(c k:Int):Zd4 c k<2147483629:=Int.emod_lt_of_pos _ (by decide)
def Zoy(ns:List Int)(k:Nat):Int:=match ns[k]? with
 | some c=>Zd4 c k
 | none=>0
abbrev Zc:=Str×Str
def Ya(k:Str):List Str:=if k = "points" then ["stem", "left", "right"] else if k = "cross" then ["a", "b", "c", "d"] else if k = "plain" then ["a", "b"] else ["a"]
def Zcw(i:Int):Nat:=Zfb.getD i.toNat 0
def Zdy(k:Nat):Str:=toString (k:Int)
def Ym(kind:Str)(c:Int)(k:Nat):Str:=if c%3=0 then ⟨#[kind.cps.toList.getD 0 0]⟩++Zdy k else (⟨#[Zcw (c / 3%26)]⟩++⟨#[Zcw (c / 78%26)]⟩)++Zfp "0" (c / 2028%3).toNat++Zdy k
theorem Zer:∀k,k<100->(Zdy k).length<=2:=by trivial
theorem Zlv{k:Nat}(h:k<100):(k:Int).natAbs.log2<1920:=by
 rw [Int.natAbs_natCast]
 refine Nat.lt_of_le_of_lt (Nat.log2_le_self k) (by omega)
def Zd3(a c:Nat):Nat:=if 48<=c/\c<=57 then a * 10+(c-48) else 0
def Zgm(s:Str):Nat:=s.cps.toList.foldl Zd3 0
theorem Zk3:∀k,k<100->Zgm (Zdy k)=k:=by trivial
theorem Zez:∀k,k<100->0<(Zdy k).length:=by trivial
theorem Zss:∀m,m<3->(Zfp "0" m).cps.toList.foldl Zd3 0=0:=by trivial
theorem Ztr:∀m,m<3->(Zfp "0" m).length=m:=by trivial
theorem Zvh:∀i,i<26->97<=Zfb.getD i 0/\Zfb.getD i 0<=122:=by trivial
theorem Zj3{i:Int}(h0:0<=i)(h1:i<26):97<=Zcw i/\Zcw i<=122:=Zvh i.toNat (by omega)
theorem Zbi(x y:Str):(x++y).cps.toList=x.cps.toList++y.cps.toList:=PySem.W.KT.app_list x y
theorem Zce{kind:Str}{c:Int}{k:Nat}(hk:57<kind.cps.toList.getD 0 0)(h:k<100):Zgm (Ym kind c k)=k:=by
 have hbig:∀a c,57<c->Zd3 a c=0:=fun a c h=>by unfold Zd3;rw [if_neg (by omega)]
 unfold Ym
 split
 ·unfold Zgm
  rw [Zbi,List.foldl_append]
  show List.foldl Zd3 (Zd3 0 (kind.cps.toList.getD 0 0)) _=k
  rw [hbig _ _ hk]
  exact Zk3 k h
 ·have a0:=Int.emod_nonneg (c / 3) (show (26:Int)≠0 by decide)
  have a1:=Int.emod_lt_of_pos (c / 3) (show (0:Int)<26 by decide)
  have b0:=Int.emod_nonneg (c / 78) (show (26:Int)≠0 by decide)
  have b1:=Int.emod_lt_of_pos (c / 78) (show (0:Int)<26 by decide)
  have z0:=Int.emod_nonneg (c / 2028) (show (3:Int)≠0 by decide)
  have z1:=Int.emod_lt_of_pos (c / 2028) (show (0:Int)<3 by decide)
  unfold Zgm
  rw [Zbi,Zbi,Zbi,List.foldl_append,List.foldl_append,List.foldl_append]
  show List.foldl Zd3 (List.foldl Zd3 (Zd3 (Zd3 0 (Zcw (c / 3%26))) (Zcw (c / 78%26))) _) _=k
  rw [hbig _ (Zcw (c / 78%26)) (by have:=Zj3 b0 b1;omega),Zss _ (by omega)]
  exact Zk3 k h
theorem Zb5{kind:Str}{c:Int}{k:Nat}(h:k<100):2<=(Ym kind c k).length:=by
 have:=Zez k h
 unfold Ym
 split
 ·rw [PySem.Str.length_append]
  show 2<=1+_
  omega
 ·rw [PySem.Str.length_append,PySem.Str.length_append,PySem.Str.length_append]
  show 2<=1+1+_+_
  omega
theorem Zp9{kind:Str}{c:Int}{k:Nat}(h:k<100):(Ym kind c k).length<=6:=by
 have:=Zer k h
 unfold Ym
 split
 ·rw [PySem.Str.length_append]
  show 1+_<=6
  omega
 ·have z0:=Int.emod_nonneg (c / 2028) (show (3:Int)≠0 by decide)
  have z1:=Int.emod_lt_of_pos (c / 2028) (show (0:Int)<3 by decide)
  rw [PySem.Str.length_append,PySem.Str.length_append,PySem.Str.length_append,Ztr _ (by omega)]
  show 1+1+_+_<=6
  omega
def Z8(ps:List Zc):List Zc:=ps.flatMap fun p=>(Ya p.1).map fun e=>(p.2,e)
def Yt(js:List (Zc×Zc)):List Zc:=js.flatMap fun j=>[j.1,j.2]
theorem Zej(a b:List Zc):Z8 (a++b)=Z8 a++Z8 b:=List.flatMap_append ..
theorem Zb4(a b:List (Zc×Zc)):Yt (a++b)=Yt a++Yt b:=List.flatMap_append ..
def X4:List Str:=["plain", "points", "cross", "gate", "stop"]
structure Net(ps:List Zc)(js:List (Zc×Zc))(opn:List Zc):Prop where
 perm:(Yt js++opn).Perm (Z8 ps)
 nd:(ps.map Prod.snd).Nodup
 apart:∀j∈js,j.1.1≠j.2.1
 kind:∀p∈ps,p.1∈X4
inductive Zay(n1 n2 n3 n4:Str):List Zc->List (Zc×Zc)->Zc->Zc->Prop
 | plain (a b:Str) (h:(a,b)∈[(("a" :Str),("b" :Str)),("b", "a")]):Zay n1 n2 n3 n4 [("plain",n1)] [] (n1,a) (n1,b)
 | loop (a b:Str) (h:(a,b)∈[(("left" :Str),("right" :Str)),("right", "left")]):Zay n1 n2 n3 n4 [("points",n1),("plain",n2),("plain",n3),("points",n4)] [((n1, "left"),(n2, "a")),((n1, "right"),(n3, "a")),((n2, "b"),(n4,a)),((n4,b),(n3, "b"))] (n1, "stem") (n4, "stem")
 | siding (x a b k:Str) (h:[x,a,b].Perm ["stem", "left", "right"]) (hk:k∈[("stop" :Str), "gate"]):Zay n1 n2 n3 n4 [("points",n1),("plain",n2),(k,n3)] [((n1,x),(n2, "b")),((n2, "a"),(n3, "a"))] (n1,a) (n1,b)
 | cross (k:Str) (hk:k∈[("gate" :Str), "stop"]):Zay n1 n2 n3 n4 [("cross",n1),("gate",n2),(k,n3)] [((n1, "c"),(n2, "a")),((n3, "a"),(n1, "d"))] (n1, "a") (n1, "b")
theorem Zg2{α:Type}{d:α}{l m:List α}(is:List Nat)(h:is.Perm (List.range m.length))(e:l=is.map fun i=>m.getD i d):l.Perm m:=by
 have h2:((List.range m.length).map fun i=>m.getD i d)=m:=by
  apply List.ext_getElem
  ·simp
  ·intro i h1 h3
   simp [List.getD_eq_getElem?_getD,h3]
 rw [e]
 exact (h.map _).trans (by rw [h2])
theorem Zay.sub{n1 n2 n3 n4:Str}{ps:List Zc}{js:List (Zc×Zc)}{a b:Zc}(h:Zay n1 n2 n3 n4 ps js a b):(ps.map Prod.snd).Sublist [n1,n2,n3,n4]:=by
 cases h with
 | plain=>exact .cons_cons _ (List.nil_sublist _)
 | loop=>exact List.Sublist.refl _
 | siding=>exact .cons_cons _ (.cons_cons _ (.cons_cons _ (List.nil_sublist _)))
 | cross=>exact .cons_cons _ (.cons_cons _ (.cons_cons _ (List.nil_sublist _)))
theorem Zdt{k:Str} (hk:k = "gate" \/k = "stop"):Ya k=[("a" :Str)]:=by rcases hk with rfl|rfl <;>decide +kernel
theorem Zgd:Ya "points" =[("stem" :Str), "left", "right"]:=by trivial
theorem Zc2:Ya "plain" =[("a" :Str), "b"]:=by trivial
theorem Zn9:Ya "cross" =[("a" :Str), "b", "c", "d"]:=by trivial
theorem Zay.perm{n1 n2 n3 n4:Str}{ps:List Zc}{js:List (Zc×Zc)}{a b:Zc}(h:Zay n1 n2 n3 n4 ps js a b):(Yt js++[a,b]).Perm (Z8 ps):=by
 cases h with
 | plain a b h =>
  simp only [List.mem_cons,List.mem_nil_iff,or_false,Prod.mk.injEq] at h
  rcases h with ⟨rfl,rfl⟩|⟨rfl,rfl⟩
  ·simp [Yt,Z8,Zc2]
  ·simp only [Yt,Z8,Zc2,List.flatMap_nil,List.flatMap_cons,List.map_cons,List.map_nil,List.nil_append,List.append_nil]
   exact List.Perm.swap _ _ _
 | loop a b h =>
  have he:Z8 [("points",n1),("plain",n2),("plain",n3),("points",n4)]=([(n1, "stem"),(n1, "left"),(n1, "right"),(n2, "a"),(n2, "b"),(n3, "a"),(n3, "b"),(n4, "stem"),(n4, "left"),(n4, "right")]:List Zc):=by simp [Z8,Zgd,Zc2]
  rw [he]
  simp only [List.mem_cons,List.mem_nil_iff,or_false,Prod.mk.injEq] at h
  rcases h with ⟨rfl,rfl⟩|⟨rfl,rfl⟩
  ·exact Zg2 (d:=(n1,n1)) [1,3,2,5,4,8,9,6,0,7] (show List.Perm _ (List.range 10) by decide) rfl
  ·exact Zg2 (d:=(n1,n1)) [1,3,2,5,4,9,8,6,0,7] (show List.Perm _ (List.range 10) by decide) rfl
 | siding x a b k h hk =>
  have hk':k = "gate" \/k = "stop" :=by
   simp only [List.mem_cons,List.mem_nil_iff,or_false] at hk
   exact hk.symm
  have he:Z8 [("points",n1),("plain",n2),(k,n3)]=([("stem" :Str), "left", "right"].map fun e=>(n1,e))++([(n2, "a"),(n2, "b"),(n3, "a")]:List Zc):=by simp [Z8,Zgd,Zc2,Zdt hk']
  rw [he]
  refine List.Perm.trans ?_ (List.Perm.append_right _ (h.map fun e=>(n1,e)))
  exact Zg2 (d:=(n1,n1)) [0,4,3,5,1,2] (show List.Perm _ (List.range 6) by decide) rfl
 | cross k hk =>
  have hk':k = "gate" \/k = "stop" :=by
   simp only [List.mem_cons,List.mem_nil_iff,or_false] at hk
   exact hk
  have he:Z8 [("cross",n1),("gate",n2),(k,n3)]=([(n1, "a"),(n1, "b"),(n1, "c"),(n1, "d"),(n2, "a"),(n3, "a")]:List Zc):=by simp [Z8,Zn9,Zdt hk',Zdt (k := "gate") (.inl rfl)]
  rw [he]
  exact Zg2 (d:=(n1,n1)) [2,4,5,3,0,1] (show List.Perm _ (List.range 6) by decide) rfl
theorem Zay.kind{n1 n2 n3 n4:Str}{ps:List Zc}{js:List (Zc×Zc)}{a b:Zc}(h:Zay n1 n2 n3 n4 ps js a b):∀p∈ps,p.1∈X4:=by
 cases h with
 | plain=>intro p hp;simp at hp;subst hp;simp [X4]
 | loop=>intro p hp;simp at hp;rcases hp with rfl|rfl|rfl|rfl <;>simp [X4]
 | siding x a b k h hk=>intro p hp;simp at hp hk;rcases hp with rfl|rfl|rfl <;>rcases hk with rfl|rfl <;>simp [X4]
 | cross k hk=>intro p hp;simp at hp hk;rcases hp with rfl|rfl|rfl <;>rcases hk with rfl|rfl <;>simp [X4]
theorem Zay.apart{n1 n2 n3 n4:Str}{ps:List Zc}{js:List (Zc×Zc)}{a b:Zc}(h:Zay n1 n2 n3 n4 ps js a b)(nd:[n1,n2,n3,n4].Nodup):∀j∈js,j.1.1≠j.2.1:=by
 simp only [List.nodup_cons,List.mem_cons,List.mem_nil_iff,or_false,not_or,List.not_mem_nil,not_false_eq_true,List.nodup_nil,and_true] at nd
 obtain ⟨⟨a1,a2,a3⟩,⟨b1,b2⟩,c1⟩:=nd
 cases h with
 | plain=>intro j hj;cases hj
 | loop=>intro j hj;simp at hj;rcases hj with rfl|rfl|rfl|rfl <;>first|assumption|exact Ne.symm (by assumption)
 | siding x a b k h hk=>intro j hj;simp at hj;rcases hj with rfl|rfl <;>first|assumption|exact Ne.symm (by assumption)
 | cross k hk=>intro j hj;simp at hj;rcases hj with rfl|rfl <;>first|assumption|exact Ne.symm (by assumption)
theorem Zay.opens{n1 n2 n3 n4:Str}{ps:List Zc}{js:List (Zc×Zc)}{a b:Zc}(h:Zay n1 n2 n3 n4 ps js a b):a.1∈ps.map Prod.snd/\b.1∈ps.map Prod.snd:=by
 cases h <;>simp
theorem Zdm{ps:List Zc}{e:Zc}(h:e∈Z8 ps):e.1∈ps.map Prod.snd:=by
 obtain ⟨p,hp,he⟩:=List.mem_flatMap.mp h
 obtain ⟨x,_,rfl⟩:=List.mem_map.mp he
 exact List.mem_map.mpr ⟨p,hp,rfl⟩
theorem Net.more{ps:List Zc}{js:List (Zc×Zc)}{e:Zc}{n1 n2 n3 n4:Str}{qs:List Zc}{ks:List (Zc×Zc)}{a b:Zc}(h:Net ps js [e])(B:Zay n1 n2 n3 n4 qs ks a b)(nd:[n1,n2,n3,n4].Nodup)(new:∀n∈[n1,n2,n3,n4],n∉ps.map Prod.snd):Net (ps++qs) (js++ks++[(e,a)]) [b]:=by
 have he:e.1∈ps.map Prod.snd:=Zdm (h.perm.subset (by simp))
 have ha:a.1∉ps.map Prod.snd:=new _ (B.sub.subset B.opens.1)
 refine ⟨?_,?_,?_,?_⟩
 ·rw [Zb4,Zb4,Zej]
  refine List.Perm.trans ?_ (h.perm.append B.perm)
  show (Yt js++Yt ks++[e,a]++[b]).Perm ((Yt js++[e])++(Yt ks++[a,b]))
  rw [List.append_assoc,List.append_assoc,List.append_assoc]
  refine List.Perm.append_left _ ?_
  show (Yt ks++([e]++[a,b])).Perm ([e]++(Yt ks++[a,b]))
  rw [<-List.append_assoc,<-List.append_assoc]
  exact List.Perm.append_right _ List.perm_append_comm
 ·rw [List.map_append,List.nodup_append]
  exact ⟨h.nd,List.Pairwise.sublist B.sub nd,fun x hx y hy z=>new y (B.sub.subset hy) (z ▸ hx)⟩
 ·intro j hj
  rw [List.mem_append,List.mem_append] at hj
  rcases hj with (z|z)|z
  ·exact h.apart j z
  ·exact B.apart nd j z
  ·simp at z
   subst z
   exact fun y=>ha (y ▸ he)
 ·intro p hp
  rcases List.mem_append.mp hp with z|z
  ·exact h.kind p z
  ·exact B.kind p z
def Zlc(s:Str)(n:Nat):Prop:=∃kd c k,(96<kd.cps.toList.getD 0 0/\kd.cps.toList.getD 0 0<123)/\k<n/\s=Ym kd c k
theorem Zay.len{n1 n2 n3 n4:Str}{ps:List Zc}{js:List (Zc×Zc)}{a b:Zc}(h:Zay n1 n2 n3 n4 ps js a b):ps.length<=4/\js.length<=4:=by
 cases h <;>simp
structure Zc4(i:Nat)(ps:List Zc)(js:List (Zc×Zc))(cur:Zc):Prop where
 net:Net ps js [cur]
 pl:ps.length<=1+4 * i
 jl:js.length<=5 * i
 nm:∀p∈ps,p=((("gate" :Str),("g" :Str)):Zc)\/Zlc p.2 (4 * i)
theorem Zc4.start:Zc4 0 [("gate", "g")] [] ("g", "a"):=by
 refine ⟨⟨?_,by simp,by simp,by simp [X4]⟩,by simp,by simp,by simp⟩
 simp [Yt,Z8,Zdt (k := "gate") (.inl rfl)]
theorem Zo9{x s:Str}(hx:x.length=1)(h:2<=s.length):s≠x:=fun z=>by rw [z] at h;omega
theorem Zc4.more{i:Nat}{ps:List Zc}{js:List (Zc×Zc)}{cur:Zc}{k1 k2 k3 k4:Str}{c1 c2 c3 c4:Int}{qs:List Zc}{ks:List (Zc×Zc)}{a b:Zc}(h:Zc4 i ps js cur)(hi:i<20)
  (g1:96<k1.cps.toList.getD 0 0/\k1.cps.toList.getD 0 0<123) (g2:96<k2.cps.toList.getD 0 0/\k2.cps.toList.getD 0 0<123) (g3:96<k3.cps.toList.getD 0 0/\k3.cps.toList.getD 0 0<123) (g4:96<k4.cps.toList.getD 0 0/\k4.cps.toList.getD 0 0<123)
  (B:Zay (Ym k1 c1 (4 * i)) (Ym k2 c2 (4 * i+1)) (Ym k3 c3 (4 * i+2)) (Ym k4 c4 (4 * i+3)) qs ks a b):Zc4 (i+1) (ps++qs) (js++ks++[(cur,a)]) b:=by
 have v1:=Zce (c:=c1) (Nat.lt_trans (by decide) g1.1) (show 4 * i<100 by omega)
 have v2:=Zce (c:=c2) (Nat.lt_trans (by decide) g2.1) (show 4 * i+1<100 by omega)
 have v3:=Zce (c:=c3) (Nat.lt_trans (by decide) g3.1) (show 4 * i+2<100 by omega)
 have v4:=Zce (c:=c4) (Nat.lt_trans (by decide) g4.1) (show 4 * i+3<100 by omega)
 have ne:∀{x y:Str} {m n:Nat},Zgm x=m->Zgm y=n->m≠n->x≠y:=fun hx hy hn z=>hn (by rw [<-hx,<-hy,z])
 have nd:[Ym k1 c1 (4 * i),Ym k2 c2 (4 * i+1),Ym k3 c3 (4 * i+2),Ym k4 c4 (4 * i+3)].Nodup:=by
  simp [ne v1 v2 (by omega),ne v1 v3 (by omega),ne v1 v4 (by omega),ne v2 v3 (by omega),ne v2 v4 (by omega),ne v3 v4 (by omega)]
 have all:∀n∈[Ym k1 c1 (4 * i),Ym k2 c2 (4 * i+1),Ym k3 c3 (4 * i+2),Ym k4 c4 (4 * i+3)],4 * i<=Zgm n/\2<=n.length/\Zlc n (4 * (i+1)):=by
  intro n hn
  simp only [List.mem_cons,List.mem_nil_iff,or_false] at hn
  rcases hn with rfl|rfl|rfl|rfl
  ·exact ⟨by omega,Zb5 (by omega),_,_,_,g1,by omega,rfl⟩
  ·exact ⟨by omega,Zb5 (by omega),_,_,_,g2,by omega,rfl⟩
  ·exact ⟨by omega,Zb5 (by omega),_,_,_,g3,by omega,rfl⟩
  ·exact ⟨by omega,Zb5 (by omega),_,_,_,g4,by omega,rfl⟩
 refine ⟨h.net.more B nd fun n hn hm=>?_,?_,?_,?_⟩
 ·obtain ⟨p,hp,rfl⟩:=List.mem_map.mp hm
  obtain ⟨a1,a2,_⟩:=all _ hn
  rcases h.nm p hp with z|⟨kd,c,k,hk,hlt,e⟩
  ·exact Zo9 (x := "g") (by trivial) a2 (by rw [z])
  ·rw [e,Zce (Nat.lt_trans (by decide) hk.1) (by omega)] at a1
   omega
 ·have:=B.len.1;have:=h.pl;rw [List.length_append];omega
 ·have:=B.len.2;have:=h.jl;rw [List.length_append,List.length_append];show _+_+1<=_;omega
 ·intro p hp
  rcases List.mem_append.mp hp with z|z
  ·rcases h.nm p z with y|⟨kd,c,k,hk,hlt,e⟩
   ·exact .inl y
   ·exact .inr ⟨kd,c,k,hk,by omega,e⟩
  ·exact .inr (all _ (B.sub.subset (List.mem_map.mpr ⟨p,z,rfl⟩))).2.2
theorem Zc4.done{i:Nat}{ps:List Zc}{js:List (Zc×Zc)}{cur:Zc}(h:Zc4 i ps js cur)(hi:i<20):Net (ps++[(("gate" :Str),("h" :Str))]) (js++[(cur,(("h" :Str),("a" :Str)))]) []:=by
 have hno:("h" :Str)∉ps.map Prod.snd:=fun z=>by
  obtain ⟨p,hp,e⟩:=List.mem_map.mp z
  rcases h.nm p hp with y|⟨kd,c,k,hk,hlt,y⟩
  ·rw [y] at e
   exact absurd e (by trivial)
  ·exact Zo9 (x := "h") (by trivial) (Zb5 (kind:=kd) (c:=c) (k:=k) (by omega)) (by rw [<-y];exact e)
 have hc:cur.1∈ps.map Prod.snd:=Zdm (h.net.perm.subset (by simp))
 refine ⟨?_,?_,?_,?_⟩
 ·rw [Zb4,Zej,List.append_nil]
  have he:Z8 [("gate", "h")]=([("h", "a")]:List Zc):=by simp [Z8,Zdt (k := "gate") (.inl rfl)]
  rw [he]
  show (Yt js++([cur]++[(("h" :Str),("a" :Str))])).Perm _
  rw [<-List.append_assoc]
  exact List.Perm.append_right _ h.net.perm
 ·rw [List.map_append,List.nodup_append]
  exact ⟨h.net.nd,by simp,fun x hx y hy z=>by simp at hy;rw [z,hy] at hx;exact hno hx⟩
 ·intro j hj
  rcases List.mem_append.mp hj with z|z
  ·exact h.net.apart j z
  ·simp at z
   subst z
   exact fun y=>hno (by have y:cur.1=("h" :Str):=y;rw [<-y];exact hc)
 ·intro p hp
  rcases List.mem_append.mp hp with z|z
  ·exact h.net.kind p z
  ·simp at z
   subst z
   simp [X4]
def W7(j:Nat):Str := "e" ++ Zdy j
def Zea(Z0:List Zc)(i:Nat)(nps:List Zc)(njs:List (Zc×Zc)):Prop:=∃ks:List Str,ks.length=i/\(∀k∈ks,k = "gate" \/k = "stop")/\nps=(List.range i).map (fun j=>(ks.getD j "gate",W7 j))/\njs=(List.range i).map (fun j=>(Z0.getD j ("", ""),(W7 j,("a" :Str))))
theorem Zea.more{Z0:List Zc}{i:Nat}{nps:List Zc}{njs:List (Zc×Zc)}{k:Str}{q:Zc}(h:Zea Z0 i nps njs) (hk:k = "gate" \/k = "stop") (hq:Z0[i]? =some q):Zea Z0 (i+1) (nps++[(k,W7 i)]) (njs++[(q,(W7 i,("a" :Str)))]):=by
 obtain ⟨ks,hl,hks,rfl,rfl⟩:=h
 refine ⟨ks++[k],by rw [List.length_append,hl];rfl,?_,?_,?_⟩
 ·intro x hx
  rcases List.mem_append.mp hx with z|z
  ·exact hks x z
  ·simp at z;rw [z];exact hk
 ·rw [List.range_succ,List.map_append]
  congr 1
  ·refine List.map_congr_left fun j hj=>?_
   have hj:=List.mem_range.mp hj
   rw [List.getD_eq_getElem?_getD,List.getD_eq_getElem?_getD,List.getElem?_append_left (by omega)]
  ·show [(k,W7 i)]=[((ks++[k]).getD i "gate",W7 i)]
   rw [List.getD_eq_getElem?_getD,List.getElem?_append_right (by omega),hl,Nat.sub_self]
   rfl
 ·rw [List.range_succ,List.map_append]
  congr 1
  show [(q,(W7 i,("a" :Str)))]=[(Z0.getD i ("", ""),(W7 i,("a" :Str)))]
  rw [List.getD_eq_getElem?_getD,hq]
  rfl
theorem Zs3(k:Str):(Ya k).Nodup:=by
 unfold Ya
 split
 ·decide +kernel
 ·split
  ·decide +kernel
  ·split <;>decide +kernel
theorem Zan:∀{ps:List Zc},(ps.map Prod.snd).Nodup->(Z8 ps).Nodup
 | [],_=>List.nodup_nil
 | p ::ps,h=>by
  rw [List.map_cons,List.nodup_cons] at h
  rw [show Z8 (p ::ps)=((Ya p.1).map fun e=>(p.2,e))++Z8 ps from List.flatMap_cons ..,List.nodup_append]
  refine ⟨?_,Zan h.2,?_⟩
  ·refine List.Pairwise.map _ (fun a b z y=>z ?_) (Zs3 p.1)
   exact (Prod.mk.inj y).2
  ·intro x hx y hy z
   obtain ⟨e,_,rfl⟩:=List.mem_map.mp hx
   rw [<-z] at hy
   exact h.1 (Zdm hy)
theorem Net.ond{ps:List Zc}{js:List (Zc×Zc)}{o:List Zc}(h:Net ps js o):o.Nodup:=by
 have:=(h.perm.nodup_iff).mpr (Zan h.nd)
 exact (List.nodup_append.mp this).2.1
theorem Net.add{ps:List Zc}{js:List (Zc×Zc)}{o:List Zc}{k n:Str}(h:Net ps js o)(hn:n∉ps.map Prod.snd)(hk:k∈X4):Net (ps++[(k,n)]) js (o++(Ya k).map fun e=>(n,e)):=by
 refine ⟨?_,?_,h.apart,?_⟩
 ·rw [Zej,<-List.append_assoc]
  have:Z8 [(k,n)]=(Ya k).map fun e=>(n,e):=by simp [Z8]
  rw [this]
  exact List.Perm.append_right _ h.perm
 ·rw [List.map_append,List.nodup_append]
  exact ⟨h.nd,by simp,fun x hx y hy z=>by simp at hy;rw [z,hy] at hx;exact hn hx⟩
 ·intro p hp
  rcases List.mem_append.mp hp with z|z
  ·exact h.kind p z
  ·simp at z
   rw [z]
   exact hk
theorem Net.join{ps:List Zc}{js:List (Zc×Zc)}{o o':List Zc}{a b:Zc}(h:Net ps js o)(hp:(a ::b ::o').Perm o)(ne:a.1≠b.1):Net ps (js++[(a,b)]) o':=by
 refine ⟨?_,h.nd,?_,h.kind⟩
 ·rw [Zb4]
  refine List.Perm.trans ?_ h.perm
  show (Yt js++[a,b]++o').Perm _
  rw [List.append_assoc]
  exact List.Perm.append_left _ hp
 ·intro j hj
  rcases List.mem_append.mp hj with z|z
  ·exact h.apart j z
  ·simp at z
   rw [z]
   exact ne
theorem Zeb{α:Type}:∀{l:List α} {i:Nat} {a:α},l[i]? =some a->(a ::l.eraseIdx i).Perm l
 | [],_,_,h=>by cases h
 | x ::l,0,a,h=>by cases h;exact List.Perm.refl _
 | x ::l,i+1,a,h=>by
  rw [List.eraseIdx_cons_succ]
  exact (List.Perm.swap x a _).trans ((Zeb (l:=l) h).cons x)
theorem Zsy{α:Type}{l m:List α}{i j:Nat}{a b:α}(ha:l[i]? =some a)(hb:m[j]? =some b):(a ::b ::(l.eraseIdx i++m.eraseIdx j)).Perm (l++m):=by
 refine List.Perm.trans ?_ ((Zeb ha).append (Zeb hb))
 show List.Perm _ (a ::(l.eraseIdx i++(b ::m.eraseIdx j)))
 exact (List.perm_middle.symm).cons a
theorem Zre{l:List Zc}{a:Zc}(nd:l.Nodup)(ha:a∈l):(a ::l.filter fun e=>decide (e≠a)).Perm l:=by
 induction l with
 | nil=>cases ha
 | cons x l ih =>
  rw [List.nodup_cons] at nd
  by_cases z:x=a
  ·subst z
   rw [List.filter_cons,if_neg (by simp)]
   have:(l.filter fun e=>decide (e≠x))=l:=List.filter_eq_self.mpr fun e he=>decide_eq_true fun y=>nd.1 (y ▸ he)
   rw [this]
  ·rw [List.filter_cons,if_pos (decide_eq_true z)]
   have ha':a∈l:=by
    rcases List.mem_cons.mp ha with y|y
    ·exact absurd y.symm z
    ·exact y
   exact (List.Perm.swap x a _).trans ((ih nd.2 ha').cons x)
theorem Zro{r:Zc}{l:List Zc}{a:Zc}(nd:(r ::l).Nodup)(ha:a∈l):(a ::r ::l.filter fun e=>decide (e≠a)).Perm (r ::l) :=
 (List.Perm.swap r a _).trans ((Zre (List.nodup_cons.mp nd).2 ha).cons r)
theorem Zp6{j:Nat}(h:j<100):Zgm (W7 j)=j:=by
 unfold W7 Zgm
 rw [Zbi,List.foldl_append]
 exact Zk3 j h
theorem Zrd:∀k,k<100->(Zdy k).cps.toList.getD 0 0<=57:=by trivial
theorem Zrw{kd:Str}{c:Int}{k j:Nat}(hj:j<100)(hk:kd.cps.toList.getD 0 0≠101):Ym kd c k≠W7 j:=by
 intro z
 have z':=congrArg (fun s:Str=>s.cps.toList) z
 have he:(W7 j).cps.toList=101 ::(Zdy j).cps.toList:=by unfold W7;rw [Zbi];rfl
 simp only [he] at z'
 unfold Ym at z'
 split at z'
 ·rw [Zbi] at z'
  exact hk (List.cons.inj z').1
 ·rw [Zbi,Zbi,Zbi] at z'
  have b0:=Int.emod_nonneg (c / 78) (show (26:Int)≠0 by decide)
  have b1:=Int.emod_lt_of_pos (c / 78) (show (0:Int)<26 by decide)
  have hb:=Zj3 b0 b1
  have z2:=(List.cons.inj z').2
  have hf:=Zrd j hj
  rw [<-z2] at hf
  have:Zcw (c / 78%26)<=57:=hf
  omega
theorem Net.closed{ps:List Zc}{js:List (Zc×Zc)}{Z0 nps:List Zc}{njs:List (Zc×Zc)}(h:Net ps js Z0)(hc:Zea Z0 Z0.length nps njs)(hl:Z0.length<=90)(hn:∀j,j<90->W7 j∉ps.map Prod.snd):Net (ps++nps) (js++njs) []:=by
 obtain ⟨ks,hkl,hks,rfl,rfl⟩:=hc
 have hno:∀n,n<=Z0.length->Net (ps++(List.range n).map fun j=>(ks.getD j "gate",W7 j)) (js++(List.range n).map fun j=>(Z0.getD j ("", ""),(W7 j,("a" :Str)))) (Z0.drop n):=by
  intro n
  induction n with
  | zero=>intro _;simpa using h
  | succ n ih =>
   intro hn'
   have h0:=ih (by omega)
   have hlt:n<Z0.length:=by omega
   have hkd:ks.getD n "gate" = "gate" \/ks.getD n "gate" = "stop" :=hks _ (by
    rw [List.getD_eq_getElem?_getD,List.getElem?_eq_getElem (by omega)]
    exact List.getElem_mem _)
   have hnew:W7 n∉(ps++(List.range n).map fun j=>(ks.getD j "gate",W7 j)).map Prod.snd:=by
    rw [List.map_append,List.mem_append]
    rintro (z|z)
    ·exact hn n (by omega) z
    ·rw [List.map_map] at z
     obtain ⟨j,hj,e⟩:=List.mem_map.mp z
     have hj:=List.mem_range.mp hj
     have:=congrArg Zgm e
     rw [Zp6 (by omega)] at this
     have h2:Zgm (W7 j)=n:=this
     rw [Zp6 (by omega)] at h2
     omega
   have h1:=h0.add hnew (k:=ks.getD n "gate") (by rcases hkd with z|z <;>rw [z] <;>simp [X4])
   rw [Zdt hkd] at h1
   have hd:Z0.drop n=Z0.getD n ("", "") ::Z0.drop (n+1):=by
    rw [List.drop_eq_getElem_cons hlt,List.getD_eq_getElem?_getD,List.getElem?_eq_getElem hlt]
    rfl
   have hin:(Z0.getD n ("", "")).1≠W7 n:=by
    have:Z0.getD n ("", "")∈Z0.drop n:=by rw [hd];simp
    have h3:=Zdm (h0.perm.subset (List.mem_append_right _ this))
    exact fun z=>hnew (z ▸ h3)
   have h2:=h1.join (a:=Z0.getD n ("", "")) (b:=(W7 n, "a")) (o':=Z0.drop (n+1)) (by
    rw [hd]
    show List.Perm _ (Z0.getD n ("", "") ::(Z0.drop (n+1)++[(W7 n,("a" :Str))]))
    exact (List.perm_append_singleton _ _).symm.cons _) hin
   rw [List.range_succ,List.map_append,List.map_append,<-List.append_assoc,<-List.append_assoc]
   exact h2
 have:=hno Z0.length (Nat.le_refl _)
 rwa [List.drop_length] at this
end YM
end
section
namespace YM
open PySem L2 NM
theorem Zgy:∀k∈X4,57<k.cps.toList.getD 0 0/\k.cps.toList.getD 0 0≠101/\0<k.length/\k.length<=6/\(Ya k).length<=4/\0<(Ya k).length:=by trivial
def nmD(s:Str)(n:Nat):Prop:=∃kd∈X4,∃(c:Int) (k:Nat),k<n/\s=Ym kd c k
structure Xb(i m:Nat)(ps:List Zc)(js:List (Zc×Zc))(Z0:List Zc):Prop where
 net:Net ps js Z0
 sum:ps.length+Z0.length<=39
 jl:js.length<=m
 nm:∀p∈ps,nmD p.2 i
theorem Xb.start:Xb 0 0 [] [] []:=⟨⟨List.Perm.refl _,List.nodup_nil,by simp,by simp⟩,by simp,by simp,by simp⟩
theorem Xb.mono{i m i' m':Nat}{ps:List Zc}{js:List (Zc×Zc)}{Z0:List Zc}(h:Xb i m ps js Z0)(hi:i<=i')(hm:m<=m'):Xb i' m' ps js Z0 :=
 ⟨h.net,h.sum,Nat.le_trans h.jl hm,fun p hp=>let ⟨kd,h1,c,k,h2,h3⟩:=h.nm p hp;⟨kd,h1,c,k,by omega,h3⟩⟩
theorem Xb.new{i m:Nat}{ps:List Zc}{js:List (Zc×Zc)}{Z0:List Zc}{kd:Str}{c:Int}(h:Xb i m ps js Z0)(hi:i<100)(hk:kd∈X4):Ym kd c i∉ps.map Prod.snd:=fun z=>by
 obtain ⟨p,hp,e⟩:=List.mem_map.mp z
 obtain ⟨kd',h1,c',k,h2,h3⟩:=h.nm p hp
 have:=congrArg Zgm (e.symm.trans h3)
 rw [Zce (Zgy _ hk).1 hi,Zce (Zgy _ h1).1 (by omega)] at this
 omega
theorem Xb.add{i m:Nat}{ps:List Zc}{js:List (Zc×Zc)}{Z0:List Zc}{kd:Str}{c:Int}(h:Xb i m ps js Z0)(hi:i<100)(hk:kd∈X4)(hs:ps.length+Z0.length+(Ya kd).length<=38):Xb (i+1) m (ps++[(kd,Ym kd c i)]) js (Z0++(Ya kd).map fun e=>(Ym kd c i,e)):=by
 refine ⟨h.net.add (h.new hi hk) hk,?_,h.jl,?_⟩
 ·rw [List.length_append,List.length_append,List.length_map];show _+1+_<=39;omega
 ·intro p hp
  rcases List.mem_append.mp hp with z|z
  ·exact (h.mono (Nat.le_succ i) (Nat.le_refl m)).nm p z
  ·simp at z
   rw [z]
   exact ⟨kd,hk,c,i,by omega,rfl⟩
theorem Xb.join{i m:Nat}{ps:List Zc}{js:List (Zc×Zc)}{o o':List Zc}{a b:Zc}(h:Xb i m ps js o)(hp:(a ::b ::o').Perm o)(ne:a.1≠b.1):Xb i (m+1) ps (js++[(a,b)]) o':=by
 refine ⟨h.net.join hp ne,?_,?_,h.nm⟩
 ·have:=h.sum
  have hl:=hp.length_eq
  simp at hl
  omega
 ·rw [List.length_append];exact Nat.succ_le_succ h.jl
theorem Xb.done{i m:Nat}{ps:List Zc}{js:List (Zc×Zc)}{Z0 nps:List Zc}{njs:List (Zc×Zc)}(h:Xb i m ps js Z0)(hi:i<=100)(hc:Zea Z0 Z0.length nps njs):Net (ps++nps) (js++njs) []:=by
 have hs:=h.sum
 refine h.net.closed hc (by omega) fun j hj z=>?_
 obtain ⟨p,hp,e⟩:=List.mem_map.mp z
 obtain ⟨kd',h1,c',k,h2,h3⟩:=h.nm p hp
 exact Zrw (by omega) (Zgy _ h1).2.1 (h3.symm.trans e)
theorem Ze3{α β:Type}{R:α->β->Prop}:∀{l:List α} {m:List β},Paired R l m->∀i,Paired R (l.eraseIdx i) (m.eraseIdx i)
 | _,_,.nil,_=>.nil
 | _,_,.cons r t,0=>t
 | _,_,.cons r t,i+1=>.cons r (Ze3 t i)
theorem Zjy{α β:Type}(f:α->β):∀(l:List α) (i:Nat),(l.map f).eraseIdx i=(l.eraseIdx i).map f
 | [],_=>rfl
 | _ ::_,0=>rfl
 | x ::l,i+1=>by rw [List.map_cons,List.eraseIdx_cons_succ,List.eraseIdx_cons_succ,List.map_cons,Zjy f l i]
def Zab(k:Nat):Str := "p" ++ Zdy k
def Zbw(n:Nat):List Zc:=[(("gate" :Str),("g" :Str))]++((List.range n).map fun k=>(("plain" :Str),Zab k))++[(("gate" :Str),("h" :Str))]
def Zo4(n:Nat):List (Zc×Zc):=[((("g" :Str),("a" :Str)),(Zab 0,("a" :Str))),((("h" :Str),("a" :Str)),(Zab (n-1),("b" :Str)))]++(List.range (n-1)).map fun k=>((Zab k,("b" :Str)),(Zab (k+1),("a" :Str)))
theorem Zrg:∀n∈[9,10,11,12,13,14],(Yt (Zo4 n)++[]).Perm (Z8 (Zbw n)):=by trivial
theorem Zuz:∀n∈[9,10,11,12,13,14],((Zbw n).map Prod.snd).Nodup:=by trivial
theorem Znl:∀n∈[9,10,11,12,13,14],∀j∈Zo4 n,j.1.1≠j.2.1:=by trivial
theorem Zqr:∀n∈[9,10,11,12,13,14],∀p∈Zbw n,p.1∈X4:=by trivial
theorem Zsc{n:Nat}(h:n∈[9,10,11,12,13,14]):Net (Zbw n) (Zo4 n) []:=⟨Zrg n h,Zuz n h,Znl n h,Zqr n h⟩
end YM
end
section
namespace K23
open PySem L2 NM
def top(i:Nat):Stmt:=PySem.Challenge.pw_yardkeep_k23_whole_all_routes.main.body.getD i (.Pass ⟨0,0,0,0⟩)
abbrev Zb6:Stmt:=top 5
theorem Zoh:Zo ["thing"] ["thing"] (Zd Zb6):=⟨rfl,rfl,rfl,by trivial,rfl,by trivial,by trivial⟩
abbrev Xi:Stmt:=Y3 (top 6) 0
theorem Zf2:Zo ["self", "name"] ["self", "name"] (Zd Xi):=⟨rfl,rfl,rfl,by trivial,rfl,by trivial,by trivial⟩
abbrev Zao:Stmt:=Y3 (top 6) 1
theorem Zln:Zo ["self"] ["self"] (Zd Zao):=⟨rfl,rfl,rfl,by trivial,rfl,by trivial,by trivial⟩
abbrev Zap:Stmt:=Y3 (top 6) 2
theorem Zly:Zo ["self"] ["self"] (Zd Zap):=⟨rfl,rfl,rfl,by trivial,rfl,by trivial,by trivial⟩
abbrev Wv:Stmt:=Y3 (top 6) 3
theorem Zi8:Zo ["self", "lie"] ["self", "lie"] (Zd Wv):=⟨rfl,rfl,rfl,by trivial,rfl,by trivial,by trivial⟩
abbrev Ww:Stmt:=Y3 (top 6) 4
theorem Zcr:Zo ["self", "end", "lie", "one", "two"] ["self", "end", "lie"] (Zd Ww):=⟨rfl,rfl,rfl,by trivial,rfl,by trivial,by trivial⟩
abbrev Wt:Stmt:=Y3 (top 6) 5
theorem Ziy:Zo ["self"] ["self"] (Zd Wt):=⟨rfl,rfl,rfl,by trivial,rfl,by trivial,by trivial⟩
abbrev Zam:Stmt:=Y3 (top 8) 0
theorem Zk4:Zo ["self"] ["self"] (Zd Zam):=⟨rfl,rfl,rfl,by trivial,rfl,by trivial,by trivial⟩
abbrev Wo:Stmt:=Y3 (top 8) 1
theorem Zjg:Zo ["self", "lie"] ["self", "lie"] (Zd Wo):=⟨rfl,rfl,rfl,by trivial,rfl,by trivial,by trivial⟩
abbrev X7:Stmt:=Y3 (top 10) 0
theorem Zhd:Zo ["self"] ["self"] (Zd X7):=⟨rfl,rfl,rfl,by trivial,rfl,by trivial,by trivial⟩
abbrev Wb:Stmt:=Y3 (top 10) 1
theorem Zio:Zo ["self"] ["self"] (Zd Wb):=⟨rfl,rfl,rfl,by trivial,rfl,by trivial,by trivial⟩
abbrev Xo:Stmt:=Y3 (top 10) 2
theorem Zgq:Zo ["self", "lie"] ["self", "lie"] (Zd Xo):=⟨rfl,rfl,rfl,by trivial,rfl,by trivial,by trivial⟩
abbrev Xt:Stmt:=Y3 (top 10) 3
theorem Zgu:Zo ["self"] ["self"] (Zd Xt):=⟨rfl,rfl,rfl,by trivial,rfl,by trivial,by trivial⟩
abbrev Ws:Stmt:=Y3 (top 11) 0
theorem Zi6:Zo ["self"] ["self"] (Zd Ws):=⟨rfl,rfl,rfl,by trivial,rfl,by trivial,by trivial⟩
abbrev X9:Stmt:=Y3 (top 11) 1
theorem Zh5:Zo ["self", "lie"] ["self", "lie"] (Zd X9):=⟨rfl,rfl,rfl,by trivial,rfl,by trivial,by trivial⟩
abbrev We:Stmt:=Y3 (top 11) 2
theorem Zil:Zo ["self"] ["self"] (Zd We):=⟨rfl,rfl,rfl,by trivial,rfl,by trivial,by trivial⟩
abbrev Wp:Stmt:=top 14
theorem W8:Zo ["tracks", "end", "name", "entry", "part", "steps"] ["tracks", "end"] (Zd Wp):=⟨rfl,rfl,rfl,by trivial,rfl,by trivial,by trivial⟩
abbrev Wl:Stmt:=top 15
theorem Ziu:Zo ["step"] ["step"] (Zd Wl):=⟨rfl,rfl,rfl,by trivial,rfl,by trivial,by trivial⟩
abbrev Wn:Stmt:=top 16
theorem Zi4:Zo ["tracks", "step"] ["tracks", "step"] (Zd Wn):=⟨rfl,rfl,rfl,by trivial,rfl,by trivial,by trivial⟩
abbrev Zbb:Stmt:=top 19
theorem Zco:Zo ["tracks", "begun", "post", "last", "passed"] ["tracks", "begun"] (Zd Zbb):=⟨rfl,rfl,rfl,by trivial,rfl,by trivial,by trivial⟩
abbrev Wg:Stmt:=top 20
theorem Wk:Zo ["tracks", "signal", "found", "begun", "ahead", "step"] ["tracks", "signal"] (Zd Wg):=⟨rfl,rfl,rfl,by trivial,rfl,by trivial,by trivial⟩
abbrev Zb2:Stmt:=top 29
theorem Zob:Zo ["thing"] ["thing"] (Zd Zb2):=⟨rfl,rfl,rfl,by trivial,rfl,by trivial,by trivial⟩
abbrev Za9:Stmt:=top 30
theorem Zmq:Zo ["end", "ends"] ["end", "ends"] (Zd Za9):=⟨rfl,rfl,rfl,by trivial,rfl,by trivial,by trivial⟩
abbrev X8:Stmt:=top 31
theorem Zhi:Zo ["name", "known"] ["name", "known"] (Zd X8):=⟨rfl,rfl,rfl,by trivial,rfl,by trivial,by trivial⟩
abbrev Xd:Stmt:=top 32
theorem Zba:Zo ["parts", "part_of", "part"] ["parts"] (Zd Xd):=⟨rfl,rfl,rfl,by trivial,rfl,by trivial,by trivial⟩
abbrev Xh:Stmt:=top 33
theorem Xp:Zo ["part_of", "part_at", "name", "part", "end"] ["part_of"] (Zd Xh):=⟨rfl,rfl,rfl,by trivial,rfl,by trivial,by trivial⟩
abbrev Wf:Stmt:=top 34
theorem Zdl:Zo ["join", "part_at", "joined", "end"] ["join", "part_at", "joined"] (Zd Wf):=⟨rfl,rfl,rfl,by trivial,rfl,by trivial,by trivial⟩
abbrev X6:Stmt:=top 35
theorem Zca:Zo ["joins", "part_at", "joined", "join"] ["joins", "part_at"] (Zd X6):=⟨rfl,rfl,rfl,by trivial,rfl,by trivial,by trivial⟩
abbrev Wa:Stmt:=top 36
theorem Zh4:Zo ["end", "part_at", "ends_with_signals"] ["end", "part_at", "ends_with_signals"] (Zd Wa):=⟨rfl,rfl,rfl,by trivial,rfl,by trivial,by trivial⟩
abbrev Za6:Stmt:=top 37
theorem Zbn:Zo ["signals", "part_at", "post_of", "signal", "name", "end"] ["signals", "part_at"] (Zd Za6):=⟨rfl,rfl,rfl,by trivial,rfl,by trivial,by trivial⟩
abbrev Y2:Stmt:=Y3 (top 38) 0
theorem Zac:Zo ["self", "parts", "joins", "signals", "asked_signals", "part_at"] ["self", "parts", "joins", "signals"] (Zd Y2):=⟨rfl,rfl,rfl,by trivial,rfl,by trivial,by trivial⟩
abbrev Xy:Stmt:=Y3 (top 38) 2
theorem Zgr:Zo ["self", "name"] ["self", "name"] (Zd Xy):=⟨rfl,rfl,rfl,by trivial,rfl,by trivial,by trivial⟩
abbrev Xg:Stmt:=Y3 (top 38) 3
theorem Zfr:Zo ["self", "end"] ["self", "end"] (Zd Xg):=⟨rfl,rfl,rfl,by trivial,rfl,by trivial,by trivial⟩
abbrev Yy:Stmt:=Y3 (top 38) 4
theorem Zdw:Zo ["self", "end"] ["self", "end"] (Zd Yy):=⟨rfl,rfl,rfl,by trivial,rfl,by trivial,by trivial⟩
abbrev Xe:Stmt:=Y3 (top 38) 6
theorem Zf0:Zo ["self", "signal"] ["self", "signal"] (Zd Xe):=⟨rfl,rfl,rfl,by trivial,rfl,by trivial,by trivial⟩
abbrev Wm:Stmt:=top 40
theorem Zd0:Zo ["_law_cell", "_law_k", "_law_left"] ["_law_cell", "_law_k"] (Zd Wm):=⟨rfl,rfl,rfl,by trivial,rfl,by trivial,by trivial⟩
abbrev Xn:Stmt:=top 41
theorem Zgv:Zo ["_law_script", "_law_k"] ["_law_script", "_law_k"] (Zd Xn):=⟨rfl,rfl,rfl,by trivial,rfl,by trivial,by trivial⟩
abbrev Wu:Stmt:=top 42
theorem Zi0:Zo ["_law_script", "_law_at", "_law_end"] ["_law_script", "_law_at", "_law_end"] (Zd Wu):=⟨rfl,rfl,rfl,by trivial,rfl,by trivial,by trivial⟩
abbrev Zah:Stmt:=top 43
theorem Zlx:Zo ["_law_kind"] ["_law_kind"] (Zd Zah):=⟨rfl,rfl,rfl,by trivial,rfl,by trivial,by trivial⟩
abbrev Xq:Stmt:=top 44
theorem Zbr:Zo ["_law_kind", "_law_cell", "_law_k", "_law_letters", "_law_first"] ["_law_kind", "_law_cell", "_law_k"] (Zd Xq):=⟨rfl,rfl,rfl,by trivial,rfl,by trivial,by trivial⟩
abbrev Wy:Stmt:=top 45
theorem Z4:Zo ["_law_cell", "_law_names", "_law_one", "_law_two", "_law_three", "_law_four", "_law_way", "_law_ends_here", "_law_far", "_law_joins", "_law_parts", "_law_turn", "_law_aside", "_law_rest"] ["_law_cell", "_law_names"] (Zd Wy):=⟨rfl,rfl,rfl,by trivial,rfl,by trivial,by trivial⟩
abbrev Zaj:Stmt:=top 46
theorem Yu:Zo ["_law_cells_here", "_law_parts", "_law_joins", "_law_end", "_law_k", "_law_cell", "_law_names", "_law_block_here"] ["_law_cells_here"] (Zd Zaj):=⟨rfl,rfl,rfl,by trivial,rfl,by trivial,by trivial⟩
abbrev X5:Stmt:=top 47
theorem Zas:Zo ["_law_parts", "_law_joins", "_law_rest", "_law_cell", "_law_j", "_law_end", "_law_name"] ["_law_parts", "_law_joins", "_law_rest", "_law_cell"] (Zd X5):=⟨rfl,rfl,rfl,by trivial,rfl,by trivial,by trivial⟩
abbrev Wz:Stmt:=top 48
theorem Yh:Zo ["_law_cells_here", "_law_parts", "_law_joins", "_law_rest", "_law_k", "_law_cell", "_law_kind", "_law_ends_here", "_law_name", "_law_fresh", "_law_near", "_law_other"] ["_law_cells_here"] (Zd Wz):=⟨rfl,rfl,rfl,by trivial,rfl,by trivial,by trivial⟩
abbrev Y1:Stmt:=top 49
theorem Z3:Zo ["_law_parts", "_law_cell", "_law_letters", "_law_ends_here", "_law_kind", "_law_name", "_law_end", "_law_found", "_law_k", "_law_draw"] ["_law_parts", "_law_cell"] (Zd Y1):=⟨rfl,rfl,rfl,by trivial,rfl,by trivial,by trivial⟩
abbrev Zag:Stmt:=top 50
theorem W1:Zo ["_law_cell", "_law_k", "_law_names", "_law_parts", "_law_joins", "_law_signals"] ["_law_cell"] (Zd Zag):=⟨rfl,rfl,rfl,by trivial,rfl,by trivial,by trivial⟩
abbrev Xs:Stmt:=top 51
theorem Y4:Zo ["_law_cells_here", "_law_cell", "_law_found", "_law_parts", "_law_joins", "_law_at"] ["_law_cells_here", "_law_cell"] (Zd Xs):=⟨rfl,rfl,rfl,by trivial,rfl,by trivial,by trivial⟩
abbrev Zal:Stmt:=top 52
theorem Zlz:Zo ["_law_kind", "_law_name"] ["_law_kind", "_law_name"] (Zd Zal):=⟨rfl,rfl,rfl,by trivial,rfl,by trivial,by trivial⟩
abbrev Wd:Stmt:=top 53
theorem Zib:Zo ["_law_yard"] ["_law_yard"] (Zd Wd):=⟨rfl,rfl,rfl,by trivial,rfl,by trivial,by trivial⟩
abbrev Za7:Stmt:=top 54
theorem Yz:Zo ["_law_yard", "_law_joined", "_law_one", "_law_other", "_law_kinds", "_law_kind", "_law_name", "_law_stands", "_law_place", "_law_end"] ["_law_yard"] (Zd Za7):=⟨rfl,rfl,rfl,by trivial,rfl,by trivial,by trivial⟩
abbrev Wq:Stmt:=top 55
theorem Zjh:Zo ["_law_kind", "_law_end"] ["_law_kind", "_law_end"] (Zd Wq):=⟨rfl,rfl,rfl,by trivial,rfl,by trivial,by trivial⟩
abbrev Zai:Stmt:=top 56
theorem Zk2:Zo ["_law_plan", "_law_end"] ["_law_plan", "_law_end"] (Zd Zai):=⟨rfl,rfl,rfl,by trivial,rfl,by trivial,by trivial⟩
abbrev Xx:Stmt:=top 57
theorem Zge:Zo ["_law_plan", "_law_step"] ["_law_plan", "_law_step"] (Zd Xx):=⟨rfl,rfl,rfl,by trivial,rfl,by trivial,by trivial⟩
abbrev Zb3:Stmt:=top 58
theorem Zcd:Zo ["_law_plan", "_law_into_here", "_law_met", "_law_many", "_law_found", "_law_step", "_law_rest"] ["_law_plan", "_law_into_here", "_law_met", "_law_many"] (Zd Zb3):=⟨rfl,rfl,rfl,by trivial,rfl,by trivial,by trivial⟩
abbrev Zey:Stmt:=top 59
theorem Zek:Zo ["_law_script", "_law_yard", "_law_tracks_here", "_law_plan", "_law_row", "_law_into_here", "_law_due"] ["_law_script"] (Zd Zey):=⟨rfl,rfl,rfl,by trivial,rfl,by trivial,by trivial⟩
set_option genInjectivity false in
set_option genSizeOfSpec false in
structure Tx(K:Frag)(mg:Str->Option Value) where
 d_is_name:Dn K "is_name" "is_name" Zb6 ["thing"]
 m_is_name:mg "is_name" =some (.ref d_is_name.f)
 d_Part___init__:Dn K "__init__" "Part.__init__" Xi ["self", "name"]
 d_Part_ends:Dn K "ends" "Part.ends" Zao ["self"]
 d_Part_lies:Dn K "lies" "Part.lies" Zap ["self"]
 d_Part_pairs:Dn K "pairs" "Part.pairs" Wv ["self", "lie"]
 d_Part_leads:DnD K "leads" "Part.leads" Ww ["self", "end", "lie"] (.str "")
 d_Part_bears:Dn K "bears" "Part.bears" Wt ["self"]
 d_Stop_ends:Dn K "ends" "Stop.ends" Zam ["self"]
 d_Stop_pairs:Dn K "pairs" "Stop.pairs" Wo ["self", "lie"]
 d_Points_ends:Dn K "ends" "Points.ends" X7 ["self"]
 d_Points_lies:Dn K "lies" "Points.lies" Wb ["self"]
 d_Points_pairs:Dn K "pairs" "Points.pairs" Xo ["self", "lie"]
 d_Points_bears:Dn K "bears" "Points.bears" Xt ["self"]
 d_Cross_ends:Dn K "ends" "Cross.ends" Ws ["self"]
 d_Cross_pairs:Dn K "pairs" "Cross.pairs" X9 ["self", "lie"]
 d_Cross_bears:Dn K "bears" "Cross.bears" We ["self"]
 d_steps_into:Dn K "steps_into" "steps_into" Wp ["tracks", "end"]
 m_steps_into:mg "steps_into" =some (.ref d_steps_into.f)
 d_end_behind:Dn K "end_behind" "end_behind" Wl ["step"]
 m_end_behind:mg "end_behind" =some (.ref d_end_behind.f)
 d_ends_there:Dn K "ends_there" "ends_there" Wn ["tracks", "step"]
 m_ends_there:mg "ends_there" =some (.ref d_ends_there.f)
 d_steps_on:Dn K "steps_on" "steps_on" Zbb ["tracks", "begun"]
 m_steps_on:mg "steps_on" =some (.ref d_steps_on.f)
 d_routes_from:Dn K "routes_from" "routes_from" Wg ["tracks", "signal"]
 m_routes_from:mg "routes_from" =some (.ref d_routes_from.f)
 d_is_pair:Dn K "is_pair" "is_pair" Zb2 ["thing"]
 m_is_pair:mg "is_pair" =some (.ref d_is_pair.f)
 d_is_known:Dn K "is_known" "is_known" Za9 ["end", "ends"]
 m_is_known:mg "is_known" =some (.ref d_is_known.f)
 d_refuse_name:Dn K "refuse_name" "refuse_name" X8 ["name", "known"]
 m_refuse_name:mg "refuse_name" =some (.ref d_refuse_name.f)
 d_parts_by_name:Dn K "parts_by_name" "parts_by_name" Xd ["parts"]
 m_parts_by_name:mg "parts_by_name" =some (.ref d_parts_by_name.f)
 d_ends_to_parts:Dn K "ends_to_parts" "ends_to_parts" Xh ["part_of"]
 m_ends_to_parts:mg "ends_to_parts" =some (.ref d_ends_to_parts.f)
 d_refuse_join:Dn K "refuse_join" "refuse_join" Wf ["join", "part_at", "joined"]
 m_refuse_join:mg "refuse_join" =some (.ref d_refuse_join.f)
 d_joined_ends:Dn K "joined_ends" "joined_ends" X6 ["joins", "part_at"]
 m_joined_ends:mg "joined_ends" =some (.ref d_joined_ends.f)
 d_refuse_post:Dn K "refuse_post" "refuse_post" Wa ["end", "part_at", "ends_with_signals"]
 m_refuse_post:mg "refuse_post" =some (.ref d_refuse_post.f)
 d_posts_of:Dn K "posts_of" "posts_of" Za6 ["signals", "part_at"]
 m_posts_of:mg "posts_of" =some (.ref d_posts_of.f)
 d_Tracks___init__:DnD K "__init__" "Tracks.__init__" Y2 ["self", "parts", "joins", "signals"] .non
 d_Tracks_named:Dn K "named" "Tracks.named" Xy ["self", "name"]
 d_Tracks_beyond:Dn K "beyond" "Tracks.beyond" Xg ["self", "end"]
 d_Tracks_signal_at:Dn K "signal_at" "Tracks.signal_at" Yy ["self", "end"]
 d_Tracks_end_of:Dn K "end_of" "Tracks.end_of" Xe ["self", "signal"]
 d__law_mixed:Dn K "_law_mixed" "_law_mixed" Wm ["_law_cell", "_law_k"]
 m__law_mixed:mg "_law_mixed" =some (.ref d__law_mixed.f)
 d__law_cell_at:Dn K "_law_cell_at" "_law_cell_at" Xn ["_law_script", "_law_k"]
 m__law_cell_at:mg "_law_cell_at" =some (.ref d__law_cell_at.f)
 d__law_cells:Dn K "_law_cells" "_law_cells" Wu ["_law_script", "_law_at", "_law_end"]
 m__law_cells:mg "_law_cells" =some (.ref d__law_cells.f)
 d__law_ends:Dn K "_law_ends" "_law_ends" Zah ["_law_kind"]
 m__law_ends:mg "_law_ends" =some (.ref d__law_ends.f)
 d__law_name_by:Dn K "_law_name_by" "_law_name_by" Xq ["_law_kind", "_law_cell", "_law_k"]
 m__law_name_by:mg "_law_name_by" =some (.ref d__law_name_by.f)
 d__law_block:Dn K "_law_block" "_law_block" Wy ["_law_cell", "_law_names"]
 m__law_block:mg "_law_block" =some (.ref d__law_block.f)
 d__law_line:Dn K "_law_line" "_law_line" Zaj ["_law_cells_here"]
 m__law_line:mg "_law_line" =some (.ref d__law_line.f)
 d__law_closed:Dn K "_law_closed" "_law_closed" X5 ["_law_parts", "_law_joins", "_law_rest", "_law_cell"]
 m__law_closed:mg "_law_closed" =some (.ref d__law_closed.f)
 d__law_drawn:Dn K "_law_drawn" "_law_drawn" Wz ["_law_cells_here"]
 m__law_drawn:mg "_law_drawn" =some (.ref d__law_drawn.f)
 d__law_signals_by:Dn K "_law_signals_by" "_law_signals_by" Y1 ["_law_parts", "_law_cell"]
 m__law_signals_by:mg "_law_signals_by" =some (.ref d__law_signals_by.f)
 d__law_long:Dn K "_law_long" "_law_long" Zag ["_law_cell"]
 m__law_long:mg "_law_long" =some (.ref d__law_long.f)
 d__law_yard_by:Dn K "_law_yard_by" "_law_yard_by" Xs ["_law_cells_here", "_law_cell"]
 m__law_yard_by:mg "_law_yard_by" =some (.ref d__law_yard_by.f)
 d__law_part:Dn K "_law_part" "_law_part" Zal ["_law_kind", "_law_name"]
 m__law_part:mg "_law_part" =some (.ref d__law_part.f)
 d__law_tracks:Dn K "_law_tracks" "_law_tracks" Wd ["_law_yard"]
 m__law_tracks:mg "_law_tracks" =some (.ref d__law_tracks.f)
 d__law_map:Dn K "_law_map" "_law_map" Za7 ["_law_yard"]
 m__law_map:mg "_law_map" =some (.ref d__law_map.f)
 d__law_leads:Dn K "_law_leads" "_law_leads" Wq ["_law_kind", "_law_end"]
 m__law_leads:mg "_law_leads" =some (.ref d__law_leads.f)
 d__law_into:Dn K "_law_into" "_law_into" Zai ["_law_plan", "_law_end"]
 m__law_into:mg "_law_into" =some (.ref d__law_into.f)
 d__law_ends_so:Dn K "_law_ends_so" "_law_ends_so" Xx ["_law_plan", "_law_step"]
 m__law_ends_so:mg "_law_ends_so" =some (.ref d__law_ends_so.f)
 d__law_on:Dn K "_law_on" "_law_on" Zb3 ["_law_plan", "_law_into_here", "_law_met", "_law_many"]
 m__law_on:mg "_law_on" =some (.ref d__law_on.f)
 CPart:Addr
 mPart:mg "Part" =some (.ref CPart)
 clPart:Cls K CPart
 nPart_name:X2 K CPart "name"
 mkPart:Mk K CPart d_Part___init__.f
 mtPart_ends:Xk K CPart "ends" d_Part_ends.f
 mtPart_lies:Xk K CPart "lies" d_Part_lies.f
 mtPart_pairs:Xk K CPart "pairs" d_Part_pairs.f
 mtPart_bears:Xk K CPart "bears" d_Part_bears.f
 mtPart_leads:Xk K CPart "leads" d_Part_leads.f
 CPlain:Addr
 mPlain:mg "Plain" =some (.ref CPlain)
 clPlain:Cls K CPlain
 nPlain_name:X2 K CPlain "name"
 mkPlain:Mk K CPlain d_Part___init__.f
 mtPlain_ends:Xk K CPlain "ends" d_Part_ends.f
 mtPlain_lies:Xk K CPlain "lies" d_Part_lies.f
 mtPlain_pairs:Xk K CPlain "pairs" d_Part_pairs.f
 mtPlain_bears:Xk K CPlain "bears" d_Part_bears.f
 mtPlain_leads:Xk K CPlain "leads" d_Part_leads.f
 CStop:Addr
 mStop:mg "Stop" =some (.ref CStop)
 clStop:Cls K CStop
 nStop_name:X2 K CStop "name"
 mkStop:Mk K CStop d_Part___init__.f
 mtStop_ends:Xk K CStop "ends" d_Stop_ends.f
 mtStop_lies:Xk K CStop "lies" d_Part_lies.f
 mtStop_pairs:Xk K CStop "pairs" d_Stop_pairs.f
 mtStop_bears:Xk K CStop "bears" d_Part_bears.f
 mtStop_leads:Xk K CStop "leads" d_Part_leads.f
 CGate:Addr
 mGate:mg "Gate" =some (.ref CGate)
 clGate:Cls K CGate
 nGate_name:X2 K CGate "name"
 mkGate:Mk K CGate d_Part___init__.f
 mtGate_ends:Xk K CGate "ends" d_Stop_ends.f
 mtGate_lies:Xk K CGate "lies" d_Part_lies.f
 mtGate_pairs:Xk K CGate "pairs" d_Stop_pairs.f
 mtGate_bears:Xk K CGate "bears" d_Part_bears.f
 mtGate_leads:Xk K CGate "leads" d_Part_leads.f
 CPoints:Addr
 mPoints:mg "Points" =some (.ref CPoints)
 clPoints:Cls K CPoints
 nPoints_name:X2 K CPoints "name"
 mkPoints:Mk K CPoints d_Part___init__.f
 mtPoints_ends:Xk K CPoints "ends" d_Points_ends.f
 mtPoints_lies:Xk K CPoints "lies" d_Points_lies.f
 mtPoints_pairs:Xk K CPoints "pairs" d_Points_pairs.f
 mtPoints_bears:Xk K CPoints "bears" d_Points_bears.f
 mtPoints_leads:Xk K CPoints "leads" d_Part_leads.f
 CCross:Addr
 mCross:mg "Cross" =some (.ref CCross)
 clCross:Cls K CCross
 nCross_name:X2 K CCross "name"
 mkCross:Mk K CCross d_Part___init__.f
 mtCross_ends:Xk K CCross "ends" d_Cross_ends.f
 mtCross_lies:Xk K CCross "lies" d_Part_lies.f
 mtCross_pairs:Xk K CCross "pairs" d_Cross_pairs.f
 mtCross_bears:Xk K CCross "bears" d_Cross_bears.f
 mtCross_leads:Xk K CCross "leads" d_Part_leads.f
 CTracks:Addr
 mTracks:mg "Tracks" =some (.ref CTracks)
 clTracks:Cls K CTracks
 nTracks_part_of:X2 K CTracks "part_of"
 nTracks_joined:X2 K CTracks "joined"
 nTracks_post_of:X2 K CTracks "post_of"
 nTracks_signal_on:X2 K CTracks "signal_on"
 mkTracks:Mk K CTracks d_Tracks___init__.f
 mtTracks_named:Xk K CTracks "named" d_Tracks_named.f
 mtTracks_beyond:Xk K CTracks "beyond" d_Tracks_beyond.f
 mtTracks_signal_at:Xk K CTracks "signal_at" d_Tracks_signal_at.f
 mtTracks_end_of:Xk K CTracks "end_of" d_Tracks_end_of.f
 n_len:mg "len" =none
 n_range:mg "range" =none
 n_isinstance:mg "isinstance" =none
 n_list:mg "list" =none
 n_dict:mg "dict" =none
 n_tuple:mg "tuple" =none
 n_str:mg "str" =none
 n_enumerate:mg "enumerate" =none
 n_max:mg "max" =none
 n_min:mg "min" =none
 n_sum:mg "sum" =none
 n_sorted:mg "sorted" =none
 n_all:mg "all" =none
 kTT:kitOne K (.type "tuple") (.type "tuple")=some true
 kSS:kitOne K (.type "str") (.type "str")=some true
 kNT:kitOne K (.type "NoneType") (.type "tuple")=some false
 kIT:kitOne K (.type "int") (.type "tuple")=some false
 kST:kitOne K (.type "str") (.type "tuple")=some false
 kLT:kitOne K (.type "list") (.type "tuple")=some false
 kBT:kitOne K (.type "bool") (.type "tuple")=some false
 iPart:kitOne K (.ref CPart) (.ref CStop)=some false
 iPlain:kitOne K (.ref CPlain) (.ref CStop)=some false
 iStop:kitOne K (.ref CStop) (.ref CStop)=some true
 iGate:kitOne K (.ref CGate) (.ref CStop)=some true
 iPoints:kitOne K (.ref CPoints) (.ref CStop)=some false
 iCross:kitOne K (.ref CCross) (.ref CStop)=some false
 c_LETTERS:∃tk,mg "LETTERS" =some (.str "abcdefghijklmnopqrstuvwxyz" tk)
 c_FIGURES:∃tk,mg "FIGURES" =some (.str "0123456789" tk)
 c_LONGEST_NAME:∃tk,mg "LONGEST_NAME" =some (.int 6 tk)
 c_MOST_PARTS:∃tk,mg "MOST_PARTS" =some (.int 40 tk)
 c_MOST_SIGNALS:∃tk,mg "MOST_SIGNALS" =some (.int 40 tk)
 c_MOST_STEPS:∃tk,mg "MOST_STEPS" =some (.int 12 tk)
 a_NO_END:Addr
 c_NO_END:mg "NO_END" =some (.ref a_NO_END)
 t_NO_END:∀H:Hp,SqT K H a_NO_END ([.str "",.str ""]:List V)
 tG:PySem.W.specialIn K (.builtin "object.__class__") "__get__" =some (some (.builtin "getset_descriptor.__get__"))
 tK:PySem.W.takesIn K (.builtin "object.__class__")=some true
 tcPart:findIn K (.ref CPart) "__class__" =some (some (.builtin "object.__class__"))
 tmPart:PySem.W.mroIn K CPart (.type "object")=some true
 tcPlain:findIn K (.ref CPlain) "__class__" =some (some (.builtin "object.__class__"))
 tmPlain:PySem.W.mroIn K CPlain (.type "object")=some true
 tcStop:findIn K (.ref CStop) "__class__" =some (some (.builtin "object.__class__"))
 tmStop:PySem.W.mroIn K CStop (.type "object")=some true
 tcGate:findIn K (.ref CGate) "__class__" =some (some (.builtin "object.__class__"))
 tmGate:PySem.W.mroIn K CGate (.type "object")=some true
 tcPoints:findIn K (.ref CPoints) "__class__" =some (some (.builtin "object.__class__"))
 tmPoints:PySem.W.mroIn K CPoints (.type "object")=some true
 tcCross:findIn K (.ref CCross) "__class__" =some (some (.builtin "object.__class__"))
 tmCross:PySem.W.mroIn K CCross (.type "object")=some true
section
variable {P:Program} {w:World} {K:Frag} {mg:Str->Option Value} {base:Heap}
seal PySem.wpAny
open YM
def Zpo:Sp:=fun vs H Q _=>∃c k:Int,vs=[.int c,.int k]/\Q (.int (Zd4 c k)) H
def Zto(K:Frag):Sp:=fun vs H Q _=>∃(a:Addr) (ns:List Int) (k:Nat),vs=[.ref a,.int k]/\SqL K H a (ns.map V.int)/\Q (.int (Zoy ns k)) H
theorem Zta(T:Tx K mg):Zz P w K mg base CX0 1 T.d__law_mixed.f T.d__law_mixed.fd ["_law_cell", "_law_k"] Zpo:=by
 refine T.d__law_mixed.F.okW Zd0 fun cdv A outer s H vs Q E hr h=>?_
 ·obtain ⟨c,k,rfl,q⟩:=h
  refine WSs.step (Z2 (i:=2) Zd0.nd (Zp Yr (Zp Zfh (Zp Zaa (pv 0) (Zp Zfh Zf (pv 1))) Zf) Zf)) ?_
  refine ⟨_,rfl,_,rfl,_,_,rfl,rfl,.inl ⟨by decide,by decide⟩,.inl ⟨_,_,rfl,rfl,_,_,rfl,rfl,.inr ⟨by decide,by decide⟩,_,_,rfl,rfl,(by show (0:Int)<2147483647;decide),?_⟩⟩
  refine WSs.last (Zq (Zp Yr (Zp Zfh (pv 2) (Zp Zaa (Zp Zaa (pv 2) (Zp Zfh Zf (pv 1))) Zf)) Zf)) ?_
  refine ⟨_,rfl,_,rfl,_,rfl,_,_,rfl,rfl,.inl ⟨by decide,by decide⟩,.inl ⟨_,_,rfl,rfl,.inl ⟨_,_,rfl,rfl,_,_,rfl,rfl,.inl ?_,_,_,rfl,rfl,(by show (0:Int)<2147483629;decide),q⟩⟩⟩
  have h1:=Int.emod_nonneg ((c+7919 * k) * 48271) (show (2147483647:Int)≠0 by decide)
  have h2:=Int.emod_lt_of_pos ((c+7919 * k) * 48271) (show (0:Int)<2147483647 by decide)
  constructor <;>omega
theorem Zb1(T:Tx K mg){k:Nat}(h:1<=k:=by decide):Zz P w K mg base CX0 k T.d__law_mixed.f T.d__law_mixed.fd ["_law_cell", "_law_k"] Zpo:=(Zta T).mono h
theorem Zu3(T:Tx K mg):Zz P w K mg base CX0 2 T.d__law_cell_at.f T.d__law_cell_at.fd ["_law_script", "_law_k"] (Zto K):=by
 refine T.d__law_cell_at.F.okW Zgv fun cdv A outer s H vs Q E hr h=>?_
 ·obtain ⟨a,ns,k,rfl,hS,q⟩:=h
  refine WSs.step (Yj (Zr Zj7 (pv 1) (Yb (r:=Za5 K) Zbo (by rfl) T.n_len PySem.boot_len (Zb (pv 0) Za)) (Z9 _)) Zy Zw) ?_
  refine ⟨_,rfl,_,rfl,.inl ⟨a,_,rfl,.inl hS,_,_,rfl,rfl,_,rfl,Yo (fun hlt=>?_) (fun hlt=>?_)⟩⟩
  ·have hlt:=of_decide_eq_true hlt
   rw [List.length_map] at hlt
   have hk:k<ns.length:=by omega
   have e:ns[k]? =some ns[k]:=by simp [hk]
   refine WSs.last (Zq (Zx (Zb1 T) hr rfl T.m__law_mixed T.d__law_mixed.F.kp T.d__law_mixed.b .nil Z6 (Zb (Zv (r:=rIx K) Zk (pv 0) (pv 1) (fun _ _=>rfl)) (Zb (pv 1) Za)))) ⟨_,rfl,_,rfl,.inl ⟨a,_,_,V.int ns[k],rfl,rfl,hS,Zt (by rw [List.getElem?_map,e];rfl),_,rfl,ns[k],k,rfl,?_⟩⟩
   unfold Zoy at q
   rw [e] at q
   exact q
  ·have hlt:¬((k:Int)<((ns.map V.int).length:Int)):=fun z=>hlt (decide_eq_true z)
   rw [List.length_map] at hlt
   have e:ns[k]? =none:=List.getElem?_eq_none (by omega)
   unfold Zoy at q
   rw [e] at q
   exact WSs.last (Zq Zf) q
theorem Zis(T:Tx K mg){k:Nat}(h:2<=k:=by decide):Zz P w K mg base CX0 k T.d__law_cell_at.f T.d__law_cell_at.fd ["_law_script", "_law_k"] (Zto K):=(Zu3 T).mono h
def Zsg:Sp:=fun vs H Q _=>∃k:Str,vs=[.str k]/\∀p H',Same H H'->H p=none->H' p=some (.lst ((Ya k).map V.str))->Q (.ref p) H'
theorem Zk1(T:Tx K mg):Zz P w K mg base CX0 1 T.d__law_ends.f T.d__law_ends.fd ["_law_kind"] Zsg:=by
 refine T.d__law_ends.F.okW Zlx fun cdv A outer s H vs Q E hr h=>?_
 ·obtain ⟨k,rfl,q⟩:=h
  refine WSs.step (Yj (Zr (r:=Zat K) (Za4 hr) (pv 0) Ze (Z9 _)) Zy Zw) ⟨_,rfl,.inl ⟨rfl,_,rfl,Yo (fun hc=>?_) (fun hc=>?_)⟩⟩
  ·have hc:k = "points" :=by simpa using hc
   subst hc
   exact WSs.last (Zq (Zl (Zb Ze (Zb Ze (Zb Ze Za))))) ⟨sz (by simp),fun p H1 s1 n1 e1=>q p H1 s1 n1 e1⟩
  have h1:¬k = "points" :=by simpa using hc
  refine WSs.step (Yj (Zr (r:=Zat K) (Za4 hr) (pv 0) Ze (Z9 _)) Zy Zw) ⟨_,rfl,.inl ⟨rfl,_,rfl,Yo (fun hc=>?_) (fun hc=>?_)⟩⟩
  ·have hc:k = "cross" :=by simpa using hc
   subst hc
   exact WSs.last (Zq (Zl (Zb Ze (Zb Ze (Zb Ze (Zb Ze Za)))))) ⟨sz (by simp),fun p H1 s1 n1 e1=>q p H1 s1 n1 e1⟩
  have h2:¬k = "cross" :=by simpa using hc
  refine WSs.step (Yj (Zr (r:=Zat K) (Za4 hr) (pv 0) Ze (Z9 _)) Zy Zw) ⟨_,rfl,.inl ⟨rfl,_,rfl,Yo (fun hc=>?_) (fun hc=>?_)⟩⟩
  ·have hc:k = "plain" :=by simpa using hc
   subst hc
   exact WSs.last (Zq (Zl (Zb Ze (Zb Ze Za)))) ⟨sz (by simp),fun p H1 s1 n1 e1=>q p H1 s1 n1 e1⟩
  have h3:¬k = "plain" :=by simpa using hc
  exact WSs.last (Zq (Zl (Zb Ze Za))) ⟨sz (by simp),fun p H1 s1 n1 e1=>q p H1 s1 n1 (by unfold Ya;rw [if_neg h1,if_neg h2,if_neg h3];exact e1)⟩
theorem Zf7(T:Tx K mg){k:Nat}(h:1<=k:=by decide):Zz P w K mg base CX0 k T.d__law_ends.f T.d__law_ends.fd ["_law_kind"] Zsg:=(Zk1 T).mono h
theorem Zha{n:Nat}{i:Int}{l:List Nat}(hl:l.length=n)(h0:0<=i)(h1:i<n):atI l i=some (l.getD i.toNat 0):=by
 have e:i=((i.toNat:Nat):Int):=by omega
 have hi:i.toNat<l.length:=by omega
 rw [e]
 refine Zt ?_
 rw [List.getD_eq_getElem?_getD,Int.toNat_natCast,List.getElem?_eq_getElem hi]
 rfl
def Zmy:Sp:=fun vs H Q _=>∃(kind:Str) (c:Int) (k:Nat),vs=[.str kind,.int c,.int k]/\0<kind.length/\kind.length<=100/\0<=c/\k<100/\Q (.str (Ym kind c k)) H
theorem Zgo(T:Tx K mg):Zz P w K mg base CX0 1 T.d__law_name_by.f T.d__law_name_by.fd ["_law_kind", "_law_cell", "_law_k"] Zmy:=by
 refine T.d__law_name_by.F.okW Zbr fun cdv A outer s H vs Q E hr h=>?_
 ·obtain ⟨kind,c,k,rfl,hk0,hkl,hc,hk,q⟩:=h
  refine WSs.step (Z2 (i:=3) Zbr.nd Ze) ?_
  have fl:=Zer k hk
  refine WSs.step (Yj (Zr (r:=Zat K) (Za4 hr) (Zp Yr (pv 1) Zf) Zf (Z9 _)) Zy Zw) ⟨_,rfl,_,_,rfl,rfl,(by show (0:Int)<3;decide),.inl ⟨rfl,_,rfl,Yo (fun hc3=>?_) (fun hc3=>?_)⟩⟩
  ·have hc3:c%3=0:=by simpa using hc3
   unfold Ym at q
   rw [if_pos hc3] at q
   refine WSs.last (Zq (Zp Zaa (Zv (r:=rIx K) Zk (pv 0) Zf (fun _ _=>rfl)) (Zb7 Zav (by rfl) T.n_str PyProof.Rows.boot_str (Zb (pv 2) Za)))) ⟨_,rfl,.inr (.inr ⟨kind,0,kind.cps.toList.getD 0 0,rfl,rfl,sz (by omega),?_,_,rfl,(k:Int),rfl,Zlv hk,.inr (.inl ⟨_,_,rfl,rfl,sz ?_,q⟩)⟩)⟩
   ·have:(0:Int)<kind.cps.toList.length:=by rw [Array.length_toList];exact Int.ofNat_lt.mpr hk0
    exact Zha (n:=kind.cps.toList.length) rfl (by decide) this
   ·show 1+(Zdy k).length<=1000
    omega
  have hc3:¬c%3=0:=by simpa using hc3
  have a0:=Int.emod_nonneg (c / 3) (show (26:Int)≠0 by decide)
  have a1:=Int.emod_lt_of_pos (c / 3) (show (0:Int)<26 by decide)
  have b0:=Int.emod_nonneg (c / 78) (show (26:Int)≠0 by decide)
  have b1:=Int.emod_lt_of_pos (c / 78) (show (0:Int)<26 by decide)
  have z0:=Int.emod_nonneg (c / 2028) (show (3:Int)≠0 by decide)
  have z1:=Int.emod_lt_of_pos (c / 2028) (show (0:Int)<3 by decide)
  obtain ⟨zn,hzn⟩:∃zn:Nat,c / 2028%3=(zn:Int):=⟨(c / 2028%3).toNat,by omega⟩
  unfold Ym at q
  rw [if_neg hc3,hzn,Int.toNat_natCast] at q
  refine WSs.step (Z2 (i:=4) Zbr.nd (Zp Zaa (Zv (r:=rIx K) Zk (pv 3) (Zp Yr (Zp Ys (pv 1) Zf) Zf) (fun _ _=>rfl)) (Zv (r:=rIx K) Zk (pv 3) (Zp Yr (Zp Ys (pv 1) Zf) Zf) (fun _ _=>rfl)))) ⟨_,rfl,_,rfl,_,_,rfl,rfl,⟨by decide,by decide⟩,_,_,rfl,rfl,(by show (0:Int)<26;decide),.inr (.inr ⟨_,_,Zcw (c / 3%26),rfl,rfl,sz (by rw [Zg4];decide),(by rw [Zl2];exact Zha (n:=26) rfl a0 a1),?_⟩)⟩
  refine ⟨_,rfl,_,rfl,_,_,rfl,rfl,⟨by decide,by decide⟩,_,_,rfl,rfl,(by show (0:Int)<26;decide),.inr (.inr ⟨_,_,Zcw (c / 78%26),rfl,rfl,sz (by rw [Zg4];decide),(by rw [Zl2];exact Zha (n:=26) rfl b0 b1),.inr (.inl ⟨_,_,rfl,rfl,sz (by show 1+1<=1000;decide),?_⟩)⟩)⟩
  have rl:(Zfp "0" zn).length<=2:=by
   have:zn<3:=by omega
   have hd:∀m,m<3->(Zfp "0" m).length<=2:=by trivial
   exact hd zn this
  have ll:(⟨#[Zcw (c / 3%26)]⟩++⟨#[Zcw (c / 78%26)]⟩:Str).length=2:=by rw [PySem.Str.length_append];rfl
  refine WSs.last (Zq (Zp Zaa (Zp Zaa (pv 4) (Zp Zub Ze (Zp Yr (Zp Ys (pv 1) Zf) Zf))) (Zb7 Zav (by rfl) T.n_str PyProof.Rows.boot_str (Zb (pv 2) Za)))) ⟨_,rfl,_,rfl,_,_,rfl,rfl,⟨by decide,by decide⟩,_,_,rfl,rfl,(by show (0:Int)<3;decide), "0",zn,rfl,by rw [<-hzn],by show 1 * zn<=1000;omega,by omega,.inr (.inl ⟨_,_,rfl,rfl,sz (by rw [ll];omega),_,rfl,(k:Int),rfl,Zlv hk,.inr (.inl ⟨_,_,rfl,rfl,sz ?_,q⟩)⟩)⟩
  show _+(Zdy k).length<=1000
  rw [PySem.Str.length_append,ll]
  omega
theorem Zdj(T:Tx K mg){k:Nat}(h:1<=k:=by decide):Zz P w K mg base CX0 k T.d__law_name_by.f T.d__law_name_by.fd ["_law_kind", "_law_cell", "_law_k"] Zmy:=(Zgo T).mono h
def Zs(H:Hp)(t:Addr)(q:Zc):Prop:=H t=some (.tup [.str q.1,.str q.2])
def Wj(H:Hp)(t:Addr)(j:Zc×Zc):Prop:=∃a b,H t=some (.tup [.ref a,.ref b])/\Zs H a j.1/\Zs H b j.2
def Zu(H:Hp)(l:Addr)(ps:List Zc):Prop:=∃ts:List Addr,H l=some (.lst (ts.map V.ref))/\Paired (Zs H) ts ps
def Yg(H:Hp)(l:Addr)(js:List (Zc×Zc)):Prop:=∃ts:List Addr,H l=some (.lst (ts.map V.ref))/\Paired (Wj H) ts js
theorem Zs.mono{H H':Hp}{t:Addr}{q:Zc}(e:Same H H')(h:Zs H t q):Zs H' t q:=e.at h
theorem Wj.mono{H H':Hp}{t:Addr}{j:Zc×Zc}(e:Same H H')(h:Wj H t j):Wj H' t j:=let ⟨a,b,h1,h2,h3⟩:=h;⟨a,b,e.at h1,h2.mono e,h3.mono e⟩
theorem Zu.mono{H H':Hp}{l:Addr}{ps:List Zc}(e:Same H H')(h:Zu H l ps):Zu H' l ps:=let ⟨ts,h1,h2⟩:=h;⟨ts,e.at h1,Paired.mapP h2 fun _ _ r=>r.mono e⟩
theorem Yg.mono{H H':Hp}{l:Addr}{js:List (Zc×Zc)}(e:Same H H')(h:Yg H l js):Yg H' l js:=let ⟨ts,h1,h2⟩:=h;⟨ts,e.at h1,Paired.mapP h2 fun _ _ r=>r.mono e⟩
def Zpj:Sp:=fun vs H Q _=>∃(c:Int) (nl:Addr) (n1 n2 n3 n4:Str),vs=[.int c,.ref nl]/\H nl=some (.lst [.str n1,.str n2,.str n3,.str n4]) /\
 ∀(t:Addr) (H':Hp) (pl jl ie oe:Addr) (ps:List Zc) (js:List (Zc×Zc)) (e1 e2:Zc),Same H H'->H' t=some (.tup [.ref pl,.ref jl,.ref ie,.ref oe])->Zu H' pl ps->Yg H' jl js->Zs H' ie e1->Zs H' oe e2->Zay n1 n2 n3 n4 ps js e1 e2->Q (.ref t) H'
theorem Zla{n:Int}{u v:V}:∃w,atI [u,v] (n%2)=some w/\((n%2=0/\w=u)\/(n%2=1/\w=v)):=by
 have h0:=Int.emod_nonneg n (show (2:Int)≠0 by decide)
 have h1:=Int.emod_lt_of_pos n (show (0:Int)<2 by decide)
 generalize n%2=m at h0 h1
 have:m=0\/m=1:=by omega
 rcases this with rfl|rfl
 ·exact ⟨u,rfl,.inl ⟨rfl,rfl⟩⟩
 ·exact ⟨v,rfl,.inr ⟨rfl,rfl⟩⟩
theorem Zvk{l D:Addr}{xs:List Str}{x:Str}{H1:Hp}{Q:VK}{σ:St}(hl:H1 l=some (.lst (xs.map V.str)))(hn:xs.length<=100)(hD:H1 D=none)(q:∀H',Same H1 H'->H' D=some (.lst ((xs.filter fun e=>decide (e≠x)).map V.str))->Q (.ref D) H'){fr:St->St}(hfr:fr σ=[none,some (.str x)]){tf:TT}(htf:tf=Zv6 (tOp (Ziz K) (Zjc 0) (Zjc 1))) :
  Zda (Itl K l) fr (Zc9 0) tf (Zjc 0) Q σ H1 D:=by
 refine Xw (xs:=xs.map V.str) (fun i ys H'=>ys=((xs.take i).filter fun e=>decide (e≠x)).map V.str/\H' D=some (.lst ys)/\Same H1 H') ⟨rfl,Zh,Same.new hD⟩ ?_ ?_ ?_
 ·rintro i ys H' _ ⟨_,_,sm⟩
  exact SqL.of (sm.at hl)
 ·rintro k v ys H' hk ⟨rfl,hD',sm⟩
  rw [List.getElem?_map] at hk
  obtain ⟨y,hy,rfl⟩:=Option.map_eq_some_iff.mp hk
  unfold Zcu
  rw [hfr,htf]
  refine ⟨Zaq.set rfl,_,rfl,_,rfl,.inl ⟨rfl,_,rfl,Yo (fun hc=>?_) (fun hc=>?_)⟩⟩
  ·have hc:y≠x:=by simpa using hc
   refine ⟨_,rfl,hD',?_,?_,Zh,fun b o e=>?_⟩
   ·rw [List.length_map]
    have:=List.length_filter_le (fun e:Str=>decide (e≠x)) (xs.take k)
    rw [List.length_take] at this
    exact Z1 (by omega)
   ·rw [List.take_add_one,hy,List.filter_append,List.map_append,show (some y).toList=[y] from rfl,List.filter_cons,if_pos (decide_eq_true hc)]
    rfl
   ·rw [Zi (Zj e hD)];exact sm.at e
  ·have hc:¬y≠x:=by simpa using hc
   refine ⟨?_,hD',sm⟩
   rw [List.take_add_one,hy,List.filter_append,show (some y).toList=[y] from rfl,List.filter_cons,if_neg (by simpa using hc),List.filter_nil,List.append_nil]
 ·rintro ys H6 ⟨rfl,hD6,s6⟩
  rw [List.length_map,List.take_length] at hD6
  exact q H6 s6 hD6
theorem Zji(T:Tx K mg):Zz P w K mg base CX0 1 T.d__law_block.f T.d__law_block.fd ["_law_cell", "_law_names"] Zpj:=by
 refine T.d__law_block.F.okW Z4 fun cdv A outer s H vs Q E hr h=>?_
 ·obtain ⟨c,nl,n1,n2,n3,n4,rfl,hnl,q⟩:=h
  refine WSs.step (Ztz (pv 1) (Zx5 rfl (Z7 (Yw (i:=2) Z4.nd) (Z7 (Yw (i:=3) Z4.nd) (Z7 (Yw (i:=4) Z4.nd) (Z7 (Yw (i:=5) Z4.nd) X3)))))) ⟨_,rfl,nl,_,rfl,SqL.of hnl,rfl,_,_,rfl,_,_,rfl,_,_,rfl,_,_,rfl,rfl,?_⟩
  refine WSs.step (Z2 (i:=6) Z4.nd (Zp Yr (pv 0) Zf)) ⟨_,rfl,_,_,rfl,rfl,(by show (0:Int)<8;decide),?_⟩
  refine WSs.step (Yj (Zr Zj7 (pv 6) Zf (Z9 _)) Zy Zw) ⟨_,rfl,_,_,rfl,rfl,_,rfl,Yo (fun _=>?_) (fun _=>?_)⟩
  ·refine WSs.step (Z2 (i:=7) Z4.nd (Zv (r:=rIx K) Zk (Zl (Zb (Zl (Zb Ze (Zb Ze Za))) (Zb (Zl (Zb Ze (Zb Ze Za))) Za))) (Zp Yr (Zp Ys (pv 0) Zf) Zf) (fun _ _=>rfl))) ⟨sz (by simp),fun la H1 s1 _ e1=>⟨sz (by simp),fun lb H2 s2 _ e2=>⟨sz (by simp),fun ll H3 s3 _ e3=>⟨_,rfl,_,_,rfl,rfl,⟨by decide,by decide⟩,_,_,rfl,rfl,(by show (0:Int)<2;decide),?_⟩⟩⟩⟩
   obtain ⟨l7,a,b,hat,h7,hab⟩:∃l7 a b,atI [V.ref la,.ref lb] (c / 8%2)=some (.ref l7)/\H3 l7=some (.lst [.str a,.str b])/\(a,b)∈[(("a" :Str),("b" :Str)),("b", "a")]:=by
    obtain ⟨w,hw,h | h⟩:=Zla (n:=c / 8) (u:=V.ref la) (v:=V.ref lb)
    ·exact ⟨la, "a", "b",by rw [hw,h.2],s3.at (s2.at e1),by simp⟩
    ·exact ⟨lb, "b", "a",by rw [hw,h.2],s3.at e2,by simp⟩
   refine .inl ⟨ll,_,_,.ref l7,rfl,rfl,SqL.of e3,hat,?_⟩
   have s03:=s1.trans (s2.trans s3)
   refine WSs.last (Zq (Zg (Zb (Zl (Zb (Zg (Zb Ze (Zb (pv 2) Za))) Za)) (Zb (Zl Za) (Zb (Zg (Zb (pv 2) (Zb (Zv (r:=rIx K) Zk (pv 7) Zf (fun _ _=>rfl)) Za))) (Zb (Zg (Zb (pv 2) (Zb (Zv (r:=rIx K) Zk (pv 7) Zf (fun _ _=>rfl)) Za))) Za)))))) ⟨_,rfl,sz (by simp),fun t1 H4 s4 _ e4=>⟨sz (by simp),fun pl H5 s5 _ e5=>⟨sz (by simp),fun jl H6 s6 _ e6=>⟨_,rfl,_,rfl,.inl ⟨l7,_,_,.str a,rfl,rfl,SqL.of (s6.at (s5.at (s4.at h7))),rfl,sz (by simp),fun ie H7 s7 _ e7=>⟨_,rfl,_,rfl,.inl ⟨l7,_,_,.str b,rfl,rfl,SqL.of (s7.at (s6.at (s5.at (s4.at h7)))),rfl,sz (by simp),fun oe H8 s8 _ e8=>⟨sz (by simp),fun t H9 s9 _ e9=>?_⟩⟩⟩⟩⟩⟩⟩⟩
   exact q t H9 pl jl ie oe _ _ _ _ (s03.trans (s4.trans (s5.trans (s6.trans (s7.trans (s8.trans s9)))))) e9 ⟨[t1],s9.at (s8.at (s7.at (s6.at e5))),.cons (s9.at (s8.at (s7.at (s6.at (s5.at e4))))) .nil⟩ ⟨[],s9.at (s8.at (s7.at e6)),.nil⟩ (s9.at (s8.at e7)) (s9.at e8) (.plain a b hab)
  refine WSs.step (Yj (Zr Zj7 (pv 6) Zf (Z9 _)) Zy Zw) ⟨_,rfl,_,_,rfl,rfl,_,rfl,Yo (fun _=>?_) (fun _=>?_)⟩
  ·refine WSs.step (Z2 (i:=8) Z4.nd (Zv (r:=rIx K) Zk (Zl (Zb (Zl (Zb Ze (Zb Ze Za))) (Zb (Zl (Zb Ze (Zb Ze Za))) Za))) (Zp Yr (Zp Ys (pv 0) Zf) Zf) (fun _ _=>rfl))) ⟨sz (by simp),fun la H1 s1 _ e1=>⟨sz (by simp),fun lb H2 s2 _ e2=>⟨sz (by simp),fun ll H3 s3 _ e3=>⟨_,rfl,_,_,rfl,rfl,⟨by decide,by decide⟩,_,_,rfl,rfl,(by show (0:Int)<2;decide),?_⟩⟩⟩⟩
   obtain ⟨l7,a,b,hat,h7,hab⟩:∃l7 a b,atI [V.ref la,.ref lb] (c / 8%2)=some (.ref l7)/\H3 l7=some (.lst [.str a,.str b])/\(a,b)∈[(("left" :Str),("right" :Str)),("right", "left")]:=by
    obtain ⟨w,hw,h | h⟩:=Zla (n:=c / 8) (u:=V.ref la) (v:=V.ref lb)
    ·exact ⟨la, "left", "right",by rw [hw,h.2],s3.at (s2.at e1),by simp⟩
    ·exact ⟨lb, "right", "left",by rw [hw,h.2],s3.at e2,by simp⟩
   refine .inl ⟨ll,_,_,.ref l7,rfl,rfl,SqL.of e3,hat,?_⟩
   have s03:=s1.trans (s2.trans s3)
   refine WSs.step (Z2 (i:=9) Z4.nd (Zl (Zb (Zg (Zb (Zg (Zb (pv 2) (Zb Ze Za))) (Zb (Zg (Zb (pv 3) (Zb Ze Za))) Za))) (Zb (Zg (Zb (Zg (Zb (pv 2) (Zb Ze Za))) (Zb (Zg (Zb (pv 4) (Zb Ze Za))) Za))) Za)))) ⟨_,rfl,sz (by simp),fun a1 H4 s4 _ f1=>⟨_,rfl,sz (by simp),fun a2 H5 s5 _ f2=>⟨sz (by simp),fun j1 H6 s6 _ f3=>⟨_,rfl,sz (by simp),fun a3 H7 s7 _ f4=>⟨_,rfl,sz (by simp),fun a4 H8 s8 _ f5=>⟨sz (by simp),fun j2 H9 s9 _ f6=>⟨sz (by simp),fun jA H10 s10 _ f7=>?_⟩⟩⟩⟩⟩⟩⟩
   have J1:Wj H10 j1 ((n1, "left"),(n2, "a")):=⟨a1,a2,s10.at (s9.at (s8.at (s7.at f3))),s10.at (s9.at (s8.at (s7.at (s6.at (s5.at f1))))),s10.at (s9.at (s8.at (s7.at (s6.at f2))))⟩
   have J2:Wj H10 j2 ((n1, "right"),(n3, "a")):=⟨a3,a4,s10.at f6,s10.at (s9.at (s8.at f4)),s10.at (s9.at f5)⟩
   have s0A:=s03.trans (s4.trans (s5.trans (s6.trans (s7.trans (s8.trans (s9.trans s10))))))
   have h7:=(s4.trans (s5.trans (s6.trans (s7.trans (s8.trans (s9.trans s10)))))).at h7
   clear s1 s2 s3 s4 s5 s6 s7 s8 s9 s10 f1 f2 f3 f4 f5 f6 e1 e2 e3 s03
   refine WSs.step (Z2 (i:=9) Z4.nd (Zp Zaa (pv 9) (Zl (Zb (Zg (Zb (Zg (Zb (pv 3) (Zb Ze Za))) (Zb (Zg (Zb (pv 5) (Zb (Zv (r:=rIx K) Zk (pv 8) Zf (fun _ _=>rfl)) Za))) Za))) (Zb (Zg (Zb (Zg (Zb (pv 5) (Zb (Zv (r:=rIx K) Zk (pv 8) Zf (fun _ _=>rfl)) Za))) (Zb (Zg (Zb (pv 4) (Zb Ze Za))) Za))) Za))))) ⟨_,rfl,_,rfl,sz (by simp),fun b1 H11 s11 _ f1=>⟨_,rfl,_,rfl,.inl ⟨l7,_,_,.str a,rfl,rfl,SqL.of (s11.at h7),rfl,sz (by simp),fun b2 H12 s12 _ f2=>⟨sz (by simp),fun j3 H13 s13 _ f3=>⟨_,rfl,_,rfl,.inl ⟨l7,_,_,.str b,rfl,rfl,SqL.of (s13.at (s12.at (s11.at h7))),rfl,sz (by simp),fun b3 H14 s14 _ f4=>⟨_,rfl,sz (by simp),fun b4 H15 s15 _ f5=>⟨sz (by simp),fun j4 H16 s16 _ f6=>⟨sz (by simp),fun jB H17 s17 _ f8=>.inr (.inr ⟨jA,jB,_,_,rfl,rfl,(s11.trans (s12.trans (s13.trans (s14.trans (s15.trans (s16.trans s17)))))).at f7,f8,sz (by simp),fun jl H18 s18 _ f9=>?_⟩)⟩⟩⟩⟩⟩⟩⟩⟩⟩
   have sAB:=s11.trans (s12.trans (s13.trans (s14.trans (s15.trans (s16.trans (s17.trans s18))))))
   have J3:Wj H18 j3 ((n2, "b"),(n4,a)):=⟨b1,b2,(s14.trans (s15.trans (s16.trans (s17.trans s18)))).at f3,(s12.trans (s13.trans (s14.trans (s15.trans (s16.trans (s17.trans s18)))))).at f1,(s13.trans (s14.trans (s15.trans (s16.trans (s17.trans s18))))).at f2⟩
   have J4:Wj H18 j4 ((n4,b),(n3, "b")):=⟨b3,b4,(s17.trans s18).at f6,(s15.trans (s16.trans (s17.trans s18))).at f4,(s16.trans (s17.trans s18)).at f5⟩
   have hjl:Yg H18 jl [((n1, "left"),(n2, "a")),((n1, "right"),(n3, "a")),((n2, "b"),(n4,a)),((n4,b),(n3, "b"))]:=⟨[j1,j2,j3,j4],f9,.cons (J1.mono sAB) (.cons (J2.mono sAB) (.cons J3 (.cons J4 .nil)))⟩
   have s0B:=s0A.trans sAB
   clear J1 J2 J3 J4 s11 s12 s13 s14 s15 s16 s17 s18 sAB s0A f1 f2 f3 f4 f5 f6 f7 f8 f9 h7
   refine WSs.step (Z2 (i:=10) Z4.nd (Zl (Zb (Zg (Zb Ze (Zb (pv 2) Za))) (Zb (Zg (Zb Ze (Zb (pv 3) Za))) (Zb (Zg (Zb Ze (Zb (pv 4) Za))) (Zb (Zg (Zb Ze (Zb (pv 5) Za))) Za)))))) ⟨_,rfl,sz (by simp),fun c1 G1 s1 _ f1=>⟨_,rfl,sz (by simp),fun c2 G2 s2 _ f2=>⟨_,rfl,sz (by simp),fun c3 G3 s3 _ f3=>⟨_,rfl,sz (by simp),fun c4 G4 s4 _ f4=>⟨sz (by simp),fun pl G5 s5 _ f5=>?_⟩⟩⟩⟩⟩
   have hpl:Zu G5 pl [("points",n1),("plain",n2),("plain",n3),("points",n4)]:=⟨[c1,c2,c3,c4],f5,.cons (s5.at (s4.at (s3.at (s2.at f1)))) (.cons (s5.at (s4.at (s3.at f2))) (.cons (s5.at (s4.at f3)) (.cons (s5.at f4) .nil)))⟩
   have sG:=s1.trans (s2.trans (s3.trans (s4.trans s5)))
   refine WSs.last (Zq (Zg (Zb (pv 10) (Zb (pv 9) (Zb (Zg (Zb (pv 2) (Zb Ze Za))) (Zb (Zg (Zb (pv 5) (Zb Ze Za))) Za)))))) ⟨_,rfl,_,rfl,_,rfl,sz (by simp),fun ie G6 s6 _ f6=>⟨_,rfl,sz (by simp),fun oe G7 s7 _ f7=>⟨sz (by simp),fun t G8 s8 _ f8=>?_⟩⟩⟩
   have sG8:=s6.trans (s7.trans s8)
   exact q t G8 pl jl ie oe _ _ _ _ (s0B.trans (sG.trans sG8)) f8 (hpl.mono sG8) (hjl.mono (sG.trans sG8)) ((s7.trans s8).at f6) (s8.at f7) (.loop a b hab)
  refine WSs.step (Yj (Zr Zj7 (pv 6) Zf (Z9 _)) Zy Zw) ⟨_,rfl,_,_,rfl,rfl,_,rfl,Yo (fun _=>?_) (fun _=>?_)⟩
  ·refine WSs.step (Z2 (i:=7) Z4.nd (Zl (Zb Ze (Zb Ze (Zb Ze Za))))) ⟨sz (by simp),fun le H1 s1 _ e1=>?_⟩
   refine WSs.step (Z2 (i:=11) Z4.nd (Zp Yr (Zp Ys (pv 0) Zf) Zf)) ⟨_,rfl,_,_,rfl,rfl,⟨by decide,by decide⟩,_,_,rfl,rfl,(by show (0:Int)<3;decide),?_⟩
   obtain ⟨x,r0,r1,hat,hfl,hpm⟩:∃x r0 r1:Str,atI [V.str "stem",.str "left",.str "right"] (2-c / 8%3)=some (.str x)/\(([("stem" :Str), "left", "right"].filter fun e=>decide (e≠x))=[r0,r1])/\[x,r0,r1].Perm ["stem", "left", "right"]:=by
    have h0:=Int.emod_nonneg (c / 8) (show (3:Int)≠0 by decide)
    have h1:=Int.emod_lt_of_pos (c / 8) (show (0:Int)<3 by decide)
    generalize c / 8%3=m at h0 h1
    have:m=0\/m=1\/m=2:=by omega
    rcases this with rfl|rfl|rfl
    ·exact ⟨"right", "stem", "left",rfl,by trivial,by trivial⟩
    ·exact ⟨"left", "stem", "right",rfl,by trivial,by trivial⟩
    ·exact ⟨"stem", "left", "right",rfl,by trivial,by trivial⟩
   refine WSs.step (Z2 (i:=12) Z4.nd (Zv (r:=rIx K) Zk (pv 7) (Zp Zku Zf (pv 11)) (fun _ _=>rfl))) ⟨_,rfl,_,rfl,_,_,rfl,rfl,.inl ⟨le,_,_,.str x,rfl,rfl,SqL.of e1,hat,?_⟩⟩
   refine WSs.step (Z2 (i:=9) Z4.nd (Zl (Zb (Zg (Zb (Zg (Zb (pv 2) (Zb (pv 12) Za))) (Zb (Zg (Zb (pv 3) (Zb Ze Za))) Za))) (Zb (Zg (Zb (Zg (Zb (pv 3) (Zb Ze Za))) (Zb (Zg (Zb (pv 4) (Zb Ze Za))) Za))) Za)))) ⟨_,rfl,_,rfl,sz (by simp),fun a1 H2 s2 _ f1=>⟨_,rfl,sz (by simp),fun a2 H3 s3 _ f2=>⟨sz (by simp),fun j1 H4 s4 _ f3=>⟨_,rfl,sz (by simp),fun a3 H5 s5 _ f4=>⟨_,rfl,sz (by simp),fun a4 H6 s6 _ f5=>⟨sz (by simp),fun j2 H7 s7 _ f6=>⟨sz (by simp),fun jl H8 s8 _ f7=>?_⟩⟩⟩⟩⟩⟩⟩
   have hjl:Yg H8 jl [((n1,x),(n2, "b")),((n2, "a"),(n3, "a"))]:=⟨[j1,j2],f7,.cons ⟨a1,a2,(s5.trans (s6.trans (s7.trans s8))).at f3,(s3.trans (s4.trans (s5.trans (s6.trans (s7.trans s8))))).at f1,(s4.trans (s5.trans (s6.trans (s7.trans s8)))).at f2⟩ (.cons ⟨a3,a4,s8.at f6,(s6.trans (s7.trans s8)).at f4,(s7.trans s8).at f5⟩ .nil)⟩
   have s28:=s2.trans (s3.trans (s4.trans (s5.trans (s6.trans (s7.trans s8)))))
   have s08:=s1.trans s28
   have e1:=s28.at e1
   clear s1 s2 s3 s4 s5 s6 s7 s8 f1 f2 f3 f4 f5 f6 f7 s28
   refine WSs.step (Za8 (i:=13) (N':=["_law_end", "_law_aside"]) Z4.nd rfl (Or.inl rfl) rfl (Yd.std 1 [12] rfl (by trivial) (by trivial) rfl ⟨rfl,trivial⟩ rfl rfl ⟨⟨_,rfl,rfl,rfl⟩,trivial⟩) (Yp (pv 7)) (fun _ _ _ _=>(Zci (i:=0) (by show (["_law_end", "_law_aside"]:List Str).Nodup;decide +kernel))) (fun _ _ _ _=>(Zij (Zr (r:=Ziz K) (Zmh hr) (pv 0) (pv 1) (Z9 _)))) (fun _ _ _ _=>(pv 0))) ⟨_,rfl,le,rfl,⟨_,SqL.of e1⟩,fun lr hlr=>?_⟩
   refine Zvk (xs:=["stem", "left", "right"]) (x:=x) e1 (by decide) hlr (fun H9 s9 e9=>?qq) ?aa ?bb
   case aa=>rfl
   case bb=>rfl
   rw [hfl] at e9
   obtain ⟨kd,hkd,hkm⟩:∃kd:Str,atI [V.str "stop",.str "gate"] (c / 24%2)=some (.str kd)/\kd∈[("stop" :Str), "gate"]:=by
    obtain ⟨w,hw,h | h⟩:=Zla (n:=c / 24) (u:=V.str "stop") (v:=V.str "gate")
    ·exact ⟨"stop",by rw [hw,h.2],by simp⟩
    ·exact ⟨"gate",by rw [hw,h.2],by simp⟩
   refine WSs.step (Z2 (i:=10) Z4.nd (Zl (Zb (Zg (Zb Ze (Zb (pv 2) Za))) (Zb (Zg (Zb Ze (Zb (pv 3) Za))) (Zb (Zg (Zb (Zv (r:=rIx K) Zk (Zl (Zb Ze (Zb Ze Za))) (Zp Yr (Zp Ys (pv 0) Zf) Zf) (fun _ _=>rfl)) (Zb (pv 4) Za))) Za))))) ⟨_,rfl,sz (by simp),fun c1 G1 s1 _ f1=>⟨_,rfl,sz (by simp),fun c2 G2 s2 _ f2=>⟨sz (by simp),fun lk G3 s3 _ f3=>⟨_,rfl,_,_,rfl,rfl,⟨by decide,by decide⟩,_,_,rfl,rfl,(by show (0:Int)<2;decide),.inl ⟨lk,_,_,.str kd,rfl,rfl,SqL.of f3,hkd,_,rfl,sz (by simp),fun c3 G4 s4 _ f4=>⟨sz (by simp),fun pl G5 s5 _ f5=>?_⟩⟩⟩⟩⟩⟩
   have hpl:Zu G5 pl [("points",n1),("plain",n2),(kd,n3)]:=⟨[c1,c2,c3],f5,.cons (s5.at (s4.at (s3.at (s2.at f1)))) (.cons (s5.at (s4.at (s3.at f2))) (.cons (s5.at f4) .nil))⟩
   have sG:=s1.trans (s2.trans (s3.trans (s4.trans s5)))
   obtain ⟨a,b,ha,hb,hab⟩:∃a b:Str,atI [V.str r0,.str r1] (c / 48%2)=some (.str a)/\atI [V.str r0,.str r1] (1-c / 48%2)=some (.str b)/\[x,a,b].Perm ["stem", "left", "right"]:=by
    have h0:=Int.emod_nonneg (c / 48) (show (2:Int)≠0 by decide)
    have h1:=Int.emod_lt_of_pos (c / 48) (show (0:Int)<2 by decide)
    generalize c / 48%2=m at h0 h1
    have:m=0\/m=1:=by omega
    rcases this with rfl|rfl
    ·exact ⟨r0,r1,rfl,rfl,hpm⟩
    ·exact ⟨r1,r0,rfl,rfl,((List.Perm.swap r0 r1 []).cons x).trans hpm⟩
   refine WSs.last (Zq (Zg (Zb (pv 10) (Zb (pv 9) (Zb (Zg (Zb (pv 2) (Zb (Zv (r:=rIx K) Zk (pv 13) (Zp Yr (Zp Ys (pv 0) Zf) Zf) (fun _ _=>rfl)) Za))) (Zb (Zg (Zb (pv 2) (Zb (Zv (r:=rIx K) Zk (pv 13) (Zp Zku Zf (Zp Yr (Zp Ys (pv 0) Zf) Zf)) (fun _ _=>rfl)) Za))) Za)))))) ⟨_,rfl,_,rfl,_,rfl,_,rfl,_,rfl,_,_,rfl,rfl,⟨by decide,by decide⟩,_,_,rfl,rfl,(by show (0:Int)<2;decide),.inl ⟨lr,_,_,.str a,rfl,rfl,SqL.of (sG.at e9),ha,sz (by simp),fun ie G6 s6 _ f6=>?_⟩⟩
   refine ⟨_,rfl,_,rfl,_,rfl,_,_,rfl,rfl,⟨by decide,by decide⟩,_,_,rfl,rfl,(by show (0:Int)<2;decide),_,_,rfl,rfl,.inl ⟨lr,_,_,.str b,rfl,rfl,SqL.of (s6.at (sG.at e9)),hb,sz (by simp),fun oe G7 s7 _ f7=>⟨sz (by simp),fun t G8 s8 _ f8=>?_⟩⟩⟩
   have sG8:=s6.trans (s7.trans s8)
   exact q t G8 pl jl ie oe _ _ _ _ (s08.trans (s9.trans (sG.trans sG8))) f8 (hpl.mono sG8) (hjl.mono (s9.trans (sG.trans sG8))) ((s7.trans s8).at f6) (s8.at f7) (.siding x a b kd hab hkm)
  refine WSs.step (Z2 (i:=9) Z4.nd (Zl (Zb (Zg (Zb (Zg (Zb (pv 2) (Zb Ze Za))) (Zb (Zg (Zb (pv 3) (Zb Ze Za))) Za))) (Zb (Zg (Zb (Zg (Zb (pv 4) (Zb Ze Za))) (Zb (Zg (Zb (pv 2) (Zb Ze Za))) Za))) Za)))) ⟨_,rfl,sz (by simp),fun a1 H2 s2 _ f1=>⟨_,rfl,sz (by simp),fun a2 H3 s3 _ f2=>⟨sz (by simp),fun j1 H4 s4 _ f3=>⟨_,rfl,sz (by simp),fun a3 H5 s5 _ f4=>⟨_,rfl,sz (by simp),fun a4 H6 s6 _ f5=>⟨sz (by simp),fun j2 H7 s7 _ f6=>⟨sz (by simp),fun jl H8 s8 _ f7=>?_⟩⟩⟩⟩⟩⟩⟩
  have hjl:Yg H8 jl [((n1, "c"),(n2, "a")),((n3, "a"),(n1, "d"))]:=⟨[j1,j2],f7,.cons ⟨a1,a2,(s5.trans (s6.trans (s7.trans s8))).at f3,(s3.trans (s4.trans (s5.trans (s6.trans (s7.trans s8))))).at f1,(s4.trans (s5.trans (s6.trans (s7.trans s8)))).at f2⟩ (.cons ⟨a3,a4,s8.at f6,(s6.trans (s7.trans s8)).at f4,(s7.trans s8).at f5⟩ .nil)⟩
  have s08:=s2.trans (s3.trans (s4.trans (s5.trans (s6.trans (s7.trans s8)))))
  clear s2 s3 s4 s5 s6 s7 s8 f1 f2 f3 f4 f5 f6 f7
  obtain ⟨kd,hkd,hkm⟩:∃kd:Str,atI [V.str "gate",.str "stop"] (c / 8%2)=some (.str kd)/\kd∈[("gate" :Str), "stop"]:=by
   obtain ⟨w,hw,h | h⟩:=Zla (n:=c / 8) (u:=V.str "gate") (v:=V.str "stop")
   ·exact ⟨"gate",by rw [hw,h.2],by simp⟩
   ·exact ⟨"stop",by rw [hw,h.2],by simp⟩
  refine WSs.step (Z2 (i:=10) Z4.nd (Zl (Zb (Zg (Zb Ze (Zb (pv 2) Za))) (Zb (Zg (Zb Ze (Zb (pv 3) Za))) (Zb (Zg (Zb (Zv (r:=rIx K) Zk (Zl (Zb Ze (Zb Ze Za))) (Zp Yr (Zp Ys (pv 0) Zf) Zf) (fun _ _=>rfl)) (Zb (pv 4) Za))) Za))))) ⟨_,rfl,sz (by simp),fun c1 G1 s1 _ f1=>⟨_,rfl,sz (by simp),fun c2 G2 s2 _ f2=>⟨sz (by simp),fun lk G3 s3 _ f3=>⟨_,rfl,_,_,rfl,rfl,⟨by decide,by decide⟩,_,_,rfl,rfl,(by show (0:Int)<2;decide),.inl ⟨lk,_,_,.str kd,rfl,rfl,SqL.of f3,hkd,_,rfl,sz (by simp),fun c3 G4 s4 _ f4=>⟨sz (by simp),fun pl G5 s5 _ f5=>?_⟩⟩⟩⟩⟩⟩
  have hpl:Zu G5 pl [("cross",n1),("gate",n2),(kd,n3)]:=⟨[c1,c2,c3],f5,.cons (s5.at (s4.at (s3.at (s2.at f1)))) (.cons (s5.at (s4.at (s3.at f2))) (.cons (s5.at f4) .nil))⟩
  have sG:=s1.trans (s2.trans (s3.trans (s4.trans s5)))
  refine WSs.last (Zq (Zg (Zb (pv 10) (Zb (pv 9) (Zb (Zg (Zb (pv 2) (Zb Ze Za))) (Zb (Zg (Zb (pv 2) (Zb Ze Za))) Za)))))) ⟨_,rfl,_,rfl,_,rfl,sz (by simp),fun ie G6 s6 _ f6=>⟨_,rfl,sz (by simp),fun oe G7 s7 _ f7=>⟨sz (by simp),fun t G8 s8 _ f8=>?_⟩⟩⟩
  have sG8:=s6.trans (s7.trans s8)
  exact q t G8 pl jl ie oe _ _ _ _ (s08.trans (sG.trans sG8)) f8 (hpl.mono sG8) (hjl.mono (sG.trans sG8)) ((s7.trans s8).at f6) (s8.at f7) (.cross kd hkm)
theorem Zkx(T:Tx K mg){k:Nat}(h:1<=k:=by decide):Zz P w K mg base CX0 k T.d__law_block.f T.d__law_block.fd ["_law_cell", "_law_names"] Zpj:=(Zji T).mono h
end
end K23
end
section
namespace K23
open PySem L2 NM YM
section
variable {P:Program} {w:World} {K:Frag} {mg:Str->Option Value} {base:Heap}
seal PySem.wpAny
theorem Zde(xs:List V)(k:Nat):Zft xs (some (k:Int)) none=xs.drop k:=by
 unfold Zft
 rw [HT.sIx_nat,HT.sIx_none]
 by_cases h:k<=xs.length
 ·rw [Nat.min_eq_left h,List.take_of_length_le (by rw [List.length_drop];exact Nat.le_refl _)]
 ·rw [Nat.min_eq_right (by omega),List.drop_length,List.take_nil,List.drop_of_length_le (by omega)]
theorem Zlg(xs:List V)(k:Nat):Zft xs none (some (k:Int))=xs.take k:=by
 unfold Zft
 rw [HT.sIx_nat,HT.sIx_none,List.drop_zero,Nat.sub_zero]
 by_cases h:k<=xs.length
 ·rw [Nat.min_eq_left h]
 ·rw [Nat.min_eq_right (by omega),List.take_length,List.take_of_length_le (by omega)]
theorem Zu.app{H:Hp}{l:Addr}{ts us:List Addr}{ps qs:List Zc}(h1:Paired (Zs H) ts ps)(h2:Paired (Zs H) us qs)(e:H l=some (.lst (ts.map V.ref++us.map V.ref))):Zu H l (ps++qs):=⟨ts++us,by rw [List.map_append];exact e,Paired.append h1 h2⟩
theorem Yg.app{H:Hp}{l:Addr}{ts us:List Addr}{ps qs:List (Zc×Zc)}(h1:Paired (Wj H) ts ps)(h2:Paired (Wj H) us qs)(e:H l=some (.lst (ts.map V.ref++us.map V.ref))):Yg H l (ps++qs):=⟨ts++us,by rw [List.map_append];exact e,Paired.append h1 h2⟩
def Ztt(K:Frag):Sp:=fun vs H Q _=>∃(cl:Addr) (cs:List Int),vs=[.ref cl]/\SqL K H cl (cs.map V.int)/\(∀c∈cs,0<=c) /\
 ∀(t:Addr) (H':Hp) (pl jl:Addr) (ps:List Zc) (js:List (Zc×Zc)),Same H H'->H' t=some (.tup [.ref pl,.ref jl])->Zu H' pl ps->Yg H' jl js->H pl=none->H jl=none->Net ps js []->ps.length<=38->(∀p∈ps,p=((("gate" :Str),("g" :Str)):Zc)\/p=((("gate" :Str),("h" :Str)):Zc)\/Zlc p.2 36)->Q (.ref t) H'
theorem Zlk(T:Tx K mg):Zz P w K mg base CX0 2 T.d__law_line.f T.d__law_line.fd ["_law_cells_here"] (Ztt K):=by
 refine T.d__law_line.F.okW Yu fun cdv A outer s H vs Q E hr h=>?_
 ·obtain ⟨cl,cs,rfl,hcl,hcs,q⟩:=h
  refine WSs.step (Z2 (i:=1) Yu.nd (Zl (Zb (Zg (Zb Ze (Zb Ze Za))) Za))) ⟨sz (by simp),fun t1 H1 s1 _ e1=>⟨sz (by simp),fun pl0 H2 s2 n2 e2=>?_⟩⟩
  refine WSs.step (Z2 (i:=2) Yu.nd (Zl Za)) ⟨sz (by simp),fun jl0 H3 s3 n3 e3=>?_⟩
  refine WSs.step (Z2 (i:=3) Yu.nd (Zg (Zb Ze (Zb Ze Za)))) ⟨sz (by simp),fun e0 H4 s4 n4 e4=>?_⟩
  have s04:=s1.trans (s2.trans (s3.trans s4))
  have hp0:Zu H4 pl0 [("gate", "g")]:=⟨[t1],s4.at (s3.at e2),.cons (s4.at (s3.at (s2.at e1))) .nil⟩
  have hj0:Yg H4 jl0 []:=⟨[],s4.at e3,.nil⟩
  have f0:H pl0=none:=s1.free n2
  have f1:H jl0=none:=s1.free (s2.free n3)
  clear s1 s2 s3 s4 n2 n3 n4 e1 e2 e3
  refine WSs.step (Xu PassesOwn.never rfl (Zg7 rfl T.n_enumerate (Zb (Zax (r:=Zjn K) Zlp (pv 0) Zb0 (Zbg Zf)) Za)) (Zbt rfl (Z7 (Yw (i:=4) Yu.nd) (Z7 (Yw (i:=5) Yu.nd) X3))) Zy) ⟨_,rfl,_,rfl,.inr (.inl ⟨cl,_,rfl,s04.seq hcl,fun c9 H5 s5 n5 e5=>⟨c9,rfl,⟨_,SqL.of e5⟩,?_⟩⟩)⟩
  rw [show (some (9:Int))=some ((9:Nat):Int) from rfl,Zlg,<-List.map_take] at e5
  have s05:=s04.trans s5
  let I1:=fun (i:Nat) (σ:St) (H':Hp)=>Same H5 H'/\∃pl jl e o4 o5 o6 o7 ps js cur,σ=[some (.ref cl),some (.ref pl),some (.ref jl),some (.ref e),o4,o5,o6,o7]/\Zu H' pl ps/\Yg H' jl js/\Zs H' e cur/\Zc4 i ps js cur/\H pl=none/\H jl=none
  refine Zfc (xs:=(cs.take 9).map V.int) I1
   ⟨Same.refl _,pl0,jl0,e0,none,none,none,none,_,_,_,rfl,hp0.mono s5,hj0.mono s5,s5.at e4,Zc4.start,f0,f1⟩ ?_ ?_ ?_
  ·rintro i σ H' _ ⟨sm,_⟩
   exact SqL.of (sm.at e5)
  ·rintro i v σ H6 hi ⟨s6,pl,jl,e,o4,o5,o6,o7,ps,js,cur,rfl,hpl,hjl,hpe,hok,fp,fj⟩ tp H7 s7 n7 e7
   rw [List.getElem?_map] at hi
   obtain ⟨c,hc,rfl⟩:=Option.map_eq_some_iff.mp hi
   have hi9:i<9:=by
    have:=(List.getElem?_eq_some_iff.mp hc).1
    rw [List.length_take] at this
    omega
   have hc0:0<=c:=hcs c (List.mem_of_mem_take (List.mem_of_getElem? hc))
   refine ⟨tp,_,rfl,SqT.of e7,rfl,_,_,rfl,_,_,rfl,rfl,?_⟩
   have s07:=s6.trans s7
   have hpl:=hpl.mono s7
   have hjl:=hjl.mono s7
   have hpe:=hpe.mono s7
   obtain ⟨nm,hnm⟩:∃nm:Nat->Str,nm=fun j=>Ym ((["p", "q", "r", "t"]:List Str).getD j "p") (c / 96+5 * (j:Int)) (4 * i+j):=⟨_,rfl⟩
   refine WSs.step (Za8 (i:=6) (N':=["_law_j", "_law_cell", "_law_k"]) Yu.nd rfl (Or.inl rfl) rfl (Yd.std 1 [5,4] rfl (by trivial) (by trivial) rfl ⟨rfl,rfl,trivial⟩ rfl rfl ⟨⟨_,rfl,rfl,rfl⟩,⟨_,rfl,rfl,rfl⟩,trivial⟩) (Zki rfl T.n_range (Zb Zf Za)) (fun _ _ _ _=>(Zci (i:=0) (by show (["_law_j", "_law_cell", "_law_k"]:List Str).Nodup;decide +kernel))) (fun _ _ _ _=>Za2) (fun _ _ _ _=>(Zx (Zdj T) hr rfl T.m__law_name_by T.d__law_name_by.F.kp T.d__law_name_by.b .nil Z6 (Zb (Zv (r:=rIx K) Zk (Zl (Zb Ze (Zb Ze (Zb Ze (Zb Ze Za))))) (pv 0) (fun _ _=>rfl)) (Zb (Zp Zaa (Zp Ys (pv 1) Zf) (Zp Zfh Zf (pv 0))) (Zb (Zp Zaa (Zp Zfh Zf (pv 2)) (pv 0)) Za)))))) ⟨_,rfl,by decide,by decide,fun D hD=>Zd7 (lo:=0) (n:=4) (fun j ys H'=>ys=((List.range j).map nm).map V.str/\H' D=some (.lst ys)/\Same H7 H') ⟨rfl,Zh,Same.new hD⟩ ?_ ?_⟩
   ·rintro j ys H8 hj ⟨rfl,hD8,s8⟩
    unfold Zcu
    obtain ⟨kd,hkd⟩:∃kd,kd=(["p", "q", "r", "t"]:List Str).getD j "p" :=⟨_,rfl⟩
    have hj4:j=0\/j=1\/j=2\/j=3:=by omega
    have hat:atI [V.str "p",.str "q",.str "r",.str "t"] ((0:Int)+(j:Int))=some (.str kd):=by
     rw [hkd]
     rcases hj4 with rfl|rfl|rfl|rfl <;>rfl
    have hkl:kd.length=1:=by
     rw [hkd]
     rcases hj4 with rfl|rfl|rfl|rfl <;>decide +kernel
    refine ⟨Zaq.set rfl,sz (by simp),fun lq H9 s9 n9 e9=>⟨_,rfl,.inl ⟨lq,_,_,.str kd,rfl,rfl,SqL.of e9,hat,_,rfl,_,_,rfl,rfl,⟨by decide,by decide⟩,_,rfl,_,_,rfl,rfl,.inl ⟨by decide,by decide⟩,.inl ⟨_,_,rfl,rfl,_,rfl,_,_,rfl,rfl,.inl ⟨by decide,by decide⟩,_,rfl,.inl ⟨_,_,rfl,rfl,kd,c / 96+5 * (j:Int),4 * i+j,?_,by omega,by omega,?_,by omega,s9.at hD8,?_,?_,Zh,fun b o z=>?_⟩⟩⟩⟩⟩
    ·show [V.str kd,V.int (c / 96+5 * (0+(j:Int))),V.int (4 * (i:Int)+(0+(j:Int)))]=_
     rw [show (0:Int)+(j:Int)=j by omega,show 4 * (i:Int)+(j:Int)=((4 * i+j:Nat):Int) by omega]
    ·have:=Int.ediv_nonneg hc0 (show (0:Int)<=96 by decide)
     omega
    ·rw [List.length_map,List.length_map,List.length_range];exact Z1 (by omega)
    ·rw [List.range_succ,List.map_append,List.map_append,hnm,hkd]
     rfl
    ·rw [Zi (Zj z hD)];exact s9.at (s8.at z)
   ·rintro ys H8 ⟨rfl,hD8,s8⟩
    have hpl:=hpl.mono s8
    have hjl:=hjl.mono s8
    have hpe:=hpe.mono s8
    refine WSs.step (Z2 (i:=7) Yu.nd (Zx (Zkx T) hr rfl T.m__law_block T.d__law_block.F.kp T.d__law_block.b .nil Z6 (Zb (pv 5) (Zb (pv 6) Za)))) ⟨_,rfl,_,rfl,c,D,nm 0,nm 1,nm 2,nm 3,rfl,hD8,fun t H9 bp bj ie oe qs ks a b s9 e9 hbp hbj hie hoe B=>?_⟩
    subst hnm
    have hok':=hok.more (by omega) (by trivial) (by trivial) (by trivial) (by trivial) B
    obtain ⟨ts,ht,hts⟩:=hpl.mono s9
    obtain ⟨us,hu,hus⟩:=hbp
    obtain ⟨js1,hj1,hjs1⟩:=hjl.mono s9
    obtain ⟨js2,hj2,hjs2⟩:=hbj
    have lp:=hok.pl
    have lj:=hok.jl
    have lb:=B.len
    have c1:=Paired.length hts
    have c2:=Paired.length hus
    have c3:=Paired.length hjs1
    have c4:=Paired.length hjs2
    refine WSs.step (Z2 (i:=1) Yu.nd (Zp Zaa (pv 1) (Zv (r:=rIx K) Zk (pv 7) Zf (fun _ _=>rfl)))) ⟨_,rfl,_,rfl,.inr (.inl ⟨t,_,_,.ref bp,rfl,rfl,SqT.of e9,rfl,.inr (.inr ⟨pl,bp,_,_,rfl,rfl,ht,hu,?_,fun pl' H10 s10 n10 e10=>?_⟩)⟩)⟩
    ·rw [List.length_map,List.length_map];exact sz (by omega)
    refine WSs.step (Z2 (i:=2) Yu.nd (Zp Zaa (Zp Zaa (pv 2) (Zv (r:=rIx K) Zk (pv 7) Zf (fun _ _=>rfl))) (Zl (Zb (Zg (Zb (pv 3) (Zb (Zv (r:=rIx K) Zk (pv 7) Zf (fun _ _=>rfl)) Za))) Za)))) ⟨_,rfl,_,rfl,.inr (.inl ⟨t,_,_,.ref bj,rfl,rfl,SqT.of (s10.at e9),rfl,.inr (.inr ⟨jl,bj,_,_,rfl,rfl,s10.at hj1,s10.at hj2,?_,fun jm H11 s11 n11 e11=>⟨_,rfl,_,rfl,.inr (.inl ⟨t,_,_,.ref ie,rfl,rfl,SqT.of (s11.at (s10.at e9)),rfl,sz (by simp),fun tj H12 s12 n12 e12=>⟨sz (by simp),fun l2 H13 s13 n13 e13=>.inr (.inr ⟨jm,l2,_,_,rfl,rfl,(s12.trans s13).at e11,e13,?_,fun jl' H14 s14 n14 e14=>?_⟩)⟩⟩)⟩⟩)⟩)⟩
    ·rw [List.length_map,List.length_map];exact sz (by omega)
    ·rw [List.length_append,List.length_map,List.length_map];exact sz (by simp;omega)
    have s104:=s11.trans (s12.trans (s13.trans s14))
    have s94:=s10.trans s104
    refine WSs.last (Z2 (i:=3) Yu.nd (Zv (r:=rIx K) Zk (pv 7) Zf (fun _ _=>rfl))) ⟨_,rfl,.inr (.inl ⟨t,_,_,.ref oe,rfl,rfl,SqT.of (s94.at e9),rfl,s07.trans (s8.trans (s9.trans s94)),pl',jl',oe,_,_,_,_,_,_,_,rfl,?_,?_,hoe.mono s94,hok',?_,?_⟩)⟩
    ·exact Zu.app (ts:=ts) (us:=us) (Paired.mapP hts fun _ _ r=>r.mono s94) (Paired.mapP hus fun _ _ r=>r.mono s94) (s104.at e10)
    ·have hall:Paired (Wj H14) (js1++js2) (js++ks):=Paired.append (Paired.mapP hjs1 fun _ _ r=>r.mono s94) (Paired.mapP hjs2 fun _ _ r=>r.mono s94)
     refine Yg.app (ts:=js1++js2) (us:=[tj]) hall (.cons ⟨e,ie,(s13.trans s14).at e12,(hpe.mono s9).mono s94,hie.mono s94⟩ .nil) ?_
     rw [List.map_append]
     exact e14
    ·exact s05.free (s07.free (s8.free (s9.free n10)))
    ·exact s05.free (s07.free (s8.free (s9.free ((s10.trans (s11.trans (s12.trans s13))).free n14))))
  ·rintro σ H6 ⟨s6,pl,jl,e,o4,o5,o6,o7,ps,js,cur,rfl,hpl,hjl,hpe,hok,fp,fj⟩
   rw [List.length_map,List.length_take] at hok
   have hm:min 9 cs.length<=9:=Nat.min_le_left ..
   have hdone:=hok.done (by omega)
   obtain ⟨ts,ht,hts⟩:=hpl
   obtain ⟨js1,hj1,hjs1⟩:=hjl
   have lp:=hok.pl
   have lj:=hok.jl
   have c1:=Paired.length hts
   have c3:=Paired.length hjs1
   refine WSs.last (Zq (Zg (Zb (Zp Zaa (pv 1) (Zl (Zb (Zg (Zb Ze (Zb Ze Za))) Za))) (Zb (Zp Zaa (pv 2) (Zl (Zb (Zg (Zb (pv 3) (Zb (Zg (Zb Ze (Zb Ze Za))) Za))) Za))) Za)))) ⟨_,rfl,sz (by simp),fun t1 H7 s7 _ e7=>⟨sz (by simp),fun l1 H8 s8 _ e8=>.inr (.inr ⟨pl,l1,_,_,rfl,rfl,s8.at (s7.at ht),e8,?_,fun pl' H9 s9 n9 e9=>⟨_,rfl,_,rfl,sz (by simp),fun t2 H10 s10 _ e10=>⟨sz (by simp),fun t3 H11 s11 _ e11=>⟨sz (by simp),fun l2 H12 s12 _ e12=>.inr (.inr ⟨jl,l2,_,_,rfl,rfl,(s7.trans (s8.trans (s9.trans (s10.trans (s11.trans s12))))).at hj1,e12,?_,fun jl' H13 s13 n13 e13=>⟨sz (by simp),fun t H14 s14 _ e14=>?_⟩⟩)⟩⟩⟩⟩)⟩⟩
   ·rw [List.length_map];exact sz (by simp;omega)
   ·rw [List.length_map];exact sz (by simp;omega)
   have s612:=s7.trans (s8.trans (s9.trans (s10.trans (s11.trans s12))))
   have s614:=s612.trans (s13.trans s14)
   have s914:=s10.trans (s11.trans (s12.trans (s13.trans s14)))
   refine q t H14 pl' jl' _ _ (s05.trans (s6.trans s614)) e14 ?_ ?_ (s05.free (s6.free (s7.free (s8.free n9)))) (s05.free (s6.free (s612.free n13))) hdone ?_ ?_
   ·exact Zu.app (ts:=ts) (us:=[t1]) (Paired.mapP hts fun _ _ r=>r.mono s614) (.cons ((s8.trans (s9.trans s914)).at e7) .nil) (s914.at e9)
   ·exact Yg.app (ts:=js1) (us:=[t3]) (Paired.mapP hjs1 fun _ _ r=>r.mono s614) (.cons ⟨e,t2,(s12.trans (s13.trans s14)).at e11,hpe.mono s614,(s11.trans (s12.trans (s13.trans s14))).at e10⟩ .nil) (s14.at e13)
   ·rw [List.length_append];simp;omega
   ·intro p hp
    rcases List.mem_append.mp hp with z|z
    ·rcases hok.nm p z with y|⟨kd,c,k,h1,h2,h3⟩
     ·exact .inl y
     ·exact .inr (.inr ⟨kd,c,k,h1,by omega,h3⟩)
    ·simp at z
     subst z
     exact .inr (.inl rfl)
theorem Znd(T:Tx K mg){k:Nat}(h:2<=k:=by decide):Zz P w K mg base CX0 k T.d__law_line.f T.d__law_line.fd ["_law_cells_here"] (Ztt K):=(Zlk T).mono h
def Zps(K:Frag):Sp:=fun vs H Q _=>∃(a:Addr) (ns:List Int) (i j:Nat),vs=[.ref a,.int i,.int j]/\SqL K H a (ns.map V.int)/\ns.length<=63/\i<=1000/\j<=1000 /\
 ∀(p:Addr) (H':Hp) (cs:List Int),Same H H'->H p=none->H' p=some (.lst (cs.map V.int))->(∀c∈cs,0<=c/\c<2147483629)->cs.length<=63->Q (.ref p) H'
theorem Zi5(T:Tx K mg):Zz P w K mg base CX0 2 T.d__law_cells.f T.d__law_cells.fd ["_law_script", "_law_at", "_law_end"] (Zps K):=by
 refine T.d__law_cells.F.okW Zi0 fun cdv A outer s H vs Q E hr h=>?_
 ·obtain ⟨a,ns,i,j,rfl,hS,hn,hi,hj,q⟩:=h
  have hmin:(if ((ns.map V.int).length:Int)<(j:Int) then ((ns.map V.int).length:Int) else (j:Int))=((min j ns.length:Nat):Int):=by
   rw [List.length_map]
   split <;>omega
  refine WSs.last (Zq (Wr (N':=["_law_k", "_law_script"]) rfl (Yd.std 1 [0] rfl (by trivial) (by trivial) rfl ⟨rfl,trivial⟩ rfl rfl ⟨⟨_,rfl,rfl,rfl⟩,trivial⟩) (Zj6 rfl T.n_range (Zb (pv 1) (Zb (Yb (Zqw rfl) (by rfl) T.n_min PyProof.Rows.boot_min (Zb (pv 2) (Zb (Yb (r:=Za5 K) Zbo (by rfl) T.n_len PySem.boot_len (Zb (pv 0) Za)) Za))) Za))) (fun _ _ _ _=>(Zci (i:=0) (by show (["_law_k", "_law_script"]:List Str).Nodup;decide +kernel))) (fun _ _ _ _=>Za2) (fun _ _ _ _=>(Zx (Zb1 T) hr rfl T.m__law_mixed T.d__law_mixed.F.kp T.d__law_mixed.b .nil Z6 (Zb (Zv (r:=rIx K) Zk (pv 1) (pv 0) (fun _ _=>rfl)) (Zb (pv 0) Za)))))) ⟨_,rfl,_,rfl,_,rfl,.inl ⟨a,_,rfl,.inl hS,_,_,rfl,_,_,rfl,?_,fun D hD=>?_⟩⟩
  ·rw [hmin];omega
  rw [hmin]
  obtain ⟨m,hm⟩:∃m:Nat,(((min j ns.length:Nat):Int)-(i:Int)).toNat=m:=⟨_,rfl⟩
  rw [hm]
  refine Zd7 (lo:=(i:Int)) (n:=m) (fun k ys H'=>(∃cs:List Int,ys=cs.map V.int/\cs.length=k/\∀c∈cs,0<=c/\c<2147483629)/\H' D=some (.lst ys)/\Same H H') ⟨⟨[],rfl,rfl,by simp⟩,Zh,Same.new hD⟩ ?_ ?_
  ·rintro k ys H2 hk ⟨⟨cs,rfl,hcl,hcs⟩,hD2,s2⟩
   unfold Zcu
   have hlt:i+k<ns.length:=by omega
   refine ⟨Zaq.set rfl,_,rfl,_,rfl,.inl ⟨a,_,_,.int (ns.getD (i+k) 0),rfl,rfl,s2.seq hS,?_,_,rfl,_,_,rfl,hD2,?_,⟨cs++[Zd4 (ns.getD (i+k) 0) ((i:Int)+(k:Int))],?_,?_,?_⟩,Zh,fun b o e=>?_⟩⟩
   ·rw [show (i:Int)+(k:Int)=((i+k:Nat):Int) by omega]
    refine Zt ?_
    rw [List.getElem?_map,List.getElem?_eq_getElem hlt,List.getD_eq_getElem?_getD,List.getElem?_eq_getElem hlt]
    rfl
   ·rw [List.length_map];exact Z1 (by omega)
   ·rw [List.map_append];rfl
   ·rw [List.length_append];simp;exact hcl
   ·intro c hc
    rcases List.mem_append.mp hc with z|z
    ·exact hcs c z
    ·simp at z
     rw [z]
     exact ⟨Zst _ _,Zrv _ _⟩
   ·rw [Zi (Zj e hD)];exact s2.at e
  ·rintro ys H2 ⟨⟨cs,rfl,hcl,hcs⟩,hD2,s2⟩
   exact q D H2 cs s2 hD hD2 hcs (by omega)
theorem Zk8(T:Tx K mg){k:Nat}(h:2<=k:=by decide):Zz P w K mg base CX0 k T.d__law_cells.f T.d__law_cells.fd ["_law_script", "_law_at", "_law_end"] (Zps K):=(Zi5 T).mono h
theorem W0{H:Hp}{c:Addr}{o:HO}{xs:List V}{ts:List Addr}{ps:List Zc}(h:Paired (Zs H) ts ps)(hc:H c=some (.lst xs)):Paired (Zs (upd H c o)) ts ps :=
 Paired.mapP h fun t q r=>by
  unfold Zs at r ⊢
  rw [Zi fun z=>by rw [z,hc] at r;cases r]
  exact r
theorem Wj.off{H:Hp}{c t:Addr}{o:HO}{xs:List V}{j:Zc×Zc}(h:Wj H t j)(hc:H c=some (.lst xs)):Wj (upd H c o) t j:=by
 obtain ⟨a,b,h1,h2,h3⟩:=h
 unfold Zs at h2 h3
 have ne:∀{t:Addr} {ys:List V},H t=some (.tup ys)->t≠c:=fun h z=>by rw [z,hc] at h;cases h
 exact ⟨a,b,by rw [Zi (ne h1)];exact h1,by unfold Zs;rw [Zi (ne h2)];exact h2,by unfold Zs;rw [Zi (ne h3)];exact h3⟩
theorem Zbd{H:Hp}{c:Addr}{o:HO}{xs:List V}{ts:List Addr}{js:List (Zc×Zc)}(h:Paired (Wj H) ts js)(hc:H c=some (.lst xs)):Paired (Wj (upd H c o)) ts js:=Paired.mapP h fun _ _ r=>r.off hc
def Znb:Sp:=fun vs H Q _=>∃(pl jl rl:Addr) (c:Int) (ps:List Zc) (js:List (Zc×Zc)) (Z0:List Zc),vs=[.ref pl,.ref jl,.ref rl,.int c]/\Zu H pl ps/\Yg H jl js/\Zu H rl Z0/\pl≠jl/\rl≠pl/\rl≠jl/\ps.length<=100/\js.length<=200/\Z0.length<=90 /\
 ∀(H':Hp) (nps:List Zc) (njs:List (Zc×Zc)),(∀b o,b≠pl->b≠jl->H b=some o->H' b=some o)->Zu H' pl (ps++nps)->Yg H' jl (js++njs)->Zea Z0 Z0.length nps njs->Q .non H'
theorem Zh1(T:Tx K mg):Zz P w K mg base CX0 2 T.d__law_closed.f T.d__law_closed.fd ["_law_parts", "_law_joins", "_law_rest", "_law_cell"] Znb:=by
 refine T.d__law_closed.F.okW Zas fun cdv A outer s H vs Q E hr h=>?_
 ·obtain ⟨pl,jl,rl,c,ps,js,Z0,rfl,hpl,hjl,⟨rs,hrl,hrs⟩,n1,n2,n3,lp,lj,lr,q⟩:=h
  have lrs:=Paired.length hrs
  let I2:=fun (i:Nat) (σ:St) (H':Hp)=>(∃o4 o5 o6,σ=[some (.ref pl),some (.ref jl),some (.ref rl),some (.int c),o4,o5,o6])/\(∀b o,b≠pl->b≠jl->H b=some o->H' b=some o)/\∃nps njs,Zu H' pl (ps++nps)/\Yg H' jl (js++njs)/\Zea Z0 i nps njs
  refine WSs.last (Xu PassesOwn.never rfl (Zg7 rfl T.n_enumerate (Zb (pv 2) Za)) (Zbt rfl (Z7 (Yw (i:=4) Zas.nd) (Z7 (Yw (i:=5) Zas.nd) X3))) Zy) ⟨_,rfl,rl,rfl,⟨_,SqL.of hrl⟩,Zfc (xs:=rs.map V.ref) I2
   ⟨⟨none,none,none,rfl⟩,fun _ _ _ _ z=>z,[],[],by rw [List.append_nil];exact hpl,by rw [List.append_nil];exact hjl,[],rfl,by simp,rfl,rfl⟩ ?_ ?_ ?_⟩
  ·rintro i σ H' _ ⟨_,km,_⟩
   exact SqL.of (km _ _ n2 n3 hrl)
  ·rintro i v σ H2 hi ⟨⟨o4,o5,o6,rfl⟩,km,nps,njs,⟨ts,ht,hts⟩,⟨us,hu,hus⟩,hcl⟩ tp H3 s3 n3' e3
   rw [List.getElem?_map] at hi
   obtain ⟨te,hte,rfl⟩:=Option.map_eq_some_iff.mp hi
   obtain ⟨y,hy,hye⟩:=Paired.get hrs hte
   have hil:i<rs.length:=(List.getElem?_eq_some_iff.mp hte).1
   obtain ⟨ks,hkl,hks,hnp,hnj⟩:=id hcl
   have c1:=Paired.length hts
   have c2:=Paired.length hus
   rw [List.length_append,hnp,List.length_map,List.length_range] at c1
   rw [List.length_append,hnj,List.length_map,List.length_range] at c2
   have hye2:Zs H2 te y:=by
    unfold Zs at hye ⊢
    refine km _ _ (fun z=>?_) (fun z=>?_) hye
    ·obtain ⟨_,h1,_⟩:=hpl;rw [z,h1] at hye;cases hye
    ·obtain ⟨_,h1,_⟩:=hjl;rw [z,h1] at hye;cases hye
   refine ⟨tp,_,rfl,SqT.of e3,rfl,_,_,rfl,_,_,rfl,rfl,?_⟩
   have fl:=Zer i (by omega)
   refine WSs.step (Z2 (i:=6) Zas.nd (Zp Zaa Ze (Zb7 Zav (by rfl) T.n_str PyProof.Rows.boot_str (Zb (pv 4) Za)))) ⟨_,rfl,(i:Int),rfl,Zlv (by omega),.inr (.inl ⟨_,_,rfl,rfl,sz (by show 1+(Zdy i).length<=1000;omega),?_⟩)⟩
   obtain ⟨kd,hkd,hkm⟩:∃kd:Str,atI [V.str "gate",.str "stop",.str "gate"] (Zd4 c (i:Int)%3)=some (.str kd)/\(kd = "gate" \/kd = "stop"):=by
    have h0:=Int.emod_nonneg (Zd4 c (i:Int)) (show (3:Int)≠0 by decide)
    have h1:=Int.emod_lt_of_pos (Zd4 c (i:Int)) (show (0:Int)<3 by decide)
    generalize Zd4 c (i:Int)%3=m at h0 h1
    have:m=0\/m=1\/m=2:=by omega
    rcases this with rfl|rfl|rfl
    ·exact ⟨"gate",rfl,.inl rfl⟩
    ·exact ⟨"stop",rfl,.inr rfl⟩
    ·exact ⟨"gate",rfl,.inl rfl⟩
   refine WSs.step (Xm (Zcx PySem.F.plainAttrs_list PySem.F.slot_list_append PySem.F.type_list_append Y9 (pv 0) (Zb (Zg (Zb (Zv (r:=rIx K) Zk (Zl (Zb Ze (Zb Ze (Zb Ze Za)))) (Zp Yr (Zx (Zb1 T) hr rfl T.m__law_mixed T.d__law_mixed.F.kp T.d__law_mixed.b .nil Z6 (Zb (pv 3) (Zb (pv 4) Za))) Zf) (fun _ _=>rfl)) (Zb (pv 6) Za))) Za))) ⟨_,rfl,.inl ⟨rfl,_,SqL.of (s3.at ht)⟩,sz (by simp),fun lk H4 s4 n4 e4=>⟨_,rfl,_,rfl,c,(i:Int),rfl,_,_,rfl,rfl,(by show (0:Int)<3;decide),.inl ⟨lk,_,_,.str kd,rfl,rfl,SqL.of e4,hkd,_,rfl,sz (by simp),fun t5 H5 s5 n5 e5=>⟨pl,_,_,rfl,rfl,s5.at (s4.at (s3.at ht)),?_,?_⟩⟩⟩⟩
   ·rw [List.length_map];exact Z1 (by omega)
   have s25:=s3.trans (s4.trans s5)
   have hpl5:=s25.at ht
   have hts5:Paired (Zs H5) ts (ps++nps):=Paired.mapP hts fun _ _ r=>r.mono s25
   have hus5:Paired (Wj H5) us (js++njs):=Paired.mapP hus fun _ _ r=>r.mono s25
   have p6:Paired (Zs (upd H5 pl (.lst (ts.map V.ref++[.ref t5])))) (ts++[t5]) ((ps++nps)++[(kd,W7 i)]):=W0 (Paired.append hts5 (.cons e5 .nil)) hpl5
   have j6:=Zbd (o:=.lst (ts.map V.ref++[.ref t5])) hus5 hpl5
   have hu6:upd H5 pl (.lst (ts.map V.ref++[.ref t5])) jl=some (.lst (us.map V.ref)):=(Zi (Ne.symm n1)).trans (s25.at hu)
   have k6:∀b o,b≠pl->b≠jl->H b=some o->upd H5 pl (.lst (ts.map V.ref++[.ref t5])) b=some o:=fun b o b1 b2 z=>(Zi b1).trans (s25.at (km b o b1 b2 z))
   have y6:Zs (upd H5 pl (.lst (ts.map V.ref++[.ref t5]))) te y:=by
    have z:=hye2.mono s25
    unfold Zs at z ⊢
    exact (Zi fun w=>by rw [w,hpl5] at z;cases z).trans z
   have e6:upd H5 pl (.lst (ts.map V.ref++[.ref t5])) pl=some (.lst ((ts++[t5]).map V.ref)):=by rw [Zh,List.map_append];rfl
   generalize (upd H5 pl (.lst (ts.map V.ref++[.ref t5])))=H6 at p6 j6 hu6 k6 y6 e6
   refine WSs.last (Xm (Zcx PySem.F.plainAttrs_list PySem.F.slot_list_append PySem.F.type_list_append Y9 (pv 1) (Zb (Zg (Zb (pv 5) (Zb (Zg (Zb (pv 6) (Zb Ze Za))) Za))) Za))) ⟨_,rfl,.inl ⟨rfl,_,SqL.of hu6⟩,_,rfl,_,rfl,sz (by simp),fun t7 H7 s7 n7 e7=>⟨sz (by simp),fun t8 H8 s8 n8 e8=>⟨jl,_,_,rfl,rfl,s8.at (s7.at hu6),?_,⟨_,_,_,rfl⟩,fun b o b1 b2 z=>?_,nps++[(kd,W7 i)],njs++[(y,(W7 i,("a" :Str)))],⟨ts++[t5],?_,?_⟩,⟨us++[t8],?_,?_⟩,hcl.more hkm hy⟩⟩⟩
   ·rw [List.length_map];exact Z1 (by omega)
   ·exact (Zi b2).trans (s8.at (s7.at (k6 b o b1 b2 z)))
   ·exact (Zi n1).trans (s8.at (s7.at e6))
   ·rw [<-List.append_assoc]
    exact W0 (Paired.mapP p6 fun _ _ r=>r.mono (s7.trans s8)) (s8.at (s7.at hu6))
   ·rw [Zh,List.map_append];rfl
   ·rw [<-List.append_assoc]
    exact Zbd (Paired.append (Paired.mapP j6 fun _ _ r=>r.mono (s7.trans s8)) (.cons ⟨te,t7,e8,y6.mono (s7.trans s8),s8.at e7⟩ .nil)) (s8.at (s7.at hu6))
  ·rintro σ H2 ⟨⟨o4,o5,o6,rfl⟩,km,nps,njs,h1,h2,hcl⟩
   rw [List.length_map,lrs] at hcl
   exact q H2 nps njs km h1 h2 hcl
theorem Zjb(T:Tx K mg){k:Nat}(h:2<=k:=by decide):Zz P w K mg base CX0 k T.d__law_closed.f T.d__law_closed.fd ["_law_parts", "_law_joins", "_law_rest", "_law_cell"] Znb:=(Zh1 T).mono h
def trP(q:Zc):Tr:=.tup [.str q.1,.str q.2]
theorem Zl8{H:Hp}{ts:List Addr}{ps:List Zc}(h:Paired (Zs H) ts ps):Paired (Im K H 1) (ps.map trP) (ts.map V.ref):=by
 induction h with
 | nil=>exact .nil
 | cons r _ ih=>exact .cons (Im.tup (SqT.of r) (.cons (.str _) (.cons (.str _) .nil))) ih
theorem Zu.im{H:Hp}{l:Addr}{ps:List Zc}(h:Zu H l ps):Im K H 2 (.lst (ps.map trP)) (.ref l):=let ⟨_,h1,h2⟩:=h;Im.lst (SqL.of h1) (Zl8 h2)
theorem Zim{l D:Addr}{xs:List Str}{x:Str}{H1:Hp}{Q:VK}{σ:St}(hl:H1 l=some (.lst (xs.map V.str)))(hn:xs.length<=100)(hD:H1 D=none)(q:∀H',Same H1 H'->Zu H' D (xs.map fun e=>(x,e))->Q (.ref D) H'){fr:St->St}(hfr:fr σ=[none,some (.str x)]){te:TE}(hte:te=Zrr (Zkg (Zjc 1) (Zkg (Zjc 0) Zur))) :
  Zda (Itl K l) fr (Zc9 0) Zvu te Q σ H1 D:=by
 refine Xw (xs:=xs.map V.str) (fun i ys H'=>(∃ts:List Addr,ys=ts.map V.ref/\Paired (Zs H') ts ((xs.take i).map fun e=>(x,e)))/\H' D=some (.lst ys)/\Same H1 H') ⟨⟨[],rfl,.nil⟩,Zh,Same.new hD⟩ ?_ ?_ ?_
 ·rintro i ys H' _ ⟨_,_,sm⟩
  exact SqL.of (sm.at hl)
 ·rintro k v ys H' hk ⟨⟨ts,rfl,hts⟩,hD',sm⟩
  rw [List.getElem?_map] at hk
  obtain ⟨y,hy,rfl⟩:=Option.map_eq_some_iff.mp hk
  unfold Zcu
  rw [hfr,hte]
  have hlen:ts.length<=100:=by
   have:=Paired.length hts
   rw [List.length_map,List.length_take] at this
   omega
  refine ⟨Zaq.set rfl,_,rfl,_,rfl,sz (by simp),fun t H2 s2 n2 e2=>⟨s2.at hD',by rw [List.length_map];exact Z1 (by omega),⟨ts++[t],by rw [List.map_append];rfl,?_⟩,Zh,fun b o e=>?_⟩⟩
  ·rw [List.take_add_one,hy,List.map_append]
   exact W0 (Paired.append (Paired.mapP hts fun _ _ r=>r.mono s2) (.cons e2 .nil)) (s2.at hD')
  ·rw [Zi (Zj e hD)];exact s2.at (sm.at e)
 ·rintro ys H6 ⟨⟨ts,rfl,hts⟩,hD6,s6⟩
  rw [List.length_map,List.take_length] at hts
  exact q H6 s6 ⟨ts,hD6,hts⟩
theorem Zs.offL{H:Hp}{c t:Addr}{o:HO}{xs:List V}{q:Zc}(h:Zs H t q)(hc:H c=some (.lst xs)):Zs (upd H c o) t q:=by
 unfold Zs at h ⊢
 exact (Zi fun z=>by rw [z,hc] at h;cases h).trans h
theorem Zu.offL{H:Hp}{c l:Addr}{o:HO}{xs:List V}{ps:List Zc}(h:Zu H l ps)(hc:H c=some (.lst xs))(ne:l≠c):Zu (upd H c o) l ps:=let ⟨ts,h1,h2⟩:=h;⟨ts,(Zi ne).trans h1,W0 h2 hc⟩
theorem Zu.erased{H:Hp}{l:Addr}{ts:List Addr}{ps:List Zc}(h1:H l=some (.lst (ts.map V.ref)))(h2:Paired (Zs H) ts ps)(k:Nat):Zu (upd H l (.lst ((ts.map V.ref).eraseIdx k))) l (ps.eraseIdx k):=⟨ts.eraseIdx k,by rw [Zh,Zjy],W0 (Ze3 h2 k) h1⟩
theorem Zpk{k n:Nat}(h:k<n):seqIndex? (k:Int) n=some k:=by
 unfold seqIndex?
 have h1:¬(k:Int)<0:=by omega
 simp only [h1,if_false]
 rw [if_pos (by simp;omega)]
 simp
theorem Zlm{a:Int}{n:Nat}(h:0<n):∃k:Nat,a%(n:Int)=(k:Int)/\k<n:=by
 have h0:=Int.emod_nonneg a (show (n:Int)≠0 by omega)
 have h1:=Int.emod_lt_of_pos a (show (0:Int)<n by omega)
 exact ⟨(a%(n:Int)).toNat,by omega,by omega⟩
theorem Zmg{α β:Type}{R:α->β->Prop}{l₁:List α}{l₂:List β}(h:Paired R l₁ l₂)(n:Nat):Paired R (l₁.drop n) (l₂.drop n):=by
 induction n generalizing l₁ l₂ with
 | zero=>exact h
 | succ n ih =>
  cases h with
  | nil=>exact .nil
  | cons _ t=>exact ih t
theorem Zkd{l D:Addr}{ts:List Addr}{qs:List Zc}{keep:Zc->Bool}{w:Option V}{H1:Hp}{Q:VK}{σ:St}(hl:H1 l=some (.lst (ts.map V.ref)))(hts:Paired (Zs H1) ts qs)(hn:qs.length<=100)(hD:H1 D=none)(q:∀H',Same H1 H'->Zu H' D (qs.filter keep)->Q (.ref D) H'){fr:St->St}(hfr:fr σ=[none,w]){tf:TT}(htf:∀(t:Addr) (x:Zc) (H':Hp) (R:Bool->Hp->Prop),Same H1 H'->Zs H' t x->x∈qs->R (keep x) H'->tf [some (.ref t),w] H' R) :
  Zda (Itl K l) fr (Zc9 0) tf (Zjc 0) Q σ H1 D:=by
 have hln:=Paired.length hts
 refine Xw (xs:=ts.map V.ref) (fun i ys H'=>(∃ts':List Addr,ys=ts'.map V.ref/\Paired (Zs H1) ts' ((qs.take i).filter keep))/\H' D=some (.lst ys)/\Same H1 H') ⟨⟨[],rfl,.nil⟩,Zh,Same.new hD⟩ ?_ ?_ ?_
 ·rintro i ys H' _ ⟨_,_,sm⟩
  exact SqL.of (sm.at hl)
 ·rintro k v ys H' hk ⟨⟨ts',rfl,hs'⟩,hD',sm⟩
  rw [List.getElem?_map] at hk
  obtain ⟨t,ht,rfl⟩:=Option.map_eq_some_iff.mp hk
  obtain ⟨x,hx,r2⟩:=Paired.get hts ht
  unfold Zcu
  rw [hfr]
  have hlen:ts'.length<=100:=by
   rw [Paired.length hs']
   have:=List.length_filter_le keep (qs.take k)
   rw [List.length_take] at this
   omega
  refine ⟨Zaq.set rfl,htf t x H' _ sm (r2.mono sm) (List.mem_of_getElem? hx) (Yo (fun hc=>?_) (fun hc=>?_))⟩
  ·refine ⟨_,rfl,hD',by rw [List.length_map];exact Z1 (by omega),⟨ts'++[t],by rw [List.map_append];rfl,?_⟩,Zh,fun b o e=>?_⟩
   ·rw [List.take_add_one,hx,List.filter_append]
    refine Paired.append hs' ?_
    rw [show (some x).toList=[x] from rfl,List.filter_cons,if_pos hc]
    exact .cons r2 .nil
   ·rw [Zi (Zj e hD)];exact sm.at e
  ·refine ⟨⟨ts',rfl,?_⟩,hD',sm⟩
   rw [List.take_add_one,hx,List.filter_append,show (some x).toList=[x] from rfl,List.filter_cons,if_neg hc,List.filter_nil,List.append_nil]
   exact hs'
 ·rintro ys H6 ⟨⟨ts',rfl,hs'⟩,hD6,s6⟩
  rw [List.length_map,hln,List.take_length] at hs'
  exact q H6 s6 ⟨ts',hD6,Paired.mapP hs' fun _ _ r=>r.mono s6⟩
def Zpz(K:Frag):Sp:=fun vs H Q _=>∃(cl:Addr) (cs:List Int),vs=[.ref cl]/\SqL K H cl (cs.map V.int)/\(∀c∈cs,0<=c)/\cs.length<=63 /\
 ∀(t:Addr) (H':Hp) (pl jl:Addr) (ps:List Zc) (js:List (Zc×Zc)) (n:Nat),Same H H'->H' t=some (.tup [.ref pl,.ref jl])->Zu H' pl ps->Yg H' jl js->H pl=none->H jl=none->Net ps js []->ps.length<=39->(∀p∈ps,nmD p.2 63\/∃j,j<90/\p.2=W7 j)->Q (.ref t) H'
theorem Zjk(T:Tx K mg):Zz P w K mg base CX0 3 T.d__law_drawn.f T.d__law_drawn.fd ["_law_cells_here"] (Zpz K):=by
 refine T.d__law_drawn.F.okW Yh fun cdv A outer s H vs Q E hr h=>?_
 ·obtain ⟨cl,cs,rfl,hcl,hcs,hcn,q⟩:=h
  refine WSs.step (Z2 (i:=1) Yh.nd (Zl Za)) ⟨sz (by simp),fun pl H1 s1 n1 e1=>?_⟩
  refine WSs.step (Z2 (i:=2) Yh.nd (Zl Za)) ⟨sz (by simp),fun jl H2 s2 n2 e2=>?_⟩
  refine WSs.step (Z2 (i:=3) Yh.nd (Zl Za)) ⟨sz (by simp),fun rl0 H3 s3 n3 e3=>?_⟩
  have s03:=s1.trans (s2.trans s3)
  have fp:H pl=none:=n1
  have fj:H jl=none:=s1.free n2
  have fr0:H rl0=none:=s1.free (s2.free n3)
  have npj:pl≠jl:=Zj e1 n2
  have nrp:rl0≠pl:=Ne.symm (Zj (s2.at e1) n3)
  have nrj:rl0≠jl:=Ne.symm (Zj e2 n3)
  have hp0:Zu H3 pl []:=⟨[],s3.at (s2.at e1),.nil⟩
  have hj0:Yg H3 jl []:=⟨[],s3.at e2,.nil⟩
  have hr0:Zu H3 rl0 []:=⟨[],e3,.nil⟩
  clear s1 s2 s3 n1 n2 n3 e1 e2 e3
  let I3:=fun (i:Nat) (σ:St) (H':Hp)=>Same H H'/\∃rl o4 o5 o6 o7 o8 o9 o10 o11 ps js Z0,σ=[some (.ref cl),some (.ref pl),some (.ref jl),some (.ref rl),o4,o5,o6,o7,o8,o9,o10,o11]/\Zu H' pl ps/\Yg H' jl js/\Zu H' rl Z0/\Xb i (2 * i) ps js Z0/\H rl=none/\rl≠pl/\rl≠jl
  refine WSs.step (Xu PassesOwn.never rfl (Zg7 rfl T.n_enumerate (Zb (pv 0) Za)) (Zbt rfl (Z7 (Yw (i:=4) Yh.nd) (Z7 (Yw (i:=5) Yh.nd) X3))) Zy) ⟨_,rfl,cl,rfl,⟨_,s03.seq hcl⟩,Zfc (xs:=cs.map V.int) I3
   ⟨s03,rl0,none,none,none,none,none,none,none,none,_,_,_,rfl,hp0,hj0,hr0,Xb.start,fr0,nrp,nrj⟩ ?_ ?_ ?_⟩
  ·rintro i σ H' _ ⟨sm,_⟩
   exact sm.seq hcl
  ·rintro i v σ H4 hi ⟨s4,rl,o4,o5,o6,o7,o8,o9,o10,o11,ps,js,Z0,rfl,hpl,hjl,hrl,hok,frl,nrp',nrj'⟩ tp H5 s5 n5 e5
   rw [List.getElem?_map] at hi
   obtain ⟨c,hc,rfl⟩:=Option.map_eq_some_iff.mp hi
   have hi63:i<63:=by
    have:=(List.getElem?_eq_some_iff.mp hc).1
    omega
   have hc0:0<=c:=hcs c (List.mem_of_getElem? hc)
   refine ⟨tp,_,rfl,SqT.of e5,rfl,_,_,rfl,_,_,rfl,rfl,?_⟩
   obtain ⟨kd,hkd,hkm⟩:∃kd:Str,atI [V.str "plain",.str "plain",.str "plain",.str "points",.str "points",.str "cross",.str "gate",.str "stop"] (c%8)=some (.str kd)/\kd∈X4:=by
    have h0:=Int.emod_nonneg c (show (8:Int)≠0 by decide)
    have h1:=Int.emod_lt_of_pos c (show (0:Int)<8 by decide)
    generalize c%8=m at h0 h1
    have:m=0\/m=1\/m=2\/m=3\/m=4\/m=5\/m=6\/m=7:=by omega
    rcases this with rfl|rfl|rfl|rfl|rfl|rfl|rfl|rfl <;>exact ⟨_,rfl,by simp [X4]⟩
   obtain ⟨g1,g2,g3,g4,g5,g6⟩:=Zgy kd hkm
   refine WSs.step (Z2 (i:=6) Yh.nd (Zv (r:=rIx K) Zk (Zl (Zb Ze (Zb Ze (Zb Ze (Zb Ze (Zb Ze (Zb Ze (Zb Ze (Zb Ze Za))))))))) (Zp Yr (pv 5) Zf) (fun _ _=>rfl))) ⟨sz (by simp),fun lk H6 s6 n6 e6=>⟨_,rfl,_,_,rfl,rfl,(by show (0:Int)<8;decide),.inl ⟨lk,_,_,.str kd,rfl,rfl,SqL.of e6,hkd,?_⟩⟩⟩
   refine WSs.step (Z2 (i:=7) Yh.nd (Zx (Zf7 T) hr rfl T.m__law_ends T.d__law_ends.F.kp T.d__law_ends.b .nil Z6 (Zb (pv 6) Za))) ⟨_,rfl,kd,rfl,fun le H7 s7 n7 e7=>?_⟩
   have s47:=s5.trans (s6.trans s7)
   have s07:=s4.trans s47
   have nl1:pl≠le:=let ⟨_,z,_⟩:=hpl;Zj ((s5.trans s6).at z) n7
   have nl2:jl≠le:=let ⟨_,z,_⟩:=hjl;Zj ((s5.trans s6).at z) n7
   have hpl:=hpl.mono s47
   have hjl:=hjl.mono s47
   have hrl:=hrl.mono s47
   obtain ⟨ts,ht,hts⟩:=hpl
   obtain ⟨rs,hr',hrs⟩:=hrl
   have c1:=Paired.length hts
   have c2:=Paired.length hrs
   refine WSs.step (Yj (Zr Zkj (Zp Zaa (Zp Zaa (Yb (r:=Za5 K) Zbo (by rfl) T.n_len PySem.boot_len (Zb (pv 1) Za)) (Yb (r:=Za5 K) Zbo (by rfl) T.n_len PySem.boot_len (Zb (pv 3) Za))) (Yb (r:=Za5 K) Zbo (by rfl) T.n_len PySem.boot_len (Zb (pv 7) Za))) Zf (Z9 _)) Zy Zw) ⟨_,rfl,.inl ⟨pl,_,rfl,.inl (SqL.of ht),_,rfl,.inl ⟨rl,_,rfl,.inl (SqL.of hr'),.inl ⟨_,_,rfl,rfl,_,rfl,.inl ⟨le,_,rfl,.inl (SqL.of e7),.inl ⟨_,_,rfl,rfl,_,_,rfl,rfl,_,rfl,Yo (fun hgt=>?_) (fun hgt=>?_)⟩⟩⟩⟩⟩⟩
   ·exact WSs.last Zm0 ⟨s07,rl,_,_,_,_,_,_,_,_,ps,js,Z0,rfl,⟨ts,ht,hts⟩,hjl,⟨rs,hr',hrs⟩,hok.mono (by omega) (by omega),frl,nrp',nrj'⟩
   have hgt:ps.length+Z0.length+(Ya kd).length<=38:=by
    have z:¬(((ts.map V.ref).length:Int)+((rs.map V.ref).length:Int)+(((Ya kd).map V.str).length:Int) >38):=fun z=>hgt (decide_eq_true z)
    rw [List.length_map,List.length_map,List.length_map] at z
    omega
   obtain ⟨n,hn⟩:∃n,n=Ym kd (c / 8) i:=⟨_,rfl⟩
   refine WSs.step (Z2 (i:=8) Yh.nd (Zx (Zdj T) hr rfl T.m__law_name_by T.d__law_name_by.F.kp T.d__law_name_by.b .nil Z6 (Zb (pv 6) (Zb (Zp Ys (pv 5) Zf) (Zb (pv 4) Za))))) ⟨_,rfl,_,rfl,_,_,rfl,rfl,⟨by decide,by decide⟩,_,rfl,kd,c / 8,i,rfl,g3,by omega,Int.ediv_nonneg hc0 (by decide),by omega,?_⟩
   rw [<-hn]
   refine WSs.step (Xm (Zcx PySem.F.plainAttrs_list PySem.F.slot_list_append PySem.F.type_list_append Y9 (pv 1) (Zb (Zg (Zb (pv 6) (Zb (pv 8) Za))) Za))) ⟨_,rfl,.inl ⟨rfl,_,SqL.of ht⟩,_,rfl,_,rfl,sz (by simp),fun t8 H8 s8 n8 e8=>⟨pl,_,_,rfl,rfl,s8.at ht,?_,?_⟩⟩
   ·rw [List.length_map];exact Z1 (by omega)
   have ok8:=hok.add (c:=c / 8) (by omega) hkm hgt
   rw [<-hn] at ok8
   obtain ⟨us,hu,hus⟩:=hjl.mono s8
   have p9:Zu (upd H8 pl (.lst (ts.map V.ref++[.ref t8]))) pl (ps++[(kd,n)]):=⟨ts++[t8],by rw [Zh,List.map_append];rfl,W0 (Paired.append (Paired.mapP hts fun _ _ r=>r.mono s8) (.cons e8 .nil)) (s8.at ht)⟩
   have j9:Yg (upd H8 pl (.lst (ts.map V.ref++[.ref t8]))) jl js:=⟨us,(Zi (Ne.symm npj)).trans hu,Zbd hus (s8.at ht)⟩
   have r9:Zu (upd H8 pl (.lst (ts.map V.ref++[.ref t8]))) rl Z0:=⟨rs,(Zi nrp').trans (s8.at hr'),W0 (Paired.mapP hrs fun _ _ r=>r.mono s8) (s8.at ht)⟩
   have e9:upd H8 pl (.lst (ts.map V.ref++[.ref t8])) le=_:=(Zi (Ne.symm nl1)).trans (s8.at e7)
   have s09:Same H (upd H8 pl (.lst (ts.map V.ref++[.ref t8]))):=fun b o z=>(Zi (Zj z fp)).trans (s8.at (s07.at z))
   generalize (upd H8 pl (.lst (ts.map V.ref++[.ref t8])))=H9 at p9 j9 r9 e9 s09
   have hok':=hok
   clear hts hrs ht hr' hu hus s8 s47 s07 hjl hok n8 e8
   refine WSs.step (Za8 (i:=9) (N':=["_law_end", "_law_name"]) Yh.nd rfl (Or.inl rfl) rfl (Yd.std 1 [8] rfl (by trivial) (by trivial) rfl ⟨rfl,trivial⟩ rfl rfl ⟨⟨_,rfl,rfl,rfl⟩,trivial⟩) (Yp (pv 7)) (fun _ _ _ _=>(Zci (i:=0) (by show (["_law_end", "_law_name"]:List Str).Nodup;decide +kernel))) (fun _ _ _ _=>Za2) (fun _ _ _ _=>(Zg (Zb (pv 1) (Zb (pv 0) Za))))) ⟨_,rfl,le,rfl,⟨_,SqL.of e9⟩,fun lf hlf=>?_⟩
   refine Zim (xs:=Ya kd) (x:=n) e9 (by omega) hlf (fun H10 s10 f10=>?qq) ?aa ?bb
   case aa=>rfl
   case bb=>rfl
   have p10:=p9.mono s10
   have j10:=j9.mono s10
   have r10:=r9.mono s10
   have s010:=s09.trans s10
   have flf:H lf=none:=s09.free hlf
   have nfp:lf≠pl:=let ⟨_,z,_⟩:=p9;Ne.symm (Zj z hlf)
   have nfj:lf≠jl:=let ⟨_,z,_⟩:=j9;Ne.symm (Zj z hlf)
   have nfr:lf≠rl:=let ⟨_,z,_⟩:=r9;Ne.symm (Zj z hlf)
   clear p9 j9 r9 s09 e9 s10
   let I4:=fun (σ:St) (H':Hp)=>Same H H'/\∃rest' fresh' js',σ=[some (.ref cl),some (.ref pl),some (.ref jl),some (.ref rl),some (.int i),some (.int c),some (.str kd),some (.ref le),some (.str n),some (.ref lf),o10,o11]/\Zu H' pl (ps++[(kd,n)])/\Yg H' jl js'/\Zu H' rl rest'/\Zu H' lf fresh'/\Xb (i+1) (2 * i+1) (ps++[(kd,n)]) js' (rest'++fresh')
   refine WSs.cut I4 ?_ ?_
   ·refine WS.of (Yj (Zr (r:=Ziz K) (Zmh hr) (pv 3) (Zl Za) (Z9 _)) Zy Zw) ⟨_,rfl,sz (by simp),fun l0 H11 s11 n11 e11=>.inr (.inl ⟨2,.lst (Z0.map trP),.lst [],by decide,.inr ⟨_,_,rfl,rfl⟩,Zu.im (r10.mono s11),Im.lst (SqL.of e11) .nil,_,rfl,Yo (fun hne=>?_) (fun hne=>?_)⟩)⟩
    ·have hne:0<Z0.length:=by
      cases Z0 with
      | nil=>simp at hne
      | cons=>simp
     obtain ⟨rs1,hr1,hrs1⟩:=r10.mono s11
     obtain ⟨fs1,hf1,hfs1⟩:=f10.mono s11
     obtain ⟨us1,hu1,hus1⟩:=j10.mono s11
     have cr:=Paired.length hrs1
     have cf:=Paired.length hfs1
     have cu:=Paired.length hus1
     rw [List.length_map] at cf
     have hjl1:=hok'.jl
     obtain ⟨k1,hk1,hk1l⟩:=Zlm (a:=c / 24) (n:=(rs1.map V.ref).length) (by rw [List.length_map];omega)
     obtain ⟨k2,hk2,hk2l⟩:=Zlm (a:=c / 100) (n:=(fs1.map V.ref).length) (by rw [List.length_map];omega)
     obtain ⟨ta,hta⟩:∃ta,rs1[k1]? =some ta:=⟨_,List.getElem?_eq_getElem (by rw [List.length_map] at hk1l;exact hk1l)⟩
     obtain ⟨tb,htb⟩:∃tb,fs1[k2]? =some tb:=⟨_,List.getElem?_eq_getElem (by rw [List.length_map] at hk2l;exact hk2l)⟩
     obtain ⟨qa,hqa,hqat⟩:=Paired.get hrs1 hta
     obtain ⟨qb,hqb,hqbt⟩:=Paired.get hfs1 htb
     refine WSs.last (Xm (Zcx PySem.F.plainAttrs_list PySem.F.slot_list_append PySem.F.type_list_append Y9 (pv 2) (Zb (Zg (Zb (Zcx PySem.F.plainAttrs_list PySem.F.slot_list_pop PySem.F.type_list_pop Zni (pv 3) (Zb (Zp Yr (Zp Ys (pv 5) Zf) (Yb (r:=Za5 K) Zbo (by rfl) T.n_len PySem.boot_len (Zb (pv 3) Za))) Za)) (Zb (Zcx PySem.F.plainAttrs_list PySem.F.slot_list_pop PySem.F.type_list_pop Zni (pv 9) (Zb (Zp Yr (Zp Ys (pv 5) Zf) (Yb (r:=Za5 K) Zbo (by rfl) T.n_len PySem.boot_len (Zb (pv 9) Za))) Za)) Za))) Za))) ⟨_,rfl,.inl ⟨rfl,_,SqL.of hu1⟩,_,rfl,.inl ⟨rfl,_,SqL.of hr1⟩,_,rfl,_,_,rfl,rfl,⟨by decide,by decide⟩,_,rfl,.inl ⟨rl,_,rfl,.inl (SqL.of hr1),_,_,rfl,rfl,by omega,rl,_,_,k1,.ref ta,rfl,rfl,hr1,by omega,by rw [List.length_map] at hk1l;omega,by rw [hk1];exact Zpk hk1l,by rw [List.getElem?_map,hta];rfl,?_⟩⟩
     have r12:=Zu.erased hr1 hrs1 k1
     have f12:=Zu.offL (o:=.lst ((rs1.map V.ref).eraseIdx k1)) ⟨fs1,hf1,hfs1⟩ hr1 nfr
     have p12:=(p10.mono s11).offL (o:=.lst ((rs1.map V.ref).eraseIdx k1)) hr1 (Ne.symm nrp')
     have hu12:upd H11 rl (.lst ((rs1.map V.ref).eraseIdx k1)) jl=_:=(Zi (Ne.symm nrj')).trans hu1
     have hus12:=Zbd (o:=.lst ((rs1.map V.ref).eraseIdx k1)) hus1 hr1
     have hf12:upd H11 rl (.lst ((rs1.map V.ref).eraseIdx k1)) lf=_:=(Zi nfr).trans hf1
     have hfs12:=W0 (o:=.lst ((rs1.map V.ref).eraseIdx k1)) hfs1 hr1
     have a12:=hqat.offL (o:=.lst ((rs1.map V.ref).eraseIdx k1)) hr1
     have b12:=hqbt.offL (o:=.lst ((rs1.map V.ref).eraseIdx k1)) hr1
     have s12:Same H (upd H11 rl (.lst ((rs1.map V.ref).eraseIdx k1))):=fun b o z=>(Zi (Zj z frl)).trans (s11.at (s010.at z))
     generalize (upd H11 rl (.lst ((rs1.map V.ref).eraseIdx k1)))=H12 at r12 f12 p12 hu12 hus12 hf12 hfs12 a12 b12 s12
     refine ⟨_,rfl,.inl ⟨rfl,_,SqL.of hf12⟩,_,rfl,_,_,rfl,rfl,⟨by decide,by decide⟩,_,rfl,.inl ⟨lf,_,rfl,.inl (SqL.of hf12),_,_,rfl,rfl,by omega,lf,_,_,k2,.ref tb,rfl,rfl,hf12,by omega,by rw [List.length_map] at hk2l;omega,by rw [hk2];exact Zpk hk2l,by rw [List.getElem?_map,htb];rfl,?_⟩⟩
     have f13:=Zu.erased hf12 hfs12 k2
     have r13:=r12.offL (o:=.lst ((fs1.map V.ref).eraseIdx k2)) hf12 (Ne.symm nfr)
     have p13:=p12.offL (o:=.lst ((fs1.map V.ref).eraseIdx k2)) hf12 (Ne.symm nfp)
     have hu13:upd H12 lf (.lst ((fs1.map V.ref).eraseIdx k2)) jl=_:=(Zi (Ne.symm nfj)).trans hu12
     have hus13:=Zbd (o:=.lst ((fs1.map V.ref).eraseIdx k2)) hus12 hf12
     have a13:=a12.offL (o:=.lst ((fs1.map V.ref).eraseIdx k2)) hf12
     have b13:=b12.offL (o:=.lst ((fs1.map V.ref).eraseIdx k2)) hf12
     have s13:Same H (upd H12 lf (.lst ((fs1.map V.ref).eraseIdx k2))):=fun b o z=>(Zi (Zj z flf)).trans (s12.at z)
     generalize (upd H12 lf (.lst ((fs1.map V.ref).eraseIdx k2)))=H13 at f13 r13 p13 hu13 hus13 a13 b13 s13
     refine ⟨sz (by simp),fun tj H14 s14 n14 e14=>⟨jl,_,_,rfl,rfl,s14.at hu13,?_,?_⟩⟩
     ·rw [List.length_map];exact Z1 (by omega)
     have hu14:=s14.at hu13
     have hqn:qb.1=n:=by
      rw [List.getElem?_map] at hqb
      obtain ⟨x,_,rfl⟩:=Option.map_eq_some_iff.mp hqb
      rfl
     have hqo:qa.1≠qb.1:=by
      rw [hqn,hn]
      have h1:=Zdm (hok'.net.perm.subset (List.mem_append_right _ (List.mem_of_getElem? hqa)))
      exact fun z=>hok'.new (by omega) hkm (z ▸ h1)
     refine ⟨fun b o z=>(Zi (Zj z fj)).trans (s14.at (s13.at z)),Z0.eraseIdx k1,_,js++[(qa,qb)],rfl,(p13.mono s14).offL hu14 npj,⟨us1++[tj],?_,?_⟩,(r13.mono s14).offL hu14 nrj',(f13.mono s14).offL hu14 nfj,ok8.join (Zsy hqa hqb) hqo⟩
     ·rw [Zh,List.map_append];rfl
     ·exact Zbd (Paired.append (Paired.mapP hus13 fun _ _ r=>r.mono s14) (.cons ⟨ta,tb,e14,a13.mono s14,b13.mono s14⟩ .nil)) hu14
    ·exact ⟨s010.trans s11,Z0,_,js,rfl,p10.mono s11,j10.mono s11,r10.mono s11,f10.mono s11,ok8.mono (Nat.le_refl _) (by omega)⟩
   rintro σ H12 ⟨s012,rest2,fresh2,js2,rfl,p12,j12,⟨rs2,hr12,hrs2⟩,⟨fs2,hf12,hfs2⟩,ok12⟩
   have sm12:=ok12.sum
   have cr:=Paired.length hrs2
   have cf:=Paired.length hfs2
   rw [List.length_append,List.length_append] at sm12
   refine WSs.step (Z2 (i:=3) Yh.nd (Zp Zaa (pv 3) (pv 9))) ⟨_,rfl,_,rfl,.inr (.inr ⟨rl,lf,_,_,rfl,rfl,hr12,hf12,?_,fun rm H13 s13 n13 e13=>?_⟩)⟩
   ·rw [List.length_map,List.length_map];exact sz (by omega)
   have r13:Zu H13 rm (rest2++fresh2):=Zu.app (Paired.mapP hrs2 fun _ _ r=>r.mono s13) (Paired.mapP hfs2 fun _ _ r=>r.mono s13) e13
   have p13:=p12.mono s13
   have j13:=j12.mono s13
   have s013:=s012.trans s13
   have frm:H rm=none:=s012.free n13
   have nmp:rm≠pl:=let ⟨_,z,_⟩:=p12;Ne.symm (Zj z n13)
   have nmj:rm≠jl:=let ⟨_,z,_⟩:=j12;Ne.symm (Zj z n13)
   clear hr12 hf12 hrs2 hfs2 p12 j12 s012 s13 p10 j10 r10 f10 s010 e13
   obtain ⟨op,hop⟩:∃op,op=rest2++fresh2:=⟨_,rfl⟩
   rw [<-hop] at r13 ok12
   have hopl:op.length<=39:=by rw [hop,List.length_append];omega
   clear hop sm12 cr cf
   obtain ⟨rs,hrm,hrs⟩:=r13
   have crs:=Paired.length hrs
   refine WSs.step (Za8 (i:=10) (N':=["_law_end", "_law_rest"]) Yh.nd rfl (Or.inl rfl) rfl (Yd.std 1 [3] rfl (by trivial) (by trivial) rfl ⟨rfl,trivial⟩ rfl rfl ⟨⟨_,rfl,rfl,rfl⟩,trivial⟩) (Yp (Zax (r:=Zjn K) Zlp (pv 3) (Zbg Zf) Zb0)) (fun _ _ _ _=>(Zci (i:=0) (by show (["_law_end", "_law_rest"]:List Str).Nodup;decide +kernel))) (fun _ _ _ _=>(Zij (Zr (r:=Ziz K) (Zmh hr) (Zv (r:=rIx K) Zk (pv 0) Zf (fun _ _=>rfl)) (Zv (r:=rIx K) Zk (Zv (r:=rIx K) Zk (pv 1) Zf (fun _ _=>rfl)) Zf (fun _ _=>rfl)) (Z9 _)))) (fun _ _ _ _=>(pv 0))) ⟨_,rfl,_,rfl,.inr (.inl ⟨rm,_,rfl,SqL.of hrm,fun l1 H14 s14 n14 e14=>⟨l1,rfl,⟨_,SqL.of e14⟩,fun D hD=>?_⟩⟩)⟩
   rw [show (some (1:Int))=some ((1:Nat):Int) from rfl,Zde,<-List.map_drop] at e14
   have hrs14:Paired (Zs H14) rs op:=Paired.mapP hrs fun _ _ r=>r.mono s14
   have hrm14:=s14.at hrm
   obtain ⟨q0,hq0⟩:∃q0,q0=op.getD 0 ("", ""):=⟨_,rfl⟩
   refine Zkd (keep:=fun x=>decide (x.1≠q0.1)) (w:=some (.ref rm)) e14 (Zmg hrs14 1) (by rw [List.length_drop];omega) hD (fun H15 s15 f15=>?q2) ?a2 ?b2
   case a2=>rfl
   case b2 =>
    intro t x H' R sm hx hm hR
    cases hrs14 with
    | nil=>simp at hm
    | cons r0 _ =>
     subst hq0
     refine ⟨_,rfl,.inr (.inl ⟨t,_,_,_,rfl,rfl,SqT.of hx,rfl,_,rfl,.inl ⟨rm,_,_,_,rfl,rfl,SqL.of (sm.at hrm14),(show atI _ ((0:Nat):Int)=_ from Zt rfl),.inr (.inl ⟨_,_,_,_,rfl,rfl,SqT.of (sm.at r0),rfl,.inl ⟨rfl,_,rfl,?_⟩⟩)⟩⟩)⟩
     simpa using hR
   obtain ⟨near,hnear⟩:∃near,near=(op.drop 1).filter fun x=>decide (x.1≠q0.1):=⟨_,rfl⟩
   rw [<-hnear] at f15
   have p15:=(p13.mono s14).mono s15
   have j15:=(j13.mono s14).mono s15
   have hrm15:=s15.at hrm14
   have hrs15:Paired (Zs H15) rs op:=Paired.mapP hrs14 fun _ _ r=>r.mono s15
   have s015:=s013.trans (s14.trans s15)
   clear p13 j13 s013 s14 s15 hrm14 hrs14 hrm hrs e14
   refine WSs.last (Yj (PW.pt (Zia (Zr (r:=Ziz K) (Zmh hr) (pv 10) (Zl Za) (Z9 _)) (Zew (Zr (r:=Zat K) (Za4 hr) (Zp Yr (Zp Ys (pv 5) Zf) Zf) Zf (Z9 _))))) Zy Zw) ⟨_,rfl,sz (by simp),fun l0 H16 s16 n16 e16=>.inr (.inl ⟨2,.lst (near.map trP),.lst [],by decide,.inr ⟨_,_,rfl,rfl⟩,Zu.im (f15.mono s16),Im.lst (SqL.of e16) .nil,_,rfl,Yo (fun hne=>?_) (fun hne=>?_)⟩)⟩
   ·refine ⟨_,rfl,_,_,rfl,rfl,⟨by decide,by decide⟩,_,_,rfl,rfl,(by show (0:Int)<3;decide),.inl ⟨rfl,_,rfl,Yo (fun _=>?_) (fun _=>?_)⟩⟩
    ·obtain ⟨ns,hnl,hns⟩:=f15.mono s16
     have cn:=Paired.length hns
     have hnl0:0<near.length:=by
      cases near with
      | nil=>simp at hne
      | cons=>simp
     obtain ⟨k3,hk3,hk3l⟩:=Zlm (a:=c / 1500) (n:=(ns.map V.ref).length) (by rw [List.length_map];omega)
     obtain ⟨to,hto⟩:∃to,ns[k3]? =some to:=⟨_,List.getElem?_eq_getElem (by rw [List.length_map] at hk3l;exact hk3l)⟩
     obtain ⟨q3,hq3,hq3t⟩:=Paired.get hns hto
     have hq3m:q3∈near:=List.mem_of_getElem? hq3
     refine WSs.step (Z2 (i:=11) Yh.nd (Zv (r:=rIx K) Zk (pv 10) (Zp Yr (Zp Ys (pv 5) Zf) (Yb (r:=Za5 K) Zbo (by rfl) T.n_len PySem.boot_len (Zb (pv 10) Za))) (fun _ _=>rfl))) ⟨_,rfl,_,rfl,_,_,rfl,rfl,⟨by decide,by decide⟩,_,rfl,.inl ⟨D,_,rfl,.inl (SqL.of hnl),_,_,rfl,rfl,by omega,.inl ⟨D,_,_,.ref to,rfl,rfl,SqL.of hnl,by rw [hk3];exact Zt (by rw [List.getElem?_map,hto];rfl),?_⟩⟩⟩
     obtain ⟨us,hu,hus⟩:=j15.mono s16
     have cu:=Paired.length hus
     have hju:=ok12.jl
     have hrm16:=s16.at hrm15
     have hrs16:Paired (Zs H16) rs op:=Paired.mapP hrs15 fun _ _ r=>r.mono s16
     rw [hnear] at hq3m
     obtain ⟨hqd,hqk⟩:=List.mem_filter.mp hq3m
     have hqk:q3.1≠q0.1:=of_decide_eq_true hqk
     obtain ⟨t0,rs',tl,rfl,rfl,r0,hrt⟩:∃t0 rs' tl,rs=t0 ::rs'/\op=q0 ::tl/\Zs H16 t0 q0/\Paired (Zs H16) rs' tl:=by
      cases hrs16 with
      | nil=>simp at hqd
      | cons r0 rt=>exact ⟨_,_,_,rfl,by rw [hq0];rfl,by rw [hq0];exact r0,rt⟩
     have hqd:q3∈tl:=hqd
     refine WSs.step (Xm (Zcx PySem.F.plainAttrs_list PySem.F.slot_list_append PySem.F.type_list_append Y9 (pv 2) (Zb (Zg (Zb (pv 11) (Zb (Zv (r:=rIx K) Zk (pv 3) Zf (fun _ _=>rfl)) Za))) Za))) ⟨_,rfl,.inl ⟨rfl,_,SqL.of hu⟩,_,rfl,_,rfl,.inl ⟨rm,_,_,.ref t0,rfl,rfl,SqL.of hrm16,(show atI _ ((0:Nat):Int)=_ from Zt rfl),sz (by simp),fun tj H17 s17 n17 e17=>⟨jl,_,_,rfl,rfl,s17.at hu,?_,?_⟩⟩⟩
     ·rw [List.length_map];exact Z1 (by omega)
     have hu17:=s17.at hu
     have j18:Yg (upd H17 jl (.lst (us.map V.ref++[.ref tj]))) jl (js2++[(q3,q0)]):=⟨us++[tj],by rw [Zh,List.map_append];rfl,Zbd (Paired.append (Paired.mapP hus fun _ _ r=>r.mono s17) (.cons ⟨to,t0,e17,hq3t.mono s17,r0.mono s17⟩ .nil)) hu17⟩
     have p18:=((p15.mono s16).mono s17).offL (o:=.lst (us.map V.ref++[.ref tj])) hu17 npj
     have hrm18:upd H17 jl (.lst (us.map V.ref++[.ref tj])) rm=_:=(Zi nmj).trans (s17.at hrm16)
     have hrt18:=W0 (o:=.lst (us.map V.ref++[.ref tj])) (Paired.mapP hrt fun _ _ r=>r.mono s17) hu17
     have q18:=(hq3t.mono s17).offL (o:=.lst (us.map V.ref++[.ref tj])) hu17
     have s18:Same H (upd H17 jl (.lst (us.map V.ref++[.ref tj]))):=fun b o z=>(Zi (Zj z fj)).trans (s17.at (s16.at (s015.at z)))
     generalize (upd H17 jl (.lst (us.map V.ref++[.ref tj])))=H18 at j18 p18 hrm18 hrt18 q18 s18
     refine WSs.last (Z2 (i:=3) Yh.nd (Wr (N':=["_law_end", "_law_other"]) rfl (Yd.std 1 [11] rfl (by trivial) (by trivial) rfl ⟨rfl,trivial⟩ rfl rfl ⟨⟨_,rfl,rfl,rfl⟩,trivial⟩) (Yp (Zax (r:=Zjn K) Zlp (pv 3) (Zbg Zf) Zb0)) (fun _ _ _ _=>(Zci (i:=0) (by show (["_law_end", "_law_other"]:List Str).Nodup;decide +kernel))) (fun _ _ _ _=>(Zij (Zr (r:=Ziz K) (Zmh hr) (pv 0) (pv 1) (Z9 _)))) (fun _ _ _ _=>(pv 0)))) ⟨_,rfl,_,rfl,.inr (.inl ⟨rm,_,rfl,SqL.of hrm18,fun l2 H19 s19 n19 e19=>⟨l2,rfl,⟨_,SqL.of e19⟩,fun D2 hD2=>?_⟩⟩)⟩
     rw [show (some (1:Int))=some ((1:Nat):Int) from rfl,Zde,<-List.map_drop] at e19
     have q19:=q18.mono s19
     refine Zkd (ts:=rs') (qs:=tl) (keep:=fun x=>decide (x≠q3)) (w:=some (.ref to)) e19 (Paired.mapP hrt18 fun _ _ r=>r.mono s19) (by simp at hopl;omega) hD2 (fun H20 s20 f20=>?q4) ?a4 ?b4
     case a4=>rfl
     case b4 =>
      intro t x H' R sm hx hm hR
      refine ⟨_,rfl,_,rfl,.inr (.inl ⟨1,trP x,trP q3,by decide,.inl ⟨_,_,rfl,rfl⟩,Im.tup (SqT.of hx) (.cons (.str _) (.cons (.str _) .nil)),Im.tup (SqT.of (q19.mono sm)) (.cons (.str _) (.cons (.str _) .nil)),_,rfl,?_⟩)⟩
      have:(!decide (trP x=trP q3))=decide (x≠q3):=by
       rw [Bool.eq_iff_iff]
       simp [trP,Prod.ext_iff]
      rw [if_pos rfl,this]
      exact hR
     have s1820:=s19.trans s20
     exact ⟨s18.trans s1820,D2,_,_,_,_,_,_,_,_,_,_,_,rfl,p18.mono s1820,j18.mono s1820,f20,(ok12.join (Zro ok12.net.ond hqd) hqk).mono (by omega) (by omega),(s18.trans s19).free hD2,(let ⟨_,z,_⟩:=p18;Ne.symm (Zj (s19.at z) hD2)),(let ⟨_,z,_⟩:=j18;Ne.symm (Zj (s19.at z) hD2))⟩
    ·exact ⟨s015.trans s16,rm,_,_,_,_,_,_,_,_,_,_,_,rfl,p15.mono s16,j15.mono s16,⟨rs,s16.at hrm15,Paired.mapP hrs15 fun _ _ r=>r.mono s16⟩,ok12.mono (by omega) (by omega),frm,nmp,nmj⟩
   ·exact ⟨s015.trans s16,rm,_,_,_,_,_,_,_,_,_,_,_,rfl,p15.mono s16,j15.mono s16,⟨rs,s16.at hrm15,Paired.mapP hrs15 fun _ _ r=>r.mono s16⟩,ok12.mono (by omega) (by omega),frm,nmp,nmj⟩
  ·rintro σ H4 ⟨s4,rl,o4,o5,o6,o7,o8,o9,o10,o11,ps,js,Z0,rfl,hpl,hjl,hrl,hok,frl,nrp',nrj'⟩
   rw [List.length_map] at hok
   have hsm:=hok.sum
   have hjb:=hok.jl
   refine WSs.step (Xm (Zx (Zjb T) hr rfl T.m__law_closed T.d__law_closed.F.kp T.d__law_closed.b .nil Z6 (Zb (pv 1) (Zb (pv 2) (Zb (pv 3) (Zb (Yb (Zs8 rfl) (by rfl) T.n_sum PyProof.Rows.boot_sum (Zb (pv 0) Za)) Za)))))) ⟨_,rfl,_,rfl,_,rfl,_,rfl,cl,cs,rfl,s4.seq hcl,pl,jl,rl,Zr0 cs,ps,js,Z0,rfl,hpl,hjl,hrl,npj,nrp',nrj',by omega,by omega,by omega,fun H5 nps njs km hp5 hj5 hcl5=>?_⟩
   have hnet:=hok.done (by omega) hcl5
   have hnl:nps.length=Z0.length:=by obtain ⟨ks,hk1,hk2,hk3,hk4⟩:=hcl5;rw [hk3,List.length_map,List.length_range]
   refine WSs.last (Zq (Zg (Zb (pv 1) (Zb (pv 2) Za)))) ⟨_,rfl,_,rfl,sz (by simp),fun t H6 s6 n6 e6=>q t H6 pl jl _ _ 0 (fun b o z=>s6.at (km b o (Zj z fp) (Zj z fj) (s4.at z))) e6 (hp5.mono s6) (hj5.mono s6) fp fj hnet ?_ ?_⟩
   ·rw [List.length_append];omega
   ·intro p hp
    rcases List.mem_append.mp hp with z|z
    ·obtain ⟨kd,h1,c,k,h2,h3⟩:=hok.nm p z
     exact .inl ⟨kd,h1,c,k,by omega,h3⟩
    ·obtain ⟨ks,hk1,hk2,hk3,hk4⟩:=hcl5
     rw [hk3] at z
     obtain ⟨j,hj,rfl⟩:=List.mem_map.mp z
     exact .inr ⟨j,by have:=List.mem_range.mp hj;omega,rfl⟩
theorem Zl3(T:Tx K mg){k:Nat}(h:3<=k:=by decide):Zz P w K mg base CX0 k T.d__law_drawn.f T.d__law_drawn.fd ["_law_cells_here"] (Zpz K):=(Zjk T).mono h
def Zc0(n k:Nat):Str:=("s" :Str)++Str.ofString (toString (n:Int))++(⟨#[Zfb.getD (k / 26) 0]⟩:Str)++(⟨#[Zfb.getD (k%26) 0]⟩:Str)
theorem Zol:∀i<26,Zfb.getD i 0=97+i:=by decide
theorem Zfj(n k:Nat):(Zc0 n k).cps.toList=(("s" :Str)++Str.ofString (toString (n:Int))).cps.toList++[Zfb.getD (k / 26) 0]++[Zfb.getD (k%26) 0]:=by
 unfold Zc0
 rw [PySem.W.KT.app_list,PySem.W.KT.app_list]
theorem Zsj{n n' k k':Nat}(hk:k<600)(hk':k'<600)(h:Zc0 n k=Zc0 n' k'):k=k':=by
 have:=congrArg (fun s:Str=>s.cps.toList) h
 simp only [Zfj] at this
 obtain ⟨h1,h2⟩:=List.append_inj' this rfl
 obtain ⟨_,h3⟩:=List.append_inj' h1 rfl
 rw [List.cons.injEq] at h2 h3
 rw [Zol _ (by omega),Zol _ (by omega)] at h2 h3
 omega
def Zpv(H:Hp)(t:Addr)(q:Str×Str×Str):Prop:=H t=some (.tup [.str q.1,.str q.2.1,.str q.2.2])
def Zcb(H:Hp)(l:Addr)(sg:List (Str×Str×Str)):Prop:=∃ts:List Addr,H l=some (.lst (ts.map V.ref))/\Paired (Zpv H) ts sg
def Xv(ps:List Zc):List Zc:=ps.flatMap fun p=>if p.1∈[("plain" :Str), "gate", "stop"] then (Ya p.1).map (fun x=>(p.2,x)) else []
theorem Znv(ps:List Zc)(p:Zc):Xv (ps++[p])=Xv ps++(if p.1∈[("plain" :Str), "gate", "stop"] then (Ya p.1).map (fun x=>(p.2,x)) else []):=by
 unfold Xv
 rw [List.flatMap_append]
 simp
structure Zcm(es:List Zc)(i:Nat)(sg:List (Str×Str×Str)):Prop where
 at_:(sg.map fun q=>((q.2.1,q.2.2):Zc)).Sublist (es.take i)
 name:∀q∈sg,q.1=q.2.1\/∃n k,n<99/\k<i/\q.1=Zc0 n k
 nd:(sg.map Prod.fst).Nodup
 len:sg.length<=40
theorem Zcm.skip{es:List Zc}{i:Nat}{sg:List (Str×Str×Str)}(h:Zcm es i sg):Zcm es (i+1) sg:=by
 refine ⟨h.at_.trans ?_,fun q hq=>?_,h.nd,h.len⟩
 ·rw [List.take_add_one];exact List.sublist_append_left _ _
 ·rcases h.name q hq with z|⟨n,k,a,b,c⟩
  ·exact .inl z
  ·exact .inr ⟨n,k,a,by omega,c⟩
theorem Zcm.add{es:List Zc}{i:Nat}{sg:List (Str×Str×Str)}{e:Zc}{nm:Str}(h:Zcm es i sg)(he:es[i]? =some e)(hn:nm=e.1\/∃n,n<99/\nm=Zc0 n i)(hnew:nm∉sg.map Prod.fst)(hl:sg.length<40):Zcm es (i+1) (sg++[(nm,e.1,e.2)]):=by
 refine ⟨?_,fun q hq=>?_,?_,by rw [List.length_append];simp;omega⟩
 ·rw [List.take_add_one,he,List.map_append]
  exact List.Sublist.append h.at_ (List.Sublist.refl _)
 ·rcases List.mem_append.mp hq with z|z
  ·exact h.skip.name q z
  ·rw [List.mem_singleton] at z
   subst z
   rcases hn with y|⟨n,a,b⟩
   ·exact .inl y
   ·exact .inr ⟨n,i,a,by omega,b⟩
 ·rw [List.map_append,List.nodup_append]
  refine ⟨h.nd,by simp,fun a ha b hb z=>?_⟩
  simp at hb
  exact hnew (by rw [<-hb,<-z];exact ha)
theorem Zcm.fresh{es:List Zc}{i n:Nat}{sg:List (Str×Str×Str)}(h:Zcm es i sg)(hi:i<600)(hne:∀n k e,e∈es->n<99->k<600->e.1≠Zc0 n k)(hn:n<99):Zc0 n i∉sg.map Prod.fst:=fun hm=>by
 obtain ⟨q,hq,e⟩:=List.mem_map.mp hm
 rcases h.name q hq with z|⟨n',k,a,b,c⟩
 ·have:((q.2.1,q.2.2):Zc)∈es:=List.mem_of_mem_take (h.at_.subset (List.mem_map.mpr ⟨q,hq,rfl⟩))
  exact hne n i _ this hn hi (z.symm.trans e)
 ·have:=Zsj hi (by omega) (e.symm.trans c)
  omega
theorem Zcb.mono{H H':Hp}{l:Addr}{sg:List (Str×Str×Str)}(e:Same H H')(h:Zcb H l sg):Zcb H' l sg:=let ⟨ts,h1,h2⟩:=h;⟨ts,e.at h1,Paired.mapP h2 fun _ _ r=>e.at r⟩
def Zv5(K:Frag):Sp:=fun vs H Q _=>∃(pl:Addr) (c:Int) (ps:List Zc),vs=[.ref pl,.int c]/\Zu H pl ps/\ps.length<=45/\(∀n k e,e∈Xv ps->n<99->k<600->e.1≠Zc0 n k) /\
 ∀(l:Addr) (H':Hp) (sg:List (Str×Str×Str)),Same H H'->H l=none->Zcb H' l sg->Zcm (Xv ps) (Xv ps).length sg->Q (.ref l) H'
theorem Zg3(k:Str):(Ya k).length<=4:=by
 unfold Ya
 split
 ·decide
 ·split
  ·decide
  ·split <;>decide
theorem Zev:∀ps:List Zc,(Xv ps).length<=4 * ps.length
 | []=>by simp [Xv]
 | p ::ps=>by
  have:=Zev ps
  have h2:=Zg3 p.1
  rw [show Xv (p ::ps)=(if p.1∈[("plain" :Str), "gate", "stop"] then (Ya p.1).map (fun x=>((p.2,x):Zc)) else [])++Xv ps from rfl,List.length_append,List.length_cons]
  split
  ·rw [List.length_map];omega
  ·simp;omega
theorem Zoc{l D:Addr}{gs:List Addr}{sg:List (Str×Str×Str)}{H1:Hp}{Q:VK}{σ:St}(hl:H1 l=some (.lst (gs.map V.ref)))(hg:Paired (Zpv H1) gs sg)(hn:sg.length<=100)(hD:H1 D=none)(q:∀H',Same H1 H'->H' D=some (.lst ((sg.map Prod.fst).map V.str))->Q (.ref D) H'){fr:St->St}(hfr:fr σ=[none]){te:TE}(hte:te=tOp (rIx K) (Zjc 0) (tC (.int 0))) :
  Zda (Itl K l) fr (Zc9 0) Zvu te Q σ H1 D:=by
 refine Xw (xs:=gs.map V.ref) (fun i ys H'=>ys=((sg.take i).map Prod.fst).map V.str/\H' D=some (.lst ys)/\Same H1 H') ⟨rfl,Zh,Same.new hD⟩ ?_ ?_ ?_
 ·rintro i ys H' _ ⟨_,_,sm⟩
  exact SqL.of (sm.at hl)
 ·rintro k v ys H' hk ⟨rfl,hD',sm⟩
  rw [List.getElem?_map] at hk
  obtain ⟨t,ht,rfl⟩:=Option.map_eq_some_iff.mp hk
  obtain ⟨g,hs,r2⟩:=Paired.get hg ht
  unfold Zcu
  rw [hfr,hte]
  refine ⟨Zaq.set rfl,_,rfl,.inr (.inl ⟨t,_,_,.str g.1,rfl,rfl,SqT.of (sm.at r2),rfl,hD',?_,?_,Zh,fun b o z=>?_⟩)⟩
  ·rw [List.length_map,List.length_map,List.length_take];exact Z1 (by omega)
  ·rw [List.take_add_one,hs,List.map_append,List.map_append];rfl
  ·rw [Zi (Zj z hD)];exact sm.at z
 ·rintro ys H6 ⟨rfl,hD6,s6⟩
  refine q H6 s6 ?_
  rw [hD6,List.length_map,Paired.length hg,List.take_length]
theorem Zpp:∀n<99,(Str.ofString (toString ((n:Nat):Int))).length<=2:=by trivial
theorem Zu5:∀n<99,(((n:Nat):Int).natAbs).log2<1920:=by trivial
theorem Zef(T:Tx K mg):Zz P w K mg base CX0 2 T.d__law_signals_by.f T.d__law_signals_by.fd ["_law_parts", "_law_cell"] (Zv5 K):=by
 refine T.d__law_signals_by.F.okW Z3 fun cdv A outer s H vs Q E hr h=>?_
 ·obtain ⟨pl,c,ps,rfl,⟨ts,hts,hps⟩,hpl,hne,q⟩:=h
  have htl:ts.length=ps.length:=Paired.length hps
  refine WSs.step (Z2 (i:=2) Z3.nd Ze) ?_
  refine WSs.step (Z2 (i:=3) Z3.nd (Zl Za)) ⟨sz (by simp),fun l0 H1 s1 n1 e1=>?_⟩
  let I5:=fun (i:Nat) (σ:St) (H':Hp)=>∃le,(∃o4 o5 o6,σ=[some (.ref pl),some (.int c),some (.str "abcdefghijklmnopqrstuvwxyz"),some (.ref le),o4,o5,o6,none,none,none])/\Same H H'/\Zu H' le (Xv (ps.take i))
  refine WSs.step (Xu PassesOwn.never rfl (Yp (pv 0)) (Zbt rfl (Z7 (Yw (i:=4) Z3.nd) (Z7 (Yw (i:=5) Z3.nd) X3))) Zy) ⟨_,rfl,pl,rfl,⟨_,SqL.of (s1.at hts)⟩,Xr (xs:=ts.map V.ref) I5 ⟨l0,⟨none,none,none,rfl⟩,s1,[],e1,.nil⟩ ?_ ?_ ?_⟩
  ·rintro i σ H' _ ⟨_,_,sm,_⟩
   exact SqL.of (sm.at hts)
  ·rintro i v σ H2 hi ⟨le,⟨o4,o5,o6,rfl⟩,s2,us,hle,hus⟩
   rw [List.getElem?_map] at hi
   obtain ⟨t,ht,rfl⟩:=Option.map_eq_some_iff.mp hi
   obtain ⟨p,hp,rp⟩:=Paired.get hps ht
   have hil:i<ts.length:=(List.getElem?_eq_some_iff.mp ht).1
   have hbl:=Zev (ps.take i)
   rw [List.length_take] at hbl
   have hul:us.length=(Xv (ps.take i)).length:=Paired.length hus
   have nxt:Xv (ps.take (i+1))=Xv (ps.take i)++(if p.1∈[("plain" :Str), "gate", "stop"] then (Ya p.1).map (fun x=>((p.2,x):Zc)) else []):=by
    rw [List.take_add_one,hp];exact Znv _ _
   refine ⟨t,_,rfl,SqT.of (s2.at rp),rfl,_,_,rfl,_,_,rfl,rfl,?_⟩
   refine WSs.last (Yj (Zr (r:=Zhh K) (Zi7 hr) (pv 4) (Zl (Zb Ze (Zb Ze (Zb Ze Za)))) (by with_unfolding_all rfl)) Zy Zw) ⟨_,rfl,sz (by simp),fun lk H3 s3 n3 e3=>.inl ⟨lk,_,rfl,.inl (SqL.of e3),rfl,rfl,_,rfl,?_⟩⟩
   rw [if_neg Bool.false_ne_true,show inV (.str p.1) [.str "plain",.str "gate",.str "stop"]=decide (p.1∈[("plain" :Str), "gate", "stop"]) from Zau p.1 ["plain", "gate", "stop"]]
   refine Yo (fun hc=>?_) (fun hc=>⟨le,⟨_,_,_,rfl⟩,s2.trans s3,?_⟩)
   ·have hc:=of_decide_eq_true hc
    rw [if_pos hc] at nxt
    refine WSs.last (Z2 (i:=3) Z3.nd (Zp Zaa (pv 3) (Wr (N':=["_law_end", "_law_name"]) rfl (Yd.std 1 [5] rfl (by trivial) (by trivial) rfl ⟨rfl,trivial⟩ rfl rfl ⟨⟨_,rfl,rfl,rfl⟩,trivial⟩) (Yp (Zx (Zf7 T) hr rfl T.m__law_ends T.d__law_ends.F.kp T.d__law_ends.b .nil Z6 (Zb (pv 4) Za))) (fun _ _ _ _=>(Zci (i:=0) (by show (["_law_end", "_law_name"]:List Str).Nodup;decide +kernel))) (fun _ _ _ _=>Za2) (fun _ _ _ _=>(Zg (Zb (pv 1) (Zb (pv 0) Za))))))) ⟨_,rfl,_,rfl,p.1,rfl,fun lp H4 s4 n4 e4=>⟨lp,rfl,⟨_,SqL.of e4⟩,fun D hD=>?_⟩⟩
    have hel:=Zg3 p.1
    refine Zim (xs:=Ya p.1) (x:=p.2) e4 (by omega) hD (fun H5 s5 f5=>?qq) ?aa ?bb
    case aa=>rfl
    case bb=>rfl
    case qq =>
     obtain ⟨vs,hv,hvs⟩:=f5
     have hvl:vs.length=(Ya p.1).length:=by rw [Paired.length hvs,List.length_map]
     have s35:=s3.trans (s4.trans s5)
     refine .inr (.inr ⟨le,D,_,_,rfl,rfl,s35.at hle,hv,by rw [List.length_map,List.length_map];exact sz (by omega),fun ln H6 s6 n6 e6=>⟨ln,⟨_,_,_,rfl⟩,s2.trans (s35.trans s6),?_⟩⟩)
     rw [nxt]
     exact ⟨us++vs,by rw [e6,List.map_append],Paired.append (Paired.mapP hus fun _ _ r=>(s35.trans s6).at r) (Paired.mapP hvs fun _ _ r=>s6.at r)⟩
   ·have hc:¬p.1∈[("plain" :Str), "gate", "stop"]:=fun z=>hc (decide_eq_true z)
    rw [nxt,if_neg hc,List.append_nil]
    exact Zu.mono s3 ⟨us,hle,hus⟩
  rintro σ H2 ⟨le,⟨o4,o5,o6,rfl⟩,s2,hE⟩
  rw [List.length_map,htl,List.take_length] at hE
  obtain ⟨us,hle,hus⟩:=hE
  have hbl:=Zev ps
  have hul:us.length=(Xv ps).length:=Paired.length hus
  obtain ⟨es,hes⟩:∃es,es=Xv ps:=⟨_,rfl⟩
  rw [<-hes] at hus hul hne q hbl
  refine WSs.step (Z2 (i:=7) Z3.nd (Zl Za)) ⟨sz (by simp),fun lf H3 s3 n3 e3=>?_⟩
  let I6:=fun (i:Nat) (σ:St) (H':Hp)=>(∃o5 o6 o8 o9,σ=[some (.ref pl),some (.int c),some (.str "abcdefghijklmnopqrstuvwxyz"),some (.ref le),o4,o5,o6,some (.ref lf),o8,o9])/\Same H2 H'/\∃sg,Zcb H' lf sg/\Zcm es i sg
  refine WSs.step (Xu PassesOwn.never rfl (Zg7 rfl T.n_enumerate (Zb (pv 3) Za)) (Zbt rfl (Z7 (Yw (i:=8) Z3.nd) (Z7 (Yw (i:=6) Z3.nd) X3))) Zy) ⟨_,rfl,le,rfl,⟨_,SqL.of (s3.at hle)⟩,Zfc (xs:=us.map V.ref) I6 ⟨⟨_,_,none,none,rfl⟩,s3,[],⟨[],e3,.nil⟩,⟨List.nil_sublist _,(fun _ z=>nomatch z),List.nodup_nil,Nat.zero_le _⟩⟩ ?_ ?_ ?_⟩
  ·rintro i σ H' _ ⟨_,sm,_⟩
   exact SqL.of (sm.at hle)
  ·rintro i x' σ H4 hi ⟨⟨o5',o6',o8,o9,rfl⟩,s4,sg,hsg,ok⟩ p H5 s5 n5 e5
   rw [List.getElem?_map] at hi
   obtain ⟨te,hte,rfl⟩:=Option.map_eq_some_iff.mp hi
   obtain ⟨e,he,re⟩:=Paired.get hus hte
   have hil:i<us.length:=(List.getElem?_eq_some_iff.mp hte).1
   have hi600:i<600:=by omega
   refine ⟨p,_,rfl,SqT.of e5,rfl,_,_,rfl,_,_,rfl,rfl,?_⟩
   have re5:Zs H5 te e:=s5.at (s4.at re)
   obtain ⟨gs,hlf,hgs⟩:=hsg.mono s5
   have hgl:gs.length=sg.length:=Paired.length hgs
   have s25:=s4.trans s5
   refine WSs.step (Z2 (i:=9) Z3.nd (Zx (Zb1 T) hr rfl T.m__law_mixed T.d__law_mixed.F.kp T.d__law_mixed.b .nil Z6 (Zb (pv 1) (Zb (pv 8) Za)))) ⟨_,rfl,_,rfl,c,_,rfl,?_⟩
   generalize Zd4 c ((i:Nat):Int)=dr
   have skip:∃sg,Zcb H5 lf sg/\Zcm es (i+1) sg:=⟨sg,⟨gs,hlf,hgs⟩,ok.skip⟩
   refine WSs.last (Yj (PW.pt (Zia (Zr Zkj (Zp Yr (pv 9) Zf) (Zp Yr (pv 1) Zf) (Z9 _)) (Zew (Zr Zj7 (Yb (r:=Za5 K) Zbo (by rfl) T.n_len PySem.boot_len (Zb (pv 7) Za)) Zf (Z9 _))))) Zy Zw) ⟨_,rfl,_,_,rfl,rfl,(by show (0:Int)<8;decide),_,rfl,_,_,rfl,rfl,(by show (0:Int)<7;decide),_,_,rfl,rfl,_,rfl,Yo (fun _=>⟨_,rfl,.inl ⟨lf,_,rfl,.inl (SqL.of hlf),_,_,rfl,rfl,_,rfl,Yo (fun hl=>?_) (fun _=>⟨⟨_,_,_,_,rfl⟩,s25,skip⟩)⟩⟩) (fun _=>⟨⟨_,_,_,_,rfl⟩,s25,skip⟩)⟩
   have hl:sg.length<40:=by
    have:=of_decide_eq_true hl
    rw [List.length_map] at this
    omega
   have m0:=Int.emod_nonneg (dr / 8) (show (99:Int)≠0 by decide)
   have m1:=Int.emod_lt_of_pos (dr / 8) (show (0:Int)<99 by decide)
   obtain ⟨n,hn⟩:∃n:Nat,dr / 8%99=(n:Int):=⟨(dr / 8%99).toNat,by omega⟩
   have hn99:n<99:=by omega
   have hfl:=Zpp n hn99
   refine WSs.step (Z2 (i:=5) Z3.nd (Zp Zaa Ze (Zb7 Zav (by rfl) T.n_str PyProof.Rows.boot_str (Zb (Zp Yr (Zp Ys (pv 9) Zf) Zf) Za)))) ⟨_,rfl,_,_,rfl,rfl,⟨by decide,by decide⟩,_,_,rfl,rfl,(by show (0:Int)<99;decide),(n:Int),?_,Zu5 n hn99,.inr (.inl ⟨_,_,rfl,rfl,sz (by show 1+_<=1000;omega),?_⟩)⟩
   ·show [V.int (dr / 8%99)]=[V.int (n:Int)]
    rw [hn]
   have hlen:(("s" :Str)++Str.ofString (toString (n:Int))).length<=3:=by rw [PySem.Str.length_append];show 1+_<=3;omega
   refine WSs.step (Z2 (i:=5) Z3.nd (Zp Zaa (Zp Zaa (pv 5) (Zv (r:=rIx K) Zk (pv 2) (Zp Ys (pv 8) Zf) (fun _ _=>rfl))) (Zv (r:=rIx K) Zk (pv 2) (Zp Yr (pv 8) Zf) (fun _ _=>rfl)))) ⟨_,rfl,_,rfl,_,rfl,_,_,rfl,rfl,⟨by decide,by decide⟩,.inr (.inr ⟨_,_,Zfb.getD (i / 26) 0,rfl,rfl,sz (by rw [Zg4];decide),?_,.inr (.inl ⟨_,_,rfl,rfl,sz ?_,_,rfl,_,rfl,_,_,rfl,rfl,(by show (0:Int)<26;decide),.inr (.inr ⟨_,_,Zfb.getD (i%26) 0,rfl,rfl,sz (by rw [Zg4];decide),?_,.inr (.inl ⟨_,_,rfl,rfl,sz ?_,?_⟩)⟩)⟩)⟩)⟩
   ·rw [Zl2]
    have:=Zha (n:=26) (l:=Zfb) (i:=(i:Int) / 26) rfl (by omega) (by omega)
    rw [show ((i:Int) / 26).toNat=i / 26 by omega] at this
    exact this
   ·show _+1<=1000;omega
   ·rw [Zl2]
    have:=Zha (n:=26) (l:=Zfb) (i:=(i:Int)%26) rfl (by omega) (by omega)
    rw [show ((i:Int)%26).toNat=i%26 by omega] at this
    exact this
   ·rw [PySem.Str.length_append];show _+1+1<=1000;omega
   show WSs _ _ _ [some (.ref pl),some (.int c),some (.str "abcdefghijklmnopqrstuvwxyz"),some (.ref le),o4,some (.str (Zc0 n i)),some (.ref te),some (.ref lf),some (.int (i:Nat)),some (.int dr)] H5
   let I7:=fun (σ:St) (H':Hp)=>∃nm,σ=[some (.ref pl),some (.int c),some (.str "abcdefghijklmnopqrstuvwxyz"),some (.ref le),o4,some (.str nm),some (.ref te),some (.ref lf),some (.int (i:Nat)),some (.int dr)]/\Same H5 H'/\(nm=e.1\/∃n,n<99/\nm=Zc0 n i)/\nm∉sg.map Prod.fst
   refine WSs.cut I7 ?_ ?_
   ·have keep:∀{H':Hp},Same H5 H'->∃nm,[some (V.ref pl),some (.int c),some (.str "abcdefghijklmnopqrstuvwxyz"),some (.ref le),o4,some (.str (Zc0 n i)),some (.ref te),some (.ref lf),some (.int (i:Nat)),some (.int dr)]=[some (.ref pl),some (.int c),some (.str "abcdefghijklmnopqrstuvwxyz"),some (.ref le),o4,some (.str nm),some (.ref te),some (.ref lf),some (.int (i:Nat)),some (.int dr)]/\Same H5 H'/\(nm=e.1\/∃n,n<99/\nm=Zc0 n i)/\nm∉sg.map Prod.fst:=fun s6=>⟨_,rfl,s6,.inr ⟨n,hn99,rfl⟩,ok.fresh hi600 hne hn99⟩
    refine WS.of (Yj (PW.pt (Zia (Zr (r:=Zat K) (Za4 hr) (Zp Yr (Zp Ys (pv 1) Zf) Zf) Zf (Z9 _)) (Zew (Zr (r:=Zbz K) (Zcj hr) (Zv (r:=rIx K) Zk (pv 6) Zf (fun _ _=>rfl)) (Wr (N':=["_law_row"]) rfl (Yd.std 1 [] rfl (by trivial) (by trivial) rfl trivial rfl rfl trivial) (Yp (pv 7)) (fun _ _ _ _=>(Zci (i:=0) (by show (["_law_row"]:List Str).Nodup;decide +kernel))) (fun _ _ _ _=>Za2) (fun _ _ _ _=>(Zv (r:=rIx K) Zk (pv 0) Zf (fun _ _=>rfl)))) (by with_unfolding_all rfl))))) Zy Zw) ⟨_,rfl,_,_,rfl,rfl,⟨by decide,by decide⟩,_,_,rfl,rfl,(by show (0:Int)<3;decide),.inl ⟨rfl,_,rfl,Yo (fun _=>?_) (fun _=>keep (Same.refl _))⟩⟩
    refine ⟨_,rfl,.inr (.inl ⟨te,_,_,.str e.1,rfl,rfl,SqT.of re5,rfl,_,rfl,lf,rfl,⟨_,SqL.of hlf⟩,fun D hD=>?_⟩)⟩
    refine Zoc hlf hgs (by omega) hD (fun H6 s6 e6=>?qq) ?aa ?bb
    case aa=>rfl
    case bb=>rfl
    case qq =>
     refine .inl ⟨D,_,rfl,.inl (SqL.of e6),rfl,Zbc _,_,rfl,?_⟩
     rw [if_pos rfl,Zau]
     refine Yo (fun hc=>?_) (fun _=>keep s6)
     have hc:e.1∉sg.map Prod.fst:=fun z=>by rw [decide_eq_true z] at hc;exact absurd hc (by decide)
     exact WSs.last (Z2 (i:=5) Z3.nd (Zv (r:=rIx K) Zk (pv 6) Zf (fun _ _=>rfl))) ⟨_,rfl,.inr (.inl ⟨te,_,_,.str e.1,rfl,rfl,SqT.of (s6.at re5),rfl,e.1,rfl,s6,.inl rfl,hc⟩)⟩
   rintro σ H6 ⟨nm,rfl,s6,hnm,hnew⟩
   refine WSs.last (Xm (Zcx PySem.F.plainAttrs_list PySem.F.slot_list_append PySem.F.type_list_append Y9 (pv 7) (Zb (Zg (Zb (pv 5) (Zb (Zv (r:=rIx K) Zk (pv 6) Zf (fun _ _=>rfl)) (Zb (Zv (r:=rIx K) Zk (pv 6) Zf (fun _ _=>rfl)) Za)))) Za))) ⟨_,rfl,.inl ⟨rfl,_,SqL.of (s6.at hlf)⟩,_,rfl,_,rfl,.inr (.inl ⟨te,_,_,.str e.1,rfl,rfl,SqT.of (s6.at re5),rfl,_,rfl,.inr (.inl ⟨te,_,_,.str e.2,rfl,rfl,SqT.of (s6.at re5),rfl,sz (by simp),fun t H7 s7 n7 e7=>⟨lf,_,_,rfl,rfl,s7.at (s6.at hlf),by rw [List.length_map];exact Z1 (by omega),⟨_,_,_,_,rfl⟩,fun b o z=>?_,sg++[(nm,e.1,e.2)],⟨gs++[t],?_,?_⟩,ok.add he hnm hnew hl⟩⟩)⟩)⟩
   ·rw [Zi (Zj z n3)];exact s7.at (s6.at (s25.at z))
   ·rw [Zh,List.map_append];rfl
   ·have off:∀{b:Addr} {xs:List V},H7 b=some (.tup xs)->(upd H7 lf (.lst (gs.map V.ref++[V.ref t]))) b=some (.tup xs):=fun {b xs} z=>by
     rw [Zi fun y=>by rw [y,s7.at (s6.at hlf)] at z;cases z];exact z
    exact Paired.append (Paired.mapP hgs fun _ _ r=>off (s7.at (s6.at r))) (.cons (off e7) .nil)
  ·rintro σ H4 ⟨⟨o5',o6',o8,o9,rfl⟩,s4,sg,hsg,ok⟩
   refine WSs.last (Zq (pv 7)) ⟨_,rfl,q lf H4 sg (s2.trans s4) (s2.free n3) hsg ?_⟩
   rw [List.length_map,hul] at ok
   exact ok
theorem Zeu(T:Tx K mg){k:Nat}(h:2<=k:=by decide):Zz P w K mg base CX0 k T.d__law_signals_by.f T.d__law_signals_by.fd ["_law_parts", "_law_cell"] (Zv5 K):=(Zef T).mono h
def Zes(n:Nat):List (Str×Str×Str):=[("go", "g", "a"),("back", "h", "a"),("end",Zab (n-1), "b")]
def Zty:Sp:=fun vs H Q _=>∃c:Int,vs=[.int c] /\
 ∀(t pl jl sl:Addr) (H':Hp) (n m:Nat),Same H H'->n∈[9,10,11,12,13,14]->1<=m->m<=3->H' t=some (.tup [.ref pl,.ref jl,.ref sl])->Zu H' pl (Zbw n)->Yg H' jl (Zo4 n)->Zcb H' sl ((Zes n).take m)->H pl=none->H jl=none->H sl=none->Q (.ref t) H'
theorem Zw8:∀k<20,(((k:Nat):Int).natAbs).log2<1920:=by trivial
theorem Zwx:∀k<20,(Zdy k).length<=2:=by trivial
theorem Zno{l D:Addr}{xs:List Str}{H1:Hp}{Q:VK}{σ:St}(hl:H1 l=some (.lst (xs.map V.str)))(hn:xs.length<=100)(hD:H1 D=none) (q:∀H',Same H1 H'->Zu H' D (xs.map fun x=>(("plain" :Str),x))->Q (.ref D) H') {fr:St->St} (hfr:fr σ=[none]) {te:TE} (hte:te=Zrr (Zkg (tC (.str "plain")) (Zkg (Zjc 0) Zur))) :
  Zda (Itl K l) fr (Zc9 0) Zvu te Q σ H1 D:=by
 refine Xw (xs:=xs.map V.str) (fun i ys H'=>(∃ts:List Addr,ys=ts.map V.ref/\Paired (Zs H') ts ((xs.take i).map fun x=>(("plain" :Str),x)))/\H' D=some (.lst ys)/\Same H1 H') ⟨⟨[],rfl,.nil⟩,Zh,Same.new hD⟩ ?_ ?_ ?_
 ·rintro i ys H' _ ⟨_,_,sm⟩
  exact SqL.of (sm.at hl)
 ·rintro k v ys H' hk ⟨⟨ts,rfl,hts⟩,hD',sm⟩
  rw [List.getElem?_map] at hk
  obtain ⟨y,hy,rfl⟩:=Option.map_eq_some_iff.mp hk
  have hlt:ts.length<=100:=by rw [Paired.length hts,List.length_map,List.length_take];omega
  unfold Zcu
  rw [hfr,hte]
  refine ⟨Zaq.set rfl,_,rfl,sz (by simp),fun t H2 s2 n2 e2=>⟨s2.at hD',by rw [List.length_map];exact Z1 (by omega),⟨ts++[t],by rw [List.map_append];rfl,?_⟩,Zh,fun b o z=>?_⟩⟩
  ·rw [List.take_add_one,hy,List.map_append]
   have off:∀{b:Addr} {zs:List V},H2 b=some (.tup zs)->(upd H2 D (.lst (ts.map V.ref++[V.ref t]))) b=some (.tup zs):=fun {b zs} z=>by
    rw [Zi fun y=>by rw [y,s2.at hD'] at z;cases z];exact z
   exact Paired.append (Paired.mapP hts fun _ _ r=>off (s2.at r)) (.cons (off e2) .nil)
  ·rw [Zi (Zj z hD)];exact s2.at (sm.at z)
 ·rintro ys H6 ⟨⟨ts,rfl,hts⟩,hD6,s6⟩
  rw [List.length_map,List.take_length] at hts
  exact q H6 s6 ⟨ts,hD6,hts⟩
theorem Zrt(n:Nat):ixN (n+1) (-1)=some n:=by
 unfold ixN
 rw [if_neg (by decide)]
 simp
 constructor <;>omega
theorem Zna{α:Type}(xs:List α)(x:α):atI (xs++[x]) (-1)=some x:=by
 unfold atI
 rw [List.length_append,List.length_singleton,Zrt]
 simp
theorem Zl7{n:Nat}(h:1<=n):atI (((List.range n).map Zab).map V.str) (-1)=some (.str (Zab (n-1))):=by
 obtain ⟨m,rfl⟩:∃m,n=m+1:=⟨n-1,by omega⟩
 rw [List.range_succ,List.map_append,List.map_append]
 exact Zna _ _
theorem Ztu{n k:Nat}(h:k<n):(((List.range n).map Zab).map V.str)[k]? =some (.str (Zab k)):=by
 rw [List.getElem?_map,List.getElem?_map,List.getElem?_range h]
 rfl
theorem Zzx:("p0" :Str)=Zab 0:=by trivial
theorem Zkp(T:Tx K mg):Zz P w K mg base CX0 1 T.d__law_long.f T.d__law_long.fd ["_law_cell"] Zty:=by
 refine T.d__law_long.F.okW W1 fun cdv A outer s H vs Q E hr h=>?_
 ·obtain ⟨c,rfl,q⟩:=h
  have k0:=Int.emod_nonneg c (show (6:Int)≠0 by decide)
  have k1:=Int.emod_lt_of_pos c (show (0:Int)<6 by decide)
  obtain ⟨n,hn⟩:∃n:Nat,9+c%6=(n:Int):=⟨(9+c%6).toNat,by omega⟩
  have hn9:n∈[9,10,11,12,13,14]:=by
   have:n=9\/n=10\/n=11\/n=12\/n=13\/n=14:=by omega
   simpa using this
  have hnb:9<=n/\n<=14:=by omega
  refine WSs.step (Za8 (i:=2) (N':=["_law_k"]) W1.nd rfl (Or.inl rfl) rfl (Yd.std 1 [] rfl (by trivial) (by trivial) rfl trivial rfl rfl trivial) (Zki rfl T.n_range (Zb (Zp Zaa Zf (Zp Yr (pv 0) Zf)) Za)) (fun _ _ _ _=>(Zci (i:=0) (by show (["_law_k"]:List Str).Nodup;decide +kernel))) (fun _ _ _ _=>Za2) (fun _ _ _ _=>(Zp Zaa Ze (Zb7 Zav (by rfl) T.n_str PyProof.Rows.boot_str (Zb (pv 0) Za))))) ⟨_,rfl,_,_,rfl,rfl,(by show (0:Int)<6;decide),.inl ⟨_,_,rfl,rfl,(n:Int),?_,by omega,by omega,fun D hD=>?_⟩⟩
  ·show [V.int (9+c%6)]=[V.int (n:Int)]
   rw [hn]
  refine Zd7 (fun i ys H'=>ys=((List.range i).map Zab).map V.str/\H' D=some (.lst ys)/\Same H H') ⟨rfl,Zh,Same.new hD⟩ ?_ ?_
  ·rintro i ys H1 hi ⟨rfl,hD1,s1⟩
   have hi:i<n:=by omega
   unfold Zcu
   refine ⟨Zaq.set rfl,_,rfl,(i:Int),?_,Zw8 i (by omega),.inr (.inl ⟨_,_,rfl,rfl,sz ?_,hD1,?_,?_,Zh,fun b o z=>?_⟩)⟩
   ·show [V.int (0+(i:Int))]=[V.int (i:Int)]
    rw [Int.zero_add]
   ·have:=Zwx i (by omega)
    show 1+(Zdy i).length<=1000
    omega
   ·rw [List.length_map,List.length_map,List.length_range];exact Z1 (by omega)
   ·rw [List.range_succ,List.map_append,List.map_append];rfl
   ·rw [Zi (Zj z hD)];exact s1.at z
  ·rintro ys H1 ⟨rfl,hD1,s1⟩
   rw [Int.toNat_natCast] at hD1
   have hrl:(((List.range n).map Zab).map V.str).length=n:=by rw [List.length_map,List.length_map,List.length_range]
   refine WSs.step (Z2 (i:=3) W1.nd (Zp Zaa (Zp Zaa (Zl (Zb (Zg (Zb Ze (Zb Ze Za))) Za)) (Wr (N':=["_law_name"]) rfl (Yd.std 1 [] rfl (by trivial) (by trivial) rfl trivial rfl rfl trivial) (Yp (pv 2)) (fun _ _ _ _=>(Zci (i:=0) (by show (["_law_name"]:List Str).Nodup;decide +kernel))) (fun _ _ _ _=>Za2) (fun _ _ _ _=>(Zg (Zb Ze (Zb (pv 0) Za)))))) (Zl (Zb (Zg (Zb Ze (Zb Ze Za))) Za)))) ⟨sz (by simp),fun t1 H2 s2 n2 e2=>⟨sz (by simp),fun l1 H3 s3 n3 e3=>⟨_,rfl,D,rfl,⟨_,SqL.of (s3.at (s2.at hD1))⟩,fun D2 hD2=>?_⟩⟩⟩
   refine Zno (xs:=(List.range n).map Zab) (s3.at (s2.at hD1)) (by rw [List.length_map,List.length_range];omega) hD2 (fun H4 s4 f4=>?qq) ?aa ?bb
   case aa=>rfl
   case bb=>rfl
   case qq =>
   obtain ⟨vs,hv,hvs⟩:=f4
   have hvl:vs.length=n:=by rw [Paired.length hvs,List.length_map,List.length_map,List.length_range]
   refine .inr (.inr ⟨l1,D2,_,_,rfl,rfl,s4.at e3,hv,by rw [List.length_map];exact sz (by simp;omega),fun l2 H5 s5 n5 e5=>⟨sz (by simp),fun t2 H6 s6 n6 e6=>⟨sz (by simp),fun l3 H7 s7 n7 e7=>.inr (.inr ⟨l2,l3,_,_,rfl,rfl,s7.at (s6.at e5),e7,by rw [List.length_append,List.length_map];exact sz (by simp;omega),fun pl H8 s8 n8 e8=>?_⟩)⟩⟩⟩)
   have s48:=s5.trans (s6.trans (s7.trans s8))
   have s28:=s3.trans (s4.trans s48)
   have s18:=s2.trans s28
   have hP:Zu H8 pl (Zbw n):=by
    refine ⟨[t1]++vs++[t2],by rw [e8,List.map_append,List.map_append];rfl,?_⟩
    refine Paired.append (Paired.append (.cons (s28.at e2) .nil) (Paired.mapP (by rw [List.map_map] at hvs;exact hvs) fun _ _ r=>s48.at r)) (.cons ((s7.trans s8).at e6) .nil)
   have hpl0:H pl=none:=s1.free (s2.free (s3.free (s4.free (s5.free (s6.free (s7.free n8))))))
   have hD8:=s18.at hD1
   have s08:=s1.trans s18
   clear s2 s3 s4 s5 s6 s7 s8 s48 s28 s18 n2 n3 n5 n6 n7 n8 e2 e3 e5 e6 e7 e8 hv hvs hD2 hD1 s1
   refine WSs.step (Z2 (i:=4) W1.nd (Zl (Zb (Zg (Zb (Zg (Zb Ze (Zb Ze Za))) (Zb (Zg (Zb Ze (Zb Ze Za))) Za))) (Zb (Zg (Zb (Zg (Zb Ze (Zb Ze Za))) (Zb (Zg (Zb (Zv (r:=rIx K) Zk (pv 2) (Zmv Zir Zf) (fun _ _=>rfl)) (Zb Ze Za))) Za))) Za)))) ⟨sz (by simp),fun a1 H9 s9 n9 e9=>⟨sz (by simp),fun a2 H10 s10 n10 e10=>⟨sz (by simp),fun j1 H11 s11 n11 e11=>⟨sz (by simp),fun b1 H12 s12 n12 e12=>?_⟩⟩⟩⟩
   refine ⟨_,rfl,_,rfl,.inl ⟨D,_,_,.str (Zab (n-1)),rfl,rfl,SqL.of (s12.at (s11.at (s10.at (s9.at hD8)))),Zl7 (by omega),sz (by simp),fun b2 H13 s13 n13 e13=>⟨sz (by simp),fun j2 H14 s14 n14 e14=>⟨sz (by simp),fun jl H15 s15 n15 e15=>?_⟩⟩⟩⟩
   have s1415:=s14.trans s15
   have s1215:=s13.trans s1415
   have s1115:=s12.trans s1215
   have s1015:=s11.trans s1115
   have s915:=s10.trans s1015
   have s815:=s9.trans s915
   have hjl8:H8 jl=none:=s9.free (s10.free (s11.free (s12.free (s13.free (s14.free n15)))))
   have hJ:Yg H15 jl (([((("g" :Str),("a" :Str)),(Zab 0,("a" :Str))),((("h" :Str),("a" :Str)),(Zab (n-1),("b" :Str)))]:List (Zc×Zc))++(List.range 0).map fun k=>((Zab k,("b" :Str)),(Zab (k+1),("a" :Str)))):=by
    refine ⟨[j1,j2],e15,.cons ⟨a1,a2,s1115.at e11,s915.at e9,?_⟩ (.cons ⟨b1,b2,s15.at e14,s1215.at e12,s1415.at e13⟩ .nil)⟩
    have:=s1015.at e10
    rw [Zzx] at this
    exact this
   clear s9 s10 s11 s12 s13 s14 s15 s1415 s1215 s1115 s1015 s915 n9 n10 n11 n12 n13 n14 n15 e9 e10 e11 e12 e13 e14 e15
   let I8:=fun (i:Nat) (σ:St) (H':Hp)=>(∃o1,σ=[some (.int c),o1,some (.ref D),some (.ref pl),some (.ref jl),none])/\Same H8 H'/\Yg H' jl (([((("g" :Str),("a" :Str)),(Zab 0,("a" :Str))),((("h" :Str),("a" :Str)),(Zab (n-1),("b" :Str)))]:List (Zc×Zc))++(List.range i).map fun k=>((Zab k,("b" :Str)),(Zab (k+1),("a" :Str))))
   refine WSs.step (Xu PassesOwn.never rfl (Zj6 rfl T.n_range (Zb Zf (Zb (Yb (r:=Za5 K) Zbo (by rfl) T.n_len PySem.boot_len (Zb (pv 2) Za)) Za))) (Yw (i:=1) W1.nd) Zy) ⟨_,rfl,.inl ⟨D,_,rfl,.inl (SqL.of (s815.at hD8)),1,(n:Int),?_,⟨by omega,by omega,by omega,by omega⟩,Zqs (lo:=1) (n:=((n:Int)-1).toNat) I8 ⟨⟨_,rfl⟩,s815,hJ⟩ ?_ ?_⟩⟩
   ·rw [hrl]
   ·rintro i σ H16 hi ⟨⟨o1,rfl⟩,s16,us,hu,hus⟩
    have hi':i+1<n:=by omega
    have hul:us.length=2+i:=by rw [Paired.length hus,List.length_append,List.length_map,List.length_range];rfl
    have hat1:atI (((List.range n).map Zab).map V.str) (1+(i:Int)-1)=some (.str (Zab i)):=by
     rw [show (1:Int)+(i:Int)-1=((i:Nat):Int) by omega]
     exact Zt (Ztu (by omega))
    have hat2:atI (((List.range n).map Zab).map V.str) (1+(i:Int))=some (.str (Zab (i+1))):=by
     rw [show (1:Int)+(i:Int)=((i+1:Nat):Int) by omega]
     exact Zt (Ztu (by omega))
    refine WSs.last (Xm (Zcx PySem.F.plainAttrs_list PySem.F.slot_list_append PySem.F.type_list_append Y9 (pv 4) (Zb (Zg (Zb (Zg (Zb (Zv (r:=rIx K) Zk (pv 2) (Zp Zku (pv 1) Zf) (fun _ _=>rfl)) (Zb Ze Za))) (Zb (Zg (Zb (Zv (r:=rIx K) Zk (pv 2) (pv 1) (fun _ _=>rfl)) (Zb Ze Za))) Za))) Za))) ⟨_,rfl,.inl ⟨rfl,_,SqL.of hu⟩,_,rfl,_,rfl,_,_,rfl,rfl,.inl ⟨D,_,_,_,rfl,rfl,SqL.of (s16.at hD8),hat1,sz (by simp),fun a1 H17 s17 n17 e17=>?_⟩⟩
    refine ⟨_,rfl,_,rfl,.inl ⟨D,_,_,_,rfl,rfl,SqL.of (s17.at (s16.at hD8)),hat2,sz (by simp),fun a2 H18 s18 n18 e18=>⟨sz (by simp),fun j H19 s19 n19 e19=>⟨jl,_,_,rfl,rfl,s19.at (s18.at (s17.at hu)),by rw [List.length_map];exact Z1 (by omega),⟨_,rfl⟩,fun b o z=>?_,us++[j],?_,?_⟩⟩⟩⟩
    ·rw [Zi (Zj z hjl8)];exact s19.at (s18.at (s17.at (s16.at z)))
    ·rw [Zh,List.map_append];rfl
    ·have off:∀{b:Addr} {xs:List V},H19 b=some (.tup xs)->(upd H19 jl (.lst (us.map V.ref++[V.ref j]))) b=some (.tup xs):=fun {b xs} z=>by
      rw [Zi fun y=>by rw [y,s19.at (s18.at (s17.at hu))] at z;cases z];exact z
     rw [List.range_succ,List.map_append,<-List.append_assoc]
     exact Paired.append (Paired.mapP hus fun _ _ ⟨a,b,r1,r2,r3⟩=>⟨a,b,off (s19.at (s18.at (s17.at r1))),off (s19.at (s18.at (s17.at r2))),off (s19.at (s18.at (s17.at r3)))⟩) (.cons ⟨a1,a2,off e19,off (s19.at (s18.at e17)),off (s19.at e18)⟩ .nil)
   rintro σ H16 ⟨⟨o1,rfl⟩,s16,hJ⟩
   rw [show ((n:Int)-1).toNat=n-1 by omega] at hJ
   refine WSs.step (Z2 (i:=5) W1.nd (Zl (Zb (Zg (Zb Ze (Zb Ze (Zb Ze Za)))) (Zb (Zg (Zb Ze (Zb Ze (Zb Ze Za)))) (Zb (Zg (Zb Ze (Zb (Zv (r:=rIx K) Zk (pv 2) (Zmv Zir Zf) (fun _ _=>rfl)) (Zb Ze Za)))) Za))))) ⟨sz (by simp),fun t1 H17 s17 n17 e17=>⟨sz (by simp),fun t2 H18 s18 n18 e18=>⟨_,rfl,_,rfl,.inl ⟨D,_,_,.str (Zab (n-1)),rfl,rfl,SqL.of (s18.at (s17.at (s16.at hD8))),Zl7 (by omega),sz (by simp),fun t3 H19 s19 n19 e19=>⟨sz (by simp),fun s0 H20 s20 n20 e20=>?_⟩⟩⟩⟩⟩
   have m0:=Int.emod_nonneg (c / 6) (show (3:Int)≠0 by decide)
   have m1:=Int.emod_lt_of_pos (c / 6) (show (0:Int)<3 by decide)
   obtain ⟨m,hm⟩:∃m:Nat,1+c / 6%3=(m:Int):=⟨(1+c / 6%3).toNat,by omega⟩
   refine WSs.last (Zq (Zg (Zb (pv 3) (Zb (pv 4) (Zb (Zax (r:=Zjn K) Zlp (pv 5) Zb0 (Zbg (Zp Zaa Zf (Zp Yr (Zp Ys (pv 0) Zf) Zf)))) Za))))) ⟨_,rfl,_,rfl,_,rfl,_,rfl,_,_,rfl,rfl,⟨by decide,by decide⟩,_,_,rfl,rfl,(by show (0:Int)<3;decide),.inl ⟨_,_,rfl,rfl,(m:Int),?_,.inr (.inl ⟨s0,_,rfl,SqL.of e20,fun sl H21 s21 n21 e21=>⟨sz (by simp),fun t H22 s22 n22 e22=>?_⟩⟩)⟩⟩
   ·show V.int (1+c / 6%3)=V.int (m:Int)
    rw [hm]
   have s2022:=s21.trans s22
   have s1622:=s17.trans (s18.trans (s19.trans (s20.trans s2022)))
   have s822:=s16.trans s1622
   refine q t pl jl sl H22 n m (s08.trans s822) hn9 (by omega) (by omega) e22 (hP.mono s822) (hJ.mono s1622) ?_ hpl0 (s08.free hjl8) (s08.free (s16.free (s17.free (s18.free (s19.free (s20.free n21))))))
   rw [Zlg] at e21
   have all:Paired (Zpv H22) [t1,t2,t3] (Zes n):=.cons ((s18.trans (s19.trans (s20.trans s2022))).at e17) (.cons ((s19.trans (s20.trans s2022)).at e18) (.cons ((s20.trans s2022).at e19) .nil))
   refine ⟨[t1,t2,t3].take m,by rw [s22.at e21,List.map_take];rfl,?_⟩
   have:m=1\/m=2\/m=3:=by omega
   rcases this with rfl|rfl|rfl
   ·cases all with
    | cons r _=>exact .cons r .nil
   ·cases all with
    | cons r1 t=>cases t with
     | cons r2 _=>exact .cons r1 (.cons r2 .nil)
   ·exact all
theorem Zm6(T:Tx K mg){k:Nat}(h:1<=k:=by decide):Zz P w K mg base CX0 k T.d__law_long.f T.d__law_long.fd ["_law_cell"] Zty:=(Zkp T).mono h
def Ze1(s:Str):Nat:=s.cps.toList.getLastD 0
theorem Zkc{x y:Str}(h:0<y.length):Ze1 (x++y)=Ze1 y:=by
 unfold Ze1
 rw [PySem.W.KT.app_list]
 have:y.cps.toList≠[]:=fun z=>by
  have:y.cps.toList.length=0:=by rw [z];rfl
  rw [Array.length_toList] at this
  exact absurd h (by show ¬0<y.cps.size;omega)
 obtain ⟨ys,b,e⟩:=List.eq_nil_or_concat y.cps.toList |>.resolve_left this
 rw [e]
 simp
theorem Zm2:∀k<100,Ze1 (Zdy k)<58:=by trivial
theorem Zq2{kd:Str}{c:Int}{k:Nat}(h:k<100):Ze1 (Ym kd c k)<58:=by
 have h1:=Zm2 k h
 have h2:=Zez k h
 unfold Ym
 split <;>rw [Zkc h2] <;>exact h1
theorem Zsb{j:Nat}(h:j<100):Ze1 (W7 j)<58:=by
 unfold W7
 rw [Zkc (Zez j h)]
 exact Zm2 j h
theorem Zsl{n k:Nat}:97<=Ze1 (Zc0 n k):=by
 unfold Ze1
 rw [Zfj]
 have:=Zol (k%26) (by omega)
 simp only [List.getLastD_concat]
 omega
theorem Zo2{n k:Nat}:2<=(Zc0 n k).cps.toList.length:=by
 rw [Zfj,List.length_append,List.length_append]
 simp
theorem Zvs{s:Str}{n k:Nat} (h:s = "g" \/s = "h" \/Ze1 s<58):s≠Zc0 n k:=fun z=>by
 rcases h with rfl|rfl|h
 ·have:=@Zo2 n k
  rw [<-z] at this
  exact absurd this (by decide)
 ·have:=@Zo2 n k
  rw [<-z] at this
  exact absurd this (by decide)
 ·have:=@Zsl n k
  rw [<-z] at this
  omega
theorem Zrz{ps:List Zc}{e:Zc}(h:e∈Xv ps):∃p∈ps,e.1=p.2:=by
 unfold Xv at h
 obtain ⟨p,hp,he⟩:=List.mem_flatMap.mp h
 refine ⟨p,hp,?_⟩
 split at he
 ·obtain ⟨x,_,rfl⟩:=List.mem_map.mp he;rfl
 ·cases he
def nmY(s:Str):Prop:=s = "g" \/s = "h" \/Zlc s 63\/∃j,j<90/\s=W7 j
theorem nmY.sig{s:Str}{n k:Nat}(h:nmY s):s≠Zc0 n k:=by
 refine Zvs ?_
 rcases h with h|h|⟨kd,c,j,_,hj,rfl⟩|⟨j,hj,rfl⟩
 ·exact .inl h
 ·exact .inr (.inl h)
 ·exact .inr (.inr (Zq2 (by omega)))
 ·exact .inr (.inr (Zsb (by omega)))
def nmK(p:Zc):Prop:=p=((("gate" :Str),("g" :Str)):Zc)\/p=((("gate" :Str),("h" :Str)):Zc)\/Zlc p.2 63\/∃j,j<90/\p.2=W7 j
theorem nmK.nm{p:Zc}(h:nmK p):nmY p.2:=by
 rcases h with rfl|rfl|h|h
 ·exact .inl rfl
 ·exact .inr (.inl rfl)
 ·exact .inr (.inr (.inl h))
 ·exact .inr (.inr (.inr h))
structure Zhf(ps:List Zc)(js:List (Zc×Zc))(sg:List (Str×Str×Str)):Prop where
 net:Net ps js []
 len:ps.length<=39
 name:∀p∈ps,nmK p
 sigs:(∃ps',ps'.Perm ps/\Zcm (Xv ps') (Xv ps').length sg)\/∃n m,n∈[9,10,11,12,13,14]/\ps=Zbw n/\sg=(Zes n).take m
theorem Net.perm'{ps ps':List Zc}{js js':List (Zc×Zc)}(h:Net ps js [])(hp:ps'.Perm ps)(hj:js'.Perm js):Net ps' js' []:=by
 obtain ⟨a,b,c,d⟩:=h
 rw [List.append_nil] at a
 refine ⟨?_,(hp.map _).nodup_iff.mpr b,fun j hm=>c j (hj.mem_iff.mp hm),fun p hm=>d p (hp.mem_iff.mp hm)⟩
 rw [List.append_nil]
 exact ((hj.flatMap_right _).trans a).trans (hp.flatMap_right _).symm
theorem Zw3{k:Nat}(h:k<63):Zlc (Zab k) 63:=by
 refine ⟨"plain",0,k,by trivial,h,?_⟩
 unfold Ym Zab
 rw [if_pos (by decide)]
 rw [show (⟨#[("plain" :Str).cps.toList.getD 0 0]⟩:Str) = "p" by trivial]
theorem Zuq{n:Nat}(hn:n<=14):∀p∈Zbw n,nmK p:=fun p hp=>by
 unfold Zbw at hp
 rcases List.mem_append.mp hp with z|z
 ·rcases List.mem_append.mp z with y|y
  ·rw [List.mem_singleton] at y;rw [y];exact .inl rfl
  ·obtain ⟨k,hk,rfl⟩:=List.mem_map.mp y
   rw [List.mem_range] at hk
   exact .inr (.inr (.inl (Zw3 (by omega))))
 ·rw [List.mem_singleton] at z;rw [z];exact .inr (.inl rfl)
theorem Ztn{n:Nat}(hn:n<=14):(Zbw n).length<=39:=by
 unfold Zbw
 rw [List.length_append,List.length_append,List.length_map,List.length_range]
 simp
 omega
theorem Zy8{s:Str}{n m:Nat}(h:Zlc s n)(l:n<=m):Zlc s m:=let ⟨kd,c,k,a,b,e⟩:=h;⟨kd,c,k,a,by omega,e⟩
theorem Zyp{s:Str}{n:Nat}(h:nmD s n):Zlc s n:=by
 obtain ⟨kd,hk,c,k,a,e⟩:=h
 refine ⟨kd,c,k,?_,a,e⟩
 have:∀kd∈X4,96<kd.cps.toList.getD 0 0/\kd.cps.toList.getD 0 0<123:=by trivial
 exact this kd hk
theorem Ztp{α β:Type}{R:α->β->Prop}{l1:List α}{l2:List β}(h:Paired R l1 l2):Paired R l1.reverse l2.reverse:=by
 induction h with
 | nil=>exact .nil
 | cons r _ ih=>rw [List.reverse_cons,List.reverse_cons];exact Paired.append ih (.cons r .nil)
theorem Zjr{α β:Type}{R:α->β->Prop}:∀(n:Nat) {l1:List α} {l2:List β},Paired R l1 l2->Paired R (l1.drop n) (l2.drop n)
 | 0,_,_,h=>h
 | _+1,_,_,.nil=>.nil
 | n+1,_,_,.cons _ t=>Zjr n t
theorem Zff{α β:Type}{R:α->β->Prop}:∀(n:Nat) {l1:List α} {l2:List β},Paired R l1 l2->Paired R (l1.take n) (l2.take n)
 | 0,_,_,_=>.nil
 | _+1,_,_,.nil=>.nil
 | n+1,_,_,.cons r t=>.cons r (Zff n t)
def Zsv(K:Frag):Sp:=fun vs H Q _=>∃(cl:Addr) (c:Int) (cs:List Int),vs=[.ref cl,.int c]/\SqL K H cl (cs.map V.int)/\(∀c∈cs,0<=c)/\cs.length<=63 /\
 ∀(t pl jl sl:Addr) (H':Hp) (ps:List Zc) (js:List (Zc×Zc)) (sg:List (Str×Str×Str)),Same H H'->H' t=some (.tup [.ref pl,.ref jl,.ref sl])->Zu H' pl ps->Yg H' jl js->Zcb H' sl sg->Zhf ps js sg->Q (.ref t) H'
theorem Zgh(T:Tx K mg):Zz P w K mg base CX0 4 T.d__law_yard_by.f T.d__law_yard_by.fd ["_law_cells_here", "_law_cell"] (Zsv K):=by
 refine T.d__law_yard_by.F.okW Y4 fun cdv A outer s H vs Q E hr h=>?_
 ·obtain ⟨cl,c,cs,rfl,hS,hc0,hcl,q⟩:=h
  let I9:=fun (σ:St) (H':Hp)=>σ=[some (.ref cl),some (.int c),none,none,none,none]/\H'=H
  refine WSs.cut I9 ?_ ?_
  ·refine WS.of (Yj (Zr (r:=Zat K) (Za4 hr) (Zp Yr (pv 1) Zf) Zf (Z9 _)) Zy Zw) ⟨_,rfl,_,_,rfl,rfl,(by show (0:Int)<12;decide),.inl ⟨rfl,_,rfl,Yo (fun _=>?_) (fun _=>⟨rfl,rfl⟩)⟩⟩
   refine WSs.last (Zq (Zx (Zm6 T) hr rfl T.m__law_long T.d__law_long.F.kp T.d__law_long.b .nil Z6 (Zb (Zp Ys (pv 1) Zf) Za))) ⟨_,rfl,_,_,rfl,rfl,⟨by decide,by decide⟩,_,rfl,fun t pl jl sl H' n m s1 hn h1 h3 e hP hJ hG _ _ _=>q t pl jl sl H' _ _ _ s1 e hP hJ hG ⟨Zsc hn,Ztn ?_,Zuq ?_,.inr ⟨n,m,hn,rfl,rfl⟩⟩⟩
   ·simp at hn;omega
   ·simp at hn;omega
  rintro σ H' ⟨rfl,hH'⟩
  rw [hH']
  refine WSs.step (Z2 (i:=2) Y4.nd (Zx (Znd T) hr rfl T.m__law_line T.d__law_line.F.kp T.d__law_line.b .nil Z6 (Zb (pv 0) Za))) ⟨_,rfl,cl,cs,rfl,hS,hc0,fun t H1 pl jl ps js s1 e1 hP hJ n1 n2 net len nm=>?_⟩
  let I10:=fun (σ:St) (H':Hp)=>∃t pl jl ps js,σ=[some (.ref cl),some (.int c),some (.ref t),none,none,none]/\Same H H'/\H' t=some (.tup [.ref pl,.ref jl])/\Zu H' pl ps/\Yg H' jl js/\Net ps js []/\ps.length<=39/\∀p∈ps,nmK p
  refine WSs.cut I10 ?_ ?_
  ·refine WS.of (Yj (Zr (r:=Zat K) (Za4 hr) (Zp Yr (pv 1) Zf) Zf (Z9 _)) Zy Zw) ⟨_,rfl,_,_,rfl,rfl,(by show (0:Int)<3;decide),.inl ⟨rfl,_,rfl,Yo (fun _=>?_) (fun _=>⟨t,pl,jl,ps,js,rfl,s1,e1,hP,hJ,net,by omega,fun p hp=>?_⟩)⟩⟩
   ·refine WSs.last (Z2 (i:=2) Y4.nd (Zx (Zl3 T) hr rfl T.m__law_drawn T.d__law_drawn.F.kp T.d__law_drawn.b .nil Z6 (Zb (pv 0) Za))) ⟨_,rfl,cl,cs,rfl,s1.seq hS,hc0,hcl,fun t H2 pl jl ps js _ s2 e2 hP hJ _ _ net len nm=>⟨t,pl,jl,ps,js,rfl,s1.trans s2,e2,hP,hJ,net,len,fun p hp=>?_⟩⟩
    rcases nm p hp with z|z
    ·exact .inr (.inr (.inl (Zyp z)))
    ·exact .inr (.inr (.inr z))
   ·rcases nm p hp with z|z|z
    ·exact .inl z
    ·exact .inr (.inl z)
    ·exact .inr (.inr (.inl (Zy8 z (by decide))))
  clear e1 hP hJ n1 n2 net len nm s1
  rintro σ H1 ⟨t,pl,jl,ps,js,rfl,s1,e1,hP,hJ,net,len,nm⟩
  refine WSs.step (Ztz (pv 2) (Zbt rfl (Z7 (Yw (i:=3) Y4.nd) (Z7 (Yw (i:=4) Y4.nd) X3)))) ⟨_,rfl,t,_,rfl,SqT.of e1,rfl,_,_,rfl,_,_,rfl,rfl,?_⟩
  obtain ⟨us,hu,hus⟩:=id hP
  have hul:us.length=ps.length:=Paired.length hus
  obtain ⟨mx,hmx,hm1⟩:∃mx:Int,(if ((us.map V.ref).length:Int) >1 then ((us.map V.ref).length:Int) else 1)=mx/\0<mx:=by
   refine ⟨_,rfl,?_⟩
   split <;>omega
  have a0:=Int.emod_nonneg (c / 3) (show mx≠0 by omega)
  obtain ⟨at',hat⟩:∃k:Nat,c / 3%mx=(k:Int):=⟨(c / 3%mx).toNat,by omega⟩
  refine WSs.step (Z2 (i:=5) Y4.nd (Zp Yr (Zp Ys (pv 1) Zf) (Yb (Zqj rfl) (by rfl) T.n_max PyProof.Rows.boot_max (Zb Zf (Zb (Yb (r:=Za5 K) Zbo (by rfl) T.n_len PySem.boot_len (Zb (pv 3) Za)) Za))))) ⟨_,rfl,_,_,rfl,rfl,⟨by decide,by decide⟩,_,rfl,.inl ⟨pl,_,rfl,.inl (SqL.of hu),_,_,rfl,_,_,rfl,rfl,?_,?_⟩⟩
  ·show (0:Int)<(if ((us.map V.ref).length:Int) >1 then ((us.map V.ref).length:Int) else 1)
   rw [hmx];exact hm1
  show WSs _ _ _ [some (.ref cl),some (.int c),some (.ref t),some (.ref pl),some (.ref jl),some (.int (c / 3%(if ((us.map V.ref).length:Int) >1 then ((us.map V.ref).length:Int) else 1)))] H1
  rw [hmx,hat]
  let I11:=fun (σ:St) (H':Hp)=>∃jl' js',σ=[some (.ref cl),some (.int c),some (.ref t),some (.ref pl),some (.ref jl'),some (.int (at':Int))]/\Same H1 H'/\Yg H' jl' js'/\js'.Perm js
  refine WSs.cut I11 ?_ ?_
  ·obtain ⟨ws,hw,hws⟩:=id hJ
   refine WS.of (Yj (Zr (r:=Zat K) (Za4 hr) (Zp Yr (Zp Ys (pv 1) Zf) Zf) Zf (Z9 _)) Zy Zw) ⟨_,rfl,_,_,rfl,rfl,⟨by decide,by decide⟩,_,_,rfl,rfl,(by show (0:Int)<2;decide),.inl ⟨rfl,_,rfl,Yo (fun _=>?_) (fun _=>⟨jl,js,rfl,Same.refl _,hJ,List.Perm.refl _⟩)⟩⟩
   refine WSs.last (Z2 (i:=4) Y4.nd (Zx9 (ops:=fun l r=>[l,r]) (pv 4) (Zbg (Zmv Zir Zf)) (fun _ _=>by with_unfolding_all rfl))) ⟨_,rfl,_,rfl,_,rfl,jl,_,rfl,rfl,SqL.of hw,fun jr H2 s2 n2 e2=>⟨jr,js.reverse,rfl,s2,⟨ws.reverse,by rw [e2,List.map_reverse],?_⟩,List.reverse_perm _⟩⟩
   exact Ztp (Paired.mapP hws fun _ _ r=>r.mono s2)
  rintro σ H2 ⟨jl',js',rfl,s2,hJ',hjp⟩
  refine WSs.last (Zq (Zg (Zb (Zp Zaa (Zax (r:=Zjn K) Zlp (pv 3) (Zbg (pv 5)) Zb0) (Zax (r:=Zjn K) Zlp (pv 3) Zb0 (Zbg (pv 5)))) (Zb (pv 4) (Zb (Zx (Zeu T) hr rfl T.m__law_signals_by T.d__law_signals_by.F.kp T.d__law_signals_by.b .nil Z6 (Zb (pv 3) (Zb (Zp Ys (pv 1) Zf) Za))) Za))))) ⟨_,rfl,_,rfl,_,rfl,.inr (.inl ⟨pl,_,rfl,SqL.of (s2.at hu),fun la H3 s3 n3 e3=>⟨_,rfl,_,rfl,_,rfl,.inr (.inl ⟨pl,_,rfl,SqL.of (s3.at (s2.at hu)),fun lb H4 s4 n4 e4=>.inr (.inr ⟨la,lb,_,_,rfl,rfl,s4.at e3,e4,?_,fun lc H5 s5 n5 e5=>?_⟩)⟩)⟩⟩)⟩
  ·rw [Zde,Zlg,List.length_drop,List.length_take,List.length_map];exact sz (by omega)
  have s25:=s3.trans (s4.trans s5)
  have s15:=s2.trans s25
  refine ⟨_,rfl,_,rfl,_,rfl,_,_,rfl,rfl,⟨by decide,by decide⟩,pl,_,ps,rfl,hP.mono s15,by omega,fun n k e he _ _=>?_,fun sl H6 sg s6 n6 hG ok=>⟨sz (by simp),fun t' H7 s7 n7 e7=>?_⟩⟩
  ·obtain ⟨p,hp,e1⟩:=Zrz he
   rw [e1]
   exact nmY.sig (nm p hp).nm
  rw [Zde,Zlg,<-List.map_drop,<-List.map_take,<-List.map_append] at e5
  have s57:=s6.trans s7
  have rot:(ps.drop at'++ps.take at').Perm ps:=by
   have:=List.perm_append_comm (l₁:=ps.drop at') (l₂:=ps.take at')
   rwa [List.take_append_drop] at this
  refine q t' lc jl' sl H7 (ps.drop at'++ps.take at') js' sg (s1.trans (s15.trans s57)) e7 ⟨us.drop at'++us.take at',s57.at e5,?_⟩ (hJ'.mono (s25.trans s57)) (hG.mono s7) ⟨Net.perm' net rot hjp,?_,fun p hp=>nm p (rot.mem_iff.mp hp),.inl ⟨ps,rot.symm,ok⟩⟩
  ·have:=Paired.mapP hus fun _ _ r=>Zs.mono (s15.trans s57) r
   exact Paired.append (Zjr _ this) (Zff _ this)
  ·rw [rot.length_eq];exact len
theorem Zik(T:Tx K mg){k:Nat}(h:4<=k:=by decide):Zz P w K mg base CX0 k T.d__law_yard_by.f T.d__law_yard_by.fd ["_law_cells_here", "_law_cell"] (Zsv K):=(Zgh T).mono h
def Zgf(c:Nat):Bool:=decide (97<=c) && decide (c<=122)
def anC(c:Nat):Bool:=Zgf c || (decide (48<=c) && decide (c<=57))
def Zbv(s:Str):Prop:=1<=s.length/\s.length<=6/\Zgf (s.cps.toList.headD 0)=true/\s.cps.toList.all anC=true
theorem Zlo:∀k<100,(Zdy k).cps.toList.all anC=true:=by trivial
theorem Zk9:∀i<26,Zgf (Zfb.getD i 0)=true:=by decide
theorem Zw1{c:Nat}(h:Zgf c=true):anC c=true:=by unfold anC;rw [h];rfl
theorem Zcn{x y:Str}(hx:x.cps.toList.all anC=true)(hy:y.cps.toList.all anC=true):(x++y).cps.toList.all anC=true:=by
 rw [PySem.W.KT.app_list,List.all_append,hx,hy];rfl
theorem Zbp{x y:Str}(h:0<x.length):(x++y).cps.toList.headD 0=x.cps.toList.headD 0:=by
 rw [PySem.W.KT.app_list]
 cases e:x.cps.toList with
 | nil =>
  have:x.cps.size=0:=by rw [<-Array.length_toList,e];rfl
  exact absurd h (by show ¬0<x.cps.size;omega)
 | cons a l=>rfl
theorem Zhl{c:Nat}(h:Zgf c=true):(⟨#[c]⟩:Str).cps.toList.all anC=true:=by
 show ([c]:List Nat).all anC=true
 simp [Zw1 h]
theorem Zuw{j:Nat}(h:j<100):Zbv (W7 j):=by
 have h1:=Zer j h
 have h2:=Zez j h
 unfold W7
 refine ⟨?_,?_,?_,Zcn (by trivial) (Zlo j h)⟩
 ·rw [PySem.Str.length_append];omega
 ·rw [PySem.Str.length_append,show ("e" :Str).length=1 by trivial];omega
 ·rw [Zbp (by trivial)];decide +kernel
theorem Zus{n k:Nat}(hn:n<99)(hk:k<600):Zbv (Zc0 n k):=by
 have h1:=Zpp n hn
 have a1:=Zk9 (k / 26) (by omega)
 have a2:=Zk9 (k%26) (by omega)
 have hs:("s" :Str).length=1:=by trivial
 have h0:0<(("s" :Str)++Str.ofString (toString (n:Int))).length:=by rw [PySem.Str.length_append,hs];omega
 have hf:(Str.ofString (toString (n:Int))).cps.toList.all anC=true:=Zlo n (by omega)
 unfold Zc0
 refine ⟨?_,?_,?_,Zcn (Zcn (Zcn (by trivial) hf) (Zhl a1)) (Zhl a2)⟩
 ·rw [PySem.Str.length_append,PySem.Str.length_append];omega
 ·rw [PySem.Str.length_append,PySem.Str.length_append,PySem.Str.length_append,hs]
  show 1+_+1+1<=6
  omega
 ·rw [Zbp (by rw [PySem.Str.length_append];omega),Zbp h0,Zbp (by rw [hs];decide)];decide +kernel
theorem Zz2:Zbv "g" :=⟨by trivial,by trivial,by trivial,by trivial⟩
theorem Yac:Zbv "h" :=⟨by trivial,by trivial,by trivial,by trivial⟩
theorem Zfz{i:Int}(h0:0<=i)(h1:i<26):Zgf (Zcw i)=true:=Zk9 i.toNat (by omega)
theorem Zxq:∀m<3,(Zfp "0" m).cps.toList.all anC=true:=by trivial
theorem Zp7{kd:Str}{c:Int}{k:Nat}(h0:96<kd.cps.toList.getD 0 0/\kd.cps.toList.getD 0 0<123)(hk:k<100):Zbv (Ym kd c k):=by
 have l2:=Zb5 (kind:=kd) (c:=c) hk
 refine ⟨by omega,Zp9 hk,?_,?_⟩
 ·unfold Ym
  split
  ·rw [Zbp (by show 0<1;decide)]
   show Zgf (kd.cps.toList.getD 0 0)=true
   unfold Zgf
   simp only [Bool.and_eq_true,decide_eq_true_eq]
   omega
  ·have a0:=Int.emod_nonneg (c / 3) (show (26:Int)≠0 by decide)
   have a1:=Int.emod_lt_of_pos (c / 3) (show (0:Int)<26 by decide)
   rw [Zbp (by rw [PySem.Str.length_append,PySem.Str.length_append];show 0<1+1+_;omega),Zbp (by rw [PySem.Str.length_append];show 0<1+1;decide),Zbp (by show 0<1;decide)]
   exact Zfz a0 a1
 ·unfold Ym
  split
  ·refine Zcn (Zhl ?_) (Zlo k hk)
   unfold Zgf
   simp only [Bool.and_eq_true,decide_eq_true_eq]
   omega
  ·have a0:=Int.emod_nonneg (c / 3) (show (26:Int)≠0 by decide)
   have a1:=Int.emod_lt_of_pos (c / 3) (show (0:Int)<26 by decide)
   have b0:=Int.emod_nonneg (c / 78) (show (26:Int)≠0 by decide)
   have b1:=Int.emod_lt_of_pos (c / 78) (show (0:Int)<26 by decide)
   have c0:=Int.emod_nonneg (c / 2028) (show (3:Int)≠0 by decide)
   have c1:=Int.emod_lt_of_pos (c / 2028) (show (0:Int)<3 by decide)
   exact Zcn (Zcn (Zcn (Zhl (Zfz a0 a1)) (Zhl (Zfz b0 b1))) (Zxq _ (by omega))) (Zlo k hk)
theorem nmY.ok{s:Str}(h:nmY s):Zbv s:=by
 rcases h with rfl|rfl|⟨kd,c,j,h0,hj,rfl⟩|⟨j,hj,rfl⟩
 ·exact Zz2
 ·exact Yac
 ·exact Zp7 h0 (by omega)
 ·exact Zuw (by omega)
theorem Zhw{ps:List Zc}{e:Zc}(h:e∈Xv ps):∃p∈ps,e.1=p.2/\p.1∈[("plain" :Str), "gate", "stop"]/\e.2∈Ya p.1:=by
 unfold Xv at h
 obtain ⟨p,hp,he⟩:=List.mem_flatMap.mp h
 by_cases z:p.1∈[("plain" :Str), "gate", "stop"]
 ·rw [if_pos z] at he
  obtain ⟨x,hx,rfl⟩:=List.mem_map.mp he
  exact ⟨p,hp,rfl,z,hx⟩
 ·rw [if_neg z] at he;cases he
theorem Zvp(k:Str):(Ya k).Nodup:=by
 unfold Ya
 split
 ·decide
 ·split
  ·decide
  ·split <;>decide
theorem Zpa:∀{ps:List Zc},(ps.map Prod.snd).Nodup->(Xv ps).Nodup
 | [],_=>List.nodup_nil
 | p ::ps,h=>by
  rw [List.map_cons,List.nodup_cons] at h
  have ih:=Zpa h.2
  show ((if p.1∈[("plain" :Str), "gate", "stop"] then (Ya p.1).map (fun x=>((p.2,x):Zc)) else [])++Xv ps).Nodup
  refine List.nodup_append.mpr ⟨?_,ih,fun a ha b hb e=>?_⟩
  ·split
   ·exact List.Pairwise.map _ (fun a b h z=>h (Prod.mk.inj z).2) (Zvp p.1)
   ·exact List.nodup_nil
  ·subst e
   obtain ⟨p',hp',e1,_⟩:=Zhw hb
   split at ha
   ·obtain ⟨x,_,rfl⟩:=List.mem_map.mp ha
    exact h.1 (List.mem_map.mpr ⟨p',hp',e1.symm⟩)
   ·cases ha
structure Zip(ps:List Zc)(sg:List (Str×Str×Str)):Prop where
 name:∀q∈sg,Zbv q.1
 nd:(sg.map Prod.fst).Nodup
 one:(sg.map Prod.snd).Nodup
 at_:∀q∈sg,∃p∈ps,p.2=q.2.1/\p.1∈[("plain" :Str), "gate", "stop"]/\q.2.2∈Ya p.1
 len:sg.length<=40
theorem Zcm.sigs{ps:List Zc}{sg:List (Str×Str×Str)}(h:Zcm (Xv ps) (Xv ps).length sg)(nd:(ps.map Prod.snd).Nodup)(nm:∀p∈ps,nmY p.2)(hl:ps.length<=45):Zip ps sg:=by
 have sub:=h.at_
 rw [List.take_length] at sub
 have hb:=Zev ps
 have mem:∀q∈sg,((q.2.1,q.2.2):Zc)∈Xv ps:=fun q hq=>sub.subset (List.mem_map.mpr ⟨q,hq,rfl⟩)
 refine ⟨fun q hq=>?_,h.nd,List.Nodup.sublist sub (Zpa nd),fun q hq=>?_,h.len⟩
 ·rcases h.name q hq with z|⟨n,k,a,b,c⟩
  ·obtain ⟨p,hp,e,_⟩:=Zhw (mem q hq)
   rw [z,show q.2.1=p.2 from e]
   exact nmY.ok (nm p hp)
  ·rw [c];exact Zus a (by omega)
 ·obtain ⟨p,hp,e,k,m⟩:=Zhw (mem q hq)
  exact ⟨p,hp,e.symm,k,m⟩
theorem Zip.perm{ps ps':List Zc}{sg:List (Str×Str×Str)}(h:Zip ps' sg)(hp:ps'.Perm ps):Zip ps sg :=
 ⟨h.name,h.nd,h.one,fun q hq=>let ⟨p,a,b⟩:=h.at_ q hq;⟨p,hp.mem_iff.mp a,b⟩,h.len⟩
theorem Zrh{n:Nat}(m:Nat)(hn:n∈[9,10,11,12,13,14]):Zip (Zbw n) ((Zes n).take m):=by
 have h1:9<=n/\n<=14:=by simp at hn;omega
 have nd:∀n∈[9,10,11,12,13,14],((Zes n).map Prod.snd).Nodup:=by trivial
 have sub:=List.take_sublist m (Zes n)
 have row:∀q∈Zes n,Zbv q.1/\∃p∈Zbw n,p.2=q.2.1/\p.1∈[("plain" :Str), "gate", "stop"]/\q.2.2∈Ya p.1:=by
  intro q hq
  unfold Zes at hq
  simp only [List.mem_cons,List.mem_nil_iff,or_false] at hq
  rcases hq with rfl|rfl|rfl
  ·exact ⟨⟨by trivial,by trivial,by trivial,by trivial⟩,("gate", "g"),by unfold Zbw;simp,rfl,by decide,by decide⟩
  ·exact ⟨⟨by trivial,by trivial,by trivial,by trivial⟩,("gate", "h"),by unfold Zbw;simp,rfl,by decide,by decide⟩
  ·have e1:Zbv "end" :=⟨by trivial,by trivial,by trivial,by trivial⟩
   have e2:("plain" :Str)∈[("plain" :Str), "gate", "stop"]:=by decide
   have e3:("b" :Str)∈Ya "plain" :=by decide
   exact ⟨e1,("plain",Zab (n-1)),by unfold Zbw;exact List.mem_append_left _ (List.mem_append_right _ (List.mem_map.mpr ⟨n-1,List.mem_range.mpr (by omega),rfl⟩)),rfl,e2,e3⟩
 have nf:((Zes n).map Prod.fst).Nodup:=by
  show ([("go" :Str), "back", "end"]:List Str).Nodup
  decide +kernel
 refine ⟨fun q hq=>(row q (sub.subset hq)).1,List.Nodup.sublist (sub.map _) nf,List.Nodup.sublist (sub.map _) (nd n hn),fun q hq=>(row q (sub.subset hq)).2,?_⟩
 have:=sub.length_le
 exact Nat.le_trans this (by show 3<=40;decide)
theorem Zhf.sigsV{ps:List Zc}{js:List (Zc×Zc)}{sg:List (Str×Str×Str)}(h:Zhf ps js sg):Zip ps sg:=by
 rcases h.sigs with ⟨ps',hp,ok⟩|⟨n,m,hn,rfl,rfl⟩
 ·exact (ok.sigs ((hp.map _).nodup_iff.mpr h.net.nd) (fun p hm=>(h.name p (hp.mem_iff.mp hm)).nm) (by rw [hp.length_eq];have:=h.len;omega)).perm hp
 ·exact Zrh m hn
def Zc3(K:Frag):Sp:=fun vs H Q _=>∃(x C dx:Addr) (nm:Str),vs=[.ref x,.str nm]/\H x=some (.ins C dx [])/\Cls K C/\X2 K C "name" /\Q .non (upd H x (.ins C dx [("name",.str nm)]))
theorem Zfx(T:Tx K mg):Zz P w K mg base CX0 1 T.d_Part___init__.f T.d_Part___init__.fd ["self", "name"] (Zc3 K):=by
 refine T.d_Part___init__.F.okW Zf2 fun cdv A outer s H vs Q E hr h=>?_
 ·obtain ⟨x,C,dx,nm,rfl,hx,c,n1,q⟩:=h
  exact WSs.last (Zhj (pv 0) (pv 1) rfl) ⟨_,rfl,_,rfl,x,C,dx,[],rfl,hx,c,n1,by simp,q⟩
theorem Xf(T:Tx K mg){k:Nat}(h:1<=k:=by decide):Zz P w K mg base CX0 k T.d_Part___init__.f T.d_Part___init__.fd ["self", "name"] (Zc3 K):=(Zfx T).mono h
def Zdi(H:Hp)(C x:Addr)(nm:Str):Prop:=∃dx,H x=some (.ins C dx [("name",.str nm)])
def mrP(C:Addr):List V->Hp->VK->Prop:=fun vs H Q=>∃nm:Str,vs=[.str nm]/\∀x H',Same H H'->H x=none->Zdi H' C x nm->Q (.ref x) H'
theorem mkP{C:Addr}(c:Cls K C) (n:X2 K C "name"):∀vs H Q,mrP C vs H Q->∀x dx,H x=none->H dx=none->dx≠x->Zc3 K (.ref x ::(vs++[])) (upd (upd H dx (.own x)) x (.ins C dx [])) (fun v H2=>v=.non/\Q (.ref x) H2) E0:=by
 rintro vs H Q ⟨nm,rfl,q⟩ x dx h1 h2 ne
 refine ⟨x,C,dx,nm,rfl,Zh,c,n,rfl,q x _ (fun b o e=>?_) h1 ⟨dx,Zh⟩⟩
 rw [Zi (Zj e h1),Zi (Zj e h1),Zi (Zj e h2)]
 exact e
abbrev Zpy(T:Tx K mg):List V->Hp->VK->Prop:=mrP T.CPart
theorem Zu0(T:Tx K mg):∀vs H Q,Zpy T vs H Q->∀x dx,H x=none->H dx=none->dx≠x->Zc3 K (.ref x ::(vs++[])) (upd (upd H dx (.own x)) x (.ins T.CPart dx [])) (fun v H2=>v=.non/\Q (.ref x) H2) E0:=mkP T.clPart T.nPart_name
abbrev Znj(T:Tx K mg):List V->Hp->VK->Prop:=mrP T.CPlain
theorem Zr4(T:Tx K mg):∀vs H Q,Znj T vs H Q->∀x dx,H x=none->H dx=none->dx≠x->Zc3 K (.ref x ::(vs++[])) (upd (upd H dx (.own x)) x (.ins T.CPlain dx [])) (fun v H2=>v=.non/\Q (.ref x) H2) E0:=mkP T.clPlain T.nPlain_name
abbrev Zo8(T:Tx K mg):List V->Hp->VK->Prop:=mrP T.CStop
theorem Zug(T:Tx K mg):∀vs H Q,Zo8 T vs H Q->∀x dx,H x=none->H dx=none->dx≠x->Zc3 K (.ref x ::(vs++[])) (upd (upd H dx (.own x)) x (.ins T.CStop dx [])) (fun v H2=>v=.non/\Q (.ref x) H2) E0:=mkP T.clStop T.nStop_name
abbrev Zpg(T:Tx K mg):List V->Hp->VK->Prop:=mrP T.CGate
theorem Zvb(T:Tx K mg):∀vs H Q,Zpg T vs H Q->∀x dx,H x=none->H dx=none->dx≠x->Zc3 K (.ref x ::(vs++[])) (upd (upd H dx (.own x)) x (.ins T.CGate dx [])) (fun v H2=>v=.non/\Q (.ref x) H2) E0:=mkP T.clGate T.nGate_name
abbrev Zj2(T:Tx K mg):List V->Hp->VK->Prop:=mrP T.CPoints
theorem Zq0(T:Tx K mg):∀vs H Q,Zj2 T vs H Q->∀x dx,H x=none->H dx=none->dx≠x->Zc3 K (.ref x ::(vs++[])) (upd (upd H dx (.own x)) x (.ins T.CPoints dx [])) (fun v H2=>v=.non/\Q (.ref x) H2) E0:=mkP T.clPoints T.nPoints_name
abbrev Zmc(T:Tx K mg):List V->Hp->VK->Prop:=mrP T.CCross
theorem Zte(T:Tx K mg):∀vs H Q,Zmc T vs H Q->∀x dx,H x=none->H dx=none->dx≠x->Zc3 K (.ref x ::(vs++[])) (upd (upd H dx (.own x)) x (.ins T.CCross dx [])) (fun v H2=>v=.non/\Q (.ref x) H2) E0:=mkP T.clCross T.nCross_name
def Zak(T:Tx K mg)(k:Str)(C:Addr):Prop:=(k = "points" /\C=T.CPoints)\/(k = "cross" /\C=T.CCross)\/(k = "gate" /\C=T.CGate)\/(k = "stop" /\C=T.CStop)\/(k = "plain" /\(C=T.CPart\/C=T.CPlain))
def Zrx(T:Tx K mg):Sp:=fun vs H Q _=>∃k nm:Str,vs=[.str k,.str nm]/\k∈X4/\nm.length<=6/\∀(x C:Addr) (H':Hp),Same H H'->H x=none->Zak T k C->Zdi H' C x nm->Q (.ref x) H'
theorem Zk5(T:Tx K mg):Zz P w K mg base CX0 3 T.d__law_part.f T.d__law_part.fd ["_law_kind", "_law_name"] (Zrx T):=by
 refine T.d__law_part.F.okW Zlz fun cdv A outer s H vs Q E hr h=>?_
 ·obtain ⟨k,nm,rfl,hk,hl,q⟩:=h
  let I12:=fun (σ:St) (H':Hp)=>σ=[some (.str k),some (.str nm)]/\H'=H/\k ≠ "points"
  refine WSs.cut I12 ?_ ?_
  ·refine WS.of (Yj (Zr (r:=Zat K) (Za4 hr) (pv 0) Ze (Z9 _)) Zy Zw) ⟨_,rfl,.inl ⟨rfl,_,rfl,Yo (fun hc=>?_) (fun hc=>⟨rfl,rfl,fun z=>hc (by rw [z];simp)⟩)⟩⟩
   have hc:k = "points" :=V.str.inj (of_decide_eq_true hc)
   exact WSs.last (Zq (Zch (Zj2 T) T.mkPoints (Xf T) hr rfl T.mPoints T.d_Part___init__.b .nil Z6 (Zq0 T) (Zb (pv 1) Za))) ⟨_,rfl,nm,rfl,fun x H' s1 n1 o=>q x _ H' s1 n1 (.inl ⟨hc,rfl⟩) o⟩
  rintro σ H1 ⟨rfl,hH1,nk0⟩
  rw [hH1]
  let I13:=fun (σ:St) (H':Hp)=>σ=[some (.str k),some (.str nm)]/\H'=H/\k ≠ "cross"
  refine WSs.cut I13 ?_ ?_
  ·refine WS.of (Yj (Zr (r:=Zat K) (Za4 hr) (pv 0) Ze (Z9 _)) Zy Zw) ⟨_,rfl,.inl ⟨rfl,_,rfl,Yo (fun hc=>?_) (fun hc=>⟨rfl,rfl,fun z=>hc (by rw [z];simp)⟩)⟩⟩
   have hc:k = "cross" :=V.str.inj (of_decide_eq_true hc)
   exact WSs.last (Zq (Zch (Zmc T) T.mkCross (Xf T) hr rfl T.mCross T.d_Part___init__.b .nil Z6 (Zte T) (Zb (pv 1) Za))) ⟨_,rfl,nm,rfl,fun x H' s1 n1 o=>q x _ H' s1 n1 (.inr (.inl ⟨hc,rfl⟩)) o⟩
  rintro σ H2 ⟨rfl,hH2,nk1⟩
  rw [hH2]
  let I14:=fun (σ:St) (H':Hp)=>σ=[some (.str k),some (.str nm)]/\H'=H/\k ≠ "gate"
  refine WSs.cut I14 ?_ ?_
  ·refine WS.of (Yj (Zr (r:=Zat K) (Za4 hr) (pv 0) Ze (Z9 _)) Zy Zw) ⟨_,rfl,.inl ⟨rfl,_,rfl,Yo (fun hc=>?_) (fun hc=>⟨rfl,rfl,fun z=>hc (by rw [z];simp)⟩)⟩⟩
   have hc:k = "gate" :=V.str.inj (of_decide_eq_true hc)
   exact WSs.last (Zq (Zch (Zpg T) T.mkGate (Xf T) hr rfl T.mGate T.d_Part___init__.b .nil Z6 (Zvb T) (Zb (pv 1) Za))) ⟨_,rfl,nm,rfl,fun x H' s1 n1 o=>q x _ H' s1 n1 (.inr (.inr (.inl ⟨hc,rfl⟩))) o⟩
  rintro σ H3 ⟨rfl,hH3,nk2⟩
  rw [hH3]
  let I15:=fun (σ:St) (H':Hp)=>σ=[some (.str k),some (.str nm)]/\H'=H/\k ≠ "stop"
  refine WSs.cut I15 ?_ ?_
  ·refine WS.of (Yj (Zr (r:=Zat K) (Za4 hr) (pv 0) Ze (Z9 _)) Zy Zw) ⟨_,rfl,.inl ⟨rfl,_,rfl,Yo (fun hc=>?_) (fun hc=>⟨rfl,rfl,fun z=>hc (by rw [z];simp)⟩)⟩⟩
   have hc:k = "stop" :=V.str.inj (of_decide_eq_true hc)
   exact WSs.last (Zq (Zch (Zo8 T) T.mkStop (Xf T) hr rfl T.mStop T.d_Part___init__.b .nil Z6 (Zug T) (Zb (pv 1) Za))) ⟨_,rfl,nm,rfl,fun x H' s1 n1 o=>q x _ H' s1 n1 (.inr (.inr (.inr (.inl ⟨hc,rfl⟩)))) o⟩
  rintro σ H4 ⟨rfl,hH4,nk3⟩
  rw [hH4]
  have hp:k = "plain" :=by
   unfold X4 at hk
   simp only [List.mem_cons,List.mem_nil_iff,or_false] at hk
   rcases hk with z|z|z|z|z
   ·exact z
   ·exact absurd z nk0
   ·exact absurd z nk1
   ·exact absurd z nk2
   ·exact absurd z nk3
  let I16:=fun (σ:St) (H':Hp)=>σ=[some (.str k),some (.str nm)]/\Same H H'
  refine WSs.cut I16 ?_ ?_
  ·refine WS.of (Yj (Zr (r:=Zhh K) (Zi7 hr) (Zax (r:=Zjn K) Zlp (pv 1) (Zbg (Zmv Zir Zf)) Zb0) (Zl (Zb Ze (Zb Ze Za))) (by with_unfolding_all rfl)) Zy Zw) ⟨_,rfl,_,rfl,_,rfl,.inr (.inr ⟨nm,rfl,sz (by omega),sz (by simp),fun l H5 s5 n5 e5=>.inl ⟨l,_,rfl,.inl (SqL.of e5),rfl,rfl,_,rfl,Yo (fun _=>?_) (fun _=>⟨rfl,s5⟩)⟩⟩)⟩
   exact WSs.last (Zq (Zch (Zpy T) T.mkPart (Xf T) hr rfl T.mPart T.d_Part___init__.b .nil Z6 (Zu0 T) (Zb (pv 1) Za))) ⟨_,rfl,nm,rfl,fun x H' s1 n1 o=>q x _ H' (s5.trans s1) (s5.free n1) (.inr (.inr (.inr (.inr ⟨hp,.inl rfl⟩)))) o⟩
  rintro σ H5 ⟨rfl,s5⟩
  exact WSs.last (Zq (Zch (Znj T) T.mkPlain (Xf T) hr rfl T.mPlain T.d_Part___init__.b .nil Z6 (Zr4 T) (Zb (pv 1) Za))) ⟨_,rfl,nm,rfl,fun x H' s1 n1 o=>q x _ H' (s5.trans s1) (s5.free n1) (.inr (.inr (.inr (.inr ⟨hp,.inr rfl⟩)))) o⟩
theorem Zmb(T:Tx K mg){k:Nat}(h:3<=k:=by decide):Zz P w K mg base CX0 k T.d__law_part.f T.d__law_part.fd ["_law_kind", "_law_name"] (Zrx T):=(Zk5 T).mono h
section
variable {α β κ:Type} [DecidableEq κ] {f:α->κ} {R R':α->β->V->Prop} {kvs:List (κ×V)} {qs:List (α×β)}
def DP(f:α->κ)(R:α->β->V->Prop)(kvs:List (κ×V))(qs:List (α×β)):Prop:=Paired (fun (kv:κ×V) (q:α×β)=>kv.1=f q.1/\R q.1 q.2 kv.2) kvs qs
theorem DP.none(h:DP f R kvs qs)(inj:∀a b,f a=f b->a=b){a:α}(n:a∉qs.map Prod.fst):Yv kvs (f a)=none:=by
 unfold DP at h
 induction h with
 | nil=>rfl
 | cons r t ih =>
  rw [List.map_cons,List.mem_cons,not_or] at n
  rw [Y0 (fun z=>n.1 (inj _ _ (r.1.symm.trans z)).symm)]
  exact ih n.2
theorem DP.get(h:DP f R kvs qs)(inj:∀a b,f a=f b->a=b)(nd:(qs.map Prod.fst).Nodup){a:α}{b:β}(m:(a,b)∈qs):∃v,Yv kvs (f a)=some v/\R a b v:=by
 unfold DP at h
 induction h with
 | nil=>cases m
 | @cons kv q _ _ r t ih =>
  rw [List.map_cons,List.nodup_cons] at nd
  rcases List.mem_cons.mp m with z|z
  ·rw [<-z] at r
   exact ⟨_,Wi r.1,r.2⟩
  ·have:a≠q.1:=fun e=>nd.1 (by rw [<-e];exact List.mem_map.mpr ⟨_,z,rfl⟩)
   rw [Y0 (fun e=>this (inj _ _ (r.1.symm.trans e)).symm)]
   exact ih nd.2 z
theorem DP.put(h:DP f R kvs qs){a:α}{b:β}{v:V}(n:Yv kvs (f a)=Option.none)(r:R a b v):DP f R (Zar kvs (f a) v) (qs++[(a,b)]):=by
 rw [Zdc v n]
 exact Paired.snoc h ⟨rfl,r⟩
theorem DP.len(h:DP f R kvs qs):kvs.length=qs.length:=Paired.length h
theorem DP.mapR(h:DP f R kvs qs)(m:∀a b v,R a b v->R' a b v):DP f R' kvs qs:=Paired.mapP h fun _ _ z=>⟨z.1,m _ _ _ z.2⟩
end
def Yl(e:Zc):List Key:=[.inr e.1,.inr e.2]
theorem Y6(a b:Zc)(h:Yl a=Yl b):a=b:=by
 obtain ⟨a1,a2⟩:=a
 obtain ⟨b1,b2⟩:=b
 unfold Yl at h
 simp only [List.cons.injEq,Sum.inr.injEq,and_true] at h
 rw [h.1,h.2]
def Yi(s:Str):Key:=.inr s
theorem Zct(a b:Str)(h:Yi a=Yi b):a=b:=Sum.inr.inj h
def qP(ps:List Zc):List (Str×Str):=ps.map fun p=>(p.2,p.1)
def qA(ps:List Zc):List (Zc×Str):=ps.flatMap fun p=>(Ya p.1).map fun e=>((p.2,e),p.1)
def qJ(js:List (Zc×Zc)):List (Zc×Zc):=js.flatMap fun j=>[(j.1,j.2),(j.2,j.1)]
def qS(sg:List (Str×Str×Str)):List (Str×Zc):=sg.map fun q=>(q.1,(q.2.1,q.2.2))
def qO(sg:List (Str×Str×Str)):List (Zc×Str):=sg.map fun q=>((q.2.1,q.2.2),q.1)
theorem Zk6(ps:List Zc):(qP ps).map Prod.fst=ps.map Prod.snd:=by unfold qP;rw [List.map_map];rfl
theorem Zle(ps:List Zc):(qA ps).map Prod.fst=Z8 ps:=by
 unfold qA Z8
 rw [List.map_flatMap]
 simp only [List.map_map]
 rfl
theorem W4(js:List (Zc×Zc)):(qJ js).map Prod.fst=Yt js:=by
 unfold qJ Yt
 rw [List.map_flatMap]
 rfl
theorem Zsh(sg:List (Str×Str×Str)):(qS sg).map Prod.fst=sg.map Prod.fst:=by unfold qS;rw [List.map_map];rfl
theorem Zfg(sg:List (Str×Str×Str)):(qO sg).map Prod.fst=sg.map Prod.snd:=by unfold qO;rw [List.map_map];rfl
def RP(T:Tx K mg)(H:Hp):Str->Str->V->Prop:=fun nm k v=>∃x C,v=.ref x/\Zak T k C/\Zdi H C x nm
def RA(T:Tx K mg)(H:Hp):Zc->Str->V->Prop:=fun e k v=>∃x C,v=.ref x/\Zak T k C/\Zdi H C x e.1
def RJ(H:Hp):Zc->Zc->V->Prop:=fun _ e v=>∃t,v=.ref t/\Zs H t e
def RS(H:Hp):Str->Zc->V->Prop:=fun _ e v=>∃t,v=.ref t/\Zs H t e
def RO:Zc->Str->V->Prop:=fun _ s v=>v=.str s
theorem Zdi.mono{H H':Hp}{C x:Addr}{nm:Str}(e:Same H H')(h:Zdi H C x nm):Zdi H' C x nm:=let ⟨dx,z⟩:=h;⟨dx,e.at z⟩
theorem RP.mono{T:Tx K mg}{H H':Hp}(e:Same H H')(a b:Str)(v:V)(h:RP T H a b v):RP T H' a b v:=let ⟨x,C,h1,h2,h3⟩:=h;⟨x,C,h1,h2,h3.mono e⟩
theorem RJ.mono{H H':Hp}(e:Same H H')(a b:Zc)(v:V)(h:RJ H a b v):RJ H' a b v:=let ⟨t,h1,h2⟩:=h;⟨t,h1,h2.mono e⟩
theorem RS.mono{H H':Hp}(e:Same H H')(a:Str)(b:Zc)(v:V)(h:RS H a b v):RS H' a b v:=let ⟨t,h1,h2⟩:=h;⟨t,h1,h2.mono e⟩
theorem Zgz{H:Hp}{t:Addr}{e:Zc}(h:Zs H t e):H t=some (.tup ((Yl e).map kV)):=h
abbrev Zr9:Str := "abcdefghijklmnopqrstuvwxyz"
abbrev Zwv:Str := "0123456789"
theorem Zt7:∀c,c<128->(!(Builtin.Str.occurrences Zr9 ⟨#[c]⟩ 0 Zr9.length 1).isEmpty)=Zgf c:=by trivial
theorem Zzg:∀c,c<128->(!(Builtin.Str.occurrences (Zr9++Zwv) ⟨#[c]⟩ 0 (Zr9++Zwv).length 1).isEmpty)=anC c:=by trivial
theorem Zq5:Zr9.length+Zwv.length<=sizeLine:=by rw [sizeLine_eq];decide +kernel
theorem Zyg{c:Nat}(h:anC c=true):c<128:=by
 unfold anC Zgf at h
 simp at h
 omega
def Zl9:Sp:=fun vs H Q _=>∃s:Str,vs=[.str s]/\Zbv s/\∀H',Same H H'->Q (.bl true) H'
theorem Zn2(T:Tx K mg):Zz P w K mg base CX0 1 T.d_is_name.f T.d_is_name.fd ["thing"] Zl9:=by
 refine T.d_is_name.F.okW Zoh fun cdv A outer s H vs Q E hr h=>?_
 ·obtain ⟨x,rfl,⟨h1,h6,hd,hall⟩,q⟩:=h
  have hx:x.cps.toList.length=x.length:=Array.length_toList
  have hasc:∀c∈x.cps.toList,c<128:=fun c hc=>Zyg (List.all_eq_true.mp hall c hc)
  obtain ⟨c,cs,hcs⟩:∃c cs,x.cps.toList=c ::cs:=by
   cases e:x.cps.toList with
   | nil=>rw [e] at hx;exact absurd hx (by show ¬0=x.length;omega)
   | cons c cs=>exact ⟨c,cs,rfl⟩
  rw [hcs] at hd
  have hd:Zgf c=true:=hd
  refine WSs.step (Yj (Zdk (Zad (Yb (r:=Zra K) Zcy (by rfl) T.n_isinstance PyProof.Rows.boot_isinstance (Zb (pv 0) (Zb (Zg6 (v:=.ty "str") (by rfl) T.n_str PyProof.Rows.boot_str rfl) Za))))) Zy Zw) ⟨_,rfl,_,_,true,_,rfl,Zbs.str x,.inl ⟨_,rfl,T.kSS⟩,_,rfl,Yo (fun z=>absurd z (by decide)) (fun _=>?_)⟩
  refine WSs.step (Yj (PW.pt (Zmj (Zr (r:=Zat K) (Za4 hr) (pv 0) Ze (Z9 _)) (Zii (Zr Zkj (Yb (r:=Za5 K) Zbo (by rfl) T.n_len PySem.boot_len (Zb (pv 0) Za)) (Zdo (by rfl) T.c_LONGEST_NAME) (Z9 _))))) Zy Zw) ⟨_,rfl,.inl ⟨rfl,_,rfl,Yo (fun z=>?_) (fun _=>⟨_,rfl,.inr (.inl ⟨x,rfl,sz (by omega),_,_,rfl,rfl,_,rfl,Yo (fun z=>?_) (fun _=>?_)⟩)⟩)⟩⟩
  ·have:x=("" :Str):=V.str.inj (of_decide_eq_true z)
   rw [this] at h1
   exact absurd h1 (by decide)
  ·have:(6:Int)<(x.length:Int):=of_decide_eq_true z
   exact absurd this (by omega)
  refine WSs.last (Zq (Zh9 (Zcp (r:=Zhh K) (Zi7 hr) (Zv (r:=rIx K) Zk (pv 0) Zf (fun _ _=>rfl)) (Zhx (by rfl) T.c_LETTERS) (by with_unfolding_all rfl)) (Zh3 (Yb (r:=Zys K) (Zq8 rfl) (by rfl) T.n_all PyProof.Rows.boot_all (Zb (Wr (N':=["sign"]) rfl (Yd.std 1 [] rfl (by trivial) (by trivial) rfl trivial rfl rfl trivial) (Zxo (pv 0)) (fun _ _ _ _=>(Zci (i:=0) (by show (["sign"]:List Str).Nodup;decide +kernel))) (fun _ _ _ _=>Za2) (fun _ _ _ _=>(Zcp (r:=Zhh K) (Zi7 hr) (pv 0) (Zp Zaa (Zhx (by rfl) T.c_LETTERS) (Zhx (by rfl) T.c_FIGURES)) (by with_unfolding_all rfl)))) Za))))) ⟨_,rfl,.inr (.inr ⟨x,0,c,rfl,rfl,sz (by omega),by rw [hcs];exact Zt (j:=0) rfl,.inr (.inr (.inl ⟨_,_,rfl,rfl,_,rfl,?_⟩))⟩)⟩
  rw [Zt7 c (hasc c (by rw [hcs];exact List.mem_cons_self)),hd]
  refine Zjj ⟨_,rfl,x,rfl,?_,fun D hD=>?_⟩
  ·rw [Array.all_eq_true']
   exact fun c hc=>decide_eq_true (hasc c (Array.mem_toList_iff.mpr hc))
  refine Zrq (fun i ys H'=>ys=(x.cps.toList.take i).map (fun c=>V.bl (anC c))/\H' D=some (.lst ys)/\Same H H') ⟨rfl,Zh,fun b' o e=>by rw [Zi (Zj e hD)];exact e⟩ ?_ ?_
  ·rintro i c' ys H' hi ⟨rfl,hD',sm⟩
   have hi':x.cps.toList[i]? =some c':=by simpa using hi
   have hc':c'<128:=hasc c' (List.mem_of_getElem? hi')
   refine ⟨Zaq.set rfl,_,rfl,.inr (.inl ⟨_,_,rfl,rfl,Zq5,.inr (.inr (.inl ⟨_,_,rfl,rfl,hD',?_,?_⟩))⟩)⟩
   ·rw [List.length_map,List.length_take,sizeLine_eq];omega
   ·rw [Zzg c' hc']
    refine ⟨?_,Zh,fun b' o e=>?_⟩
    ·rw [List.take_add_one,hi']
     simp
    ·rw [Zi (Zj e hD)]
     exact sm b' o e
  ·rintro ys H' ⟨rfl,hD',sm⟩
   refine ⟨D,(x.cps.toList.map anC),rfl,?_,?_⟩
   ·have e:(List.map anC x.cps.toList).map V.bl=List.map (fun c=>V.bl (anC c)) (List.take x.cps.size x.cps.toList):=by
     rw [List.map_map,List.take_of_length_le (by simp)]
     rfl
    rw [e]
    exact SqL.of hD'
   ·have e:(List.map anC x.cps.toList).all id=true:=by rw [List.all_map];exact hall
    rw [e]
    exact q H' sm
theorem Zfv(T:Tx K mg){k:Nat}(h:1<=k:=by decide):Zz P w K mg base CX0 k T.d_is_name.f T.d_is_name.fd ["thing"] Zl9:=(Zn2 T).mono h
def Ztm:Sp:=fun vs H Q _=>∃(s:Str) (d:Addr) (kvs:List (Key×V)),vs=[.str s,.ref d]/\Zbv s/\H d=some (.dK kvs)/\Yv kvs (Yi s)=none/\∀H',Same H H'->Q .non H'
theorem Zic(T:Tx K mg):Zz P w K mg base CX0 2 T.d_refuse_name.f T.d_refuse_name.fd ["name", "known"] Ztm:=by
 refine T.d_refuse_name.F.okW Zhi fun cdv A outer s H vs Q E hr h=>?_
 ·obtain ⟨x,d,kvs,rfl,hn,hd,hv,q⟩:=h
  refine WSs.step (Yj (Zdk (Zad (Zx (Zfv T) hr rfl T.m_is_name T.d_is_name.F.kp T.d_is_name.b .nil Z6 (Zb (pv 0) Za)))) Zy Zw) ⟨_,rfl,x,rfl,hn,fun H1 s1=>⟨_,rfl,Yo (fun z=>absurd z (by decide)) (fun _=>?_)⟩⟩
  refine WSs.last (Yj (Zr (r:=Zhh K) (Zi7 hr) (pv 0) (pv 1) (by with_unfolding_all rfl)) Zy Zw) ⟨_,rfl,_,rfl,.inr (.inl ⟨d,_,rfl,W9.k (k:=Yi x) (s1.at hd),_,rfl,Yo (fun z=>?_) (fun _=>q H1 s1)⟩)⟩
  rw [hv] at z
  exact absurd z (by decide)
theorem Zdz(T:Tx K mg){k:Nat}(h:2<=k:=by decide):Zz P w K mg base CX0 k T.d_refuse_name.f T.d_refuse_name.fd ["name", "known"] Ztm:=(Zic T).mono h
def Zcc(k:Str):List Str:=if k = "points" then ["left", "right"] else [""]
def Zko(k lie:Str):List (Str×Str):=if k = "points" then [("stem",lie)] else if k = "cross" then [("a", "b"),("c", "d")] else if k = "plain" then [("a", "b")] else [("", "a")]
def Zns(k:Str):Bool:=decide (k∈[("plain" :Str), "gate", "stop"])
def Zq1(e:Str):List (Str×Str)->Str
 | [] => ""
 | (one,two) ::r=>if e=one then two else if e=two then one else Zq1 e r
def Xc(k e lie:Str):Str:=if lie∈Zcc k then Zq1 e (Zko k lie) else ""
def Zv3(H:Hp)(p:Addr)(l:List (Str×Str)):Prop:=∃as:List Addr,H p=some (.lst (as.map V.ref))/\Paired (fun a (q:Str×Str)=>H a=some (.tup [.str q.1,.str q.2])) as l
def spL(xs:List V):Sp:=fun vs H Q _=>∃v,vs=[v]/\∀p H',Same H H'->H p=none->H' p=some (.lst xs)->Q (.ref p) H'
def spP(f:Str->List (Str×Str)):Sp:=fun vs H Q _=>∃v lie,vs=[v,.str lie]/\∀p H',Same H H'->Zv3 H' p (f lie)->Q (.ref p) H'
def spB(b:Bool):Sp:=fun vs H Q _=>∃v,vs=[v]/\Q (.bl b) H
theorem Ze4(T:Tx K mg):Zz P w K mg base CX0 1 T.d_Part_ends.f T.d_Part_ends.fd ["self"] (spL ((["a", "b"]:List Str).map V.str)):=by
 refine T.d_Part_ends.F.okW Zln fun cdv A outer s H vs Q E hr h=>?_
 ·obtain ⟨v,rfl,k⟩:=h
  exact WSs.last (Zq (Zl (Zb Ze (Zb Ze Za)))) ⟨sz (by simp),k⟩
theorem Za0(T:Tx K mg):Zz P w K mg base CX0 1 T.d_Part_lies.f T.d_Part_lies.fd ["self"] (spL (([""]:List Str).map V.str)):=by
 refine T.d_Part_lies.F.okW Zly fun cdv A outer s H vs Q E hr h=>?_
 ·obtain ⟨v,rfl,k⟩:=h
  exact WSs.last (Zq (Zl (Zb Ze Za))) ⟨sz (by simp),k⟩
theorem Zd1(T:Tx K mg):Zz P w K mg base CX0 1 T.d_Part_pairs.f T.d_Part_pairs.fd ["self", "lie"] (spP fun lie=>[("a", "b")]):=by
 refine T.d_Part_pairs.F.okW Zi8 fun cdv A outer s H vs Q E hr h=>?_
 ·obtain ⟨v,lie,rfl,k⟩:=h
  exact WSs.last (Zq (Zl (Zb (Zg (Zb Ze (Zb Ze Za))) Za))) ⟨sz (by simp),fun p1 H1 s1 n1 e1=>⟨sz (by simp),fun p2 H2 s2 n2 e2=>k p2 H2 (s1.trans s2) ⟨[p1],e2,.cons (s2.at e1) .nil⟩⟩⟩
theorem Zbj(T:Tx K mg):Zz P w K mg base CX0 1 T.d_Part_bears.f T.d_Part_bears.fd ["self"] (spB true):=by
 refine T.d_Part_bears.F.okW Ziy fun cdv A outer s H vs Q E hr h=>?_
 ·obtain ⟨v,rfl,k⟩:=h
  exact WSs.last (Zq Zph) k
theorem Zfe(T:Tx K mg):Zz P w K mg base CX0 1 T.d_Stop_ends.f T.d_Stop_ends.fd ["self"] (spL ((["a"]:List Str).map V.str)):=by
 refine T.d_Stop_ends.F.okW Zk4 fun cdv A outer s H vs Q E hr h=>?_
 ·obtain ⟨v,rfl,k⟩:=h
  exact WSs.last (Zq (Zl (Zb Ze Za))) ⟨sz (by simp),k⟩
theorem Zd5(T:Tx K mg):Zz P w K mg base CX0 1 T.d_Stop_pairs.f T.d_Stop_pairs.fd ["self", "lie"] (spP fun lie=>[("", "a")]):=by
 refine T.d_Stop_pairs.F.okW Zjg fun cdv A outer s H vs Q E hr h=>?_
 ·obtain ⟨v,lie,rfl,k⟩:=h
  exact WSs.last (Zq (Zl (Zb (Zg (Zb Ze (Zb Ze Za))) Za))) ⟨sz (by simp),fun p1 H1 s1 n1 e1=>⟨sz (by simp),fun p2 H2 s2 n2 e2=>k p2 H2 (s1.trans s2) ⟨[p1],e2,.cons (s2.at e1) .nil⟩⟩⟩
theorem Zit(T:Tx K mg):Zz P w K mg base CX0 1 T.d_Points_ends.f T.d_Points_ends.fd ["self"] (spL ((["stem", "left", "right"]:List Str).map V.str)):=by
 refine T.d_Points_ends.F.okW Zhd fun cdv A outer s H vs Q E hr h=>?_
 ·obtain ⟨v,rfl,k⟩:=h
  exact WSs.last (Zq (Zl (Zb Ze (Zb Ze (Zb Ze Za))))) ⟨sz (by simp),k⟩
theorem Zhy(T:Tx K mg):Zz P w K mg base CX0 1 T.d_Points_lies.f T.d_Points_lies.fd ["self"] (spL ((["left", "right"]:List Str).map V.str)):=by
 refine T.d_Points_lies.F.okW Zio fun cdv A outer s H vs Q E hr h=>?_
 ·obtain ⟨v,rfl,k⟩:=h
  exact WSs.last (Zq (Zl (Zb Ze (Zb Ze Za)))) ⟨sz (by simp),k⟩
theorem Zgj(T:Tx K mg):Zz P w K mg base CX0 1 T.d_Points_pairs.f T.d_Points_pairs.fd ["self", "lie"] (spP fun lie=>[("stem",lie)]):=by
 refine T.d_Points_pairs.F.okW Zgq fun cdv A outer s H vs Q E hr h=>?_
 ·obtain ⟨v,lie,rfl,k⟩:=h
  exact WSs.last (Zq (Zl (Zb (Zg (Zb Ze (Zb (pv 1) Za))) Za))) ⟨_,rfl,sz (by simp),fun p1 H1 s1 n1 e1=>⟨sz (by simp),fun p2 H2 s2 n2 e2=>k p2 H2 (s1.trans s2) ⟨[p1],e2,.cons (s2.at e1) .nil⟩⟩⟩
theorem Zgp(T:Tx K mg):Zz P w K mg base CX0 1 T.d_Points_bears.f T.d_Points_bears.fd ["self"] (spB false):=by
 refine T.d_Points_bears.F.okW Zgu fun cdv A outer s H vs Q E hr h=>?_
 ·obtain ⟨v,rfl,k⟩:=h
  exact WSs.last (Zq Zph) k
theorem Zix(T:Tx K mg):Zz P w K mg base CX0 1 T.d_Cross_ends.f T.d_Cross_ends.fd ["self"] (spL ((["a", "b", "c", "d"]:List Str).map V.str)):=by
 refine T.d_Cross_ends.F.okW Zi6 fun cdv A outer s H vs Q E hr h=>?_
 ·obtain ⟨v,rfl,k⟩:=h
  exact WSs.last (Zq (Zl (Zb Ze (Zb Ze (Zb Ze (Zb Ze Za)))))) ⟨sz (by simp),k⟩
theorem Zid(T:Tx K mg):Zz P w K mg base CX0 1 T.d_Cross_pairs.f T.d_Cross_pairs.fd ["self", "lie"] (spP fun lie=>[("a", "b"),("c", "d")]):=by
 refine T.d_Cross_pairs.F.okW Zh5 fun cdv A outer s H vs Q E hr h=>?_
 ·obtain ⟨v,lie,rfl,k⟩:=h
  exact WSs.last (Zq (Zl (Zb (Zg (Zb Ze (Zb Ze Za))) (Zb (Zg (Zb Ze (Zb Ze Za))) Za)))) ⟨sz (by simp),fun p1 H1 s1 n1 e1=>⟨sz (by simp),fun p2 H2 s2 n2 e2=>⟨sz (by simp),fun p3 H3 s3 n3 e3=>k p3 H3 (s1.trans (s2.trans s3)) ⟨[p1,p2],e3,.cons (s3.at (s2.at e1)) (.cons (s3.at e2) .nil)⟩⟩⟩⟩
theorem Zh0(T:Tx K mg):Zz P w K mg base CX0 1 T.d_Cross_bears.f T.d_Cross_bears.fd ["self"] (spB false):=by
 refine T.d_Cross_bears.F.okW Zil fun cdv A outer s H vs Q E hr h=>?_
 ·obtain ⟨v,rfl,k⟩:=h
  exact WSs.last (Zq Zph) k
theorem Zak.ends{T:Tx K mg}{k:Str}{C:Addr}(h:Zak T k C):∃f fd,Xk K C "ends" f/\Zbx K fd ["self"] []/\∀(P:Program) (w:World) (base:Heap) (j:Nat),1<=j->Zz P w K mg base CX0 j f fd ["self"] (spL ((Ya k).map V.str)):=by
 rcases h with ⟨rfl,rfl⟩|⟨rfl,rfl⟩|⟨rfl,rfl⟩|⟨rfl,rfl⟩|⟨rfl,rfl|rfl⟩
 ·exact ⟨_,_,T.mtPoints_ends,T.d_Points_ends.b,fun P w base j hj=>(Zit T).mono hj⟩
 ·exact ⟨_,_,T.mtCross_ends,T.d_Cross_ends.b,fun P w base j hj=>(Zix T).mono hj⟩
 ·exact ⟨_,_,T.mtGate_ends,T.d_Stop_ends.b,fun P w base j hj=>(Zfe T).mono hj⟩
 ·exact ⟨_,_,T.mtStop_ends,T.d_Stop_ends.b,fun P w base j hj=>(Zfe T).mono hj⟩
 ·exact ⟨_,_,T.mtPart_ends,T.d_Part_ends.b,fun P w base j hj=>(Ze4 T).mono hj⟩
 ·exact ⟨_,_,T.mtPlain_ends,T.d_Part_ends.b,fun P w base j hj=>(Ze4 T).mono hj⟩
theorem Zak.lies{T:Tx K mg}{k:Str}{C:Addr}(h:Zak T k C):∃f fd,Xk K C "lies" f/\Zbx K fd ["self"] []/\∀(P:Program) (w:World) (base:Heap) (j:Nat),1<=j->Zz P w K mg base CX0 j f fd ["self"] (spL ((Zcc k).map V.str)):=by
 rcases h with ⟨rfl,rfl⟩|⟨rfl,rfl⟩|⟨rfl,rfl⟩|⟨rfl,rfl⟩|⟨rfl,rfl|rfl⟩
 ·exact ⟨_,_,T.mtPoints_lies,T.d_Points_lies.b,fun P w base j hj=>(Zhy T).mono hj⟩
 ·exact ⟨_,_,T.mtCross_lies,T.d_Part_lies.b,fun P w base j hj=>(Za0 T).mono hj⟩
 ·exact ⟨_,_,T.mtGate_lies,T.d_Part_lies.b,fun P w base j hj=>(Za0 T).mono hj⟩
 ·exact ⟨_,_,T.mtStop_lies,T.d_Part_lies.b,fun P w base j hj=>(Za0 T).mono hj⟩
 ·exact ⟨_,_,T.mtPart_lies,T.d_Part_lies.b,fun P w base j hj=>(Za0 T).mono hj⟩
 ·exact ⟨_,_,T.mtPlain_lies,T.d_Part_lies.b,fun P w base j hj=>(Za0 T).mono hj⟩
theorem Zak.pairs{T:Tx K mg}{k:Str}{C:Addr}(h:Zak T k C):∃f fd,Xk K C "pairs" f/\Zbx K fd ["self", "lie"] []/\∀(P:Program) (w:World) (base:Heap) (j:Nat),1<=j->Zz P w K mg base CX0 j f fd ["self", "lie"] (spP (Zko k)):=by
 rcases h with ⟨rfl,rfl⟩|⟨rfl,rfl⟩|⟨rfl,rfl⟩|⟨rfl,rfl⟩|⟨rfl,rfl|rfl⟩
 ·exact ⟨_,_,T.mtPoints_pairs,T.d_Points_pairs.b,fun P w base j hj=>(Zgj T).mono hj⟩
 ·exact ⟨_,_,T.mtCross_pairs,T.d_Cross_pairs.b,fun P w base j hj=>(Zid T).mono hj⟩
 ·exact ⟨_,_,T.mtGate_pairs,T.d_Stop_pairs.b,fun P w base j hj=>(Zd5 T).mono hj⟩
 ·exact ⟨_,_,T.mtStop_pairs,T.d_Stop_pairs.b,fun P w base j hj=>(Zd5 T).mono hj⟩
 ·exact ⟨_,_,T.mtPart_pairs,T.d_Part_pairs.b,fun P w base j hj=>(Zd1 T).mono hj⟩
 ·exact ⟨_,_,T.mtPlain_pairs,T.d_Part_pairs.b,fun P w base j hj=>(Zd1 T).mono hj⟩
theorem Zak.bears{T:Tx K mg}{k:Str}{C:Addr}(h:Zak T k C):∃f fd,Xk K C "bears" f/\Zbx K fd ["self"] []/\∀(P:Program) (w:World) (base:Heap) (j:Nat),1<=j->Zz P w K mg base CX0 j f fd ["self"] (spB (Zns k)):=by
 rcases h with ⟨rfl,rfl⟩|⟨rfl,rfl⟩|⟨rfl,rfl⟩|⟨rfl,rfl⟩|⟨rfl,rfl|rfl⟩
 ·exact ⟨_,_,T.mtPoints_bears,T.d_Points_bears.b,fun P w base j hj=>(Zgp T).mono hj⟩
 ·exact ⟨_,_,T.mtCross_bears,T.d_Cross_bears.b,fun P w base j hj=>(Zh0 T).mono hj⟩
 ·exact ⟨_,_,T.mtGate_bears,T.d_Part_bears.b,fun P w base j hj=>(Zbj T).mono hj⟩
 ·exact ⟨_,_,T.mtStop_bears,T.d_Part_bears.b,fun P w base j hj=>(Zbj T).mono hj⟩
 ·exact ⟨_,_,T.mtPart_bears,T.d_Part_bears.b,fun P w base j hj=>(Zbj T).mono hj⟩
 ·exact ⟨_,_,T.mtPlain_bears,T.d_Part_bears.b,fun P w base j hj=>(Zbj T).mono hj⟩
theorem Zak.cls{T:Tx K mg}{k:Str}{C:Addr}(h:Zak T k C):Cls K C/\X2 K C "name" /\Xk K C "leads" T.d_Part_leads.f:=by
 rcases h with ⟨rfl,rfl⟩|⟨rfl,rfl⟩|⟨rfl,rfl⟩|⟨rfl,rfl⟩|⟨rfl,rfl|rfl⟩
 ·exact ⟨T.clPoints,T.nPoints_name,T.mtPoints_leads⟩
 ·exact ⟨T.clCross,T.nCross_name,T.mtCross_leads⟩
 ·exact ⟨T.clGate,T.nGate_name,T.mtGate_leads⟩
 ·exact ⟨T.clStop,T.nStop_name,T.mtStop_leads⟩
 ·exact ⟨T.clPart,T.nPart_name,T.mtPart_leads⟩
 ·exact ⟨T.clPlain,T.nPlain_name,T.mtPlain_leads⟩
theorem Zak.stop{T:Tx K mg}{k:Str}{C x:Addr}{nm:Str}{H:Hp}(h:Zak T k C)(o:Zdi H C x nm):∃t,Zbs K H (.ref x) t/\kitOne K t (.ref T.CStop)=some (decide (k = "gate" \/k = "stop")):=by
 obtain ⟨dx,o⟩:=o
 rcases h with ⟨rfl,rfl⟩|⟨rfl,rfl⟩|⟨rfl,rfl⟩|⟨rfl,rfl⟩|⟨rfl,rfl|rfl⟩
 ·exact ⟨_,Zbs.ins o T.clPoints T.tcPoints T.tG T.tK T.tmPoints,T.iPoints⟩
 ·exact ⟨_,Zbs.ins o T.clCross T.tcCross T.tG T.tK T.tmCross,T.iCross⟩
 ·exact ⟨_,Zbs.ins o T.clGate T.tcGate T.tG T.tK T.tmGate,T.iGate⟩
 ·exact ⟨_,Zbs.ins o T.clStop T.tcStop T.tG T.tK T.tmStop,T.iStop⟩
 ·exact ⟨_,Zbs.ins o T.clPart T.tcPart T.tG T.tK T.tmPart,T.iPart⟩
 ·exact ⟨_,Zbs.ins o T.clPlain T.tcPlain T.tG T.tK T.tmPlain,T.iPlain⟩
def Zp4(T:Tx K mg):Sp:=fun vs H Q _=>∃(k:Str) (a C:Addr) (nm e l:Str),vs=[.ref a,.str e,.str l]/\Zak T k C/\Zdi H C a nm/\∀H',Same H H'->Q (.str (Xc k e l)) H'
theorem Zja(T:Tx K mg):Zz P w K mg base CX0 2 T.d_Part_leads.f T.d_Part_leads.fd ["self", "end", "lie"] (Zp4 T):=by
 refine T.d_Part_leads.F.okW Zcr fun cdv A outer s H vs Q E hr h=>?_
 ·obtain ⟨k,a,C,nm,e,l,rfl,hC,⟨dx,ha⟩,q⟩:=h
  obtain ⟨f1,d1,m1,b1,g1⟩:=hC.lies
  obtain ⟨f2,d2,m2,b2,g2⟩:=hC.pairs
  have cC:=hC.cls.1
  refine WSs.step (Yj (Zr (r:=Zbz K) (Zcj hr) (pv 2) Ztk (by with_unfolding_all rfl)) Zy Zw) ⟨_,rfl,WE.of (Ze0 (pv 0) cC m1 (g1 _ _ _ 1 (by decide)) hr b1 .nil Z6) ⟨_,rfl,a,dx,_,rfl,ha,rfl,_,rfl,fun p H1 s1 n1 e1=>.inl ⟨p,_,rfl,.inl (SqL.of e1),rfl,Zbc _,_,rfl,?_⟩⟩⟩
  rw [if_pos rfl,Zau]
  refine Yo (fun hc=>?_) (fun hc=>?_)
  ·have hc:¬l∈Zcc k:=by simpa using hc
   refine WSs.last (Zq Ze) ?_
   have:Xc k e l = "" :=by unfold Xc;rw [if_neg hc]
   rw [this] at q
   exact q H1 s1
  ·have hc:l∈Zcc k:=by simpa using hc
   refine WSs.step (Xu PassesOwn.never rfl (Yp Ztk) (Zbt rfl (Z7 (Yw (i:=3) Zcr.nd) (Z7 (Yw (i:=4) Zcr.nd) X3))) Zy) (WE.of (Zck (pv 0) cC m2 (g2 _ _ _ 1 (by decide)) hr b2 .nil Z6 (Zb (pv 2) Za)) ⟨_,rfl,a,dx,_,rfl,s1.at ha,rfl,_,rfl,_,l,rfl,fun p2 H2 s2 e2=>?_⟩)
   obtain ⟨as,h1,h2⟩:=e2
   let I17:=fun (i:Nat) (σ:St) (H':Hp)=>(∃o3 o4,σ=[some (.ref a),some (.str e),some (.str l),o3,o4])/\Same H2 H'/\Zq1 e ((Zko k l).drop i)=Xc k e l
   refine ⟨p2,rfl,⟨_,SqL.of h1⟩,Xr (xs:=as.map V.ref) I17 ?_ ?_ ?_ ?_⟩
   ·refine ⟨⟨none,none,rfl⟩,Same.refl _,?_⟩
    unfold Xc
    rw [if_pos hc]
    rfl
   ·rintro i σ H' _ ⟨_,s3,_⟩
    exact SqL.of (s3.at h1)
   ·rintro i x σ H' hx ⟨⟨o3,o4,rfl⟩,s3,hs⟩
    rw [List.getElem?_map] at hx
    obtain ⟨ai,hai,rfl⟩:=Option.map_eq_some_iff.mp hx
    obtain ⟨⟨one,two⟩,hq,ht⟩:=Paired.get h2 hai
    rw [Zhu hq] at hs
    refine ⟨ai,_,rfl,SqT.of (s3.at ht),rfl,_,_,rfl,_,_,rfl,rfl,?_⟩
    refine WSs.step (Yj (Zr (r:=Zat K) (Za4 hr) (pv 1) (pv 3) (Z9 _)) Zy Zw) ⟨_,rfl,_,rfl,.inl ⟨rfl,_,rfl,Yo (fun hc=>?_) (fun hc=>?_)⟩⟩
    ·have hc:e=one:=V.str.inj (of_decide_eq_true hc)
     refine WSs.last (Zq (pv 4)) ⟨_,rfl,?_⟩
     unfold Zq1 at hs
     rw [if_pos hc] at hs
     rw [<-hs] at q
     exact q _ (s1.trans (s2.trans s3))
    ·have hc:¬e=one:=fun z=>hc (decide_eq_true (by rw [z]))
     refine WSs.last (Yj (Zr (r:=Zat K) (Za4 hr) (pv 1) (pv 4) (Z9 _)) Zy Zw) ⟨_,rfl,_,rfl,.inl ⟨rfl,_,rfl,Yo (fun hc2=>?_) (fun hc2=>?_)⟩⟩
     ·have hc2:e=two:=V.str.inj (of_decide_eq_true hc2)
      refine WSs.last (Zq (pv 3)) ⟨_,rfl,?_⟩
      unfold Zq1 at hs
      rw [if_neg hc,if_pos hc2] at hs
      rw [<-hs] at q
      exact q _ (s1.trans (s2.trans s3))
     ·have hc2:¬e=two:=fun z=>hc2 (decide_eq_true (by rw [z]))
      unfold Zq1 at hs
      rw [if_neg hc,if_neg hc2] at hs
      exact ⟨⟨_,_,rfl⟩,s3,hs⟩
   ·rintro σ H' ⟨_,s3,hs⟩
    refine WSs.last (Zq Ze) ?_
    have e0:(Zko k l).drop (as.map V.ref).length=[]:=by rw [List.length_map,Paired.length h2,List.drop_length]
    rw [e0] at hs
    rw [<-hs] at q
    exact q _ (s1.trans (s2.trans s3))
theorem Zky(T:Tx K mg){k:Nat}(h:2<=k:=by decide):Zz P w K mg base CX0 k T.d_Part_leads.f T.d_Part_leads.fd ["self", "end", "lie"] (Zp4 T):=(Zja T).mono h
theorem _root_.L2.Same.upd0{H H':Hp}{d:Addr}{o:HO}(s:Same H H')(n:H d=none):Same H (upd H' d o):=fun b u e=>by rw [Zi (Zj e n)];exact s.at e
def PO(T:Tx K mg)(H:Hp)(x:Addr)(p:Zc):Prop:=∃C,Zak T p.1 C/\Zdi H C x p.2
theorem PO.mono{T:Tx K mg}{H H':Hp}{x:Addr}{p:Zc}(e:Same H H')(h:PO T H x p):PO T H' x p:=let ⟨C,h1,h2⟩:=h;⟨C,h1,h2.mono e⟩
def Zv7(T:Tx K mg):Sp:=fun vs H Q _=>∃(l:Addr) (xs:List Addr) (ps:List Zc),vs=[.ref l]/\H l=some (.lst (xs.map V.ref))/\Paired (PO T H) xs ps/\(ps.map Prod.snd).Nodup/\(∀p∈ps,Zbv p.2)/\ps.length<=100 /\
 ∀(d:Addr) (kvs:List (Key×V)) (H':Hp),Same H H'->H d=none->H' d=some (.dK kvs)->DP Yi (RP T H) kvs (qP ps)->Q (.ref d) H'
theorem Zfo(T:Tx K mg):Zz P w K mg base CX0 3 T.d_parts_by_name.f T.d_parts_by_name.fd ["parts"] (Zv7 T):=by
 refine T.d_parts_by_name.F.okW Zba fun cdv A outer s H vs Q E hr h=>?_
 ·obtain ⟨l,xs,ps,rfl,hl,hx,nd,nm,len,q⟩:=h
  have hxl:=Paired.length hx
  refine WSs.step (Z2 (i:=1) Zba.nd Zfl) fun d H1 s1 n1 e1=>?_
  let I18:=fun (i:Nat) (σ:St) (H':Hp)=>(∃o,σ=[some (.ref l),some (.ref d),o])/\Same H H'/\∃kvs,H' d=some (.dK kvs)/\DP Yi (RP T H) kvs (qP (ps.take i))
  refine WSs.step (Xu PassesOwn.never rfl (Yp (pv 0)) (Yw (i:=2) Zba.nd) Zy) ⟨_,rfl,l,rfl,⟨_,SqL.of (s1.at hl)⟩,Xr (K:=K) (xs:=xs.map V.ref) I18 ⟨⟨none,rfl⟩,s1,[],e1,.nil⟩ ?_ ?_ ?_⟩
  ·rintro i σ H' _ ⟨_,s2,_⟩
   exact SqL.of (s2.at hl)
  ·rintro i v σ H2 hi ⟨⟨o,rfl⟩,s2,kvs,hd,hD⟩
   rw [List.getElem?_map] at hi
   obtain ⟨x,hxi,rfl⟩:=Option.map_eq_some_iff.mp hi
   obtain ⟨p,hp,C,hC,dx,hO⟩:=Paired.get hx hxi
   have hm:p∈ps:=List.mem_of_getElem? hp
   have hil:=(List.getElem?_eq_some_iff.mp hp).1
   have hn:Yv kvs (Yi p.2)=none:=hD.none Zct (by
    rw [Zk6,List.map_take]
    exact Zdp nd (by rw [List.getElem?_map,hp];rfl))
   have hkl:kvs.length<=100:=by
    have:=hD.len
    unfold qP at this
    rw [List.length_map,List.length_take] at this
    omega
   refine WSs.step (Xm (Zx (Zdz T) hr rfl T.m_refuse_name T.d_refuse_name.F.kp T.d_refuse_name.b .nil Z6 (Zb (W5 (pv 2) rfl) (Zb (pv 1) Za)))) ⟨_,rfl,x,C,dx,_,_,rfl,s2.at hO,hC.cls.1,hC.cls.2.1,rfl,_,rfl,p.2,d,kvs,rfl,nm p hm,hd,hn,fun H3 s3=>?_⟩
   have s13:=s2.trans s3
   refine WSs.last (Zby (X0 hr) (pv 1) (W5 (pv 2) rfl) (pv 2) rfl) ⟨_,rfl,_,rfl,_,rfl,x,C,dx,_,_,rfl,s13.at hO,hC.cls.1,hC.cls.2.1,rfl,d,_,rfl,Zed.k (k:=Yi p.2) (s3.at hd) (Z1 (by omega)),⟨_,rfl⟩,s13.upd0 n1,_,Zh,?_⟩
   have:qP (ps.take (i+1))=qP (ps.take i)++[(p.2,p.1)]:=by
    unfold qP
    rw [List.take_add_one,hp,List.map_append]
    rfl
   rw [this]
   exact hD.put hn ⟨x,C,rfl,hC,dx,hO⟩
  ·rintro σ H2 ⟨⟨o,rfl⟩,s2,kvs,hd,hD⟩
   rw [List.length_map,hxl,List.take_length] at hD
   exact WSs.last (Zq (pv 1)) ⟨_,rfl,q d kvs H2 s2 n1 hd hD⟩
theorem Zgk(T:Tx K mg){k:Nat}(h:3<=k:=by decide):Zz P w K mg base CX0 k T.d_parts_by_name.f T.d_parts_by_name.fd ["parts"] (Zv7 T):=(Zfo T).mono h
theorem _root_.L2.Same.frz{H H1:Hp}{d:Addr}{u:HO}(s:Same H H1):Same (upd H d u) (upd H1 d u):=fun b o e=>by
 by_cases z:b=d
 ·rw [z,Zh] at e ⊢;exact e
 ·rw [Zi z] at e ⊢;exact s.at e
def Zwe(T:Tx K mg):Sp:=fun vs H Q _=>∃(d:Addr) (kvs:List (Key×V)) (ps:List Zc),vs=[.ref d]/\H d=some (.dK kvs)/\DP Yi (RP T H) kvs (qP ps)/\(ps.map Prod.snd).Nodup/\ps.length<=100 /\
 ∀(a:Addr) (ka:List (List Key×V)) (H':Hp),Same H H'->H a=none->H' a=some (.dT ka)->DP Yl (RA T H) ka (qA ps)->Q (.ref a) H'
theorem Ztx(ps:List Zc):(qA ps).length<=4 * ps.length:=by
 induction ps with
 | nil=>decide
 | cons p ps ih =>
  have:=Zg3 p.1
  have e:qA (p ::ps)=(Ya p.1).map (fun e=>((p.2,e),p.1))++qA ps:=rfl
  rw [e,List.length_append,List.length_map,List.length_cons]
  omega
theorem Zpe{ps:List Zc}{i:Nat}{p:Zc}(h:ps[i]? =some p):qA (ps.take (i+1))=qA (ps.take i)++(Ya p.1).map fun e=>((p.2,e),p.1):=by
 unfold qA
 rw [List.take_add_one,h,List.flatMap_append]
 simp
theorem Zf4(T:Tx K mg):Zz P w K mg base CX0 2 T.d_ends_to_parts.f T.d_ends_to_parts.fd ["part_of"] (Zwe T):=by
 refine T.d_ends_to_parts.F.okW Xp fun cdv A outer s H vs Q E hr h=>?_
 ·obtain ⟨d,kvs,ps,rfl,hd,hD,nd,len,q⟩:=h
  have hkl:kvs.length=ps.length:=by have:=hD.len;unfold qP at this;rw [List.length_map] at this;exact this
  refine WSs.step (Z2 (i:=1) Xp.nd Zdr) fun a H1 s1 n1 e1=>?_
  have had:a≠d:=fun z=>by rw [z,hd] at n1;cases n1
  refine WSs.step (Zvw (Xu PassesOwn.never rfl (Zmn (pv 0)) (Zbt rfl (Z7 (Yw (i:=2) Xp.nd) (Z7 (Yw (i:=3) Xp.nd) X3))) Zy)) ⟨_,rfl,d,_,rfl,s1.at hd,fun o nf=>Zrj (fun i σ H'=>(∃o2 o3 o4,σ=[some (.ref d),some (.ref a),o2,o3,o4])/\Same (upd H d (.frz o (.dK kvs))) H'/\∃ka,H' a=some (.dT ka)/\DP Yl (RA T H) ka (qA (ps.take i))) ⟨⟨none,none,none,rfl⟩,s1.frz,[],by rw [Zi had];exact e1,.nil⟩ ?_ ?_ ?_⟩
  ·rintro i σ H' _ ⟨_,s2,_⟩
   exact s2.at Zh
  ·rintro i kv σ H2 hi ⟨⟨o2,o3,o4,rfl⟩,s2,ka,ha,hA⟩ tp H3 s3 n3 e3
   obtain ⟨⟨nm,kd⟩,hq,hk,x,C,hv,hC,dx,hO⟩:=Paired.get hD hi
   have hp:ps[i]? =some (kd,nm):=by
    unfold qP at hq
    rw [List.getElem?_map] at hq
    obtain ⟨⟨p1,p2⟩,hp,e⟩:=Option.map_eq_some_iff.mp hq
    rw [hp]
    simp only [Prod.mk.injEq] at e
    rw [e.1,e.2]
   have hil:=(List.getElem?_eq_some_iff.mp hp).1
   have hxd:x≠d:=fun z=>by rw [z,hd] at hO;cases hO
   have hOF:upd H d (.frz o (.dK kvs)) x=some (.ins C dx [("name",.str nm)]):=by rw [Zi hxd];exact hO
   obtain ⟨f1,d1,m1,b1,g1⟩:=hC.ends
   have hk:kv.1=Sum.inr nm:=hk
   rw [hk,hv] at e3
   have hFa:upd H d (.frz o (.dK kvs)) a=none:=by rw [Zi had];exact n1
   refine ⟨tp,_,rfl,SqT.of e3,rfl,_,_,rfl,_,_,rfl,rfl,?_⟩
   have s23:=s2.trans s3
   refine WSs.last (Xu PassesOwn.never rfl (Yp Ztk) (Yw (i:=4) Xp.nd) Zy) (WE.of (Ze0 (pv 3) hC.cls.1 m1 (g1 _ _ _ 1 (by decide)) hr b1 .nil Z6) ⟨_,rfl,x,dx,_,rfl,s23.at hOF,rfl,_,rfl,fun p H4 s4 n4 e4=>⟨p,rfl,⟨_,SqL.of e4⟩,Xr (K:=K) (xs:=(Ya kd).map V.str) (fun j σ H'=>(∃o4,σ=[some (.ref d),some (.ref a),some (.str nm),some (.ref x),o4])/\Same (upd H d (.frz o (.dK kvs))) H'/\H' p=some (.lst ((Ya kd).map V.str))/\∃ka,H' a=some (.dT ka)/\DP Yl (RA T H) ka (qA (ps.take i)++((Ya kd).take j).map fun e=>((nm,e),kd))) ⟨⟨_,rfl⟩,s23.trans s4,e4,ka,s4.at (s3.at ha),by rw [List.take_zero,List.map_nil,List.append_nil];exact hA⟩ ?_ ?_ ?_⟩⟩)
   ·rintro j σ H' _ ⟨_,_,z,_⟩
    exact SqL.of z
   ·rintro j v σ H5 hj ⟨⟨o4,rfl⟩,s5,hp5,ka5,ha5,hA5⟩
    rw [List.getElem?_map] at hj
    obtain ⟨e,he,rfl⟩:=Option.map_eq_some_iff.mp hj
    have hlen5:ka5.length<=500:=by
     have h1:=hA5.len
     have h2:=Ztx (ps.take i)
     have h3:=Zg3 kd
     rw [List.length_append,List.length_map,List.length_take] at h1
     rw [List.length_take] at h2
     omega
    have hnew:Yv ka5 (Yl (nm,e))=none:=hA5.none Y6 (by
     have h1:(Z8 (ps.take (i+1))).Nodup:=Zan (by rw [List.map_take];exact nd.sublist (List.take_sublist _ _))
     rw [<-Zle,Zpe hp,List.map_append] at h1
     rw [List.map_append]
     have ed:Ya kd=(Ya kd).take j++(e ::(Ya kd).drop (j+1)):=by rw [<-Zhu he,List.take_append_drop]
     rw [show ((kd,nm):Zc).1=kd from rfl,ed,List.map_append,List.map_append,List.map_cons,List.map_cons,<-List.append_assoc,List.nodup_append] at h1
     intro m
     exact h1.2.2 _ m _ List.mem_cons_self rfl)
    refine WSs.last (Zby (X0 hr) (pv 1) (Zg (Zb (pv 2) (Zb (pv 4) Za))) (pv 3) rfl) ⟨_,rfl,_,rfl,_,rfl,_,rfl,sz (by simp),fun t H6 s6 n6 e6=>⟨a,_,rfl,Zed.t (k:=Yl (nm,e)) (s6.at ha5) e6 (Z1 (by omega)),⟨_,rfl⟩,(s5.trans s6).upd0 hFa,?_,_,Zh,?_⟩⟩
    ·rw [Zi (Zwn hp5 ha5 (fun z=>nomatch z))]
     exact s6.at hp5
    ·have:((Ya kd).take (j+1)).map (fun e=>((nm,e),kd))=((Ya kd).take j).map (fun e=>((nm,e),kd))++[((nm,e),kd)]:=by
      rw [List.take_add_one,he,List.map_append]
      rfl
     rw [this,<-List.append_assoc]
     exact hA5.put hnew ⟨x,C,rfl,hC,dx,hO⟩
   ·rintro σ H5 ⟨⟨o4,rfl⟩,s5,hp5,ka5,ha5,hA5⟩
    rw [List.length_map,List.take_length] at hA5
    refine ⟨⟨_,_,_,rfl⟩,s5,ka5,ha5,?_⟩
    rw [Zpe hp]
    exact hA5
  ·rintro σ H2 ⟨⟨o2,o3,o4,rfl⟩,s2,ka,ha,hA⟩
   rw [hkl,List.take_length] at hA
   refine ⟨d,o,_,s2.at Zh,nf,WSs.last (Zq (pv 1)) ⟨_,rfl,q a ka _ (s2.thaw hd) n1 ?_ hA⟩⟩
   rw [Zi had]
   exact ha
theorem Zgi(T:Tx K mg){k:Nat}(h:2<=k:=by decide):Zz P w K mg base CX0 k T.d_ends_to_parts.f T.d_ends_to_parts.fd ["part_of"] (Zwe T):=(Zf4 T).mono h
def Ztl:Sp:=fun vs H Q _=>∃(t:Addr) (u v:V),vs=[.ref t]/\H t=some (.tup [u,v])/\Q (.bl true) H
theorem Zoa(T:Tx K mg):Zz P w K mg base CX0 1 T.d_is_pair.f T.d_is_pair.fd ["thing"] Ztl:=by
 refine T.d_is_pair.F.okW Zob fun cdv A outer s H vs Q E hr h=>?_
 ·obtain ⟨t,u,v,rfl,ht,q⟩:=h
  exact WSs.last (Zq (Zh9 (Yb (r:=Zra K) Zcy (by rfl) T.n_isinstance PyProof.Rows.boot_isinstance (Zb (pv 0) (Zb (Zg6 (v:=.ty "tuple") (by rfl) T.n_tuple PyProof.Rows.boot_tuple rfl) Za))) (Zh3 (Zcp (r:=Zat K) (Za4 hr) (Yb (r:=Za5 K) Zbo (by rfl) T.n_len PySem.boot_len (Zb (pv 0) Za)) Zf (Z9 _))))) ⟨_,rfl,_,_,true,_,rfl,Zbs.tup ht,.inl ⟨_,rfl,T.kTT⟩,_,rfl,Zjj ⟨_,rfl,.inl ⟨t,_,rfl,.inr (SqT.of ht),.inl ⟨rfl,q⟩⟩⟩⟩
theorem Zjs(T:Tx K mg){k:Nat}(h:1<=k:=by decide):Zz P w K mg base CX0 k T.d_is_pair.f T.d_is_pair.fd ["thing"] Ztl:=(Zoa T).mono h
def Zyn:Sp:=fun vs H Q _=>∃(t d:Addr) (e:Zc) (kvs:List (List Key×V)),vs=[.ref t,.ref d]/\Zs H t e/\H d=some (.dT kvs)/\Q (.bl (Yv kvs (Yl e)).isSome) H
theorem Zmo(T:Tx K mg):Zz P w K mg base CX0 2 T.d_is_known.f T.d_is_known.fd ["end", "ends"] Zyn:=by
 refine T.d_is_known.F.okW Zmq fun cdv A outer s H vs Q E hr h=>?_
 ·obtain ⟨t,d,e,kvs,rfl,ht,hd,q⟩:=h
  exact WSs.last (Zq (Zh9 (Zx (Zjs T) hr rfl T.m_is_pair T.d_is_pair.F.kp T.d_is_pair.b .nil Z6 (Zb (pv 0) Za)) (Zh9 (Yb (r:=Zra K) Zcy (by rfl) T.n_isinstance PyProof.Rows.boot_isinstance (Zb (Zv (r:=rIx K) Zk (pv 0) Zf (fun _ _=>rfl)) (Zb (Zg6 (v:=.ty "str") (by rfl) T.n_str PyProof.Rows.boot_str rfl) Za))) (Zh9 (Yb (r:=Zra K) Zcy (by rfl) T.n_isinstance PyProof.Rows.boot_isinstance (Zb (Zv (r:=rIx K) Zk (pv 0) Zf (fun _ _=>rfl)) (Zb (Zg6 (v:=.ty "str") (by rfl) T.n_str PyProof.Rows.boot_str rfl) Za))) (Zh3 (Zcp (r:=Zhh K) (Zi7 hr) (pv 0) (pv 1) (by with_unfolding_all rfl))))))) ⟨_,rfl,t,_,_,rfl,ht,_,rfl,Zjj ⟨_,rfl,.inr (.inl ⟨t,_,0,_,rfl,rfl,SqT.of ht,Zt (j:=0) rfl,_,_,true,_,rfl,Zbs.str _,.inl ⟨_,rfl,T.kSS⟩,_,rfl,Zjj ⟨_,rfl,.inr (.inl ⟨t,_,1,_,rfl,rfl,SqT.of ht,Zt (j:=1) rfl,_,_,true,_,rfl,Zbs.str _,.inl ⟨_,rfl,T.kSS⟩,_,rfl,Zjj ⟨_,rfl,_,rfl,.inr (.inl ⟨d,_,rfl,W9.t (k:=Yl e) hd ht,q⟩)⟩⟩)⟩⟩)⟩⟩
theorem Zbe(T:Tx K mg){k:Nat}(h:2<=k:=by decide):Zz P w K mg base CX0 k T.d_is_known.f T.d_is_known.fd ["end", "ends"] Zyn:=(Zmo T).mono h
def Zy3:Sp:=fun vs H Q _=>∃(t pa d a b:Addr) (e1 e2:Zc) (ka kd:List (List Key×V)),vs=[.ref t,.ref pa,.ref d]/\H t=some (.tup [.ref a,.ref b])/\Zs H a e1/\Zs H b e2/\H pa=some (.dT ka)/\H d=some (.dT kd) /\
 (Yv ka (Yl e1)).isSome=true/\(Yv ka (Yl e2)).isSome=true/\Yv kd (Yl e1)=none/\Yv kd (Yl e2)=none/\e1.1≠e2.1/\Q .non H
theorem Zhg(T:Tx K mg):Zz P w K mg base CX0 3 T.d_refuse_join.f T.d_refuse_join.fd ["join", "part_at", "joined"] Zy3:=by
 refine T.d_refuse_join.F.okW Zdl fun cdv A outer s H vs Q E hr h=>?_
 ·obtain ⟨t,pa,d,a,b,e1,e2,ka,kd,rfl,ht,ha,hb,hpa,hd,k1,k2,n1,n2,ne,q⟩:=h
  refine WSs.step (Yj (Zdk (Zad (Zx (Zjs T) hr rfl T.m_is_pair T.d_is_pair.F.kp T.d_is_pair.b .nil Z6 (Zb (pv 0) Za)))) Zy Zw) ⟨_,rfl,t,_,_,rfl,ht,_,rfl,Yo (fun z=>absurd z (by decide)) (fun _=>?_)⟩
  let I19:=fun (i:Nat) (σ:St) (H':Hp)=>(∃o,σ=[some (.ref t),some (.ref pa),some (.ref d),o])/\H'=H
  refine WSs.step (Xu PassesOwn.never rfl (Zs5 (pv 0)) (Yw (i:=3) Zdl.nd) Zy) ⟨_,rfl,t,rfl,⟨_,SqT.of ht⟩,Zui (K:=K) (xs:=[.ref a,.ref b]) I19 ⟨⟨none,rfl⟩,rfl⟩ ?_ ?_ ?_⟩
  ·rintro i σ H' _ ⟨_,rfl⟩
   exact SqT.of ht
  ·rintro i v σ H' hi ⟨⟨o,rfl⟩,hH⟩
   rw [hH]
   obtain ⟨x,e,rfl,hx,h1,h2⟩:∃x e,v=V.ref x/\Zs H x e/\(Yv ka (Yl e)).isSome=true/\Yv kd (Yl e)=none:=by
    match i,hi with
    | 0,hi=>cases hi;exact ⟨a,e1,rfl,ha,k1,n1⟩
    | 1,hi=>cases hi;exact ⟨b,e2,rfl,hb,k2,n2⟩
   refine WSs.step (Yj (Zdk (Zad (Zx (Zbe T) hr rfl T.m_is_known T.d_is_known.F.kp T.d_is_known.b .nil Z6 (Zb (pv 3) (Zb (pv 1) Za))))) Zy Zw) ⟨_,rfl,_,rfl,x,pa,e,ka,rfl,hx,hpa,_,rfl,Yo (fun z=>?_) (fun _=>?_)⟩
   ·rw [h1] at z
    exact absurd z (by decide)
   refine WSs.last (Yj (Zr (r:=Zhh K) (Zi7 hr) (pv 3) (pv 2) (by with_unfolding_all rfl)) Zy Zw) ⟨_,rfl,_,rfl,.inr (.inl ⟨d,_,rfl,W9.t (k:=Yl e) hd hx,_,rfl,Yo (fun z=>?_) (fun _=>⟨⟨_,rfl⟩,rfl⟩)⟩)⟩
   rw [h2] at z
   exact absurd z (by decide)
  ·rintro σ H' ⟨⟨o,rfl⟩,hH⟩
   rw [hH]
   refine WSs.last (Yj (Zr (r:=Zat K) (Za4 hr) (Zv (r:=rIx K) Zk (Zv (r:=rIx K) Zk (pv 0) Zf (fun _ _=>rfl)) Zf (fun _ _=>rfl)) (Zv (r:=rIx K) Zk (Zv (r:=rIx K) Zk (pv 0) Zf (fun _ _=>rfl)) Zf (fun _ _=>rfl)) (Z9 _)) Zy Zw) ⟨_,rfl,.inr (.inl ⟨t,_,0,_,rfl,rfl,SqT.of ht,Zt (j:=0) rfl,.inr (.inl ⟨a,_,0,_,rfl,rfl,SqT.of ha,Zt (j:=0) rfl,_,rfl,.inr (.inl ⟨t,_,1,_,rfl,rfl,SqT.of ht,Zt (j:=1) rfl,.inr (.inl ⟨b,_,0,_,rfl,rfl,SqT.of hb,Zt (j:=0) rfl,.inl ⟨rfl,_,rfl,Yo (fun z=>?_) (fun _=>q)⟩⟩)⟩)⟩)⟩)⟩
   exact absurd (V.str.inj (of_decide_eq_true z)) ne
theorem Zjo(T:Tx K mg){k:Nat}(h:3<=k:=by decide):Zz P w K mg base CX0 k T.d_refuse_join.f T.d_refuse_join.fd ["join", "part_at", "joined"] Zy3:=(Zhg T).mono h
def Zzr:Sp:=fun vs H Q _=>∃(jl pa:Addr) (js:List (Zc×Zc)) (ka:List (List Key×V)),vs=[.ref jl,.ref pa]/\Yg H jl js/\H pa=some (.dT ka)/\(∀e∈Yt js,(Yv ka (Yl e)).isSome=true)/\ka.length=(Yt js).length/\(Yt js).Nodup/\(∀j∈js,j.1.1≠j.2.1)/\js.length<=300 /\
 ∀(d:Addr) (kj:List (List Key×V)) (H':Hp),Same H H'->H d=none->H' d=some (.dT kj)->DP Yl (RJ H) kj (qJ js)->Q (.ref d) H'
theorem Zg1{js:List (Zc×Zc)}{i:Nat}{j:Zc×Zc}(h:js[i]? =some j):qJ (js.take (i+1))=qJ (js.take i)++[(j.1,j.2)]++[(j.2,j.1)]:=by
 unfold qJ
 rw [List.take_add_one,h,List.flatMap_append]
 simp
theorem Zof(js:List (Zc×Zc)):(qJ js).length=2 * js.length:=by
 induction js with
 | nil=>rfl
 | cons j js ih =>
  have e:qJ (j ::js)=[(j.1,j.2),(j.2,j.1)]++qJ js:=rfl
  rw [e,List.length_append,ih]
  simp only [List.length_cons,List.length_nil]
  omega
theorem Zho(T:Tx K mg):Zz P w K mg base CX0 4 T.d_joined_ends.f T.d_joined_ends.fd ["joins", "part_at"] Zzr:=by
 refine T.d_joined_ends.F.okW Zca fun cdv A outer s H vs Q E hr h=>?_
 ·obtain ⟨jl,pa,js,ka,rfl,hJ,hpa,hk,hkl,nd,apart,len,q⟩:=h
  obtain ⟨ts,hl,hts⟩:=hJ
  have htl:=Paired.length hts
  refine WSs.step (Z2 (i:=2) Zca.nd Zdr) fun d H1 s1 n1 e1=>?_
  let I20:=fun (i:Nat) (σ:St) (H':Hp)=>(∃o,σ=[some (.ref jl),some (.ref pa),some (.ref d),o])/\Same H H'/\∃kj,H' d=some (.dT kj)/\DP Yl (RJ H) kj (qJ (js.take i))
  refine WSs.step (Xu PassesOwn.never rfl (Yp (pv 0)) (Yw (i:=3) Zca.nd) Zy) ⟨_,rfl,jl,rfl,⟨_,SqL.of (s1.at hl)⟩,Xr (K:=K) (xs:=ts.map V.ref) I20 ⟨⟨none,rfl⟩,s1,[],e1,.nil⟩ ?_ ?_ ?_⟩
  ·rintro i σ H' _ ⟨_,s2,_⟩
   exact SqL.of (s2.at hl)
  ·rintro i v σ H2 hi ⟨⟨o,rfl⟩,s2,kj,hd,hD⟩
   rw [List.getElem?_map] at hi
   obtain ⟨t,hti,rfl⟩:=Option.map_eq_some_iff.mp hi
   obtain ⟨j,hj,a,b,ht,ha,hb⟩:=Paired.get hts hti
   have hm:j∈js:=List.mem_of_getElem? hj
   have hil:=(List.getElem?_eq_some_iff.mp hj).1
   have m1:j.1∈Yt js:=List.mem_flatMap.mpr ⟨j,hm,by simp⟩
   have m2:j.2∈Yt js:=List.mem_flatMap.mpr ⟨j,hm,by simp⟩
   have hlen:kj.length<=600:=by
    have h1:=hD.len
    rw [Zof,List.length_take] at h1
    omega
   have hnd:(Yt (js.take i)++[j.1]++[j.2]).Nodup:=by
    have h1:(Yt (js.take (i+1))).Nodup:=nd.sublist (by
     have:Yt js=Yt (js.take (i+1))++Yt (js.drop (i+1)):=by rw [<-Zb4,List.take_append_drop]
     rw [this]
     exact List.sublist_append_left _ _)
    rw [<-W4,Zg1 hj,List.map_append,List.map_append,W4] at h1
    exact h1
   have nd1:j.1∉Yt (js.take i):=fun z=>(List.nodup_append.mp (List.nodup_append.mp hnd).1).2.2 _ z _ List.mem_cons_self rfl
   have nd2:j.2∉Yt (js.take i)++[j.1]:=fun z=>(List.nodup_append.mp hnd).2.2 _ z _ List.mem_cons_self rfl
   have v1:Yv kj (Yl j.1)=none:=hD.none Y6 (by rw [W4];exact nd1)
   have v2:Yv kj (Yl j.2)=none:=hD.none Y6 (by rw [W4];exact fun z=>nd2 (List.mem_append_left _ z))
   refine WSs.step (Xm (Zx (Zjo T) hr rfl T.m_refuse_join T.d_refuse_join.F.kp T.d_refuse_join.b .nil Z6 (Zb (pv 3) (Zb (pv 1) (Zb (pv 2) Za))))) ⟨_,rfl,_,rfl,_,rfl,t,pa,d,a,b,j.1,j.2,ka,kj,rfl,s2.at ht,ha.mono s2,hb.mono s2,s2.at hpa,hd,hk _ m1,hk _ m2,v1,v2,apart j hm,?_⟩
   have hD1:DP Yl (RJ H) (Zar kj (Yl j.1) (.ref b)) (qJ (js.take i)++[(j.1,j.2)]):=hD.put v1 ⟨b,rfl,hb⟩
   have hl1:=Zbl kj (Yl j.1) (.ref b)
   have v3:Yv (Zar kj (Yl j.1) (.ref b)) (Yl j.2)=none:=hD1.none Y6 (by rw [List.map_append,W4];exact nd2)
   refine WSs.step (Zby (X0 hr) (pv 2) (Zv (r:=rIx K) Zk (pv 3) Zf (fun _ _=>rfl)) (Zv (r:=rIx K) Zk (pv 3) Zf (fun _ _=>rfl)) rfl) ⟨_,rfl,.inr (.inl ⟨t,_,1,_,rfl,rfl,SqT.of (s2.at ht),Zt (j:=1) rfl,_,rfl,_,rfl,.inr (.inl ⟨t,_,0,_,rfl,rfl,SqT.of (s2.at ht),Zt (j:=0) rfl,d,_,rfl,Zed.t (k:=Yl j.1) hd (Zgz (ha.mono s2)) (Z1 (by omega)),?_⟩)⟩)⟩
   have s3:Same H (upd H2 d (.dT (Zar kj (Yl j.1) (.ref b)))):=s2.upd0 n1
   refine WSs.last (Zby (X0 hr) (pv 2) (Zv (r:=rIx K) Zk (pv 3) Zf (fun _ _=>rfl)) (Zv (r:=rIx K) Zk (pv 3) Zf (fun _ _=>rfl)) rfl) ⟨_,rfl,.inr (.inl ⟨t,_,0,_,rfl,rfl,SqT.of (s3.at ht),Zt (j:=0) rfl,_,rfl,_,rfl,.inr (.inl ⟨t,_,1,_,rfl,rfl,SqT.of (s3.at ht),Zt (j:=1) rfl,d,_,rfl,Zed.t (k:=Yl j.2) Zh (Zgz (hb.mono s3)) (Z1 (by omega)),⟨_,rfl⟩,s3.upd0 n1,_,Zh,?_⟩)⟩)⟩
   rw [Zg1 hj]
   exact hD1.put v3 ⟨a,rfl,ha⟩
  ·rintro σ H2 ⟨⟨o,rfl⟩,s2,kj,hd,hD⟩
   rw [List.length_map,htl,List.take_length] at hD
   have hlj:kj.length=ka.length:=by
    have h1:=hD.len
    rw [hkl,h1,<-W4,List.length_map]
   refine WSs.step (Yj (Zr Zj7 (Yb (r:=Zs9) Zjz (by rfl) T.n_len PySem.boot_len (Zb (pv 2) Za)) (Yb (r:=Zs9) Zjz (by rfl) T.n_len PySem.boot_len (Zb (pv 1) Za)) (Z9 _)) Zy Zw) ⟨_,rfl,d,kj,rfl,hd,_,rfl,pa,ka,rfl,s2.at hpa,_,_,rfl,rfl,_,rfl,Yo (fun z=>?_) (fun _=>?_)⟩
   ·have:(kj.length:Int)<(ka.length:Int):=of_decide_eq_true z
    exact absurd this (by omega)
   exact WSs.last (Zq (pv 2)) ⟨_,rfl,q d kj H2 s2 n1 hd hD⟩
theorem Zjf(T:Tx K mg){k:Nat}(h:4<=k:=by decide):Zz P w K mg base CX0 k T.d_joined_ends.f T.d_joined_ends.fd ["joins", "part_at"] Zzr:=(Zho T).mono h
def Zye(T:Tx K mg):Sp:=fun vs H Q _=>∃(t pa l x C:Addr) (e:Zc) (k nm:Str) (ka:List (List Key×V)) (us:List Addr) (es:List Zc),vs=[.ref t,.ref pa,.ref l]/\Zs H t e/\H pa=some (.dT ka)/\Yv ka (Yl e)=some (.ref x)/\Zak T k C/\Zdi H C x nm/\Zns k=true /\
 H l=some (.lst (us.map V.ref))/\Paired (Zs H) us es/\e∉es/\Q .non H
theorem Zo0{a b:Zc}(h:trP a=trP b):a=b:=by
 obtain ⟨a1,a2⟩:=a
 obtain ⟨b1,b2⟩:=b
 unfold trP at h
 simp only [Tr.tup.injEq,List.cons.injEq,Tr.str.injEq,and_true] at h
 rw [h.1,h.2]
theorem Zie(T:Tx K mg):Zz P w K mg base CX0 3 T.d_refuse_post.f T.d_refuse_post.fd ["end", "part_at", "ends_with_signals"] (Zye T):=by
 refine T.d_refuse_post.F.okW Zh4 fun cdv A outer s H vs Q E hr h=>?_
 ·obtain ⟨t,pa,l,x,C,e,k,nm,ka,us,es,rfl,ht,hpa,hv,hC,⟨dx,hO⟩,hb,hl,hu,hne,q⟩:=h
  obtain ⟨f1,d1,m1,b1,g1⟩:=hC.bears
  refine WSs.step (Yj (Zdk (Zad (Zx (Zbe T) hr rfl T.m_is_known T.d_is_known.F.kp T.d_is_known.b .nil Z6 (Zb (pv 0) (Zb (pv 1) Za))))) Zy Zw) ⟨_,rfl,_,rfl,t,pa,e,ka,rfl,ht,hpa,_,rfl,Yo (fun z=>?_) (fun _=>?_)⟩
  ·rw [hv] at z
   exact absurd z (by simp)
  refine WSs.step (Yj (Zdk (Zad Ztk)) Zy Zw) (WE.of (Ze0 (X1 (X0 hr) (pv 1) (pv 0) (fun _ _=>rfl)) hC.cls.1 m1 (g1 _ _ _ 2 (by decide)) hr b1 .nil Z6) ⟨_,rfl,_,rfl,pa,_,rfl,by rw [<-hv];exact W9.t (k:=Yl e) hpa ht,x,dx,_,rfl,hO,rfl,_,rfl,_,rfl,Yo (fun z=>?_) (fun _=>?_)⟩)
  ·rw [hb] at z
   exact absurd z (by decide)
  refine WSs.last (Yj (Zr (r:=Zhh K) (Zi7 hr) (pv 0) (pv 2) (by with_unfolding_all rfl)) Zy Zw) ⟨_,rfl,_,rfl,.inr (.inr (.inr ⟨l,1,trP e,es.map trP,us,rfl,SqL.of hl,by decide,Im.tup (n:=0) (SqT.of ht) (.cons (.str _) (.cons (.str _) .nil)),Zl8 hu,_,rfl,Yo (fun z=>?_) (fun _=>q)⟩))⟩
  have z:trP e∈es.map trP:=of_decide_eq_true z
  obtain ⟨e',he',h'⟩:=List.mem_map.mp z
  rw [Zo0 h'] at he'
  exact absurd he' hne
theorem Ziw(T:Tx K mg){k:Nat}(h:3<=k:=by decide):Zz P w K mg base CX0 k T.d_refuse_post.f T.d_refuse_post.fd ["end", "part_at", "ends_with_signals"] (Zye T):=(Zie T).mono h
theorem Zs.offD{H:Hp}{c t:Addr}{o:HO}{xs:List (Key×V)}{q:Zc}(h:Zs H t q)(hc:H c=some (.dK xs)):Zs (upd H c o) t q:=by
 unfold Zs at h ⊢
 exact (Zi fun z=>by rw [z,hc] at h;cases h).trans h
def Zyk(T:Tx K mg):Sp:=fun vs H Q _=>∃(sl pa:Addr) (ts:List Addr) (sg:List (Str×Str×Str)) (ka:List (List Key×V)),vs=[.ref sl,.ref pa]/\H sl=some (.lst (ts.map V.ref))/\Paired (Zpv H) ts sg/\H pa=some (.dT ka)/\(∀q∈sg,Zbv q.1)/\(sg.map Prod.fst).Nodup/\(sg.map Prod.snd).Nodup/\sg.length<=100 /\
 (∀q∈sg,∃x C k,Yv ka (Yl (q.2.1,q.2.2))=some (.ref x)/\Zak T k C/\Zdi H C x q.2.1/\Zns k=true) /\
 ∀(d:Addr) (ks:List (Key×V)) (H':Hp),Same H H'->H d=none->H' d=some (.dK ks)->DP Yi (RS H') ks (qS sg)->Q (.ref d) H'
theorem Zu9{H:Hp}{ks:List (Key×V)}{qs:List (Str×Zc)}(h:DP Yi (RS H) ks qs):∃us:List Addr,ks.map (fun kv=>kv.2)=us.map V.ref/\Paired (Zs H) us (qs.map Prod.snd):=by
 unfold DP at h
 induction h with
 | nil=>exact ⟨[],rfl,.nil⟩
 | cons r _ ih =>
  obtain ⟨us,h1,h2⟩:=ih
  obtain ⟨_,t,hv,ht⟩:=r
  exact ⟨t ::us,by rw [List.map_cons,List.map_cons,h1,hv],.cons ht h2⟩
theorem Zng(T:Tx K mg):Zz P w K mg base CX0 4 T.d_posts_of.f T.d_posts_of.fd ["signals", "part_at"] (Zyk T):=by
 refine T.d_posts_of.F.okW Zbn fun cdv A outer s H vs Q E hr h=>?_
 ·obtain ⟨sl,pa,ts,sg,ka,rfl,hl,hts,hpa,hnm,nd,one,len,hk,q⟩:=h
  have htl:=Paired.length hts
  refine WSs.step (Z2 (i:=2) Zbn.nd Zfl) fun d H1 s1 n1 e1=>?_
  let I21:=fun (i:Nat) (σ:St) (H':Hp)=>(∃o3 o4 o5,σ=[some (.ref sl),some (.ref pa),some (.ref d),o3,o4,o5])/\Same H H'/\∃ks,H' d=some (.dK ks)/\DP Yi (RS H') ks (qS (sg.take i))
  refine WSs.step (Xu PassesOwn.never rfl (Yp (pv 0)) (Yw (i:=3) Zbn.nd) Zy) ⟨_,rfl,sl,rfl,⟨_,SqL.of (s1.at hl)⟩,Xr (K:=K) (xs:=ts.map V.ref) I21 ⟨⟨none,none,none,rfl⟩,s1,[],e1,.nil⟩ ?_ ?_ ?_⟩
  ·rintro i σ H' _ ⟨_,s2,_⟩
   exact SqL.of (s2.at hl)
  ·rintro i v σ H2 hi ⟨⟨o3,o4,o5,rfl⟩,s2,ks,hd,hD⟩
   rw [List.getElem?_map] at hi
   obtain ⟨t,hti,rfl⟩:=Option.map_eq_some_iff.mp hi
   obtain ⟨⟨nm,pn,en⟩,hg,ht⟩:=Paired.get hts hti
   have ht:H t=some (.tup [.str nm,.str pn,.str en]):=ht
   have hm:((nm,pn,en):Str×Str×Str)∈sg:=List.mem_of_getElem? hg
   have hil:=(List.getElem?_eq_some_iff.mp hg).1
   obtain ⟨x,C,k,hv,hC,hO,hb⟩:=hk _ hm
   have hlen:ks.length<=100:=by
    have h1:=hD.len
    unfold qS at h1
    rw [List.length_map,List.length_take] at h1
    omega
   have hn:Yv ks (Yi nm)=none:=hD.none Zct (by
    rw [Zsh,List.map_take]
    exact Zdp nd (by rw [List.getElem?_map,hg];rfl))
   have he:((pn,en):Zc)∉(qS (sg.take i)).map Prod.snd:=by
    have:(qS (sg.take i)).map Prod.snd=(sg.map Prod.snd).take i:=by
     unfold qS
     rw [List.map_map,List.map_take]
     rfl
    rw [this]
    exact Zdp one (by rw [List.getElem?_map,hg];rfl)
   refine WSs.step (Z2 (i:=4) Zbn.nd (Zv (r:=rIx K) Zk (pv 3) Zf (fun _ _=>rfl))) ⟨_,rfl,.inr (.inl ⟨t,_,0,_,rfl,rfl,SqT.of (s2.at ht),Zt (j:=0) rfl,?_⟩)⟩
   refine WSs.step (Z2 (i:=5) Zbn.nd (Zax (r:=Zjn K) Zlp (pv 3) (Zbg Zf) Zb0)) ⟨_,rfl,_,rfl,.inl ⟨t,_,rfl,SqT.of (s2.at ht),(show ¬(HT.sIx 3 0 (some 1)=0/\HT.sIx 3 3 none=3) by decide),fun te H3 s3 n3 e3=>?_⟩⟩
   have s13:=s2.trans s3
   have hte:Zs H3 te (pn,en):=e3
   refine WSs.step (Xm (Zx (Zdz T) hr rfl T.m_refuse_name T.d_refuse_name.F.kp T.d_refuse_name.b .nil Z6 (Zb (pv 4) (Zb (pv 2) Za)))) ⟨_,rfl,_,rfl,nm,d,ks,rfl,hnm _ hm,s3.at hd,hn,fun H4 s4=>?_⟩
   have s14:=s13.trans s4
   have hD4:DP Yi (RS H4) ks (qS (sg.take i)):=hD.mapR fun _ _ _ z=>RS.mono (s3.trans s4) _ _ _ z
   obtain ⟨us,hus,hup⟩:=Zu9 hD4
   refine WSs.step (Xm (Zx (Ziw T) hr rfl T.m_refuse_post T.d_refuse_post.F.kp T.d_refuse_post.b .nil Z6 (Zb (pv 5) (Zb (pv 1) (Zb (Zmx rfl (by rfl) T.n_list (pv 2)) Za))))) ⟨_,rfl,_,rfl,_,rfl,d,ks,rfl,.inl (s4.at (s3.at hd)),fun l H5 s5 n5 e5=>⟨te,pa,l,x,C,(pn,en),k,pn,ka,us,_,rfl,(hte.mono s4).mono s5,(s14.trans s5).at hpa,hv,hC,hO.mono (s14.trans s5),hb,by rw [<-hus];exact e5,Paired.mapP hup fun _ _ r=>r.mono s5,he,?_⟩⟩
   have s15:=s14.trans s5
   have hd5:H5 d=some (.dK ks):=s5.at (s4.at (s3.at hd))
   refine WSs.last (Zby (X0 hr) (pv 2) (pv 4) (pv 5) rfl) ⟨_,rfl,_,rfl,_,rfl,d,_,rfl,Zed.k (k:=Yi nm) hd5 (Z1 (by omega)),⟨_,_,_,rfl⟩,s15.upd0 n1,_,Zh,?_⟩
   have:qS (sg.take (i+1))=qS (sg.take i)++[(nm,(pn,en))]:=by
    unfold qS
    rw [List.take_add_one,hg,List.map_append]
    rfl
   rw [this]
   have hD6:DP Yi (RS (upd H5 d (.dK (Zar ks (Yi nm) (.ref te))))) ks (qS (sg.take i)):=hD4.mapR fun _ _ _ ⟨u,z1,z2⟩=>⟨u,z1,(z2.mono s5).offD hd5⟩
   exact hD6.put hn ⟨te,rfl,((hte.mono s4).mono s5).offD hd5⟩
  ·rintro σ H2 ⟨⟨o3,o4,o5,rfl⟩,s2,ks,hd,hD⟩
   rw [List.length_map,htl,List.take_length] at hD
   exact WSs.last (Zq (pv 2)) ⟨_,rfl,q d ks H2 s2 n1 hd hD⟩
theorem Zom(T:Tx K mg){k:Nat}(h:4<=k:=by decide):Zz P w K mg base CX0 k T.d_posts_of.f T.d_posts_of.fd ["signals", "part_at"] (Zyk T):=(Zng T).mono h
structure Xj(T:Tx K mg)(H:Hp)(x:Addr)(ps:List Zc)(js:List (Zc×Zc))(sg:List (Str×Str×Str)):Prop where
 ex:∃(dx po jo so si:Addr) (kp ks:List (Key×V)) (kj ko:List (List Key×V)),H x=some (.ins T.CTracks dx [("part_of",.ref po),("joined",.ref jo),("post_of",.ref so),("signal_on",.ref si)]) /\
  H po=some (.dK kp)/\DP Yi (RP T H) kp (qP ps)/\H jo=some (.dT kj)/\DP Yl (RJ H) kj (qJ js)/\H so=some (.dK ks)/\DP Yi (RS H) ks (qS sg)/\H si=some (.dT ko)/\DP Yl RO ko (qO sg)
theorem Xj.mono{T:Tx K mg}{H H':Hp}{x:Addr}{ps:List Zc}{js:List (Zc×Zc)}{sg:List (Str×Str×Str)}(e:Same H H')(h:Xj T H x ps js sg):Xj T H' x ps js sg:=by
 obtain ⟨dx,po,jo,so,si,kp,ks,kj,ko,h1,h2,h3,h4,h5,h6,h7,h8,h9⟩:=h.ex
 exact ⟨dx,po,jo,so,si,kp,ks,kj,ko,e.at h1,e.at h2,h3.mapR (RP.mono e),e.at h4,h5.mapR (RJ.mono e),e.at h6,h7.mapR (RS.mono e),e.at h8,h9⟩
def del(H:Hp)(x:Addr):Hp:=fun b=>if b=x then none else H b
theorem Zhn{H:Hp}{x:Addr}:del H x x=none:=if_pos rfl
theorem Zc5{H:Hp}{x b:Addr}{o:HO}(h:H b=some o)(n:b≠x):del H x b=some o:=(if_neg n).trans h
theorem Za3{H:Hp}{x:Addr}{o:HO}:Same (del H x) (upd H x o):=fun b u e=>by
 unfold del at e
 by_cases z:b=x
 ·rw [if_pos z] at e;cases e
 ·rw [if_neg z] at e;rw [Zi z];exact e
theorem Zep{G H:Hp}{x:Addr}(s:Same G H)(n:G x=none):Same G (del H x):=fun b u e=>Zc5 (s.at e) (Zj e n)
structure Y7(ps:List Zc)(js:List (Zc×Zc))(sg:List (Str×Str×Str)):Prop where
 net:Net ps js []
 len:ps.length<=40
 name:∀p∈ps,Zbv p.2
 sigs:Zip ps sg
theorem Zhf.v{ps:List Zc}{js:List (Zc×Zc)}{sg:List (Str×Str×Str)}(h:Zhf ps js sg):Y7 ps js sg:=⟨h.net,by have:=h.len;omega,fun p hp=>(h.name p hp).nm.ok,h.sigsV⟩
theorem Zon(ps:List Zc):(Z8 ps).length<=4 * ps.length:=by rw [<-Zle,List.length_map];exact Ztx ps
theorem _root_.YM.Net.flat{ps:List Zc}{js:List (Zc×Zc)}(h:Net ps js []):(Yt js).Perm (Z8 ps):=by
 have:=h.perm
 rw [List.append_nil] at this
 exact this
theorem _root_.YM.Net.jlen{ps:List Zc}{js:List (Zc×Zc)}(h:Net ps js [])(l:ps.length<=40):js.length<=300:=by
 have h1:=h.flat.length_eq
 have h2:=Zon ps
 rw [<-W4,List.length_map,Zof] at h1
 omega
theorem Zxe{ps:List Zc}{p:Zc}{e:Str}(hp:p∈ps)(he:e∈Ya p.1):((p.2,e),p.1)∈qA ps:=List.mem_flatMap.mpr ⟨p,hp,List.mem_map.mpr ⟨e,he,rfl⟩⟩
def Zx3(T:Tx K mg):Sp:=fun vs H Q _=>∃(G:Hp) (x dx pl jl sl:Addr) (xs:List Addr) (ps:List Zc) (js:List (Zc×Zc)) (sg:List (Str×Str×Str)),vs=[.ref x,.ref pl,.ref jl,.ref sl]/\G x=none/\Same G H/\H x=some (.ins T.CTracks dx []) /\
 G pl=some (.lst (xs.map V.ref))/\Paired (PO T G) xs ps/\Yg G jl js/\Zcb G sl sg/\Y7 ps js sg/\∀H',Same G H'->Xj T H' x ps js sg->Q .non H'
theorem Zen(T:Tx K mg):Zz P w K mg base CX0 5 T.d_Tracks___init__.f T.d_Tracks___init__.fd ["self", "parts", "joins", "signals"] (Zx3 T):=by
 refine T.d_Tracks___init__.F.okW Zac fun cdv A outer s H vs Q E hr h=>?_
 ·obtain ⟨G,x,dx,pl,jl,sl,xs,ps,js,sg,rfl,hGx,s0,hx,hpl,hxs,hjl,⟨ts,hsl,hts⟩,yv,q⟩:=h
  have hxl:=Paired.length hxs
  have htl:=Paired.length hts
  have ylen:=yv.len
  have slen:=yv.sigs.len
  refine WSs.step (Z2 (i:=4) Zac.nd (Zcs (Zr Zwr (pv 3) Zxx (Z9 _)) (Zl Za) (pv 3))) ⟨_,rfl,rfl,_,rfl,Ztf ⟨_,rfl,?_⟩⟩
  refine WSs.step (Yj (PW.pt (Zmj (Zr Zkj (Yb (r:=Za5 K) Zbo (by rfl) T.n_len PySem.boot_len (Zb (pv 1) Za)) (Zdo (by rfl) T.c_MOST_PARTS) (Z9 _)) (Zii (Zr Zkj (Yb (r:=Za5 K) Zbo (by rfl) T.n_len PySem.boot_len (Zb (pv 4) Za)) (Zdo (by rfl) T.c_MOST_SIGNALS) (Z9 _))))) Zy Zw) ⟨_,rfl,.inl ⟨pl,_,rfl,.inl (SqL.of (s0.at hpl)),_,_,rfl,rfl,_,rfl,Yo (fun z=>?_) (fun _=>⟨_,rfl,.inl ⟨sl,_,rfl,.inl (SqL.of (s0.at hsl)),_,_,rfl,rfl,_,rfl,Yo (fun z=>?_) (fun _=>?_)⟩⟩)⟩⟩
  ·have z:=of_decide_eq_true z
   rw [List.length_map] at z
   exact absurd z (by omega)
  ·have z:=of_decide_eq_true z
   rw [List.length_map] at z
   exact absurd z (by omega)
  refine WSs.step (Zhj (pv 0) (Zx (Zgk T) hr rfl T.m_parts_by_name T.d_parts_by_name.F.kp T.d_parts_by_name.b .nil Z6 (Zb (pv 1) Za)) rfl) ⟨_,rfl,pl,xs,ps,rfl,s0.at hpl,Paired.mapP hxs fun _ _ r=>r.mono s0,yv.net.nd,yv.name,by omega,fun po kp H1 s1 m1 e1 dp=>⟨_,rfl,x,_,dx,_,rfl,s1.at hx,T.clTracks,T.nTracks_part_of,by simp,?_⟩⟩
  have hpx:po≠x:=fun z=>by rw [z,hx] at m1;cases m1
  have g1:Same G (del H1 x):=Zep (s0.trans s1) hGx
  have dp1:DP Yi (RP T (del H1 x)) kp (qP ps):=dp.mapR fun a b v ⟨y,C,z1,z2,dy,z3⟩=>⟨y,C,z1,z2,dy,Zc5 (s1.at z3) fun z=>by rw [z,hx] at z3;cases z3⟩
  have ep1:del H1 x po=some (.dK kp):=Zc5 e1 hpx
  refine WSs.step (Z2 (i:=5) Zac.nd (Zx (Zgi T) hr rfl T.m_ends_to_parts T.d_ends_to_parts.F.kp T.d_ends_to_parts.b .nil Z6 (Zb (W5 (pv 0) rfl) Za))) ⟨_,rfl,x,_,dx,_,_,rfl,Zh,T.clTracks,T.nTracks_part_of,rfl,po,kp,ps,rfl,Za3.at ep1,dp1.mapR (RP.mono Za3),yv.net.nd,by omega,fun pa ka H2 s2 m2 e2 da=>?_⟩
  have hx2:=s2.at Zh
  have ep2:Same G H2:=(g1.trans Za3).trans s2
  have kaq:∀p∈ps,∀e∈Ya p.1,∃v,Yv ka (Yl (p.2,e))=some v/\RA T _ (p.2,e) p.1 v:=fun p hp e he=>da.get Y6 (by rw [Zle];exact Zan yv.net.nd) (Zxe hp he)
  refine WSs.step (Zhj (pv 0) (Zx (Zjf T) hr rfl T.m_joined_ends T.d_joined_ends.F.kp T.d_joined_ends.b .nil Z6 (Zb (pv 2) (Zb (pv 5) Za))) rfl) ⟨_,rfl,_,rfl,jl,pa,js,ka,rfl,hjl.mono ep2,e2,fun e he=>?_,?_,?_,yv.net.apart,yv.net.jlen ylen,fun jo kj H3 s3 m3 e3 dj=>⟨_,rfl,x,_,dx,_,rfl,s3.at hx2,T.clTracks,T.nTracks_joined,(by show 1<1000;decide),?_⟩⟩
  ·have:=yv.net.flat.mem_iff.mp he
   obtain ⟨p,hp,hm⟩:=List.mem_flatMap.mp this
   obtain ⟨e',he',rfl⟩:=List.mem_map.mp hm
   obtain ⟨v,hv,_⟩:=kaq p hp e' he'
   rw [hv];rfl
  ·rw [yv.net.flat.length_eq,<-Zle,List.length_map];exact da.len
  ·exact yv.net.flat.nodup_iff.mpr (Zan yv.net.nd)
  have hjx:jo≠x:=fun z=>by rw [z,hx2] at m3;cases m3
  have s13:Same (del H1 x) (del H3 x):=Zep ((Za3.trans s2).trans s3) Zhn
  have ej3:del H3 x jo=some (.dT kj):=Zc5 e3 hjx
  have hpax:pa≠x:=fun z=>by rw [z,hx2] at e2;cases e2
  have epa:del H3 x pa=some (.dT ka):=Zc5 (s3.at e2) hpax
  have dj3:DP Yl (RJ (del H3 x)) kj (qJ js):=dj.mapR fun a b v ⟨u,z1,z2⟩=>⟨u,z1,Zc5 (s3.at z2) fun z=>by rw [z] at z2;exact nomatch hx2.symm.trans z2⟩
  have g3:Same G (del H3 x):=g1.trans s13
  refine WSs.step (Zhj (pv 0) (Zx (Zom T) hr rfl T.m_posts_of T.d_posts_of.F.kp T.d_posts_of.b .nil Z6 (Zb (pv 4) (Zb (pv 5) Za))) rfl) ⟨_,rfl,_,rfl,sl,pa,ts,sg,ka,rfl,Za3.at (g3.at hsl),Paired.mapP hts fun _ _ r=>(g3.trans Za3).at r,Za3.at epa,yv.sigs.name,yv.sigs.nd,yv.sigs.one,by omega,fun g hg=>?_,fun so ks H4 s4 m4 e4 ds=>⟨_,rfl,x,_,dx,_,rfl,s4.at Zh,T.clTracks,T.nTracks_post_of,(by show 2<1000;decide),?_⟩⟩
  ·obtain ⟨p,hp,h1,h2,h3⟩:=yv.sigs.at_ g hg
   obtain ⟨v,hv,y,C,rfl,hC,dy,hO⟩:=kaq p hp g.2.2 h3
   refine ⟨y,C,p.1,by rw [<-h1];exact hv,hC,⟨dy,?_⟩,decide_eq_true h2⟩
   have hyx:y≠x:=fun z=>by rw [z,Zh] at hO;cases hO
   rw [Zi hyx,<-h1]
   exact s3.at (s2.at hO)
  have hsx:so≠x:=fun z=>by rw [z,Zh] at m4;cases m4
  have hx4:=s4.at (Zh (H:=H3) (a:=x))
  have s34:Same (del H3 x) (del H4 x):=Zep (Za3.trans s4) Zhn
  have es4:del H4 x so=some (.dK ks):=Zc5 e4 hsx
  have ds4:DP Yi (RS (del H4 x)) ks (qS sg):=ds.mapR fun a b v ⟨u,z1,z2⟩=>⟨u,z1,Zc5 z2 fun z=>by rw [z] at z2;exact nomatch hx4.symm.trans z2⟩
  refine WSs.last (Zhj (pv 0) (Zb7 (r:=Zs4) (Zn0 rfl hr.units) (by rfl) T.n_dict PyProof.Rows.boot_dict (Zb (Zue (Wr (N':=["name", "end"]) rfl (Yd.std 2 [] rfl (by trivial) (by trivial) rfl trivial rfl rfl trivial) (Zmn (W5 (pv 0) rfl)) (fun _ _ _ _=>(Zkz (K:=K) (n:=2) rfl rfl (Z7 (Zci (i:=0) (by show (["name", "end"]:List Str).Nodup;decide +kernel)) (Z7 (Zci (i:=1) (by show (["name", "end"]:List Str).Nodup;decide +kernel)) X3)))) (fun _ _ _ _=>Za2) (fun _ _ _ _=>(Zg (Zb (pv 1) (Zb (pv 0) Za)))))) Za)) rfl) ⟨_,rfl,x,_,dx,_,_,rfl,Zh,T.clTracks,T.nTracks_post_of,rfl,so,ks,rfl,Za3.at es4,fun o nf D hD=>Zn7 (fun i ys H'=>Same (upd (upd H4 x (.ins T.CTracks dx [("part_of",.ref po),("joined",.ref jo),("post_of",.ref so)])) so (.frz o (.dK ks))) H'/\H' D=some (.lst ys)/\∃tps:List Addr,ys=tps.map V.ref/\Paired (fun t (q:List Key×V)=>∃a,H' t=some (.tup [.ref a,q.2])/\H' a=some (.tup (q.1.map kV))) tps ((qO (sg.take i)).map fun q=>(Yl q.1,V.str q.2))) ⟨Same.new hD,Zh,[],rfl,.nil⟩ ?_ ?_ ?_⟩
  ·rintro i ys H' _ ⟨z,_⟩
   exact z.at Zh
  ·rintro i kv ys H5 hi ⟨s5,hD5,tps,rfl,htp⟩ tp H6 s6 n6 e6
   obtain ⟨⟨nm,e⟩,hq,hk,t,hv,ht⟩:=Paired.get ds4 hi
   have hk:kv.1=Sum.inr nm:=hk
   rw [hk,hv] at e6
   have hg:sg[i]? =some (nm,e.1,e.2):=by
    unfold qS at hq
    rw [List.getElem?_map] at hq
    obtain ⟨⟨g1,g2,g3⟩,hg,e'⟩:=Option.map_eq_some_iff.mp hq
    rw [hg]
    simp only [Prod.mk.injEq] at e'
    rw [<-e'.1,<-e'.2]
   have hil:=(List.getElem?_eq_some_iff.mp hg).1
   have hto:t≠so:=fun z=>by rw [z] at ht;exact nomatch es4.symm.trans ht
   have htF:upd (upd H4 x (.ins T.CTracks dx [("part_of",.ref po),("joined",.ref jo),("post_of",.ref so)])) so (.frz o (.dK ks)) t=some (.tup ((Yl e).map kV)):=by
    rw [Zi hto]
    exact Za3.at ht
   have htl':tps.length<=100:=by
    have:=Paired.length htp
    unfold qO at this
    rw [List.length_map,List.length_map,List.length_take] at this
    omega
   refine ⟨tp,_,rfl,SqT.of e6,rfl,_,_,rfl,_,_,rfl,rfl,(Zaq.set rfl).trans (Zaq.set rfl),_,rfl,_,rfl,sz (by simp),fun t' H7 s7 n7 e7=>⟨s7.at (s6.at hD5),by rw [List.length_map];exact Z1 (by omega),?_,Zh,tps++[t'],by rw [List.map_append];rfl,?_⟩⟩
   ·intro c u z
    rw [Zi (Zj z hD)]
    exact s7.at (s6.at (s5.at z))
   ·have hD7:=s7.at (s6.at hD5)
    have off:∀{c:Addr} {xs:List V} {u:HO},H7 c=some (.tup xs)->upd H7 D u c=some (.tup xs):=fun {c xs u} z=>(Zi fun y=>by rw [y,hD7] at z;cases z).trans z
    have:(qO (sg.take (i+1))).map (fun q=>(Yl q.1,V.str q.2))=(qO (sg.take i)).map (fun q=>(Yl q.1,V.str q.2))++[(Yl e,V.str nm)]:=by
     unfold qO
     rw [List.take_add_one,hg,List.map_append,List.map_append]
     rfl
    rw [this]
    exact Paired.snoc (Paired.mapP htp fun _ _ ⟨a,z1,z2⟩=>⟨a,off (s7.at (s6.at z1)),off (s7.at (s6.at z2))⟩) ⟨t,off e7,off (s7.at (s6.at (s5.at htF)))⟩
  ·rintro ys H5 ⟨s5,hD5,tps,rfl,htp⟩
   have hks:ks.length=sg.length:=by
    have:=ds4.len
    unfold qS at this
    rw [List.length_map] at this
    exact this
   rw [hks,List.take_length] at htp
   have hso5:=s5.at Zh
   have off:∀{c:Addr} {xs:List V} {u:HO},H5 c=some (.tup xs)->upd H5 so u c=some (.tup xs):=fun {c xs u} z=>(Zi fun y=>by rw [y,hso5] at z;cases z).trans z
   have sT:Same (upd H4 x (.ins T.CTracks dx [("part_of",.ref po),("joined",.ref jo),("post_of",.ref so)])) (upd H5 so (.dK ks)):=s5.thaw (Za3.at es4)
   refine ⟨so,o,_,hso5,nf,D,tps,_,rfl,?_,Paired.mapP htp fun _ _ ⟨a,z1,z2⟩=>⟨a,off z1,off z2⟩,?_,fun si H8 s8 n8 e8=>⟨_,rfl,x,_,dx,_,rfl,s8.at (sT.at Zh),T.clTracks,T.nTracks_signal_on,(by show 3<1000;decide),?_⟩⟩
   ·rw [Zi fun y=>by rw [y,hso5] at hD5;cases hD5]
    exact hD5
   ·rw [List.map_map]
    have e1:(qO sg).map (Prod.fst ∘ fun q=>(Yl q.1,V.str q.2))=((qO sg).map Prod.fst).map Yl:=by rw [List.map_map];rfl
    rw [e1,Zfg]
    exact yv.sigs.one.map Yl fun a b ne z=>ne (Y6 a b z)
   have hix:si≠x:=fun z=>by rw [z,sT.at Zh] at n8;cases n8
   have s48:Same (del H4 x) (del H8 x):=Zep ((Za3.trans sT).trans s8) Zhn
   have ei8:del H8 x si=some (.dT ((qO sg).map fun q=>(Yl q.1,V.str q.2))):=Zc5 e8 hix
   have f4:Same (del H4 x) (upd H8 x (.ins T.CTracks dx [("part_of",.ref po),("joined",.ref jo),("post_of",.ref so),("signal_on",.ref si)])):=s48.trans Za3
   have f3:=s34.trans f4
   have f1:=s13.trans f3
   refine q _ (g1.trans f1) ⟨dx,po,jo,so,si,kp,ks,kj,_,Zh,f1.at ep1,dp1.mapR (RP.mono f1),f3.at ej3,dj3.mapR (RJ.mono f3),f4.at es4,ds4.mapR (RS.mono f4),Za3.at ei8,?_⟩
   have all:∀l:List (Zc×Str),DP Yl RO (l.map fun q=>(Yl q.1,V.str q.2)) l:=fun l=>by
    induction l with
    | nil=>exact .nil
    | cons p l ih=>exact .cons ⟨rfl,rfl⟩ ih
   exact all _
theorem Zfa(T:Tx K mg){k:Nat}(h:5<=k:=by decide):Zz P w K mg base CX0 k T.d_Tracks___init__.f T.d_Tracks___init__.fd ["self", "parts", "joins", "signals"] (Zx3 T):=(Zen T).mono h
def Zkn(T:Tx K mg):List V->Hp->VK->Prop:=fun vs H Q=>∃(pl jl sl:Addr) (xs:List Addr) (ps:List Zc) (js:List (Zc×Zc)) (sg:List (Str×Str×Str)),vs=[.ref pl,.ref jl,.ref sl]/\H pl=some (.lst (xs.map V.ref))/\Paired (PO T H) xs ps/\Yg H jl js/\Zcb H sl sg/\Y7 ps js sg/\∀x H',Same H H'->H x=none->Xj T H' x ps js sg->Q (.ref x) H'
theorem Zqp(T:Tx K mg):∀vs H Q,Zkn T vs H Q ->
  ∀x dx,H x=none->H dx=none->dx≠x->Zx3 T (.ref x ::(vs++[])) (upd (upd H dx (.own x)) x (.ins T.CTracks dx [])) (fun v H2=>v=.non/\Q (.ref x) H2) E0:=by
 rintro vs H Q ⟨pl,jl,sl,xs,ps,js,sg,rfl,h1,h2,h3,h4,h5,q⟩ x dx hx hdx ne
 refine ⟨H,x,dx,pl,jl,sl,xs,ps,js,sg,rfl,hx,fun b o e=>?_,Zh,h1,h2,h3,h4,h5,fun H' s t=>⟨rfl,q x H' s hx t⟩⟩
 rw [Zi (Zj e hx),Zi (Zj e hdx)]
 exact e
def Zpb(T:Tx K mg):Sp:=fun vs H Q _=>∃(x:Addr) (nm k:Str) (ps:List Zc) (js:List (Zc×Zc)) (sg:List (Str×Str×Str)),vs=[.ref x,.str nm]/\Xj T H x ps js sg/\Y7 ps js sg/\((k,nm):Zc)∈ps/\∀(y C:Addr) (H':Hp),Same H H'->Zak T k C->Zdi H' C y nm->Q (.ref y) H'
theorem Zgw(T:Tx K mg):Zz P w K mg base CX0 2 T.d_Tracks_named.f T.d_Tracks_named.fd ["self", "name"] (Zpb T):=by
 refine T.d_Tracks_named.F.okW Zgr fun cdv A outer s H vs Q E hr h=>?_
 ·obtain ⟨x,nm,k,ps,js,sg,rfl,tr,yv,hm,q⟩:=h
  obtain ⟨dx,po,jo,so,si,kp,ks,kj,ko,h1,h2,h3,_⟩:=tr.ex
  have hq:((nm,k):Str×Str)∈qP ps:=List.mem_map.mpr ⟨(k,nm),hm,rfl⟩
  obtain ⟨v,hv,y,C,rfl,hC,hO⟩:=h3.get Zct (by rw [Zk6];exact yv.net.nd) hq
  refine WSs.step (Yj (PW.pt (Zmj (Zdk (Zad (Zx (Zfv T) hr rfl T.m_is_name T.d_is_name.F.kp T.d_is_name.b .nil Z6 (Zb (pv 1) Za)))) (Zii (Zr (r:=Zbz K) (Zcj hr) (pv 1) (W5 (pv 0) rfl) (by with_unfolding_all rfl))))) Zy Zw) ⟨_,rfl,nm,rfl,yv.name _ hm,fun H1 s1=>⟨_,rfl,Yo (fun z=>absurd z (by decide)) (fun _=>⟨_,rfl,_,rfl,x,_,dx,_,_,rfl,s1.at h1,T.clTracks,T.nTracks_part_of,rfl,.inr (.inl ⟨po,_,rfl,W9.k (k:=Yi nm) (s1.at h2),_,rfl,Yo (fun z=>?_) (fun _=>?_)⟩)⟩)⟩⟩
  ·rw [hv] at z
   exact absurd z (by simp)
  exact WSs.last (Zq (X1 (X0 hr) (W5 (pv 0) rfl) (pv 1) (fun _ _=>rfl))) ⟨_,rfl,x,_,dx,_,_,rfl,s1.at h1,T.clTracks,T.nTracks_part_of,rfl,_,rfl,po,_,rfl,by rw [<-hv];exact W9.k (k:=Yi nm) (s1.at h2),q y C H1 s1 hC (hO.mono s1)⟩
theorem Zih(T:Tx K mg){k:Nat}(h:2<=k:=by decide):Zz P w K mg base CX0 k T.d_Tracks_named.f T.d_Tracks_named.fd ["self", "name"] (Zpb T):=(Zgw T).mono h
def Zl6(T:Tx K mg):Sp:=fun vs H Q _=>∃(x t:Addr) (e:Zc) (ps:List Zc) (js:List (Zc×Zc)) (sg:List (Str×Str×Str)),vs=[.ref x,.ref t]/\Xj T H x ps js sg/\Y7 ps js sg/\Zs H t e /\
 ((e∈Z8 ps/\∀t' e',((e,e'):Zc×Zc)∈qJ js->Zs H t' e'->Q (.ref t') H)\/(e∉Z8 ps/\∀t' H',Same H H'->H t'=none->Zs H' t' ("", "")->Q (.ref t') H'))
theorem Zf5(T:Tx K mg):Zz P w K mg base CX0 3 T.d_Tracks_beyond.f T.d_Tracks_beyond.fd ["self", "end"] (Zl6 T):=by
 refine T.d_Tracks_beyond.F.okW Zfr fun cdv A outer s H vs Q E hr h=>?_
 ·obtain ⟨x,t,e,ps,js,sg,rfl,tr,yv,ht,q⟩:=h
  obtain ⟨dx,po,jo,so,si,kp,ks,kj,ko,h1,h2,h3,h4,h5,_⟩:=tr.ex
  have nd:((qJ js).map Prod.fst).Nodup:=by rw [W4];exact yv.net.flat.nodup_iff.mpr (Zan yv.net.nd)
  rcases q with ⟨hm,q⟩|⟨hm,q⟩
  ·have:e∈(qJ js).map Prod.fst:=by rw [W4];exact yv.net.flat.mem_iff.mpr hm
   obtain ⟨⟨e0,e'⟩,hq,rfl⟩:=List.mem_map.mp this
   obtain ⟨v,hv,t',rfl,ht'⟩:=h5.get Y6 nd hq
   refine WSs.last (Zq (Zcs (Zad (Zx (Zbe T) hr rfl T.m_is_known T.d_is_known.F.kp T.d_is_known.b .nil Z6 (Zb (pv 1) (Zb (W5 (pv 0) rfl) Za)))) (X1 (X0 hr) (W5 (pv 0) rfl) (pv 1) (fun _ _=>rfl)) (Zg (Zb Ze (Zb Ze Za))))) ⟨_,rfl,_,rfl,x,_,dx,_,_,rfl,h1,T.clTracks,T.nTracks_joined,rfl,t,jo,_,kj,rfl,ht,h4,_,rfl,?_⟩
   rw [hv]
   exact Zjj ⟨_,rfl,x,_,dx,_,_,rfl,h1,T.clTracks,T.nTracks_joined,rfl,_,rfl,jo,_,rfl,by rw [<-hv];exact W9.t (k:=Yl e0) h4 ht,q t' e' hq ht'⟩
  ·have hv:Yv kj (Yl e)=none:=h5.none Y6 (by rw [W4];exact fun z=>hm (yv.net.flat.mem_iff.mp z))
   refine WSs.last (Zq (Zcs (Zad (Zx (Zbe T) hr rfl T.m_is_known T.d_is_known.F.kp T.d_is_known.b .nil Z6 (Zb (pv 1) (Zb (W5 (pv 0) rfl) Za)))) (X1 (X0 hr) (W5 (pv 0) rfl) (pv 1) (fun _ _=>rfl)) (Zg (Zb Ze (Zb Ze Za))))) ⟨_,rfl,_,rfl,x,_,dx,_,_,rfl,h1,T.clTracks,T.nTracks_joined,rfl,t,jo,_,kj,rfl,ht,h4,_,rfl,?_⟩
   rw [hv]
   exact Ztf ⟨sz (by simp),fun t' H' s' n' e'=>q t' H' s' n' e'⟩
theorem Zbq(T:Tx K mg){k:Nat}(h:3<=k:=by decide):Zz P w K mg base CX0 k T.d_Tracks_beyond.f T.d_Tracks_beyond.fd ["self", "end"] (Zl6 T):=(Zf5 T).mono h
def Yau(sg:List (Str×Str×Str))(e:Zc):Bool:=decide (e∈sg.map Prod.snd)
def Zpl(T:Tx K mg):Sp:=fun vs H Q _=>∃(x t:Addr) (e:Zc) (ps:List Zc) (js:List (Zc×Zc)) (sg:List (Str×Str×Str)),vs=[.ref x,.ref t]/\Xj T H x ps js sg/\Y7 ps js sg/\Zs H t e /\
 ∀nm:Str,((nm,e)∈qS sg/\Zbv nm/\e∈sg.map Prod.snd)\/(nm = "" /\e∉sg.map Prod.snd)->Q (.str nm) H
theorem Zdv(T:Tx K mg):Zz P w K mg base CX0 3 T.d_Tracks_signal_at.f T.d_Tracks_signal_at.fd ["self", "end"] (Zpl T):=by
 refine T.d_Tracks_signal_at.F.okW Zdw fun cdv A outer s H vs Q E hr h=>?_
 ·obtain ⟨x,t,e,ps,js,sg,rfl,tr,yv,ht,q⟩:=h
  obtain ⟨dx,po,jo,so,si,kp,ks,kj,ko,h1,_,_,_,_,_,_,h8,h9⟩:=tr.ex
  have nd:((qO sg).map Prod.fst).Nodup:=by rw [Zfg];exact yv.sigs.one
  by_cases hm:e∈sg.map Prod.snd
  ·obtain ⟨⟨nm,e1,e2⟩,hg,rfl⟩:=List.mem_map.mp hm
   obtain ⟨v,hv,rfl⟩:=h9.get Y6 nd (a:=(e1,e2)) (b:=nm) (List.mem_map.mpr ⟨_,hg,rfl⟩)
   refine WSs.last (Zq (Zcs (Zad (Zx (Zbe T) hr rfl T.m_is_known T.d_is_known.F.kp T.d_is_known.b .nil Z6 (Zb (pv 1) (Zb (W5 (pv 0) rfl) Za)))) (X1 (X0 hr) (W5 (pv 0) rfl) (pv 1) (fun _ _=>rfl)) Ze)) ⟨_,rfl,_,rfl,x,_,dx,_,_,rfl,h1,T.clTracks,T.nTracks_signal_on,rfl,t,si,_,ko,rfl,ht,h8,_,rfl,?_⟩
   have hv':Yv ko (Yl (e1,e2))=some (.str nm):=hv
   rw [show ((nm,e1,e2):Str×Str×Str).snd=(e1,e2) from rfl,hv']
   exact Zjj ⟨_,rfl,x,_,dx,_,_,rfl,h1,T.clTracks,T.nTracks_signal_on,rfl,_,rfl,si,_,rfl,by rw [<-hv'];exact W9.t (k:=Yl (e1,e2)) h8 ht,q nm (.inl ⟨List.mem_map.mpr ⟨_,hg,rfl⟩,yv.sigs.name _ hg,hm⟩)⟩
  ·have hv:Yv ko (Yl e)=none:=h9.none Y6 (by rw [Zfg];exact hm)
   refine WSs.last (Zq (Zcs (Zad (Zx (Zbe T) hr rfl T.m_is_known T.d_is_known.F.kp T.d_is_known.b .nil Z6 (Zb (pv 1) (Zb (W5 (pv 0) rfl) Za)))) (X1 (X0 hr) (W5 (pv 0) rfl) (pv 1) (fun _ _=>rfl)) Ze)) ⟨_,rfl,_,rfl,x,_,dx,_,_,rfl,h1,T.clTracks,T.nTracks_signal_on,rfl,t,si,_,ko,rfl,ht,h8,_,rfl,?_⟩
   rw [hv]
   exact Ztf (q _ (.inr ⟨rfl,hm⟩))
theorem Zeg(T:Tx K mg){k:Nat}(h:3<=k:=by decide):Zz P w K mg base CX0 k T.d_Tracks_signal_at.f T.d_Tracks_signal_at.fd ["self", "end"] (Zpl T):=(Zdv T).mono h
abbrev S4:=Str×Str×Str×Str
def Xl(H:Hp)(t:Addr)(q:S4):Prop:=H t=some (.tup [.str q.1,.str q.2.1,.str q.2.2.1,.str q.2.2.2])
theorem Xl.mono{H H':Hp}{t:Addr}{q:S4}(e:Same H H')(h:Xl H t q):Xl H' t q:=e.at h
def Ze2(H:Hp)(l:Addr)(ss:List S4):Prop:=∃ts:List Addr,H l=some (.lst (ts.map V.ref))/\Paired (Xl H) ts ss
def Zd8(k en:Str):List (Str×Str):=((Zcc k).map fun lie=>(Xc k en lie,lie)).filter fun o=>decide (o.1 ≠ "") || decide (k = "gate" \/k = "stop")
def Zbh(k nm en:Str):List S4:=(Zd8 k en).map fun o=>(nm,en,o.1,o.2)
def Zyd:Sp:=fun vs H Q _=>∃(t:Addr) (q:S4),vs=[.ref t]/\Xl H t q/\∀t' H',Same H H'->H t'=none->Zs H' t' (q.1,q.2.2.1)->Q (.ref t') H'
theorem Zjl(T:Tx K mg):Zz P w K mg base CX0 1 T.d_end_behind.f T.d_end_behind.fd ["step"] Zyd:=by
 refine T.d_end_behind.F.okW Ziu fun cdv A outer s H vs Q E hr h=>?_
 ·obtain ⟨t,q4,rfl,ht,q⟩:=h
  exact WSs.last (Zq (Zg (Zb (Zv (r:=rIx K) Zk (pv 0) Zf (fun _ _=>rfl)) (Zb (Zv (r:=rIx K) Zk (pv 0) Zf (fun _ _=>rfl)) Za)))) ⟨_,rfl,.inr (.inl ⟨t,_,0,_,rfl,rfl,SqT.of ht,Zt (j:=0) rfl,_,rfl,.inr (.inl ⟨t,_,2,_,rfl,rfl,SqT.of ht,Zt (j:=2) rfl,sz (by simp),q⟩)⟩)⟩
theorem Zfd(T:Tx K mg){k:Nat}(h:1<=k:=by decide):Zz P w K mg base CX0 k T.d_end_behind.f T.d_end_behind.fd ["step"] Zyd:=(Zjl T).mono h
def Zaw(sg:List (Str×Str×Str))(q:S4):Bool:=decide (q.2.2.1 = "") || decide (((q.1,q.2.2.1):Zc)∈sg.map Prod.snd)
def Zyj(T:Tx K mg):Sp:=fun vs H Q _=>∃(x t:Addr) (q:S4) (ps:List Zc) (js:List (Zc×Zc)) (sg:List (Str×Str×Str)),vs=[.ref x,.ref t]/\Xj T H x ps js sg/\Y7 ps js sg/\Xl H t q/\∀H',Same H H'->Q (.bl (Zaw sg q)) H'
theorem Zo6{s:Str}(h:Zbv s):s ≠ "" :=fun z=>by
 have:=h.1
 rw [z] at this
 exact absurd this (by decide)
theorem Zi9(T:Tx K mg):Zz P w K mg base CX0 4 T.d_ends_there.f T.d_ends_there.fd ["tracks", "step"] (Zyj T):=by
 refine T.d_ends_there.F.okW Zi4 fun cdv A outer s H vs Q E hr h=>?_
 ·obtain ⟨x,t,q4,ps,js,sg,rfl,tr,yv,ht,q⟩:=h
  obtain ⟨dx,_,_,_,_,_,_,_,_,h1,_⟩:=tr.ex
  refine WSs.last (Zq (Zwi (Zcp (r:=Zat K) (Za4 hr) (Zv (r:=rIx K) Zk (pv 1) Zf (fun _ _=>rfl)) Ze (Z9 _)) (Zh3 (Zcp (r:=Ziz K) (Zmh hr) (Zck (pv 0) T.clTracks T.mtTracks_signal_at (Zeg T) hr T.d_Tracks_signal_at.b .nil Z6 (Zb (Zx (Zfd T) hr rfl T.m_end_behind T.d_end_behind.F.kp T.d_end_behind.b .nil Z6 (Zb (pv 1) Za)) Za)) Ze (Z9 _))))) ⟨_,rfl,.inr (.inl ⟨t,_,2,_,rfl,rfl,SqT.of ht,Zt (j:=2) rfl,.inl ⟨rfl,_,rfl,Yo (fun z=>?_) (fun z=>?_)⟩⟩)⟩
  ·have z:q4.2.2.1 = "" :=V.str.inj (of_decide_eq_true z)
   have e:Zaw sg q4=true:=by unfold Zaw;rw [decide_eq_true z];rfl
   rw [e] at q
   exact q H (Same.refl _)
  ·have z:¬q4.2.2.1 = "" :=fun y=>z (decide_eq_true (by rw [y]))
   refine ⟨_,rfl,x,dx,_,rfl,h1,rfl,_,rfl,t,q4,rfl,ht,fun t' H1 s1 n1 e1=>⟨x,t',_,ps,js,sg,rfl,tr.mono s1,yv,e1,fun nm hn=>.inl ⟨rfl,?_⟩⟩⟩
   have e:Zaw sg q4=!decide (V.str nm=V.str ""):=by
    unfold Zaw
    rw [decide_eq_false z]
    rcases hn with ⟨_,hn,hm⟩|⟨hn,hm⟩
    ·rw [decide_eq_true hm,decide_eq_false fun y=>Zo6 hn (V.str.inj y)];rfl
    ·rw [decide_eq_false hm,hn];rfl
   rw [<-e]
   exact q H1 s1
theorem Zlq(T:Tx K mg){k:Nat}(h:4<=k:=by decide):Zz P w K mg base CX0 k T.d_ends_there.f T.d_ends_there.fd ["tracks", "step"] (Zyj T):=(Zi9 T).mono h
theorem Zs1:∀k∈X4,∀en∈Ya k,(Zd8 k en).length<2\/Zd8 k en=[(("left" :Str),("left" :Str)),(("right" :Str),("right" :Str))]:=by trivial
theorem Zhz:("right" :Str) ≠ "left" /\¬("right" :Str).cps.toList<("left" :Str).cps.toList:=by trivial
theorem Zl4(k:Str):(Zcc k).length<=2:=by unfold Zcc;split <;>decide
theorem Xl.off{H:Hp}{c t:Addr}{o:HO}{xs:List V}{q:S4}(h:Xl H t q)(hc:H c=some (.lst xs)):Xl (upd H c o) t q:=by
 unfold Xl at h ⊢
 exact (Zi fun z=>by rw [z,hc] at h;cases h).trans h
def Zwj(T:Tx K mg):Sp:=fun vs H Q _=>∃(x t:Addr) (nm en:Str) (ps:List Zc) (js:List (Zc×Zc)) (sg:List (Str×Str×Str)),vs=[.ref x,.ref t]/\Xj T H x ps js sg/\Y7 ps js sg/\Zs H t (nm,en) /\
 ((∃k,((k,nm):Zc)∈ps/\en∈Ya k/\∀l H',Same H H'->H l=none->Ze2 H' l (Zbh k nm en)->Q (.ref l) H')\/(((nm,en):Zc)∉Z8 ps/\∀l H',Same H H'->H l=none->H' l=some (.lst [])->Q (.ref l) H'))
theorem Znk{ps:List Zc}{k nm en:Str}(h:((k,nm):Zc)∈ps)(he:en∈Ya k):((nm,en):Zc)∈Z8 ps:=List.mem_flatMap.mpr ⟨(k,nm),h,List.mem_map.mpr ⟨en,he,rfl⟩⟩
theorem Zrl{ps:List Zc}{js:List (Zc×Zc)}{sg:List (Str×Str×Str)}(yv:Y7 ps js sg){e:Zc}(h:e∈Z8 ps):e.1 ≠ "" :=by
 obtain ⟨p,hp,hm⟩:=List.mem_flatMap.mp h
 obtain ⟨x,_,rfl⟩:=List.mem_map.mp hm
 exact Zo6 (yv.name p hp)
theorem Zje(T:Tx K mg):Zz P w K mg base CX0 4 T.d_steps_into.f T.d_steps_into.fd ["tracks", "end"] (Zwj T):=by
 refine T.d_steps_into.F.okW W8 fun cdv A outer s H vs Q E hr h=>?_
 ·obtain ⟨x,t,nm,en,ps,js,sg,rfl,tr,yv,ht,q⟩:=h
  obtain ⟨dx,_,_,_,_,_,_,_,_,h1,_⟩:=tr.ex
  have imP:∀{H':Hp} {u:Addr} {e:Zc},Zs H' u e->Im K H' 1 (trP e) (.ref u):=fun {H' u e} h=>Im.tup (n:=0) (SqT.of h) (.cons (.str _) (.cons (.str _) .nil))
  have imN:∀H':Hp,Im K H' 1 (trP ("", "")) (.ref T.a_NO_END):=fun H'=>Im.tup (n:=0) (T.t_NO_END H') (.cons (.str _) (.cons (.str _) .nil))
  rcases q with ⟨k,hm,hen,q⟩|⟨hm,q⟩
  ·have hkd:=yv.net.kind _ hm
   refine WSs.step (Yj (Zr (r:=Zat K) (Za4 hr) (Zck (pv 0) T.clTracks T.mtTracks_beyond (Zbq T) hr T.d_Tracks_beyond.b .nil Z6 (Zb (pv 1) Za)) (Zeq (v:=.ref T.a_NO_END) (by rfl) T.c_NO_END rfl) (Z9 _)) Zy Zw) ⟨_,rfl,x,dx,_,rfl,h1,rfl,_,rfl,x,t,(nm,en),ps,js,sg,rfl,tr,yv,ht,.inl ⟨Znk hm hen,fun t' e' he' ht'=>.inr (.inl ⟨1,trP e',trP ("", ""),by decide,.inl ⟨_,_,rfl,rfl⟩,imP ht',imN _,_,rfl,Yo (fun z=>?_) (fun _=>?_)⟩)⟩⟩
   ·have z:trP e'=trP ("", ""):=of_decide_eq_true z
    have e1:e'∈Z8 ps:=yv.net.flat.mem_iff.mp (by
     obtain ⟨j,hj,hx⟩:=List.mem_flatMap.mp he'
     refine List.mem_flatMap.mpr ⟨j,hj,?_⟩
     simp only [List.mem_cons,Prod.mk.injEq,List.mem_nil_iff,or_false] at hx ⊢
     rcases hx with ⟨_,y⟩|⟨_,y⟩
     ·exact .inr y
     ·exact .inl y)
    exact absurd (by rw [Zo0 z]) (Zrl yv e1)
   refine WSs.step (Z2 (i:=2) W8.nd (Zv (r:=rIx K) Zk (pv 1) Zf (fun _ _=>rfl))) ⟨_,rfl,.inr (.inl ⟨t,_,0,_,rfl,rfl,SqT.of ht,Zt (j:=0) rfl,?_⟩)⟩
   refine WSs.step (Z2 (i:=3) W8.nd (Zv (r:=rIx K) Zk (pv 1) Zf (fun _ _=>rfl))) ⟨_,rfl,.inr (.inl ⟨t,_,1,_,rfl,rfl,SqT.of ht,Zt (j:=1) rfl,?_⟩)⟩
   refine WSs.step (Z2 (i:=4) W8.nd (Zck (pv 0) T.clTracks T.mtTracks_named (Zih T) hr T.d_Tracks_named.b .nil Z6 (Zb (pv 2) Za))) ⟨_,rfl,x,dx,_,rfl,h1,rfl,_,rfl,x,nm,k,ps,js,sg,rfl,tr,yv,hm,fun y C H1 s1 hC hO=>?_⟩
   obtain ⟨dy,hy⟩:=id hO
   obtain ⟨f1,d1,m1,b1,g1⟩:=hC.lies
   refine WSs.step (Za8 (i:=5) (N':=["lie", "name", "entry", "part"]) W8.nd rfl (Or.inl rfl) rfl (Yd.std 1 [2,3,4] rfl (by trivial) (by trivial) rfl ⟨rfl,rfl,rfl,trivial⟩ rfl rfl ⟨⟨_,rfl,rfl,rfl⟩,⟨_,rfl,rfl,rfl⟩,⟨_,rfl,rfl,rfl⟩,trivial⟩) (Yp Ztk) (fun _ _ _ _=>(Zci (i:=0) (by show (["lie", "name", "entry", "part"]:List Str).Nodup;decide +kernel))) (fun _ _ _ _=>Za2) (fun _ _ _ _=>(Zg (Zb (pv 1) (Zb (pv 2) (Zb (Zck (pv 3) hC.cls.1 hC.cls.2.2 (Zky T) hr T.d_Part_leads.b .nil Z6 (Zb (pv 2) (Zb (pv 0) Za))) (Zb (pv 0) Za))))))) (WE.of (Ze0 (pv 4) hC.cls.1 m1 (g1 _ _ _ 3 (by decide)) hr b1 .nil Z6) ⟨_,rfl,y,dy,_,rfl,hy,rfl,_,rfl,fun p H2 s2 n2 e2=>⟨p,rfl,⟨_,SqL.of e2⟩,fun D hD=>Xw (K:=K) (xs:=(Zcc k).map V.str) (fun i ys H'=>(∃ts:List Addr,ys=ts.map V.ref/\Paired (Xl H') ts (((Zcc k).take i).map fun lie=>(nm,en,Xc k en lie,lie)))/\H' D=some (.lst ys)/\Same H2 H') ⟨⟨[],rfl,.nil⟩,Zh,Same.new hD⟩ ?_ ?_ ?_⟩⟩)
   ·rintro i ys H' _ ⟨_,_,sm⟩
    exact SqL.of (sm.at e2)
   ·rintro i v ys H' hi ⟨⟨ts,rfl,hts⟩,hD',sm⟩
    rw [List.getElem?_map] at hi
    obtain ⟨lie,hl,rfl⟩:=Option.map_eq_some_iff.mp hi
    have hlen:ts.length<=2:=by
     have h1:=Paired.length hts
     have h2:=Zl4 k
     rw [List.length_map,List.length_take] at h1
     omega
    have hy':=sm.at (s2.at hy)
    refine ⟨Zaq.set rfl,_,rfl,_,rfl,_,rfl,y,dy,_,rfl,hy',rfl,_,rfl,_,rfl,k,y,C,nm,en,lie,rfl,hC,⟨dy,hy'⟩,fun H3 s3=>⟨_,rfl,sz (by simp),fun t3 H4 s4 n4 e4=>⟨s4.at (s3.at hD'),by rw [List.length_map];exact Z1 (by omega),⟨ts++[t3],by rw [List.map_append];rfl,?_⟩,Zh,?_⟩⟩⟩
    ·rw [List.take_add_one,hl,List.map_append]
     refine Paired.append (Paired.mapP hts fun _ _ r=>Xl.off ((r.mono s3).mono s4) (s4.at (s3.at hD'))) (.cons (Xl.off e4 (s4.at (s3.at hD'))) .nil)
    ·intro b o z
     rw [Zi (Zj z hD)]
     exact s4.at (s3.at (sm.at z))
   ·rintro ys H3 ⟨⟨ts,rfl,hts⟩,hD3,s3⟩
    rw [List.length_map,List.take_length] at hts
    have hO3:Zdi H3 C y nm:=(hO.mono s2).mono s3
    have hlts:=Paired.length hts
    have hl2:=Zl4 k
    rw [List.length_map] at hlts
    refine WSs.last (Zq (Yb (r:=Zpr K) Zmd (by rfl) T.n_sorted PyProof.Rows.boot_sorted (Zb (Wr (N':=["step", "part"]) rfl (Yd.std 1 [4] rfl (by trivial) (by trivial) rfl ⟨rfl,trivial⟩ rfl rfl ⟨⟨_,rfl,rfl,rfl⟩,trivial⟩) (Yp (pv 5)) (fun _ _ _ _=>(Zci (i:=0) (by show (["step", "part"]:List Str).Nodup;decide +kernel))) (fun _ _ _ _=>(Zij (PW.pt (Zmj (Zr (r:=Ziz K) (Zmh hr) (Zv (r:=rIx K) Zk (pv 0) Zf (fun _ _=>rfl)) Ze (Z9 _)) (Zii (Zad (Yb (r:=Zra K) Zcy (by rfl) T.n_isinstance PyProof.Rows.boot_isinstance (Zb (pv 1) (Zb (Zeq (v:=.ref T.CStop) (by rfl) T.mStop rfl) Za))))))))) (fun _ _ _ _=>(pv 0))) Za))) ⟨_,rfl,D,rfl,⟨_,SqL.of hD3⟩,fun D2 hD2=>Xw (K:=K) (xs:=ts.map V.ref) (fun i ys H'=>(∃us:List Addr,ys=us.map V.ref/\Paired (Xl H3) us ((((Zcc k).take i).map fun lie=>(nm,en,Xc k en lie,lie)).filter fun s=>decide (s.2.2.1 ≠ "") || decide (k = "gate" \/k = "stop")))/\H' D2=some (.lst ys)/\Same H3 H') ⟨⟨[],rfl,.nil⟩,Zh,Same.new hD2⟩ ?_ ?_ ?_⟩
    ·rintro i ys H' _ ⟨_,_,sm⟩
     exact SqL.of (sm.at hD3)
    ·rintro i v ys H4 hi ⟨⟨us,rfl,hus⟩,hD4,s4⟩
     rw [List.getElem?_map] at hi
     obtain ⟨t4,hti,rfl⟩:=Option.map_eq_some_iff.mp hi
     obtain ⟨q4,hq4,ht4⟩:=Paired.get hts hti
     rw [List.getElem?_map] at hq4
     obtain ⟨lie,hl,rfl⟩:=Option.map_eq_some_iff.mp hq4
     obtain ⟨ty,hty,hkit⟩:=hC.stop (hO3.mono s4)
     have hlen:us.length<=2:=by
      have h1:=Paired.length hus
      have h2:=List.length_filter_le (fun s:S4=>decide (s.2.2.1 ≠ "") || decide (k = "gate" \/k = "stop")) (((Zcc k).take i).map fun lie=>(nm,en,Xc k en lie,lie))
      rw [List.length_map,List.length_take] at h2
      omega
     have keep:∀b:Bool,(decide (Xc k en lie ≠ "") || decide (k = "gate" \/k = "stop"))=b->(if b=true then H4 D2=some (.lst (us.map V.ref))/\(us.map V.ref).length<sizeLine/\(∃us':List Addr,us.map V.ref++[.ref t4]=us'.map V.ref/\Paired (Xl H3) us' ((((Zcc k).take (i+1)).map fun lie=>(nm,en,Xc k en lie,lie)).filter fun s=>decide (s.2.2.1 ≠ "") || decide (k = "gate" \/k = "stop")))/\upd H4 D2 (.lst (us.map V.ref++[.ref t4])) D2=some (.lst (us.map V.ref++[.ref t4]))/\Same H3 (upd H4 D2 (.lst (us.map V.ref++[.ref t4]))) else (∃us':List Addr,us.map V.ref=us'.map V.ref/\Paired (Xl H3) us' ((((Zcc k).take (i+1)).map fun lie=>(nm,en,Xc k en lie,lie)).filter fun s=>decide (s.2.2.1 ≠ "") || decide (k = "gate" \/k = "stop")))/\H4 D2=some (.lst (us.map V.ref))/\Same H3 H4):=by
      intro b hb
      rw [List.take_add_one,hl,List.map_append,List.filter_append]
      cases b with
      | true =>
       refine Zjj ⟨hD4,by rw [List.length_map];exact Z1 (by omega),⟨us++[t4],by rw [List.map_append];rfl,Paired.append hus ?_⟩,Zh,fun b o z=>?_⟩
       ·have:List.filter (fun s:S4=>decide (s.2.2.1 ≠ "") || decide (k = "gate" \/k = "stop")) ((some lie).toList.map fun lie=>(nm,en,Xc k en lie,lie))=[(nm,en,Xc k en lie,lie)]:=List.filter_cons_of_pos (by show (decide (Xc k en lie ≠ "") || decide (k = "gate" \/k = "stop"))=true;exact hb)
        rw [this]
        exact .cons ht4 .nil
       ·rw [Zi (Zj z hD2)];exact s4.at z
      | false =>
       refine Ztf ⟨⟨us,rfl,?_⟩,hD4,s4⟩
       have:List.filter (fun s:S4=>decide (s.2.2.1 ≠ "") || decide (k = "gate" \/k = "stop")) ((some lie).toList.map fun lie=>(nm,en,Xc k en lie,lie))=[]:=List.filter_cons_of_neg (by show ¬(decide (Xc k en lie ≠ "") || decide (k = "gate" \/k = "stop"))=true;rw [hb];decide)
       rw [this,List.append_nil]
       exact hus
     refine ⟨Zaq.set rfl,_,rfl,.inr (.inl ⟨t4,_,2,_,rfl,rfl,SqT.of (s4.at ht4),Zt (j:=2) rfl,.inl ⟨rfl,_,rfl,Yo (fun z=>?_) (fun z=>⟨_,rfl,_,_,_,ty,rfl,hty,.inr ⟨_,rfl,hkit⟩,_,rfl,?_⟩)⟩⟩)⟩
     ·have kt:=keep true (by
       have:Xc k en lie ≠ "" :=fun y=>by
        have y:V.str (Xc k en lie)=V.str "" :=by rw [y]
        rw [decide_eq_true y] at z
        exact absurd z (by decide)
       rw [decide_eq_true this];rfl)
      rw [if_pos rfl] at kt
      exact Zjj ⟨_,rfl,kt⟩
     ·have y:Xc k en lie = "" :=by
       by_cases y:Xc k en lie = ""
       ·exact y
       ·rw [decide_eq_false fun w=>y (V.str.inj w)] at z
        exact absurd rfl z
      by_cases g:k = "gate" \/k = "stop"
      ·have kt:=keep true (by rw [decide_eq_true g,Bool.or_true])
       rw [if_pos rfl] at kt
       rw [decide_eq_true g] at kt ⊢
       exact Zjj ⟨_,rfl,kt⟩
      ·have kt:=keep false (by rw [decide_eq_false g,decide_eq_false fun w=>w y];rfl)
       rw [if_neg (by decide)] at kt
       rw [decide_eq_false g] at kt ⊢
       exact Ztf kt
    ·rintro ys H4 ⟨⟨us,rfl,hus⟩,hD4,s4⟩
     rw [List.length_map,hlts,List.take_length] at hus
     have es:((Zcc k).map fun lie=>((nm,en,Xc k en lie,lie):S4)).filter (fun s:S4=>decide (s.2.2.1≠("" :Str)) || decide (k = "gate" \/k = "stop"))=Zbh k nm en:=by
      unfold Zbh Zd8
      rw [List.filter_map,List.filter_map,List.map_map]
      rfl
     rw [es] at hus
     have hul:=Paired.length hus
     refine ⟨D2,us,rfl,hD4,?_,fun l H5 s5 n5 e5=>q l H5 (s1.trans (s2.trans (s3.trans (s4.trans s5)))) (s1.free (s2.free (s3.free (s4.free n5)))) ⟨us,e5,Paired.mapP hus fun _ _ r=>(r.mono s4).mono s5⟩⟩
     rcases Zs1 k hkd en hen with hf|hf
     ·unfold Zbh at hul
      rw [List.length_map] at hul
      exact .inl (by omega)
     ·unfold Zbh at hus
      rw [hf] at hus
      match us,hus with
      | [a,b],.cons ha (.cons hb .nil)=>exact .inr ⟨a,b,nm,en, "left", "left", "right", "right",rfl,s4.at ha,s4.at hb,Zhz.1,Zhz.2⟩
  ·refine WSs.step (Yj (Zr (r:=Zat K) (Za4 hr) (Zck (pv 0) T.clTracks T.mtTracks_beyond (Zbq T) hr T.d_Tracks_beyond.b .nil Z6 (Zb (pv 1) Za)) (Zeq (v:=.ref T.a_NO_END) (by rfl) T.c_NO_END rfl) (Z9 _)) Zy Zw) ⟨_,rfl,x,dx,_,rfl,h1,rfl,_,rfl,x,t,(nm,en),ps,js,sg,rfl,tr,yv,ht,.inr ⟨hm,fun t' H1 s1 n1 e1=>.inr (.inl ⟨1,trP ("", ""),trP ("", ""),by decide,.inl ⟨_,_,rfl,rfl⟩,imP e1,imN _,_,rfl,Yo (fun _=>?_) (fun z=>absurd (decide_eq_true rfl) z)⟩)⟩⟩
   exact WSs.last (Zq (Zl Za)) ⟨sz (by simp),fun l H2 s2 n2 e2=>q l H2 (s1.trans s2) (s1.free n2) e2⟩
theorem Zlw(T:Tx K mg){k:Nat}(h:4<=k:=by decide):Zz P w K mg base CX0 k T.d_steps_into.f T.d_steps_into.fd ["tracks", "end"] (Zwj T):=(Zje T).mono h
theorem Zdi.offL{H:Hp}{c x C:Addr}{o:HO}{xs:List V}{nm:Str}(h:Zdi H C x nm)(hc:H c=some (.lst xs)):Zdi (upd H c o) C x nm:=by
 obtain ⟨dx,h⟩:=h
 exact ⟨dx,(Zi fun z=>by rw [z,hc] at h;cases h).trans h⟩
def Zfk(H:Hp)(t:Addr)(ps:List Zc)(js:List (Zc×Zc))(sg:List (Str×Str×Str)):Prop:=∃pl jl sl,H t=some (.tup [.ref pl,.ref jl,.ref sl])/\Zu H pl ps/\Yg H jl js/\Zcb H sl sg
theorem Zfk.mono{H H':Hp}{t:Addr}{ps:List Zc}{js:List (Zc×Zc)}{sg:List (Str×Str×Str)}(e:Same H H')(h:Zfk H t ps js sg):Zfk H' t ps js sg:=let ⟨pl,jl,sl,h1,h2,h3,h4⟩:=h;⟨pl,jl,sl,e.at h1,h2.mono e,h3.mono e,h4.mono e⟩
def Zwm(T:Tx K mg):Sp:=fun vs H Q _=>∃(t:Addr) (ps:List Zc) (js:List (Zc×Zc)) (sg:List (Str×Str×Str)),vs=[.ref t]/\Zfk H t ps js sg/\Y7 ps js sg/\∀x H',Same H H'->H x=none->Xj T H' x ps js sg->Q (.ref x) H'
theorem Zhp(T:Tx K mg):Zz P w K mg base CX0 7 T.d__law_tracks.f T.d__law_tracks.fd ["_law_yard"] (Zwm T):=by
 refine T.d__law_tracks.F.okW Zib fun cdv A outer s H vs Q E hr h=>?_
 ·obtain ⟨t,ps,js,sg,rfl,⟨pl,jl,sl,ht,⟨ts,hpl,hts⟩,hjl,hsl⟩,yv,q⟩:=h
  have htl:=Paired.length hts
  have ylen:=yv.len
  refine WSs.last (Zq (Zch (Zkn T) T.mkTracks (Zfa T) hr rfl T.mTracks T.d_Tracks___init__.b .nil Z6 (Zqp T) (Zb (Wr (N':=["_law_kind", "_law_name"]) rfl (Yd.std 2 [] rfl (by trivial) (by trivial) rfl trivial rfl rfl trivial) (Yp (Zv (r:=rIx K) Zk (pv 0) Zf (fun _ _=>rfl))) (fun _ _ _ _=>(Zkz (K:=K) (n:=2) rfl rfl (Z7 (Zci (i:=0) (by show (["_law_kind", "_law_name"]:List Str).Nodup;decide +kernel)) (Z7 (Zci (i:=1) (by show (["_law_kind", "_law_name"]:List Str).Nodup;decide +kernel)) X3)))) (fun _ _ _ _=>Za2) (fun _ _ _ _=>(Zx (Zmb T) hr rfl T.m__law_part T.d__law_part.F.kp T.d__law_part.b .nil Z6 (Zb (pv 0) (Zb (pv 1) Za))))) (Zb (Zv (r:=rIx K) Zk (pv 0) Zf (fun _ _=>rfl)) (Zb (Zv (r:=rIx K) Zk (pv 0) Zf (fun _ _=>rfl)) Za))))) ⟨_,rfl,.inr (.inl ⟨t,_,0,_,rfl,rfl,SqT.of ht,Zt (j:=0) rfl,pl,rfl,⟨_,SqL.of hpl⟩,fun D hD=>Xw (K:=K) (xs:=ts.map V.ref) (fun i ys H'=>(∃xs:List Addr,ys=xs.map V.ref/\Paired (PO T H') xs (ps.take i))/\H' D=some (.lst ys)/\Same H H') ⟨⟨[],rfl,.nil⟩,Zh,Same.new hD⟩ ?_ ?_ ?_⟩)⟩
  ·rintro i ys H' _ ⟨_,_,sm⟩
   exact SqL.of (sm.at hpl)
  ·rintro i v ys H1 hi ⟨⟨xs,rfl,hxs⟩,hD1,s1⟩
   rw [List.getElem?_map] at hi
   obtain ⟨u,hu,rfl⟩:=Option.map_eq_some_iff.mp hi
   obtain ⟨p,hp,hpu⟩:=Paired.get hts hu
   have hpu:H u=some (.tup [.str p.1,.str p.2]):=hpu
   have hm:p∈ps:=List.mem_of_getElem? hp
   have hxl:xs.length<=100:=by
    have:=Paired.length hxs
    rw [List.length_take] at this
    omega
   refine ⟨u,_,rfl,SqT.of (s1.at hpu),rfl,_,_,rfl,_,_,rfl,rfl,(Zaq.set rfl).trans (Zaq.set rfl),_,rfl,_,rfl,p.1,p.2,rfl,yv.net.kind p hm,(yv.name p hm).2.1,fun x C H2 s2 n2 hC hO=>⟨s2.at hD1,by rw [List.length_map];exact Z1 (by omega),⟨xs++[x],by rw [List.map_append];rfl,?_⟩,Zh,fun b o z=>?_⟩⟩
   ·rw [List.take_add_one,hp]
    exact Paired.append (Paired.mapP hxs fun _ _ ⟨C,z1,z2⟩=>⟨C,z1,(z2.mono s2).offL (s2.at hD1)⟩) (.cons ⟨C,hC,hO.offL (s2.at hD1)⟩ .nil)
   ·rw [Zi (Zj z hD)];exact s2.at (s1.at z)
  ·rintro ys H1 ⟨⟨xs,rfl,hxs⟩,hD1,s1⟩
   rw [List.length_map,htl,List.take_length] at hxs
   exact ⟨_,rfl,.inr (.inl ⟨t,_,1,_,rfl,rfl,SqT.of (s1.at ht),Zt (j:=1) rfl,_,rfl,.inr (.inl ⟨t,_,2,_,rfl,rfl,SqT.of (s1.at ht),Zt (j:=2) rfl,D,jl,sl,xs,ps,js,sg,rfl,hD1,hxs,hjl.mono s1,hsl.mono s1,yv,fun x H2 s2 n2 tr=>q x H2 (s1.trans s2) (s1.free n2) tr⟩)⟩)⟩
theorem Zjd(T:Tx K mg){k:Nat}(h:7<=k:=by decide):Zz P w K mg base CX0 k T.d__law_tracks.f T.d__law_tracks.fd ["_law_yard"] (Zwm T):=(Zhp T).mono h
def RK:Str->Str->V->Prop:=fun _ k v=>v=.str k
def Ze6(a b c:Addr):List (Key×V):=[(Yi "kinds",.ref a),(Yi "joined",.ref b),(Yi "stands",.ref c)]
structure Zdg(H:Hp)(d:Addr)(ps:List Zc)(js:List (Zc×Zc))(sg:List (Str×Str×Str)):Prop where
 ex:∃(a b c:Addr) (kk:List (Key×V)) (kj kst:List (List Key×V)),H d=some (.dK (Ze6 a b c))/\H a=some (.dK kk)/\DP Yi RK kk (qP ps)/\H b=some (.dT kj)/\DP Yl (RJ H) kj (qJ js)/\H c=some (.dT kst)/\DP Yl RO kst (qO sg)
theorem Zdg.mono{H H':Hp}{d:Addr}{ps:List Zc}{js:List (Zc×Zc)}{sg:List (Str×Str×Str)}(e:Same H H')(h:Zdg H d ps js sg):Zdg H' d ps js sg:=by
 obtain ⟨a,b,c,kk,kj,kst,h1,h2,h3,h4,h5,h6,h7⟩:=h.ex
 exact ⟨a,b,c,kk,kj,kst,e.at h1,e.at h2,h3,e.at h4,h5.mapR (RJ.mono e),e.at h6,h7⟩
def Zv4:Sp:=fun vs H Q _=>∃(t:Addr) (ps:List Zc) (js:List (Zc×Zc)) (sg:List (Str×Str×Str)),vs=[.ref t]/\Zfk H t ps js sg/\Y7 ps js sg/\∀d H',Same H H'->H d=none->Zdg H' d ps js sg->Q (.ref d) H'
theorem Zmz(T:Tx K mg):Zz P w K mg base CX0 1 T.d__law_map.f T.d__law_map.fd ["_law_yard"] Zv4:=by
 refine T.d__law_map.F.okW Yz fun cdv A outer s H vs Q E hr h=>?_
 ·obtain ⟨t,ps,js,sg,rfl,⟨pl,jl,sl,ht,⟨ts,hpl,hts⟩,⟨us,hjl,hus⟩,⟨gs,hsl,hgs⟩⟩,yv,q⟩:=h
  have htl:=Paired.length hts
  have hul:=Paired.length hus
  have hgl:=Paired.length hgs
  have ylen:=yv.len
  have jlen:=yv.net.jlen ylen
  have slen:=yv.sigs.len
  have fnd:(Yt js).Nodup:=yv.net.flat.nodup_iff.mpr (Zan yv.net.nd)
  refine WSs.step (Z2 (i:=1) Yz.nd Zdr) fun b H1 s1 n1 e1=>?_
  let I22:=fun (i:Nat) (σ:St) (H':Hp)=>(∃o2 o3,σ=[some (.ref t),some (.ref b),o2,o3,none,none,none,none,none,none])/\Same H H'/\∃kj,H' b=some (.dT kj)/\DP Yl (RJ H) kj (qJ (js.take i))
  refine WSs.step (Xu PassesOwn.never rfl (Yp (Zv (r:=rIx K) Zk (pv 0) Zf (fun _ _=>rfl))) (Zbt rfl (Z7 (Yw (i:=2) Yz.nd) (Z7 (Yw (i:=3) Yz.nd) X3))) Zy) ⟨_,rfl,.inr (.inl ⟨t,_,1,_,rfl,rfl,SqT.of (s1.at ht),Zt (j:=1) rfl,jl,rfl,⟨_,SqL.of (s1.at hjl)⟩,Xr (K:=K) (xs:=us.map V.ref) I22 ⟨⟨none,none,rfl⟩,s1,[],e1,.nil⟩ ?_ ?_ ?_⟩)⟩
  ·rintro i σ H' _ ⟨_,s2,_⟩
   exact SqL.of (s2.at hjl)
  ·rintro i v σ H2 hi ⟨⟨o2,o3,rfl⟩,s2,kj,hb,hD⟩
   rw [List.getElem?_map] at hi
   obtain ⟨u,hui,rfl⟩:=Option.map_eq_some_iff.mp hi
   obtain ⟨j,hj,a1,a2,hu,ha1,ha2⟩:=Paired.get hus hui
   have hil:=(List.getElem?_eq_some_iff.mp hj).1
   have hlen:kj.length<=600:=by
    have h1:=hD.len
    rw [Zof,List.length_take] at h1
    omega
   have hnd:(Yt (js.take i)++[j.1]++[j.2]).Nodup:=by
    have h1:(Yt (js.take (i+1))).Nodup:=fnd.sublist (by
     have:Yt js=Yt (js.take (i+1))++Yt (js.drop (i+1)):=by rw [<-Zb4,List.take_append_drop]
     rw [this]
     exact List.sublist_append_left _ _)
    rw [<-W4,Zg1 hj,List.map_append,List.map_append,W4] at h1
    exact h1
   have nd1:j.1∉Yt (js.take i):=fun z=>(List.nodup_append.mp (List.nodup_append.mp hnd).1).2.2 _ z _ List.mem_cons_self rfl
   have nd2:j.2∉Yt (js.take i)++[j.1]:=fun z=>(List.nodup_append.mp hnd).2.2 _ z _ List.mem_cons_self rfl
   have v1:Yv kj (Yl j.1)=none:=hD.none Y6 (by rw [W4];exact nd1)
   have hD1:DP Yl (RJ H) (Zar kj (Yl j.1) (.ref a2)) (qJ (js.take i)++[(j.1,j.2)]):=hD.put v1 ⟨a2,rfl,ha2⟩
   have hl1:=Zbl kj (Yl j.1) (.ref a2)
   have v3:Yv (Zar kj (Yl j.1) (.ref a2)) (Yl j.2)=none:=hD1.none Y6 (by rw [List.map_append,W4];exact nd2)
   refine ⟨u,_,rfl,SqT.of (s2.at hu),rfl,_,_,rfl,_,_,rfl,rfl,?_⟩
   refine WSs.step (Zby (X0 hr) (pv 1) (pv 2) (pv 3) rfl) ⟨_,rfl,_,rfl,_,rfl,b,_,rfl,Zed.t (k:=Yl j.1) hb (Zgz (ha1.mono s2)) (Z1 (by omega)),?_⟩
   have s3:Same H (upd H2 b (.dT (Zar kj (Yl j.1) (.ref a2)))):=s2.upd0 n1
   refine WSs.last (Zby (X0 hr) (pv 1) (pv 3) (pv 2) rfl) ⟨_,rfl,_,rfl,_,rfl,b,_,rfl,Zed.t (k:=Yl j.2) Zh (Zgz (ha2.mono s3)) (Z1 (by omega)),⟨_,_,rfl⟩,s3.upd0 n1,_,Zh,?_⟩
   rw [Zg1 hj]
   exact hD1.put v3 ⟨a1,rfl,ha1⟩
  rintro σ H2 ⟨⟨o2,o3,rfl⟩,s2,kj,hb,hD⟩
  rw [List.length_map,hul,List.take_length] at hD
  refine WSs.step (Z2 (i:=4) Yz.nd Zfl) fun a H3 s3 n3 e3=>?_
  have n3':=s2.free n3
  have s03:=s2.trans s3
  let I23:=fun (i:Nat) (σ:St) (H':Hp)=>(∃o5 o6,σ=[some (.ref t),some (.ref b),o2,o3,some (.ref a),o5,o6,none,none,none])/\Same H2 H'/\∃kk,H' a=some (.dK kk)/\DP Yi RK kk (qP (ps.take i))
  refine WSs.step (Xu PassesOwn.never rfl (Yp (Zv (r:=rIx K) Zk (pv 0) Zf (fun _ _=>rfl))) (Zbt rfl (Z7 (Yw (i:=5) Yz.nd) (Z7 (Yw (i:=6) Yz.nd) X3))) Zy) ⟨_,rfl,.inr (.inl ⟨t,_,0,_,rfl,rfl,SqT.of (s03.at ht),Zt (j:=0) rfl,pl,rfl,⟨_,SqL.of (s03.at hpl)⟩,Xr (K:=K) (xs:=ts.map V.ref) I23 ⟨⟨none,none,rfl⟩,s3,[],e3,.nil⟩ ?_ ?_ ?_⟩)⟩
  ·rintro i σ H' _ ⟨_,s4,_⟩
   exact SqL.of ((s2.trans s4).at hpl)
  ·rintro i v σ H4 hi ⟨⟨o5,o6,rfl⟩,s4,kk,ha,hK⟩
   rw [List.getElem?_map] at hi
   obtain ⟨u,hui,rfl⟩:=Option.map_eq_some_iff.mp hi
   obtain ⟨p,hp,hu⟩:=Paired.get hts hui
   have hu:H u=some (.tup [.str p.1,.str p.2]):=hu
   have hn:Yv kk (Yi p.2)=none:=hK.none Zct (by
    rw [Zk6,List.map_take]
    exact Zdp yv.net.nd (by rw [List.getElem?_map,hp];rfl))
   have hkl:kk.length<=100:=by
    have:=hK.len
    unfold qP at this
    rw [List.length_map,List.length_take] at this
    omega
   refine ⟨u,_,rfl,SqT.of ((s2.trans s4).at hu),rfl,_,_,rfl,_,_,rfl,rfl,?_⟩
   refine WSs.last (Zby (X0 hr) (pv 4) (pv 6) (pv 5) rfl) ⟨_,rfl,_,rfl,_,rfl,a,_,rfl,Zed.k (k:=Yi p.2) ha (Z1 (by omega)),⟨_,_,rfl⟩,s4.upd0 n3,_,Zh,?_⟩
   have:qP (ps.take (i+1))=qP (ps.take i)++[(p.2,p.1)]:=by
    unfold qP
    rw [List.take_add_one,hp,List.map_append]
    rfl
   rw [this]
   exact hK.put hn rfl
  rintro σ H4 ⟨⟨o5,o6,rfl⟩,s4,kk,ha,hK⟩
  rw [List.length_map,htl,List.take_length] at hK
  refine WSs.step (Z2 (i:=7) Yz.nd Zdr) fun c H5 s5 n5 e5=>?_
  have s04:=s2.trans s4
  have s05:=s04.trans s5
  let I24:=fun (i:Nat) (σ:St) (H':Hp)=>(∃o6 o8 o9,σ=[some (.ref t),some (.ref b),o2,o3,some (.ref a),o5,o6,some (.ref c),o8,o9])/\Same H4 H'/\∃kst,H' c=some (.dT kst)/\DP Yl RO kst (qO (sg.take i))
  refine WSs.step (Xu PassesOwn.never rfl (Yp (Zv (r:=rIx K) Zk (pv 0) Zf (fun _ _=>rfl))) (Zbt rfl (Z7 (Yw (i:=6) Yz.nd) (Z7 (Yw (i:=8) Yz.nd) (Z7 (Yw (i:=9) Yz.nd) X3)))) Zy) ⟨_,rfl,.inr (.inl ⟨t,_,2,_,rfl,rfl,SqT.of (s05.at ht),Zt (j:=2) rfl,sl,rfl,⟨_,SqL.of (s05.at hsl)⟩,Xr (K:=K) (xs:=gs.map V.ref) I24 ⟨⟨_,_,_,rfl⟩,s5,[],e5,.nil⟩ ?_ ?_ ?_⟩)⟩
  ·rintro i σ H' _ ⟨_,s6,_⟩
   exact SqL.of ((s04.trans s6).at hsl)
  ·rintro i v σ H6 hi ⟨⟨o6',o8,o9,rfl⟩,s6,kst,hc,hS⟩
   rw [List.getElem?_map] at hi
   obtain ⟨u,hui,rfl⟩:=Option.map_eq_some_iff.mp hi
   obtain ⟨⟨g1,g2,g3⟩,hg,hu⟩:=Paired.get hgs hui
   have hu:H u=some (.tup [.str g1,.str g2,.str g3]):=hu
   have hn:Yv kst (Yl (g2,g3))=none:=hS.none Y6 (by
    rw [Zfg,List.map_take]
    exact Zdp yv.sigs.one (by rw [List.getElem?_map,hg];rfl))
   have hkl:kst.length<=100:=by
    have:=hS.len
    unfold qO at this
    rw [List.length_map,List.length_take] at this
    omega
   refine ⟨u,_,rfl,SqT.of ((s04.trans s6).at hu),rfl,_,_,rfl,_,_,rfl,_,_,rfl,rfl,?_⟩
   refine WSs.last (Zby (X0 hr) (pv 7) (Zg (Zb (pv 8) (Zb (pv 9) Za))) (pv 6) rfl) ⟨_,rfl,_,rfl,_,rfl,_,rfl,sz (by simp),fun te H7 s7 n7 e7=>⟨c,_,rfl,Zed.t (k:=Yl (g2,g3)) (s7.at hc) e7 (Z1 (by omega)),⟨_,_,_,rfl⟩,(s6.trans s7).upd0 n5,_,Zh,?_⟩⟩
   have:qO (sg.take (i+1))=qO (sg.take i)++[((g2,g3),g1)]:=by
    unfold qO
    rw [List.take_add_one,hg,List.map_append]
    rfl
   rw [this]
   exact hS.put hn rfl
  rintro σ H6 ⟨⟨o6',o8,o9,rfl⟩,s6,kst,hc,hS⟩
  rw [List.length_map,hgl,List.take_length] at hS
  refine WSs.last (Zq (Zp0 (Zb8 Ze (pv 4) (Zb8 Ze (pv 1) (Zb8 Ze (pv 7) Zpn))) rfl rfl (by simp) (by show 3<=15;decide))) fun d hd=>?_
  refine ⟨_,rfl,_,rfl,_,rfl,Zh,(Ze6 a b c),rfl,(by show 3<=15;decide),?_⟩
  have ne:Yi "joined" ≠ Yi "kinds" /\Yi "stands" ≠ Yi "kinds" /\Yi "stands" ≠ Yi "joined" :=by trivial
  have em:Zcz [] (Ze6 a b c)=(Ze6 a b c):=by
   show Zar (Zar (Zar [] (Yi "kinds") _) (Yi "joined") _) (Yi "stands") _=_
   rw [Zdc _ rfl,Zdc _ (Y0 (fun z=>ne.1 z.symm)),Zdc _ (by
    show Yv [(Yi "kinds",V.ref a),(Yi "joined",V.ref b)] (Yi "stands")=none
    rw [Y0 (fun z=>ne.2.1 z.symm),Y0 (fun z=>ne.2.2 z.symm)]
    rfl)]
   rfl
  rw [em,Zll]
  have s46:=s6
  have sE:Same H6 (upd H6 d (.dK (Ze6 a b c))):=Same.new hd
  exact q d _ ((s04.trans s6).trans sE) ((s04.trans s6).free hd) ⟨a,b,c,kk,kj,kst,Zh,sE.at (s6.at ha),hK,sE.at (s6.at (s4.at hb)),hD.mapR (RJ.mono ((s04.trans s6).trans sE)),sE.at hc,hS⟩
theorem Zou(T:Tx K mg){k:Nat}(h:1<=k:=by decide):Zz P w K mg base CX0 k T.d__law_map.f T.d__law_map.fd ["_law_yard"] Zv4:=(Zmz T).mono h
theorem Zve{κ:Type}[DecidableEq κ]{l:List (κ×V)}{k:κ}(h:k∉l.map (·.1)):Yv l k=none:=by
 cases e:Yv l k with
 | none=>rfl
 | some v=>exact absurd (Zuk e) h
theorem Zkm:∀(l acc:List (Key×V)),((acc++l).map (·.1)).Nodup->Zcz acc l=acc++l
 | [],acc,_=>by rw [List.append_nil];rfl
 | p ::l,acc,h=>by
  have hn:Yv acc p.1=none:=Zve fun m=>by
   rw [List.map_append,List.nodup_append] at h
   exact h.2.2 _ m _ List.mem_cons_self rfl
  show Zcz (Zar acc p.1 p.2) l=_
  rw [Zdc _ hn,Zkm l _ (by rw [List.append_assoc];exact h),List.append_assoc]
  rfl
def swK:List (Key×V):=[(Yi "a",.str "b"),(Yi "b",.str "a"),(Yi "c",.str "d"),(Yi "d",.str "c")]
def sw(en:Str):Str:=if en = "a" then "b" else if en = "b" then "a" else if en = "c" then "d" else "c"
theorem Zxv:(swK.map (·.1)).Nodup:=by
 show ([Yi "a",Yi "b",Yi "c",Yi "d"]:List Key).Nodup
 decide +kernel
theorem Zxh:∀en∈[("a" :Str), "b", "c", "d"],Yv swK (Yi en)=some (.str (sw en)):=by
 intro en h
 have ne:Yi "a" ≠ Yi "b" /\Yi "a" ≠ Yi "c" /\Yi "a" ≠ Yi "d" /\Yi "b" ≠ Yi "c" /\Yi "b" ≠ Yi "d" /\Yi "c" ≠ Yi "d" :=by trivial
 have sws:sw "a" = "b" /\sw "b" = "a" /\sw "c" = "d" /\sw "d" = "c" :=by trivial
 simp only [List.mem_cons,List.mem_nil_iff,or_false] at h
 unfold swK
 rcases h with rfl|rfl|rfl|rfl
 ·rw [Wi rfl,sws.1]
 ·rw [Y0 ne.1,Wi rfl,sws.2.1]
 ·rw [Y0 ne.2.1,Y0 ne.2.2.2.1,Wi rfl,sws.2.2.1]
 ·rw [Y0 ne.2.2.1,Y0 ne.2.2.2.2.1,Y0 ne.2.2.2.2.2,Wi rfl,sws.2.2.2]
theorem Zrm:Zd8 "points" "stem" =[(("left" :Str),("left" :Str)),(("right" :Str),("right" :Str))]:=by trivial
theorem Zri:∀en∈Ya "points",en ≠ "stem" ->Zd8 "points" en=[(("stem" :Str),en)]:=by trivial
theorem Zqx:∀k∈[("stop" :Str), "gate"],∀en∈Ya k,Zd8 k en=[(("" :Str),("" :Str))]:=by trivial
theorem Zvi:∀k∈X4,k ≠ "points" ->k∉[("stop" :Str), "gate"]->∀en∈Ya k,Zd8 k en=[(sw en,("" :Str))]/\en∈[("a" :Str), "b", "c", "d"]:=by trivial
def Zwc:Sp:=fun vs H Q _=>∃k en:Str,vs=[.str k,.str en]/\k∈X4/\en∈Ya k/\∀p H',Same H H'->H p=none->Zv3 H' p (Zd8 k en)->Q (.ref p) H'
theorem Zi1(T:Tx K mg):Zz P w K mg base CX0 1 T.d__law_leads.f T.d__law_leads.fd ["_law_kind", "_law_end"] Zwc:=by
 refine T.d__law_leads.F.okW Zjh fun cdv A outer s H vs Q E hr h=>?_
 ·obtain ⟨k,en,rfl,hk,hen,q⟩:=h
  have se:∀{a b:Str},decide (V.str a=V.str b)=true->a=b:=fun z=>V.str.inj (of_decide_eq_true z)
  have sn:∀{a b:Str},¬decide (V.str a=V.str b)=true->a≠b:=fun z y=>z (decide_eq_true (by rw [y]))
  let I25:=fun (σ:St) (H':Hp)=>σ=[some (.str k),some (.str en)]/\H'=H/\¬(k = "points" /\en = "stem")
  refine WSs.cut I25 ?_ ?_
  ·refine WS.of (Yj (PW.pt (Zia (Zr (r:=Zat K) (Za4 hr) (pv 0) Ze (Z9 _)) (Zew (Zr (r:=Zat K) (Za4 hr) (pv 1) Ze (Z9 _))))) Zy Zw) ⟨_,rfl,.inl ⟨rfl,_,rfl,Yo (fun z=>⟨_,rfl,.inl ⟨rfl,_,rfl,Yo (fun z2=>?_) (fun z2=>⟨rfl,rfl,fun y=>sn z2 y.2⟩)⟩⟩) (fun z=>⟨rfl,rfl,fun y=>sn z y.1⟩)⟩⟩
   refine WSs.last (Zq (Zl (Zb (Zg (Zb Ze (Zb Ze Za))) (Zb (Zg (Zb Ze (Zb Ze Za))) Za)))) ⟨sz (by simp),fun p1 H1 s1 n1 e1=>⟨sz (by simp),fun p2 H2 s2 n2 e2=>⟨sz (by simp),fun p3 H3 s3 n3 e3=>q p3 H3 (s1.trans (s2.trans s3)) (s1.free (s2.free n3)) ?_⟩⟩⟩
   rw [se z,se z2,Zrm]
   exact ⟨[p1,p2],e3,.cons (s3.at (s2.at e1)) (.cons (s3.at e2) .nil)⟩
  rintro σ H1 ⟨rfl,hH,hps⟩
  rw [hH]
  refine WSs.step (Yj (Zr (r:=Zat K) (Za4 hr) (pv 0) Ze (Z9 _)) Zy Zw) ⟨_,rfl,.inl ⟨rfl,_,rfl,Yo (fun z=>?_) (fun z=>?_)⟩⟩
  ·refine WSs.last (Zq (Zl (Zb (Zg (Zb Ze (Zb (pv 1) Za))) Za))) ⟨_,rfl,sz (by simp),fun p1 H1 s1 n1 e1=>⟨sz (by simp),fun p2 H2 s2 n2 e2=>q p2 H2 (s1.trans s2) (s1.free n2) ?_⟩⟩
   have hkp:=se z
   rw [hkp] at hen ⊢
   rw [Zri en hen fun y=>hps ⟨hkp,y⟩]
   exact ⟨[p1],e2,.cons (s2.at e1) .nil⟩
  have hkp:=sn z
  refine WSs.step (Yj (Zr (r:=Zhh K) (Zi7 hr) (pv 0) (Zl (Zb Ze (Zb Ze Za))) (by with_unfolding_all rfl)) Zy Zw) ⟨_,rfl,sz (by simp),fun l H2 s2 n2 e2=>.inl ⟨l,_,rfl,.inl (SqL.of e2),rfl,rfl,_,rfl,?_⟩⟩
  have ein:inV (.str k) [.str "stop",.str "gate"]=decide (k∈[("stop" :Str), "gate"]):=Zau k ["stop", "gate"]
  rw [if_neg (by decide),ein]
  refine Yo (fun z=>?_) (fun z=>?_)
  ·have z:=of_decide_eq_true z
   refine WSs.last (Zq (Zl (Zb (Zg (Zb Ze (Zb Ze Za))) Za))) ⟨sz (by simp),fun p1 H3 s3 n3 e3=>⟨sz (by simp),fun p2 H4 s4 n4 e4=>q p2 H4 (s2.trans (s3.trans s4)) (s2.free (s3.free n4)) ?_⟩⟩
   rw [Zqx k z en hen]
   exact ⟨[p1],e4,.cons (s4.at e3) .nil⟩
  ·have z:k∉[("stop" :Str), "gate"]:=fun y=>z (decide_eq_true y)
   obtain ⟨ho,he4⟩:=Zvi k hk hkp z en hen
   refine WSs.last (Zq (Zl (Zb (Zg (Zb (X1 (X0 hr) (Zp0 (Zb8 Ze Ze (Zb8 Ze Ze (Zb8 Ze Ze (Zb8 Ze Ze Zpn)))) rfl rfl (by simp) (by show 4<=15;decide)) (pv 1) (fun _ _=>rfl)) (Zb Ze Za))) Za))) fun d hd=>⟨Zh,swK,rfl,(by show 4<=15;decide),_,rfl,d,_,rfl,by rw [Zkm swK [] Zxv,Zll,<-Zxh en he4];exact W9.k (k:=Yi en) Zh,sz (by simp),fun p1 H3 s3 n3 e3=>⟨sz (by simp),fun p2 H4 s4 n4 e4=>?_⟩⟩
   rw [Zll] at s3
   have sd:Same H2 (upd H2 d (.dK (Zcz [] swK))):=Same.new hd
   refine q p2 H4 (s2.trans (sd.trans (s3.trans s4))) (s2.free (sd.free (s3.free n4))) ?_
   rw [ho]
   exact ⟨[p1],e4,.cons (s4.at e3) .nil⟩
theorem Zld(T:Tx K mg){k:Nat}(h:1<=k:=by decide):Zz P w K mg base CX0 k T.d__law_leads.f T.d__law_leads.fd ["_law_kind", "_law_end"] Zwc:=(Zi1 T).mono h
theorem Zkr(a b c:Addr):Yv (Ze6 a b c) (Yi "kinds")=some (.ref a)/\Yv (Ze6 a b c) (Yi "joined")=some (.ref b)/\Yv (Ze6 a b c) (Yi "stands")=some (.ref c):=by
 have ne:Yi "kinds" ≠ Yi "joined" /\Yi "kinds" ≠ Yi "stands" /\Yi "joined" ≠ Yi "stands" :=by trivial
 unfold Ze6
 exact ⟨Wi rfl,by rw [Y0 ne.1,Wi rfl],by rw [Y0 ne.2.1,Y0 ne.2.2,Wi rfl]⟩
def Zr6:Sp:=fun vs H Q _=>∃(d t:Addr) (k nm en:Str) (ps:List Zc) (js:List (Zc×Zc)) (sg:List (Str×Str×Str)),vs=[.ref d,.ref t]/\Zdg H d ps js sg/\Y7 ps js sg/\Zs H t (nm,en)/\((k,nm):Zc)∈ps/\en∈Ya k/\∀l H',Same H H'->H l=none->Ze2 H' l (Zbh k nm en)->Q (.ref l) H'
theorem Zlr(T:Tx K mg):Zz P w K mg base CX0 2 T.d__law_into.f T.d__law_into.fd ["_law_plan", "_law_end"] Zr6:=by
 refine T.d__law_into.F.okW Zk2 fun cdv A outer s H vs Q E hr h=>?_
 ·obtain ⟨d,t,k,nm,en,ps,js,sg,rfl,pn,yv,ht,hm,hen,q⟩:=h
  obtain ⟨a,b,c,kk,kj,kst,h1,h2,h3,_⟩:=pn.ex
  have ht:H t=some (.tup [.str nm,.str en]):=ht
  obtain ⟨v,hv,rfl⟩:=h3.get Zct (by rw [Zk6];exact yv.net.nd) (a:=nm) (b:=k) (List.mem_map.mpr ⟨(k,nm),hm,rfl⟩)
  have hkd:=yv.net.kind _ hm
  refine WSs.last (Zq (Wr (N':=["_law_out", "_law_lie", "_law_end"]) rfl (Yd.std 2 [1] rfl (by trivial) (by trivial) rfl ⟨rfl,trivial⟩ rfl rfl ⟨⟨_,rfl,rfl,rfl⟩,trivial⟩) (Yp (Zx (Zld T) hr rfl T.m__law_leads T.d__law_leads.F.kp T.d__law_leads.b .nil Z6 (Zb (X1 (X0 hr) (X1 (X0 hr) (pv 0) Ze (fun _ _=>rfl)) (Zv (r:=rIx K) Zk (pv 1) Zf (fun _ _=>rfl)) (fun _ _=>rfl)) (Zb (Zv (r:=rIx K) Zk (pv 1) Zf (fun _ _=>rfl)) Za)))) (fun _ _ _ _=>(Zkz (K:=K) (n:=2) rfl rfl (Z7 (Zci (i:=0) (by show (["_law_out", "_law_lie", "_law_end"]:List Str).Nodup;decide +kernel)) (Z7 (Zci (i:=1) (by show (["_law_out", "_law_lie", "_law_end"]:List Str).Nodup;decide +kernel)) X3)))) (fun _ _ _ _=>Za2) (fun _ _ _ _=>(Zg (Zb (Zv (r:=rIx K) Zk (pv 2) Zf (fun _ _=>rfl)) (Zb (Zv (r:=rIx K) Zk (pv 2) Zf (fun _ _=>rfl)) (Zb (pv 0) (Zb (pv 1) Za)))))))) ⟨_,rfl,d,_,rfl,by rw [<-(Zkr a b c).1];exact W9.k (k:=Yi "kinds") h1,_,rfl,.inr (.inl ⟨t,_,0,_,rfl,rfl,SqT.of ht,Zt (j:=0) rfl,a,_,rfl,by rw [<-hv];exact W9.k (k:=Yi nm) h2,_,rfl,.inr (.inl ⟨t,_,1,_,rfl,rfl,SqT.of ht,Zt (j:=1) rfl,k,en,rfl,hkd,hen,fun p H1 s1 n1 ⟨as,hp,has⟩=>⟨p,rfl,⟨_,SqL.of hp⟩,fun D hD=>Xw (K:=K) (xs:=as.map V.ref) (fun i ys H'=>(∃ts:List Addr,ys=ts.map V.ref/\Paired (Xl H') ts (((Zd8 k en).take i).map fun o=>(nm,en,o.1,o.2)))/\H' D=some (.lst ys)/\Same H1 H') ⟨⟨[],rfl,.nil⟩,Zh,Same.new hD⟩ ?_ ?_ ?_⟩⟩)⟩)⟩
  ·rintro i ys H' _ ⟨_,_,sm⟩
   exact SqL.of (sm.at hp)
  ·rintro i v ys H2 hi ⟨⟨ts,rfl,hts⟩,hD2,s2⟩
   rw [List.getElem?_map] at hi
   obtain ⟨u,hu,rfl⟩:=Option.map_eq_some_iff.mp hi
   obtain ⟨o,ho,hou⟩:=Paired.get has hu
   have hlen:ts.length<=2:=by
    have h1:=Paired.length hts
    have h2:=Zl4 k
    have h3:(Zd8 k en).length<=(Zcc k).length:=by
     unfold Zd8
     exact Nat.le_trans (List.length_filter_le _ _) (by rw [List.length_map];exact Nat.le_refl _)
    rw [List.length_map,List.length_take] at h1
    omega
   have ht2:=s2.at (s1.at ht)
   refine ⟨u,_,rfl,SqT.of (s2.at hou),rfl,_,_,rfl,_,_,rfl,rfl,(Zaq.set rfl).trans (Zaq.set rfl),_,rfl,.inr (.inl ⟨t,_,0,_,rfl,rfl,SqT.of ht2,Zt (j:=0) rfl,_,rfl,.inr (.inl ⟨t,_,1,_,rfl,rfl,SqT.of ht2,Zt (j:=1) rfl,_,rfl,_,rfl,sz (by simp),fun t3 H3 s3 n3 e3=>⟨s3.at hD2,by rw [List.length_map];exact Z1 (by omega),⟨ts++[t3],by rw [List.map_append];rfl,?_⟩,Zh,fun b o z=>?_⟩⟩)⟩)⟩
   ·rw [List.take_add_one,ho,List.map_append]
    exact Paired.append (Paired.mapP hts fun _ _ r=>Xl.off (r.mono s3) (s3.at hD2)) (.cons (Xl.off e3 (s3.at hD2)) .nil)
   ·rw [Zi (Zj z hD)]
    exact s3.at (s2.at z)
  ·rintro ys H2 ⟨⟨ts,rfl,hts⟩,hD2,s2⟩
   rw [List.length_map,Paired.length has,List.take_length] at hts
   exact q D H2 (s1.trans s2) (s1.free hD) ⟨ts,hD2,hts⟩
theorem Zmr(T:Tx K mg){k:Nat}(h:2<=k:=by decide):Zz P w K mg base CX0 k T.d__law_into.f T.d__law_into.fd ["_law_plan", "_law_end"] Zr6:=(Zlr T).mono h
def Zwa:Sp:=fun vs H Q _=>∃(d t:Addr) (q:S4) (ps:List Zc) (js:List (Zc×Zc)) (sg:List (Str×Str×Str)),vs=[.ref d,.ref t]/\Zdg H d ps js sg/\Y7 ps js sg/\Xl H t q/\∀H',Same H H'->Q (.bl (Zaw sg q)) H'
theorem Zgs(T:Tx K mg):Zz P w K mg base CX0 1 T.d__law_ends_so.f T.d__law_ends_so.fd ["_law_plan", "_law_step"] Zwa:=by
 refine T.d__law_ends_so.F.okW Zge fun cdv A outer s H vs Q E hr h=>?_
 ·obtain ⟨d,t,q4,ps,js,sg,rfl,pn,yv,ht,q⟩:=h
  obtain ⟨a,b,c,kk,kj,kst,h1,_,_,_,_,h6,h7⟩:=pn.ex
  refine WSs.last (Zq (Zwi (Zcp (r:=Zat K) (Za4 hr) (Zv (r:=rIx K) Zk (pv 1) Zf (fun _ _=>rfl)) Ze (Z9 _)) (Zh3 (Zcp (r:=Zhh K) (Zi7 hr) (Zg (Zb (Zv (r:=rIx K) Zk (pv 1) Zf (fun _ _=>rfl)) (Zb (Zv (r:=rIx K) Zk (pv 1) Zf (fun _ _=>rfl)) Za))) (X1 (X0 hr) (pv 0) Ze (fun _ _=>rfl)) (by with_unfolding_all rfl))))) ⟨_,rfl,.inr (.inl ⟨t,_,2,_,rfl,rfl,SqT.of ht,Zt (j:=2) rfl,.inl ⟨rfl,_,rfl,Yo (fun z=>?_) (fun z=>?_)⟩⟩)⟩
  ·have z:q4.2.2.1 = "" :=V.str.inj (of_decide_eq_true z)
   have e:Zaw sg q4=true:=by unfold Zaw;rw [decide_eq_true z];rfl
   rw [e] at q
   exact q H (Same.refl _)
  ·have z:¬q4.2.2.1 = "" :=fun y=>z (decide_eq_true (by rw [y]))
   refine ⟨_,rfl,.inr (.inl ⟨t,_,0,_,rfl,rfl,SqT.of ht,Zt (j:=0) rfl,_,rfl,.inr (.inl ⟨t,_,2,_,rfl,rfl,SqT.of ht,Zt (j:=2) rfl,sz (by simp),fun u H1 s1 n1 e1=>⟨_,rfl,d,_,rfl,by rw [<-(Zkr a b c).2.2];exact W9.k (k:=Yi "stands") (s1.at h1),.inr (.inl ⟨c,_,rfl,W9.t (k:=Yl (q4.1,q4.2.2.1)) (s1.at h6) e1,?_⟩)⟩⟩)⟩)⟩
   have e:(Yv kst (Yl (q4.1,q4.2.2.1))).isSome=Zaw sg q4:=by
    unfold Zaw
    rw [decide_eq_false z]
    by_cases hm:((q4.1,q4.2.2.1):Zc)∈sg.map Prod.snd
    ·obtain ⟨⟨nm,e⟩,hg,he⟩:=List.mem_map.mp hm
     have he:e=(q4.1,q4.2.2.1):=he
     obtain ⟨v,hv,_⟩:=h7.get Y6 (by rw [Zfg];exact yv.sigs.one) (a:=(q4.1,q4.2.2.1)) (b:=nm) (List.mem_map.mpr ⟨_,hg,by rw [<-he]⟩)
     rw [hv,decide_eq_true hm];rfl
    ·rw [h7.none Y6 (by rw [Zfg];exact hm),decide_eq_false hm];rfl
   rw [e]
   exact q H1 s1
theorem Zhr(T:Tx K mg){k:Nat}(h:1<=k:=by decide):Zz P w K mg base CX0 k T.d__law_ends_so.f T.d__law_ends_so.fd ["_law_plan", "_law_step"] Zwa:=(Zgs T).mono h
def Zpf(T:Tx K mg):Sp:=fun vs H Q _=>∃(x:Addr) (g:Str×Str×Str) (ps:List Zc) (js:List (Zc×Zc)) (sg:List (Str×Str×Str)),vs=[.ref x,.str g.1]/\Xj T H x ps js sg/\Y7 ps js sg/\g∈sg/\∀(t:Addr) (H':Hp),Same H H'->Zs H' t g.2->Q (.ref t) H'
theorem Zf3(T:Tx K mg):Zz P w K mg base CX0 2 T.d_Tracks_end_of.f T.d_Tracks_end_of.fd ["self", "signal"] (Zpf T):=by
 refine T.d_Tracks_end_of.F.okW Zf0 fun cdv A outer s H vs Q E hr h=>?_
 ·obtain ⟨x,⟨nm,e⟩,ps,js,sg,rfl,tr,yv,hm,q⟩:=h
  obtain ⟨dx,po,jo,so,si,kp,ks,kj,ko,h1,_,_,_,_,h2,h3,_⟩:=tr.ex
  have hq:((nm,e):Str×Zc)∈qS sg:=List.mem_map.mpr ⟨(nm,e),hm,rfl⟩
  obtain ⟨v,hv,t,rfl,hO⟩:=h3.get Zct (by rw [Zsh];exact yv.sigs.nd) hq
  refine WSs.step (Yj (PW.pt (Zmj (Zdk (Zad (Zx (Zfv T) hr rfl T.m_is_name T.d_is_name.F.kp T.d_is_name.b .nil Z6 (Zb (pv 1) Za)))) (Zii (Zr (r:=Zbz K) (Zcj hr) (pv 1) (W5 (pv 0) rfl) (by with_unfolding_all rfl))))) Zy Zw) ⟨_,rfl,nm,rfl,yv.sigs.name _ hm,fun H1 s1=>⟨_,rfl,Yo (fun z=>absurd z (by decide)) (fun _=>⟨_,rfl,_,rfl,x,_,dx,_,_,rfl,s1.at h1,T.clTracks,T.nTracks_post_of,rfl,.inr (.inl ⟨so,_,rfl,W9.k (k:=Yi nm) (s1.at h2),_,rfl,Yo (fun z=>?_) (fun _=>?_)⟩)⟩)⟩⟩
  ·rw [hv] at z
   exact absurd z (by simp)
  exact WSs.last (Zq (X1 (X0 hr) (W5 (pv 0) rfl) (pv 1) (fun _ _=>rfl))) ⟨_,rfl,x,_,dx,_,_,rfl,s1.at h1,T.clTracks,T.nTracks_post_of,rfl,_,rfl,so,_,rfl,by rw [<-hv];exact W9.k (k:=Yi nm) (s1.at h2),q t H1 s1 (hO.mono s1)⟩
theorem Zgl(T:Tx K mg){k:Nat}(h:2<=k:=by decide):Zz P w K mg base CX0 k T.d_Tracks_end_of.f T.d_Tracks_end_of.fd ["self", "signal"] (Zpf T):=(Zf3 T).mono h
def kindOf(ps:List Zc)(nm:Str):Option Str:=(ps.find? fun p=>decide (p.2=nm)).map Prod.fst
theorem Zkq{k nm:Str}:∀{ps:List Zc},(ps.map Prod.snd).Nodup->((k,nm):Zc)∈ps->kindOf ps nm=some k
 | p ::ps,nd,h=>by
  rw [List.map_cons,List.nodup_cons] at nd
  unfold kindOf
  rw [List.find?_cons]
  rcases List.mem_cons.mp h with z|z
  ·rw [<-z,decide_eq_true rfl];rfl
  ·rw [decide_eq_false fun e=>nd.1 (by rw [e];exact List.mem_map.mpr ⟨_,z,rfl⟩)]
   exact Zkq nd.2 z
theorem Zin{k nm:Str}{ps:List Zc}(h:kindOf ps nm=some k):((k,nm):Zc)∈ps:=by
 obtain ⟨p,hp,rfl⟩:=Option.map_eq_some_iff.mp h
 have e:p.2=nm:=by simpa using List.find?_some hp
 rw [<-e]
 exact List.mem_of_find?_eq_some hp
def Yx(ps:List Zc)(nm en:Str):List S4:=match kindOf ps nm with
 | some k=>if en∈Ya k then Zbh k nm en else []
 | none=>[]
def bey(js:List (Zc×Zc))(e:Zc):Zc:=(((qJ js).find? fun q=>decide (q.1=e)).map Prod.snd).getD (("" :Str),("" :Str))
theorem Zp2{α β:Type}[DecidableEq α]{a:α}{b:β}:∀{l:List (α×β)},(l.map Prod.fst).Nodup->(a,b)∈l->l.find? (fun q=>decide (q.1=a))=some (a,b)
 | x ::l,nd,h=>by
  rw [List.map_cons,List.nodup_cons] at nd
  rw [List.find?_cons]
  rcases List.mem_cons.mp h with z|z
  ·rw [<-z,decide_eq_true rfl]
  ·rw [decide_eq_false fun e=>nd.1 (by rw [e];exact List.mem_map.mpr ⟨_,z,rfl⟩)]
   exact Zp2 nd.2 z
theorem Zqh{α β:Type}[DecidableEq α]{a:α}{l:List (α×β)}(h:a∉l.map Prod.fst):l.find? (fun q=>decide (q.1=a))=none :=
 List.find?_eq_none.mpr fun q hq z=>h (List.mem_map.mpr ⟨q,hq,of_decide_eq_true z⟩)
section
variable {ps:List Zc} {js:List (Zc×Zc)} {sg:List (Str×Str×Str)} {H:Hp} {Q:Addr->Hp->Prop}
theorem Zvz(yv:Y7 ps js sg):((qJ js).map Prod.fst).Nodup:=by rw [W4];exact yv.net.flat.nodup_iff.mpr (Zan yv.net.nd)
theorem Zn4(yv:Y7 ps js sg){e:Zc}:e∈(qJ js).map Prod.fst↔e∈Z8 ps:=by rw [W4];exact yv.net.flat.mem_iff
theorem Ztj(yv:Y7 ps js sg){e e':Zc}(h:(e,e')∈qJ js):bey js e=e':=by unfold bey;rw [Zp2 (Zvz yv) h];rfl
theorem Zxz(yv:Y7 ps js sg){e:Zc}(h:e∉Z8 ps):bey js e=((("" :Str),("" :Str)):Zc):=by unfold bey;rw [Zqh fun z=>h ((Zn4 yv).mp z)];rfl
theorem Zxu(yv:Y7 ps js sg){e:Zc}{Q1:Addr->Prop}(hQ:∀t',Q t' H->Q1 t')(h:∀t' H',Same H H'->Zs H' t' (bey js e)->Q t' H') :
  (e∈Z8 ps/\∀t' e',((e,e'):Zc×Zc)∈qJ js->Zs H t' e'->Q1 t')\/(e∉Z8 ps/\∀t' H',Same H H'->H t'=none->Zs H' t' ("", "")->Q t' H'):=by
 by_cases z:e∈Z8 ps
 ·exact .inl ⟨z,fun t' e' he ht=>hQ t' (h t' H (Same.refl _) (by rw [Ztj yv he];exact ht))⟩
 ·exact .inr ⟨z,fun t' H' s _ ht=>h t' H' s (by rw [Zxz yv z];exact ht)⟩
theorem Zju{nm en:Str}(h:((nm,en):Zc)∈Z8 ps):∃k,((k,nm):Zc)∈ps/\en∈Ya k:=by
 obtain ⟨p,hp,hm⟩:=List.mem_flatMap.mp h
 obtain ⟨x,hx,e⟩:=List.mem_map.mp hm
 cases e
 exact ⟨p.1,hp,hx⟩
theorem Zx1(yv:Y7 ps js sg){nm en:Str}(h:∀l H',Same H H'->Ze2 H' l (Yx ps nm en)->Q l H') :
  (∃k,((k,nm):Zc)∈ps/\en∈Ya k/\∀l H',Same H H'->H l=none->Ze2 H' l (Zbh k nm en)->Q l H')\/(((nm,en):Zc)∉Z8 ps/\∀l H',Same H H'->H l=none->H' l=some (.lst [])->Q l H'):=by
 by_cases z:((nm,en):Zc)∈Z8 ps
 ·obtain ⟨k,hk,he⟩:=Zju z
  refine .inl ⟨k,hk,he,fun l H' s _ hl=>h l H' s ?_⟩
  unfold Yx
  rw [Zkq yv.net.nd hk]
  dsimp only
  rw [if_pos he]
  exact hl
 ·refine .inr ⟨z,fun l H' s _ hl=>h l H' s ?_⟩
  have e:Yx ps nm en=[]:=by
   unfold Yx
   cases hk:kindOf ps nm with
   | none=>rfl
   | some k=>exact if_neg fun he=>z (Znk (Zin hk) he)
  rw [e]
  exact ⟨[],hl,.nil⟩
end
def Zwo(q:S4):Tr:=.tup [.str q.1,.str q.2.1,.str q.2.2.1,.str q.2.2.2]
theorem Xl.im{H:Hp}{t:Addr}{q:S4}(h:Xl H t q):Im K H 1 (Zwo q) (.ref t):=Im.tup (n:=0) (SqT.of h) (.cons (.str _) (.cons (.str _) (.cons (.str _) (.cons (.str _) .nil))))
theorem Zwt{H:Hp}{ts:List Addr}{ss:List S4}(h:Paired (Xl H) ts ss):Paired (Im K H 1) (ss.map Zwo) (ts.map V.ref):=by
 induction h with
 | nil=>exact .nil
 | cons r _ ih=>exact .cons r.im ih
theorem Zuf{H:Hp}{ts:List Addr}{ss:List S4}(h:Paired (Xl H) ts ss){j:Nat}(hj:j<ss.length):∃t q,ts[j]? =some t/\ss[j]? =some q/\Xl H t q:=by
 have hl:=Paired.length h
 obtain ⟨q,hq,r⟩:=Paired.get h (List.getElem?_eq_getElem (show j<ts.length by omega))
 exact ⟨_,q,List.getElem?_eq_getElem _,hq,r⟩
theorem Zs0:∀k∈X4,∀en∈Ya k,(Zd8 k en).length<=2:=by trivial
theorem Zdu{ps:List Zc}{js:List (Zc×Zc)}{sg:List (Str×Str×Str)}(yv:Y7 ps js sg){nm en:Str}:(Yx ps nm en).length<=2:=by
 unfold Yx
 cases hk:kindOf ps nm with
 | none=>exact Nat.zero_le _
 | some k =>
  dsimp only
  split
  ·unfold Zbh
   rw [List.length_map]
   exact Zs0 k (yv.net.kind _ (Zin hk)) en (by assumption)
  ·exact Nat.zero_le _
def Zcg(H:Hp)(t:Addr)(sig:Str)(ss:List S4):Prop:=∃ts:List Addr,H t=some (.tup (.str sig ::ts.map V.ref))/\Paired (Xl H) ts ss
theorem Zcg.mono{H H':Hp}{t:Addr}{sig:Str}{ss:List S4}(e:Same H H')(h:Zcg H t sig ss):Zcg H' t sig ss:=let ⟨ts,h1,h2⟩:=h;⟨ts,e.at h1,Paired.mapP h2 fun _ _ r=>r.mono e⟩
def Zaf(e:Zc)(ss:List S4):Zc:=match ss.getLast? with
 | none=>e
 | some q=>(q.1,q.2.2.1)
def onL(ps:List Zc)(js:List (Zc×Zc))(e:Zc)(ss:List S4):List S4:=if 12<ss.length+1 then [] else (Yx ps (bey js (Zaf e ss)).1 (bey js (Zaf e ss)).2).filter fun q=>decide (q.1∉e.1 ::ss.map Prod.fst)
def Zyr(T:Tx K mg):Sp:=fun vs H Q _=>∃(x t:Addr) (g:Str×Zc) (ss:List S4) (ps:List Zc) (js:List (Zc×Zc)) (sg:List (Str×Str×Str)),vs=[.ref x,.ref t]/\Xj T H x ps js sg/\Y7 ps js sg/\(g:Str×Str×Str)∈sg/\Zcg H t g.1 ss/\ss.length<=100/\∀l H',Same H H'->H l=none->Ze2 H' l (onL ps js g.2 ss)->Q (.ref l) H'
theorem Zm4(T:Tx K mg):Zz P w K mg base CX0 5 T.d_steps_on.f T.d_steps_on.fd ["tracks", "begun"] (Zyr T):=by
 refine T.d_steps_on.F.okW Zco fun cdv A outer s H vs Q E hr h=>?_
 ·obtain ⟨x,t,⟨sig,e⟩,ss,ps,js,sg,rfl,tr,yv,hg,⟨ts,ht,hts⟩,hz,q⟩:=h
  have htl:=Paired.length hts
  obtain ⟨dx,_,_,_,_,_,_,_,_,h1,_⟩:=tr.ex
  have lt1:((V.str sig ::ts.map V.ref).length:Int)=((ss.length+1:Nat):Int):=by rw [List.length_cons,List.length_map,htl]
  refine WSs.step (Yj (Zr Zkj (Yb (r:=Za5 K) Zbo (by rfl) T.n_len PySem.boot_len (Zb (pv 1) Za)) (Zdo (by rfl) T.c_MOST_STEPS) (Z9 _)) Zy Zw) ⟨_,rfl,.inl ⟨t,_,rfl,.inr (SqT.of ht),_,_,rfl,rfl,_,rfl,Yo (fun z=>?_) (fun z=>?_)⟩⟩
  ·have z:12<ss.length+1:=by
    have:=of_decide_eq_true z
    rw [lt1] at this
    omega
   refine WSs.last (Zq (Zl Za)) ⟨sz (by simp),fun l H1 s1 n1 e1=>q l H1 s1 n1 ?_⟩
   unfold onL
   rw [if_pos z]
   exact ⟨[],e1,.nil⟩
  have z:¬12<ss.length+1:=fun y=>z (decide_eq_true (by rw [lt1];omega))
  refine WSs.step (Z2 (i:=2) Zco.nd (Zck (pv 0) T.clTracks T.mtTracks_end_of (Zgl T) hr T.d_Tracks_end_of.b .nil Z6 (Zb (Zv (r:=rIx K) Zk (pv 1) Zf (fun _ _=>rfl)) Za))) ⟨_,rfl,x,dx,_,rfl,h1,rfl,_,rfl,.inr (.inl ⟨t,_,0,_,rfl,rfl,SqT.of ht,Zt (j:=0) rfl,x,(sig,e),ps,js,sg,rfl,tr,yv,hg,fun tp H1 s1 hp=>?_⟩)⟩
  have ht1:=s1.at ht
  let I26:=fun (σ:St) (H':Hp)=>∃tl,σ=[some (.ref x),some (.ref t),some (.ref tp),some (.ref tl),none]/\Same H1 H'/\Zs H' tl (Zaf e ss)
  refine WSs.cut I26 ?_ ?_
  ·refine WS.of (Z2 (i:=3) Zco.nd (Zcs (Zr (r:=Zat K) (Za4 hr) (Yb (r:=Za5 K) Zbo (by rfl) T.n_len PySem.boot_len (Zb (pv 1) Za)) Zf (Z9 _)) (pv 2) (Zx (Zfd T) hr rfl T.m_end_behind T.d_end_behind.F.kp T.d_end_behind.b .nil Z6 (Zb (Zv (r:=rIx K) Zk (pv 1) (Zmv Zir Zf) (fun _ _=>rfl)) Za)))) ⟨_,rfl,.inl ⟨t,_,rfl,.inr (SqT.of ht1),.inl ⟨rfl,_,rfl,Yo (fun y=>?_) (fun y=>?_)⟩⟩⟩
   ·have y:ss.length=0:=by
     have y:=V.int.inj (of_decide_eq_true y)
     rw [lt1] at y
     omega
    refine ⟨_,rfl,tp,rfl,Same.refl _,?_⟩
    rw [List.length_eq_zero_iff.mp y]
    exact hp
   ·have y:0<ss.length:=by
     rcases Nat.eq_zero_or_pos ss.length with v|v
     ·exact absurd (decide_eq_true (by rw [lt1,v];rfl)) y
     ·exact v
    obtain ⟨tq,qq,htq,hqq,rq⟩:=Zuf (Paired.mapP hts fun _ _ r=>Xl.mono s1 r) (show ss.length-1<ss.length by omega)
    have hl:ss.getLast? =some qq:=by rw [List.getLast?_eq_getElem?];exact hqq
    have la:atI (V.str sig ::ts.map V.ref) (-1)=some (.ref tq):=by
     obtain ⟨us,rfl⟩:∃us,ts=us++[tq]:=by
      refine ⟨ts.dropLast,?_⟩
      have:ts.getLast? =some tq:=by rw [List.getLast?_eq_getElem?,htl];exact htq
      obtain ⟨us,rfl⟩:=List.getLast?_eq_some_iff.mp this
      rw [List.dropLast_concat]
     rw [List.map_append,<-List.cons_append]
     exact Zna _ _
    refine ⟨_,rfl,_,rfl,.inr (.inl ⟨t,_,_,.ref tq,rfl,rfl,SqT.of ht1,la,tq,qq,rfl,rq,fun t3 H3 s3 n3 e3=>⟨t3,rfl,s3,?_⟩⟩)⟩
    unfold Zaf
    rw [hl]
    exact e3
  rintro σ H2 ⟨tl,rfl,s2,hl⟩
  have ht2:=s2.at ht1
  have hts2:=Paired.mapP hts fun _ _ r=>Xl.mono (s1.trans s2) r
  refine WSs.step (Z2 (i:=4) Zco.nd (Zp Zaa (Zl (Zb (Zv (r:=rIx K) Zk (pv 2) Zf (fun _ _=>rfl)) Za)) (Wr (N':=["step"]) rfl (Yd.std 1 [] rfl (by trivial) (by trivial) rfl trivial rfl rfl trivial) (Zs5 (Zax (r:=Zjn K) Zlp (pv 1) (Zbg Zf) Zb0)) (fun _ _ _ _=>(Zci (i:=0) (by show (["step"]:List Str).Nodup;decide +kernel))) (fun _ _ _ _=>Za2) (fun _ _ _ _=>(Zv (r:=rIx K) Zk (pv 0) Zf (fun _ _=>rfl)))))) ⟨_,rfl,.inr (.inl ⟨tp,_,0,_,rfl,rfl,SqT.of (s2.at hp),Zt (j:=0) rfl,sz (by simp),fun la H3 s3 n3 e3=>⟨_,rfl,_,rfl,.inl ⟨t,_,rfl,SqT.of (s3.at ht2),?_,fun t4 H4 s4 n4 e4=>⟨t4,rfl,⟨_,SqT.of e4⟩,fun D hD=>?_⟩⟩⟩⟩)⟩
  ·rintro ⟨y,_⟩
   have:HT.sIx (V.str sig ::ts.map V.ref).length 0 (some 1)=1:=by
    unfold HT.sIx
    simp
   rw [this] at y
   cases y
  have e4:H4 t4=some (.tup (ts.map V.ref)):=by
   have e4:H4 t4=some (.tup (Zft (V.str sig ::ts.map V.ref) (some ((1:Nat):Int)) none)):=e4
   rw [Zde] at e4
   exact e4
  refine Zsu (K:=K) (xs:=ts.map V.ref) (fun i ys H'=>ys=((ss.take i).map Prod.fst).map V.str/\H' D=some (.lst ys)/\Same H4 H') ⟨rfl,Zh,Same.new hD⟩ ?_ ?_ ?_
  ·rintro i ys H' _ ⟨_,_,sm⟩
   exact SqT.of (sm.at e4)
  ·rintro i v ys H5 hi ⟨rfl,hD5,s5⟩
   rw [List.getElem?_map] at hi
   obtain ⟨tq,htq,rfl⟩:=Option.map_eq_some_iff.mp hi
   obtain ⟨qq,hqq,rq⟩:=Paired.get hts2 htq
   have r5:=rq.mono (s3.trans (s4.trans s5))
   refine ⟨Zaq.set rfl,_,rfl,.inr (.inl ⟨tq,_,0,_,rfl,rfl,SqT.of r5,Zt (j:=0) rfl,hD5,by rw [List.length_map,List.length_map,List.length_take];exact Z1 (by omega),?_,Zh,fun b o y=>?_⟩)⟩
   ·rw [List.take_add_one,hqq,List.map_append,List.map_append];rfl
   ·rw [Zi (Zj y hD)];exact s5.at y
  rintro ys H5 ⟨rfl,hD5,s5⟩
  rw [List.length_map,htl,List.take_length] at hD5
  refine .inr (.inr ⟨la,D,_,_,rfl,rfl,(s4.trans s5).at e3,hD5,by rw [List.length_map,List.length_map];exact sz (by show 1+_<=_;omega),fun lp H6 s6 n6 e6=>?_⟩)
  have e6:H6 lp=some (.lst ((e.1 ::ss.map Prod.fst).map V.str)):=e6
  have s26:=s3.trans (s4.trans (s5.trans s6))
  have s16:=s2.trans s26
  have s06:=s1.trans s16
  refine WSs.last (Zq (Wr (N':=["step", "passed"]) rfl (Yd.std 1 [4] rfl (by trivial) (by trivial) rfl ⟨rfl,trivial⟩ rfl rfl ⟨⟨_,rfl,rfl,rfl⟩,trivial⟩) (Yp (Zx (Zlw T) hr rfl T.m_steps_into T.d_steps_into.F.kp T.d_steps_into.b .nil Z6 (Zb (pv 0) (Zb (Zck (pv 0) T.clTracks T.mtTracks_beyond (Zbq T) hr T.d_Tracks_beyond.b .nil Z6 (Zb (pv 3) Za)) Za)))) (fun _ _ _ _=>(Zci (i:=0) (by show (["step", "passed"]:List Str).Nodup;decide +kernel))) (fun _ _ _ _=>(Zij (Zr (r:=Zbz K) (Zcj hr) (Zv (r:=rIx K) Zk (pv 0) Zf (fun _ _=>rfl)) (pv 1) (by with_unfolding_all rfl)))) (fun _ _ _ _=>(pv 0)))) ⟨_,rfl,_,rfl,x,dx,_,rfl,s06.at h1,rfl,_,rfl,x,tl,Zaf e ss,ps,js,sg,rfl,tr.mono s06,yv,hl.mono s26,Zxu yv (fun _ z=>z) fun t7 H7 s7 e7=>⟨x,t7,_,_,ps,js,sg,rfl,tr.mono (s06.trans s7),yv,e7,Zx1 yv fun l8 H8 s8 ⟨us,h8,(hus:Paired (Xl H8) us (Yx ps (bey js (Zaf e ss)).1 (bey js (Zaf e ss)).2))⟩=>⟨l8,rfl,⟨_,SqL.of h8⟩,fun D2 hD2=>Xw (K:=K) (xs:=us.map V.ref) (fun i ys H'=>(∃ws:List Addr,ys=ws.map V.ref/\Paired (Xl H8) ws (((Yx ps (bey js (Zaf e ss)).1 (bey js (Zaf e ss)).2).take i).filter fun q=>decide (q.1∉e.1 ::ss.map Prod.fst)))/\H' D2=some (.lst ys)/\Same H8 H') ⟨⟨[],rfl,.nil⟩,Zh,Same.new hD2⟩ ?_ ?_ ?_⟩⟩⟩
  ·rintro i ys H' _ ⟨_,_,sm⟩
   exact SqL.of (sm.at h8)
  ·rintro i v ys H9 hi ⟨⟨ws,rfl,hws⟩,hD9,s9⟩
   rw [List.getElem?_map] at hi
   obtain ⟨tq,htq,rfl⟩:=Option.map_eq_some_iff.mp hi
   obtain ⟨qq,hqq,rq⟩:=Paired.get hus htq
   have hul:=Paired.length hus
   have htqi:=(List.getElem?_eq_some_iff.mp htq).1
   have few:(Yx ps (bey js (Zaf e ss)).1 (bey js (Zaf e ss)).2).length<=2:=Zdu yv
   have hwl:=Paired.length hws
   have hfl:=List.length_filter_le (fun q:S4=>decide (q.1∉e.1 ::ss.map Prod.fst)) ((Yx ps (bey js (Zaf e ss)).1 (bey js (Zaf e ss)).2).take i)
   rw [List.length_take] at hfl
   refine ⟨Zaq.set rfl,_,rfl,.inr (.inl ⟨tq,_,0,_,rfl,rfl,SqT.of (rq.mono s9),Zt (j:=0) rfl,_,rfl,.inl ⟨lp,_,rfl,.inl (SqL.of ((s7.trans (s8.trans s9)).at e6)),rfl,Zbc _,_,rfl,?_⟩⟩)⟩
   rw [if_pos rfl,Zau,List.take_add_one,hqq,List.filter_append]
   refine Yo (fun y=>?_) (fun y=>?_)
   ·have y:qq.1∉e.1 ::ss.map Prod.fst:=fun v=>by rw [decide_eq_true v] at y;exact absurd y (by decide)
    refine ⟨_,rfl,hD9,by rw [List.length_map];exact Z1 (by omega),⟨ws++[tq],by rw [List.map_append];rfl,Paired.append hws ?_⟩,Zh,fun b o v=>?_⟩
    ·have:List.filter (fun q:S4=>decide (q.1∉e.1 ::ss.map Prod.fst)) (some qq).toList=[qq]:=List.filter_cons_of_pos (decide_eq_true y)
     rw [this]
     exact .cons rq .nil
    ·rw [Zi (Zj v hD2)];exact s9.at v
   ·have y:¬qq.1∉e.1 ::ss.map Prod.fst:=fun v=>y (by rw [decide_eq_false v];rfl)
    refine ⟨⟨ws,rfl,?_⟩,hD9,s9⟩
    have:List.filter (fun q:S4=>decide (q.1∉e.1 ::ss.map Prod.fst)) (some qq).toList=[]:=List.filter_cons_of_neg (by rw [decide_eq_false y];decide)
    rw [this,List.append_nil]
    exact hws
  ·rintro ys H9 ⟨⟨ws,rfl,hws⟩,hD9,s9⟩
   rw [List.length_map,Paired.length hus,List.take_length] at hws
   refine q D2 H9 (s06.trans (s7.trans (s8.trans s9))) (s06.free (s7.free (s8.free hD2))) ⟨ws,hD9,?_⟩
   unfold onL
   rw [if_neg z]
   exact Paired.mapP hws fun _ _ r=>r.mono s9
theorem Zn8(T:Tx K mg){k:Nat}(h:5<=k:=by decide):Zz P w K mg base CX0 k T.d_steps_on.f T.d_steps_on.fd ["tracks", "begun"] (Zyr T):=(Zm4 T).mono h
section
variable (ps:List Zc) (js:List (Zc×Zc)) (sg:List (Str×Str×Str)) (e:Zc)
def goL:Nat->List S4->List (List S4)
 | 0,_=>[]
 | n+1,ss=>(onL ps js e ss).flatMap fun q=>if Zaw sg q=true then [ss++[q]] else goL n (ss++[q])
def Zn5(ss:List S4)(q:S4):List (List S4):=if Zaw sg q=true then [ss++[q]] else goL ps js sg e (13-(ss++[q]).length) (ss++[q])
def Zgx(ss:List S4):List (List S4):=goL ps js sg e (13-ss.length) ss
end
def wt(ss:List S4):Nat:=3 ^ (14-ss.length)
section
variable {ps:List Zc} {js:List (Zc×Zc)} {sg:List (Str×Str×Str)} {e:Zc}
theorem Zk0{ss:List S4}(h:12<=ss.length):onL ps js e ss=[]:=by unfold onL;rw [if_pos (by omega)]
theorem Zvt(ss:List S4):Zgx ps js sg e ss=(onL ps js e ss).flatMap (Zn5 ps js sg e ss):=by
 unfold Zgx
 rcases Nat.lt_or_ge ss.length 13 with z|z
 ·rw [show 13-ss.length=(12-ss.length)+1 by omega]
  show (onL ps js e ss).flatMap _=_
  refine congrArg (fun f=>List.flatMap f (onL ps js e ss)) (funext fun q=>?_)
  unfold Zn5
  rw [List.length_append]
  show _=if Zaw sg q=true then [ss++[q]] else goL ps js sg e (13-(ss.length+1)) (ss++[q])
  rw [show 13-(ss.length+1)=12-ss.length by omega]
 ·rw [Zk0 (by omega),show 13-ss.length=0 by omega]
  rfl
theorem Zpc:∀bs:List (List S4),bs.length<=(bs.map wt).sum
 | []=>Nat.le_refl _
 | b ::bs=>by
  have:=Zpc bs
  have:1<=wt b:=Nat.one_le_pow _ _ (by decide)
  show bs.length+1<=wt b+(bs.map wt).sum
  omega
theorem Zoz(yv:Y7 ps js sg){ss:List S4}:(onL ps js e ss).length<=2:=by
 unfold onL
 split
 ·exact Nat.zero_le _
 ·exact Nat.le_trans (List.length_filter_le _ _) (Zdu yv)
end
def W2(H:Hp)(l:Addr)(sig:Str)(rs:List (List S4)):Prop:=∃ts:List Addr,H l=some (.lst (ts.map V.ref))/\Paired (fun t ss=>Zcg H t sig ss) ts rs
theorem W2.mono{H H':Hp}{l:Addr}{sig:Str}{rs:List (List S4)}(e:Same H H')(h:W2 H l sig rs):W2 H' l sig rs:=let ⟨ts,h1,h2⟩:=h;⟨ts,e.at h1,Paired.mapP h2 fun _ _ r=>r.mono e⟩
theorem Zcg.off{H:Hp}{c t:Addr}{o:HO}{xs:List V}{sig:Str}{ss:List S4}(h:Zcg H t sig ss)(hc:H c=some (.lst xs)):Zcg (upd H c o) t sig ss:=by
 obtain ⟨ts,h1,h2⟩:=h
 exact ⟨ts,(Zi fun z=>by rw [z,hc] at h1;cases h1).trans h1,Paired.mapP h2 fun _ _ r=>r.off hc⟩
theorem W2.off{H:Hp}{c l:Addr}{o:HO}{xs:List V}{sig:Str}{rs:List (List S4)}(h:W2 H l sig rs)(hc:H c=some (.lst xs))(n:l≠c):W2 (upd H c o) l sig rs:=let ⟨ts,h1,h2⟩:=h;⟨ts,(Zi n).trans h1,Paired.mapP h2 fun _ _ r=>r.off hc⟩
theorem W2.add{H:Hp}{l t:Addr}{sig:Str}{ts:List Addr}{rs:List (List S4)}{ss:List S4}(hl:H l=some (.lst (ts.map V.ref)))(h:Paired (fun t ss=>Zcg H t sig ss) ts rs)(r:Zcg H t sig ss):W2 (upd H l (.lst (ts.map V.ref++[.ref t]))) l sig (rs++[ss]) :=
 ⟨ts++[t],by rw [Zh,List.map_append];rfl,Paired.append (Paired.mapP h fun _ _ r=>r.off hl) (.cons (r.off hl) .nil)⟩
def Zk7(ss:List S4):Ks:=ss.map fun q=>[q.1,q.2.1,q.2.2.1,q.2.2.2]
theorem Zsx{a b:List S4}(h:Zk7 a=Zk7 b):a=b:=List.map_inj_right (fun x y z=>by
 simp only [List.cons.injEq,and_true] at z
 obtain ⟨a,b,c,d⟩:=x
 obtain ⟨a',b',c',d'⟩:=y
 obtain ⟨rfl,rfl,rfl,rfl⟩:=z
 rfl) |>.mp h
theorem Zpw{H:Hp}:∀{us:List Addr} {a b:List S4},Paired (Xl H) us a->Paired (Xl H) us b->a=b
 | [],_,_,.nil,.nil=>rfl
 | u ::us,x ::a,y ::b,.cons h r,.cons h2 r2=>by
  have e:=h.symm.trans h2
  rw [Zpw r r2]
  congr 1
  obtain ⟨a,b,c,d⟩:=x
  obtain ⟨a',b',c',d'⟩:=y
  simp only [Option.some.injEq,HO.tup.injEq,List.cons.injEq,V.str.injEq,and_true] at e
  obtain ⟨rfl,rfl,rfl,rfl⟩:=e
  rfl
theorem Zsk:∀{a b:List Addr},a.map V.ref=b.map V.ref->a=b:=fun h=>List.map_inj_right (fun _ _ z=>V.ref.inj z) |>.mp h
theorem Zcg.one{H:Hp}{t:Addr}{sig:Str}{a b:List S4}(h:Zcg H t sig a)(h2:Zcg H t sig b):a=b:=by
 obtain ⟨us,h1,h3⟩:=h
 obtain ⟨vs,g1,g3⟩:=h2
 rw [h1] at g1
 have:=Zsk (List.cons.inj (HO.tup.inj (Option.some.inj g1))).2
 subst this
 exact Zpw h3 g3
open Classical in
noncomputable def rtF (H:Hp) (sig:Str) (t:Addr):Ks:=if h:∃ss,Zcg H t sig ss then Zk7 h.choose else []
theorem Ztq{H:Hp}{sig:Str}{t:Addr}{ss:List S4}(h:Zcg H t sig ss):rtF H sig t=Zk7 ss:=by
 have z:∃ss,Zcg H t sig ss:=⟨ss,h⟩
 unfold rtF
 rw [dif_pos z,z.choose_spec.one h]
theorem Znf{H:Hp}:∀{us:List Addr} {ss:List S4},Paired (Xl H) us ss->Paired (fun u l=>H u=some (.tup (l.map V.str))) us (Zk7 ss)
 | _,_,.nil=>.nil
 | _,_,.cons a r=>.cons a (Znf r)
theorem Znc{H:Hp}{sig:Str}{ts:List Addr}{rs:List (List S4)}(h:Paired (fun t ss=>Zcg H t sig ss) ts rs):∀t∈ts,∃us:List Addr,H t=some (.tup (.str sig ::us.map V.ref))/\Paired (fun u l=>H u=some (.tup (l.map V.str))) us (rtF H sig t):=fun t ht=>by
 obtain ⟨i,hi,rfl⟩:=List.getElem_of_mem ht
 obtain ⟨ss,_,r⟩:=Paired.get h (List.getElem?_eq_getElem hi)
 rw [Ztq r]
 obtain ⟨us,r1,r2⟩:=r
 exact ⟨us,r1,Znf r2⟩
theorem Zs6{H:Hp}{sig:Str}:∀{ts:List Addr} {rs:List (List S4)},Paired (fun t ss=>Zcg H t sig ss) ts rs->ts.Pairwise (fun a b=>leK (rtF H sig a) (rtF H sig b))->(rs.map Zk7).Pairwise leK:=fun {ts rs} h w=>by
 have:ts.map (rtF H sig)=rs.map Zk7:=by
  clear w
  induction h with
  | nil=>rfl
  | cons a _ ih=>rw [List.map_cons,List.map_cons,Ztq a,ih]
 rw [<-this,List.pairwise_map]
 exact w
def Zy6(T:Tx K mg):Sp:=fun vs H Q _=>∃(x:Addr) (g:Str×Zc) (ps:List Zc) (js:List (Zc×Zc)) (sg:List (Str×Str×Str)),vs=[.ref x,.str g.1]/\Xj T H x ps js sg/\Y7 ps js sg/\(g:Str×Str×Str)∈sg /\
 ∀l rs H',Same H H'->H l=none->W2 H' l g.1 rs->rs.Perm (Zgx ps js sg g.2 [])->(rs.map Zk7).Pairwise leK->Q (.ref l) H'
theorem Zht(T:Tx K mg):Zz P w K mg base CX0 6 T.d_routes_from.f T.d_routes_from.fd ["tracks", "signal"] (Zy6 T):=by
 refine T.d_routes_from.F.okW Wk fun cdv A outer s H vs Q E hr h=>?_
 ·obtain ⟨x,⟨sig,e⟩,ps,js,sg,rfl,tr,yv,hg,q⟩:=h
  refine WSs.step (Z2 (i:=2) Wk.nd (Zl Za)) ⟨sz (by simp),fun lf H1 s1 n1 e1=>?_⟩
  refine WSs.step (Z2 (i:=3) Wk.nd (Zl (Zb (Zg (Zb (pv 1) Za)) Za))) ⟨_,rfl,sz (by simp),fun t2 H2 s2 n2 e2=>⟨sz (by simp),fun lb H3 s3 n3 e3=>?_⟩⟩
  have nfb:lf≠lb:=fun z=>by rw [z] at e1;rw [s2.at e1] at n3;cases n3
  have nlb:H lb=none:=s1.free (s2.free n3)
  have s03:=s1.trans (s2.trans s3)
  let I27:=fun (σ:St) (H':Hp)=>(∃o3 o4 o5,σ=[some (.ref x),some (.str sig),some (.ref lf),o3,o4,o5])/\Same H H'/\∃rs,W2 H' lf sig rs/\rs.Perm (Zgx ps js sg e [])
  refine WSs.cut I27 ?_ ?_
  ·refine WS.of (Zsp PassesOwn.never (Zs7 (pv 3) (fun _=>rfl)) Zy) ⟨fun n σ H'=>∃rs bs o4 o5,n=(bs.map wt).sum/\σ=[some (.ref x),some (.str sig),some (.ref lf),some (.ref lb),o4,o5]/\Same H H'/\W2 H' lf sig rs/\W2 H' lb sig bs/\rs.length+(bs.map wt).sum<=4782969/\(∀b∈bs,b.length<=12)/\(rs++bs.flatMap (Zgx ps js sg e)).Perm (Zgx ps js sg e []),⟨_,[],[[]],none,none,rfl,rfl,s03,⟨[],s3.at (s2.at e1),.nil⟩,⟨[t2],e3,.cons ⟨[],s3.at e2,.nil⟩ .nil⟩,by trivial,fun b hb=>by rw [List.mem_singleton.mp hb];exact Nat.zero_le _,by simp⟩,?_⟩
   rintro n σ H4 ⟨rs,bs,o4,o5,rfl,rfl,s4,hrs,⟨ts,hlb,hts⟩,hsum,hlen,hperm⟩
   have htl:=Paired.length hts
   refine ⟨_,rfl,!(ts.map V.ref).isEmpty,.inl ⟨_,SqL.of hlb,rfl⟩,?_⟩
   refine Yo (fun z=>?_) (fun z=>⟨⟨_,_,_,rfl⟩,s4,rs,hrs,?_⟩)
   rotate_left
   ·have z:ts.length=0:=by
     cases ts with
     | nil=>rfl
     | cons a as=>exact absurd rfl z
    have:bs=[]:=List.length_eq_zero_iff.mp (by omega)
    rw [this] at hperm
    simpa using hperm
   have z:0<ts.length:=by
    cases ts with
    | nil=>exact absurd z (by decide)
    | cons a as=>exact Nat.succ_pos _
   obtain ⟨ta,hta⟩:∃ta,ts[ts.length-1]? =some ta:=⟨_,List.getElem?_eq_getElem (by omega)⟩
   obtain ⟨ah,hah,ra⟩:=Paired.get hts hta
   obtain ⟨us,rfl⟩:=List.getLast?_eq_some_iff.mp (show ts.getLast? =some ta by rw [List.getLast?_eq_getElem?];exact hta)
   obtain ⟨b1,rfl⟩:=List.getLast?_eq_some_iff.mp (show bs.getLast? =some ah by rw [List.getLast?_eq_getElem?,<-htl];exact hah)
   rw [List.map_append,List.sum_append] at hsum
   have hal:ah.length<=12:=hlen ah (List.mem_append_right _ List.mem_cons_self)
   obtain ⟨B,hB⟩:∃B,B=3 ^ (13-ah.length):=⟨_,rfl⟩
   have hB1:1<=B:=by rw [hB];exact Nat.one_le_pow _ _ (by decide)
   have hwt:(List.map wt [ah]).sum=3 * B:=by
    show wt ah+0=_
    unfold wt
    rw [hB,Nat.add_zero,show 14-ah.length=(13-ah.length)+1 by omega,Nat.pow_succ,Nat.mul_comm]
   rw [hwt] at hsum
   refine ⟨fun σ' H'=>∃rs' bs' o4 o5,(bs'.map wt).sum<=(b1.map wt).sum+2 * B/\σ'=[some (.ref x),some (.str sig),some (.ref lf),some (.ref lb),o4,o5]/\Same H H'/\W2 H' lf sig rs'/\W2 H' lb sig bs'/\rs'.length+(bs'.map wt).sum<=4782969/\(∀b∈bs',b.length<=12)/\(rs'++bs'.flatMap (Zgx ps js sg e)).Perm (Zgx ps js sg e []),fun σ' H' ⟨rs',bs',p4,p5,h1,h2,h3⟩=>⟨_,?_,rs',bs',p4,p5,rfl,h2,h3⟩,?_⟩
   ·rw [List.map_append,List.sum_append,hwt];omega
   have hlu:H4 lb=some (.lst ((us++[ta]).map V.ref)):=hlb
   refine WSs.step (Z2 (i:=4) Wk.nd (Zxc PySem.F.plainAttrs_list PySem.F.slot_list_pop PySem.F.type_list_pop Zxw (pv 3))) ⟨_,rfl,.inl ⟨rfl,_,SqL.of hlb⟩,lb,_,.ref ta,rfl,rfl,hlb,?_,?_⟩
   ·rw [List.map_append,List.length_append,List.length_map]
    show (us.map V.ref++[V.ref ta])[us.length+1-1]? =_
    rw [Nat.add_sub_cancel,List.getElem?_append_right (by rw [List.length_map];exact Nat.le_refl _),List.length_map,Nat.sub_self]
    rfl
   have el:upd H4 lb (.lst ((us++[ta]).map V.ref).dropLast) lb=some (.lst (us.map V.ref)):=by rw [Zh,List.map_append];exact congrArg (fun l=>some (HO.lst l)) (List.dropLast_concat)
   have hts':Paired (fun t ss=>Zcg H4 t sig ss) us b1:=by
    have:=Zff us.length hts
    rwa [List.take_left,show us.length=b1.length by have:=htl;rw [List.length_append,List.length_append] at this;simpa using this,List.take_left] at this
   have hrs5:=hrs.off (o:=.lst ((us++[ta]).map V.ref).dropLast) hlb nfb
   have ra5:=ra.off (o:=.lst ((us++[ta]).map V.ref).dropLast) hlb
   have hbs5:W2 (upd H4 lb (.lst ((us++[ta]).map V.ref).dropLast)) lb sig b1:=⟨us,el,Paired.mapP hts' fun _ _ r=>r.off hlb⟩
   have s5:Same H (upd H4 lb (.lst ((us++[ta]).map V.ref).dropLast)):=s4.upd0 nlb
   generalize upd H4 lb (.lst ((us++[ta]).map V.ref).dropLast)=H5 at hrs5 ra5 hbs5 s5
   refine WSs.last (Xu PassesOwn.never rfl (Yp (Zx (Zn8 T) hr rfl T.m_steps_on T.d_steps_on.F.kp T.d_steps_on.b .nil Z6 (Zb (pv 0) (Zb (pv 4) Za)))) (Yw (i:=5) Wk.nd) Zy) ⟨_,rfl,_,rfl,x,ta,(sig,e),ah,ps,js,sg,rfl,tr.mono s5,yv,hg,ra5,by omega,fun l6 H6 s6 n6 ⟨vs,h6,hvs⟩=>⟨l6,rfl,⟨_,SqL.of h6⟩,Xr (K:=K) (xs:=vs.map V.ref) (fun i σ H'=>∃rs' bs' o5,(bs'.map wt).sum<=(b1.map wt).sum+i * B/\rs'.length+(bs'.map wt).sum<=rs.length+(b1.map wt).sum+i * B/\σ=[some (.ref x),some (.str sig),some (.ref lf),some (.ref lb),some (.ref ta),o5]/\Same H H'/\H' l6=some (.lst (vs.map V.ref))/\Paired (Xl H') vs (onL ps js e ah)/\Zcg H' ta sig ah/\W2 H' lf sig rs'/\W2 H' lb sig bs'/\(∀b∈bs',b.length<=12)/\(rs'++bs'.flatMap (Zgx ps js sg e)++((onL ps js e ah).drop i).flatMap (Zn5 ps js sg e ah)).Perm (Zgx ps js sg e [])) ⟨rs,b1,o5,by omega,by omega,rfl,s5.trans s6,h6,hvs,ra5.mono s6,hrs5.mono s6,hbs5.mono s6,fun b hb=>hlen b (List.mem_append_left _ hb),?_⟩ ?_ ?_ ?_⟩⟩
   ·rw [List.drop_zero,<-Zvt]
    rw [List.flatMap_append,<-List.append_assoc] at hperm
    simpa using hperm
   ·rintro i σ H' _ ⟨_,_,_,_,_,_,_,h,_⟩
    exact SqL.of h
   ·rintro i v σ H7 hi ⟨rs',bs',o5',w1,w2,rfl,s7,h7,hv7,ra7,hr7,hb7,hl7,hp7⟩
    rw [List.getElem?_map] at hi
    obtain ⟨tq,htq,rfl⟩:=Option.map_eq_some_iff.mp hi
    obtain ⟨qq,hqq,rq⟩:=Paired.get hv7 htq
    have few:=Zoz (e:=e) (ss:=ah) yv
    have hil:=(List.getElem?_eq_some_iff.mp hqq).1
    have hah12:ah.length<12:=by
     rcases Nat.lt_or_ge ah.length 12 with y|y
     ·exact y
     ·rw [Zk0 y] at hil;exact absurd hil (Nat.not_lt_zero _)
    have hdrop:(onL ps js e ah).drop i=qq ::(onL ps js e ah).drop (i+1):=by
     rw [List.drop_eq_getElem_cons hil]
     rw [List.getElem?_eq_getElem hil] at hqq
     rw [Option.some.inj hqq]
    rw [hdrop,List.flatMap_cons] at hp7
    have hwn:wt (ah++[qq])=B:=by
     unfold wt
     rw [hB,List.length_append]
     show 3 ^ (14-(ah.length+1))=_
     rw [show 14-(ah.length+1)=13-ah.length by omega]
    have nl6:l6≠lf/\l6≠lb:=⟨fun v=>(let ⟨_,k,_⟩:=hrs5;nomatch (v ▸ n6).symm.trans k),fun v=>(let ⟨_,k,_⟩:=hbs5;nomatch (v ▸ n6).symm.trans k)⟩
    have iB:(i+1) * B=i * B+B:=by rw [Nat.add_mul,Nat.one_mul]
    have sB:i * B<=1 * B:=Nat.mul_le_mul_right _ (by omega)
    have tup:∀{H8:Hp},Same H7 H8->∀{t8:Addr},H8 t8=some (.tup [.ref tq])->∀{Q':VK},(∀t9 H9,Same H8 H9->Zcg H9 t9 sig (ah++[qq])->Q' (.ref t9) H9)->Znq K (.ref ta) (.ref t8) H8 Q':=fun {H8} s8 {t8} e8 {Q'} k=>by
     obtain ⟨ws,g1,g2⟩:=ra7.mono s8
     have hwl:=Paired.length g2
     refine ⟨ta,t8,_,_,rfl,rfl,SqT.of g1,SqT.of e8,by simp,by simp,by rw [List.length_cons,List.length_map,hwl];exact sz (by show _+1+1<=_;omega),fun t9 H9 s9 n9 e9=>k t9 H9 s9 ⟨ws++[tq],?_,?_⟩⟩
     ·rw [e9,List.map_append];rfl
     ·exact Paired.append (Paired.mapP g2 fun _ _ r=>r.mono s9) (.cons ((rq.mono s8).mono s9) .nil)
    refine WSs.last (Yj (Zad (Zx (Zlq T) hr rfl T.m_ends_there T.d_ends_there.F.kp T.d_ends_there.b .nil Z6 (Zb (pv 0) (Zb (pv 5) Za)))) Zy Zy) ⟨_,rfl,_,rfl,x,tq,qq,ps,js,sg,rfl,tr.mono s7,yv,rq,fun H8 s8=>⟨_,rfl,Yo (fun y=>?_) (fun y=>?_)⟩⟩
    ·obtain ⟨fs,f1,f2⟩:=hr7.mono s8
     refine WSs.last (Xm (Zcx PySem.F.plainAttrs_list PySem.F.slot_list_append PySem.F.type_list_append Y9 (pv 2) (Zb (Zp Zeo (pv 4) (Zg (Zb (pv 5) Za))) Za))) ⟨_,rfl,.inl ⟨rfl,_,SqL.of f1⟩,_,rfl,_,rfl,sz (by simp),fun t8 H9 s9 n9 e9=>tup (s8.trans s9) e9 fun t9 H10 s10 r10=>⟨lf,_,_,rfl,rfl,(s9.trans s10).at f1,?_,?_⟩⟩
     ·have hfl:=Paired.length f2
      rw [List.length_map,sizeLine_eq,hfl];omega
     have s710:=s8.trans (s9.trans s10)
     have fe:=(s9.trans s10).at f1
     have hone:Zn5 ps js sg e ah qq=[ah++[qq]]:=by unfold Zn5;rw [if_pos y]
     rw [hone] at hp7
     refine ⟨rs'++[ah++[qq]],bs',some (.ref tq),by omega,by rw [List.length_append];show _+1+_<=_;omega,rfl,(s7.trans s710).upd0 n1,(Zi nl6.1).trans (s710.at h7),Paired.mapP hv7 fun _ _ r=>(r.mono s710).off fe,(ra7.mono s710).off fe,W2.add fe (Paired.mapP f2 fun _ _ r=>r.mono (s9.trans s10)) r10,(hb7.mono s710).off fe nfb.symm,hl7,List.Perm.trans ?_ hp7⟩
     rw [List.append_assoc,List.append_assoc,List.append_assoc]
     refine List.Perm.append_left rs' ?_
     rw [<-List.append_assoc,<-List.append_assoc]
     exact List.Perm.append_right _ List.perm_append_comm
    ·obtain ⟨fs,f1,f2⟩:=hb7.mono s8
     refine WSs.last (Xm (Zcx PySem.F.plainAttrs_list PySem.F.slot_list_append PySem.F.type_list_append Y9 (pv 3) (Zb (Zp Zeo (pv 4) (Zg (Zb (pv 5) Za))) Za))) ⟨_,rfl,.inl ⟨rfl,_,SqL.of f1⟩,_,rfl,_,rfl,sz (by simp),fun t8 H9 s9 n9 e9=>tup (s8.trans s9) e9 fun t9 H10 s10 r10=>⟨lb,_,_,rfl,rfl,(s9.trans s10).at f1,?_,?_⟩⟩
     ·have hfl:=Paired.length f2
      have:=Zpc bs'
      rw [List.length_map,sizeLine_eq,hfl];omega
     have s710:=s8.trans (s9.trans s10)
     have fe:=(s9.trans s10).at f1
     have hone:Zn5 ps js sg e ah qq=Zgx ps js sg e (ah++[qq]):=by unfold Zn5;rw [if_neg y];rfl
     rw [hone] at hp7
     have hsm:((bs'++[ah++[qq]]).map wt).sum=(bs'.map wt).sum+B:=by rw [List.map_append,List.sum_append];show _+(wt (ah++[qq])+0)=_;rw [hwn,Nat.add_zero]
     refine ⟨rs',bs'++[ah++[qq]],some (.ref tq),by omega,by omega,rfl,(s7.trans s710).upd0 nlb,(Zi nl6.2).trans (s710.at h7),Paired.mapP hv7 fun _ _ r=>(r.mono s710).off fe,(ra7.mono s710).off fe,(hr7.mono s710).off fe nfb,W2.add fe (Paired.mapP f2 fun _ _ r=>r.mono (s9.trans s10)) r10,fun b hb=>?_,?_⟩
     ·rcases List.mem_append.mp hb with v|v
      ·exact hl7 b v
      ·rw [List.mem_singleton.mp v,List.length_append];show _+1<=_;omega
     ·rw [List.flatMap_append,List.flatMap_singleton,<-List.append_assoc,List.append_assoc]
      exact hp7
   ·rintro σ H7 ⟨rs',bs',o5',w1,w2,rfl,s7,h7,hv7,ra7,hr7,hb7,hl7,hp7⟩
    have few:=Zoz (e:=e) (ss:=ah) yv
    have hvl:=Paired.length hv7
    rw [List.length_map,hvl] at w1 w2 hp7
    rw [List.drop_length] at hp7
    have sB:(onL ps js e ah).length * B<=2 * B:=Nat.mul_le_mul_right _ few
    exact ⟨rs',bs',_,_,by omega,rfl,s7,hr7,hb7,by omega,hl7,by simpa using hp7⟩
  rintro σ H4 ⟨⟨o3,o4,o5,rfl⟩,s4,rs,⟨ts,h1,h2⟩,hp⟩
  refine WSs.last (Zq (Yb (r:=Zod K) (Zhs hr.units) (by rfl) T.n_sorted PyProof.Rows.boot_sorted (Zb (pv 2) Za))) ⟨_,rfl,lf,ts,sig,rtF H4 sig,rfl,SqL.of h1,Znc h2,fun ts' hp' hw l5 H5 s5 n5 e5=>?_⟩
  obtain ⟨rs',p1,p2⟩:=Zjt hp' h2
  exact q l5 rs' H5 (s4.trans s5) (s4.free n5) ⟨ts',e5,Paired.mapP p2 fun _ _ r=>r.mono s5⟩ (p1.trans hp) (Zs6 p2 hw)
theorem Zjm(T:Tx K mg){k:Nat}(h:6<=k:=by decide):Zz P w K mg base CX0 k T.d_routes_from.f T.d_routes_from.fd ["tracks", "signal"] (Zy6 T):=(Zht T).mono h
section
variable {ps:List Zc} {js:List (Zc×Zc)} {sg:List (Str×Str×Str)} {e:Zc}
theorem Zt6:∀k∈X4,∀en∈Ya k,Zd8 k en≠[]/\∀o∈Zd8 k en,o.1 ≠ "" ->o.1∈Ya k:=by trivial
theorem Zun{a b:Zc}(h:(a,b)∈qJ js):(b,a)∈qJ js:=by
 unfold qJ at h ⊢
 obtain ⟨p,hp,h⟩:=List.mem_flatMap.mp h
 refine List.mem_flatMap.mpr ⟨p,hp,?_⟩
 simp only [List.mem_cons,Prod.mk.injEq,List.mem_nil_iff,or_false] at h ⊢
 rcases h with ⟨rfl,rfl⟩|⟨rfl,rfl⟩
 ·exact .inr ⟨rfl,rfl⟩
 ·exact .inl ⟨rfl,rfl⟩
theorem Zwf(yv:Y7 ps js sg){a:Zc}(h:a∈Z8 ps):(a,bey js a)∈qJ js:=by
 obtain ⟨⟨a',b⟩,hb,rfl⟩:=List.mem_map.mp ((Zn4 yv).mpr h)
 rw [Ztj yv hb]
 exact hb
theorem Zo5(yv:Y7 ps js sg){a:Zc}(h:a∈Z8 ps):bey js a∈Z8 ps:=(Zn4 yv).mp (List.mem_map.mpr ⟨_,Zun (Zwf yv h),rfl⟩)
theorem Zuo(yv:Y7 ps js sg){g:Str×Zc}(h:(g:Str×Str×Str)∈sg):g.2∈Z8 ps:=by
 obtain ⟨p,hp,e,_,hk⟩:=yv.sigs.at_ _ h
 exact List.mem_flatMap.mpr ⟨p,hp,List.mem_map.mpr ⟨_,hk,by rw [e]⟩⟩
theorem Ztd(yv:Y7 ps js sg){nm en:Str}{q:S4}(hq:q∈Yx ps nm en)(hb:Zaw sg q=false):((q.1,q.2.2.1):Zc)∈Z8 ps:=by
 unfold Yx at hq
 cases hk:kindOf ps nm with
 | none=>rw [hk] at hq;cases hq
 | some k =>
  rw [hk] at hq
  dsimp only at hq
  split at hq
  ·rename_i z
   obtain ⟨o,ho,rfl⟩:=List.mem_map.mp hq
   have hp:=Zin hk
   refine List.mem_flatMap.mpr ⟨_,hp,List.mem_map.mpr ⟨o.1,(Zt6 k (yv.net.kind _ hp) _ z).2 o ho fun y=>?_,rfl⟩⟩
   unfold Zaw at hb
   rw [decide_eq_true (show (o.1:Str) = "" from y)] at hb
   cases hb
  ·cases hq
theorem Znr(yv:Y7 ps js sg){k nm en:Str}(hk:((k,nm):Zc)∈ps)(hek:en∈Ya k):Yx ps nm en=Zbh k nm en:=by
 unfold Yx
 rw [Zkq yv.net.nd hk]
 dsimp only
 rw [if_pos hek]
end
theorem Zjv{H:Hp}{d:Addr}{ps:List Zc}{js:List (Zc×Zc)}{sg:List (Str×Str×Str)}(pn:Zdg H d ps js sg)(yv:Y7 ps js sg){a:Zc}(ha:a∈Z8 ps):∃(kp:List (Key×V)) (b:Addr) (kj:List (List Key×V)) (t:Addr),H d=some (.dK kp)/\Yv kp (Yi "joined")=some (.ref b)/\H b=some (.dT kj)/\Yv kj (Yl a)=some (.ref t)/\Zs H t (bey js a):=by
 obtain ⟨p1,p2,p3,kk,kj,kst,h1,_,_,h4,h5,_⟩:=pn.ex
 obtain ⟨v,hv,t,rfl,ht⟩:=h5.get Y6 (Zvz yv) (Zwf yv ha)
 exact ⟨_,p2,kj,t,h1,(Zkr p1 p2 p3).2.1,h4,hv,ht⟩
section
variable (ps:List Zc) (js:List (Zc×Zc)) (sg:List (Str×Str×Str))
def Zb9:Nat->Zc->List Str->List (List S4)
 | 0,_,_=>[]
 | n+1,a,met=>(Yx ps a.1 a.2).flatMap fun q=>if q.1∈met then [] else if Zaw sg q=true then [[q]] else (Zb9 n (bey js (q.1,q.2.2.1)) (met++[q.1])).map (q ::·)
def Wh(n:Nat)(met:List Str)(q:S4):List (List S4):=if q.1∈met then [] else if Zaw sg q=true then [[q]] else (Zb9 ps js sg n (bey js (q.1,q.2.2.1)) (met++[q.1])).map (q ::·)
end
section
variable {ps:List Zc} {js:List (Zc×Zc)} {sg:List (Str×Str×Str)}
theorem Zex(n:Nat)(a:Zc)(met:List Str):Zb9 ps js sg (n+1) a met=(Yx ps a.1 a.2).flatMap (Wh ps js sg n met):=rfl
theorem Zif{α β:Type}{f:α->List β}{B:Nat}:∀{l:List α},(∀x∈l,(f x).length<=B)->(l.flatMap f).length<=l.length * B
 | [],_=>Nat.zero_le _
 | x ::l,h=>by
  rw [List.flatMap_cons,List.length_append,List.length_cons,Nat.add_mul,Nat.one_mul]
  have:=h x List.mem_cons_self
  have:=Zif fun y hy=>h y (List.mem_cons_of_mem x hy)
  omega
theorem Zdn(yv:Y7 ps js sg):∀(n:Nat) {a:Zc} {met:List Str},(Zb9 ps js sg n a met).length<=2 ^ n
 | 0,_,_=>Nat.zero_le _
 | n+1,a,met=>by
  rw [Zex]
  have h:∀q,(Wh ps js sg n met q).length<=2 ^ n:=fun q=>by
   unfold Wh
   split
   ·exact Nat.zero_le _
   split
   ·exact Nat.one_le_two_pow
   ·rw [List.length_map];exact Zdn yv n
  have:=Zif (l:=Yx ps a.1 a.2) (f:=Wh ps js sg n met) (fun q _=>h q)
  have:=Nat.mul_le_mul_right (2 ^ n) (Zdu yv (nm:=a.1) (en:=a.2))
  rw [Nat.pow_succ]
  omega
theorem Znx(yv:Y7 ps js sg){n:Nat}(hn:n<12){met:List Str}{q:S4}:(Wh ps js sg n met q).length<=2048:=by
 unfold Wh
 split
 ·exact Nat.zero_le _
 split
 ·show 1<=2048;decide
 ·rw [List.length_map];exact Nat.le_trans (Zdn yv n) (show 2 ^ n<=2 ^ 11 from Nat.pow_le_pow_right (by decide) (by omega))
theorem Zhe:∀(n:Nat) {a:Zc} {met:List Str} {r:List S4},r∈Zb9 ps js sg n a met->r≠[]/\r.length<=n
 | 0,_,_,_,h=>nomatch h
 | n+1,a,met,r,h=>by
  rw [Zex] at h
  obtain ⟨q,_,h⟩:=List.mem_flatMap.mp h
  unfold Wh at h
  split at h
  ·cases h
  split at h
  ·rw [List.mem_singleton.mp h];exact ⟨by simp,by show 1<=n+1;omega⟩
  ·obtain ⟨r',h',rfl⟩:=List.mem_map.mp h
   have:=(Zhe n h').2
   exact ⟨by simp,by show r'.length+1<=n+1;omega⟩
end
def Zd6(H:Hp)(t:Addr)(ss:List S4):Prop:=∃us:List Addr,H t=some (.tup (us.map V.ref))/\Paired (Xl H) us ss
def Zee(H:Hp)(l:Addr)(rs:List (List S4)):Prop:=∃ts:List Addr,H l=some (.lst (ts.map V.ref))/\Paired (Zd6 H) ts rs
theorem Zd6.mono{H H':Hp}{t:Addr}{ss:List S4}(e:Same H H')(h:Zd6 H t ss):Zd6 H' t ss:=let ⟨us,h1,h2⟩:=h;⟨us,e.at h1,Paired.mapP h2 fun _ _ r=>r.mono e⟩
theorem Zd6.off{H:Hp}{c t:Addr}{o:HO}{xs:List V}{ss:List S4}(h:Zd6 H t ss)(hc:H c=some (.lst xs)):Zd6 (upd H c o) t ss:=by
 obtain ⟨us,h1,h2⟩:=h
 exact ⟨us,(Zi fun z=>by rw [z,hc] at h1;cases h1).trans h1,Paired.mapP h2 fun _ _ r=>r.off hc⟩
theorem Zee.add{H:Hp}{l t:Addr}{ts:List Addr}{rs:List (List S4)}{ss:List S4}(hl:H l=some (.lst (ts.map V.ref)))(h:Paired (Zd6 H) ts rs)(r:Zd6 H t ss):Zee (upd H l (.lst (ts.map V.ref++[.ref t]))) l (rs++[ss]) :=
 ⟨ts++[t],by rw [Zh,List.map_append];rfl,Paired.append (Paired.mapP h fun _ _ r=>r.off hl) (.cons (r.off hl) .nil)⟩
def Zv1(N:Nat):Sp:=fun vs H Q _=>∃(d t m:Addr) (n:Nat) (a:Zc) (met:List Str) (ps:List Zc) (js:List (Zc×Zc)) (sg:List (Str×Str×Str)),vs=[.ref d,.ref t,.ref m,.int n]/\Zdg H d ps js sg/\Y7 ps js sg/\Zs H t a/\a∈Z8 ps/\H m=some (.lst (met.map V.str))/\met.length+n<=20/\n<=N/\n<=12/\∀l H',Same H H'->H l=none->Zee H' l (Zb9 ps js sg n a met)->Q (.ref l) H'
theorem Ziq(T:Tx K mg):∀N:Nat,Zz P w K mg base CX0 (N+3) T.d__law_on.f T.d__law_on.fd ["_law_plan", "_law_into_here", "_law_met", "_law_many"] (Zv1 N)
 | 0=>by
  refine T.d__law_on.F.okW Zcd fun cdv A outer s H vs Q E hr h=>?_
  ·obtain ⟨d,t,m,n,a,met,ps,js,sg,rfl,pn,yv,ht,ha,hm,hmn,hn,h12,q⟩:=h
   have:n=0:=by omega
   subst this
   refine WSs.step (Yj (Zr (r:=Zat K) (Za4 hr) (pv 3) Zf (Z9 _)) Zy Zw) ⟨_,rfl,.inl ⟨rfl,_,rfl,Yo (fun _=>?_) (fun z=>absurd rfl z)⟩⟩
   exact WSs.last (Zq (Zl Za)) ⟨sz (by simp),fun l H1 s1 n1 e1=>q l H1 s1 n1 ⟨[],e1,.nil⟩⟩
 | N+1=>by
  have ih:=Ziq T N
  refine T.d__law_on.F.okW Zcd fun cdv A outer s H vs Q E hr h=>?_
  ·obtain ⟨d,t,m,n,a,met,ps,js,sg,rfl,pn,yv,ht,ha,hm,hmn,hn,h12,q⟩:=h
   refine WSs.step (Yj (Zr (r:=Zat K) (Za4 hr) (pv 3) Zf (Z9 _)) Zy Zw) ⟨_,rfl,.inl ⟨rfl,_,rfl,Yo (fun z=>?_) (fun z=>?_)⟩⟩
   ·have:n=0:=by have:=V.int.inj (of_decide_eq_true z);omega
    subst this
    exact WSs.last (Zq (Zl Za)) ⟨sz (by simp),fun l H1 s1 n1 e1=>q l H1 s1 n1 ⟨[],e1,.nil⟩⟩
   obtain ⟨n,rfl⟩:∃n',n=n'+1:=⟨n-1,by
    have:n≠0:=fun y=>z (by rw [y];exact decide_eq_true rfl)
    omega⟩
   refine WSs.step (Z2 (i:=4) Zcd.nd (Zl Za)) ⟨sz (by simp),fun lf H1 s1 n1 e1=>?_⟩
   obtain ⟨k,hk,hek⟩:=Zju (nm:=a.1) (en:=a.2) ha
   have hst:=Znr yv hk hek
   rw [Zex] at q
   refine WSs.step (Xu PassesOwn.never rfl (Yp (Zx (Zmr T (by omega)) hr rfl T.m__law_into T.d__law_into.F.kp T.d__law_into.b .nil Z6 (Zb (pv 0) (Zb (pv 1) Za)))) (Yw (i:=5) Zcd.nd) Zy) ⟨_,rfl,_,rfl,d,t,k,a.1,a.2,ps,js,sg,rfl,pn.mono s1,yv,ht.mono s1,hk,hek,fun l2 H2 s2 n2 ⟨us,h2,hus⟩=>⟨l2,rfl,⟨_,SqL.of h2⟩,Xr (K:=K) (xs:=us.map V.ref) (fun i σ H'=>∃o5 o6,σ=[some (.ref d),some (.ref t),some (.ref m),some (.int (n+1:Nat)),some (.ref lf),o5,o6]/\Same H H'/\H' l2=some (.lst (us.map V.ref))/\Paired (Xl H') us (Yx ps a.1 a.2)/\Zee H' lf (((Yx ps a.1 a.2).take i).flatMap (Wh ps js sg n met))) ⟨none,none,rfl,s1.trans s2,h2,by rw [hst];exact hus,[],s2.at e1,.nil⟩ ?_ ?_ ?_⟩⟩
   ·rintro i σ H' _ ⟨_,_,_,_,h,_⟩
    exact SqL.of h
   ·rintro i v σ H3 hi ⟨o5,o6,rfl,s3,h3,hu3,hf3⟩
    rw [List.getElem?_map] at hi
    obtain ⟨tq,htq,rfl⟩:=Option.map_eq_some_iff.mp hi
    obtain ⟨qq,hqq,rq⟩:=Paired.get hu3 htq
    have hqm:=List.mem_of_getElem? hqq
    have rq:H3 tq=some (.tup [.str qq.1,.str qq.2.1,.str qq.2.2.1,.str qq.2.2.2]):=rq
    have hfl:((Yx ps a.1 a.2).take (i+1)).flatMap (Wh ps js sg n met)=((Yx ps a.1 a.2).take i).flatMap (Wh ps js sg n met)++Wh ps js sg n met qq:=by
     rw [List.take_add_one,hqq,List.flatMap_append]
     simp
    have hm3:=s3.at hm
    obtain ⟨fs,f1,f2⟩:=hf3
    have hfs:fs.length<=4096:=by
     have h1:=Zif (l:=(Yx ps a.1 a.2).take i) (f:=Wh ps js sg n met) (B:=2048) (fun q _=>Znx yv (by omega))
     have h2:=Zdu yv (nm:=a.1) (en:=a.2)
     have h3:=Paired.length f2
     rw [List.length_take] at h1
     omega
    have nl:l2≠lf:=fun z=>by rw [z,e1] at n2;cases n2
    refine WSs.last (Yj (PW.pt (Zia (Zr (r:=Zbz K) (Zcj hr) (Zv (r:=rIx K) Zk (pv 5) Zf (fun _ _=>rfl)) (pv 2) (by with_unfolding_all rfl)) (Zew (Zad (Zx (Zhr T (by omega)) hr rfl T.m__law_ends_so T.d__law_ends_so.F.kp T.d__law_ends_so.b .nil Z6 (Zb (pv 0) (Zb (pv 5) Za))))))) Zy Zy) ⟨_,rfl,.inr (.inl ⟨tq,_,0,_,rfl,rfl,SqT.of rq,Zt (j:=0) rfl,_,rfl,.inl ⟨m,_,rfl,.inl (SqL.of hm3),rfl,Zbc _,_,rfl,?_⟩⟩)⟩
    rw [if_pos rfl,Zau]
    refine Yo (fun y=>?_) (fun y=>?_)
    rotate_left
    ·have y:qq.1∈met:=by
      have:(!decide (qq.1∈met))=false:=by simpa using y
      exact of_decide_eq_true (by simpa using this)
     refine WSs.last (Yj (Zr (r:=Zbz K) (Zcj hr) (Zv (r:=rIx K) Zk (pv 5) Zf (fun _ _=>rfl)) (pv 2) (by with_unfolding_all rfl)) Zy Zw) ⟨_,rfl,.inr (.inl ⟨tq,_,0,_,rfl,rfl,SqT.of rq,Zt (j:=0) rfl,_,rfl,.inl ⟨m,_,rfl,.inl (SqL.of hm3),rfl,Zbc _,_,rfl,?_⟩⟩)⟩
     rw [if_pos rfl,Zau,decide_eq_true y]
     refine Yo (fun z=>nomatch z) (fun _=>⟨_,_,rfl,s3,h3,hu3,fs,f1,?_⟩)
     rw [hfl]
     unfold Wh
     rw [if_pos y,List.append_nil]
     exact f2
    have y:qq.1∉met:=by
     have:(!decide (qq.1∈met))=true:=y
     simpa using this
    refine ⟨_,rfl,_,rfl,d,tq,qq,ps,js,sg,rfl,pn.mono s3,yv,rq,fun H4 s4=>⟨_,rfl,Yo (fun y2=>?_) (fun y2=>?_)⟩⟩
    ·refine WSs.last (Xm (Zcx PySem.F.plainAttrs_list PySem.F.slot_list_append PySem.F.type_list_append Y9 (pv 4) (Zb (Zg (Zb (pv 5) Za)) Za))) ⟨_,rfl,.inl ⟨rfl,_,SqL.of (s4.at f1)⟩,_,rfl,sz (by simp),fun t5 H5 s5 n5 e5=>⟨lf,_,_,rfl,rfl,s5.at (s4.at f1),?_,?_⟩⟩
     ·rw [List.length_map,sizeLine_eq];omega
     have s45:=s4.trans s5
     have fe:=s45.at f1
     refine ⟨_,_,rfl,(s3.trans s45).upd0 n1,(Zi nl).trans (s45.at h3),Paired.mapP hu3 fun _ _ r=>(r.mono s45).off fe,?_⟩
     rw [hfl]
     have:=Zee.add fe (Paired.mapP f2 fun _ _ r=>r.mono s45) (t:=t5) (ss:=[qq]) ⟨[tq],e5,.cons (Xl.mono s45 rq) .nil⟩
     unfold Wh
     rw [if_neg y,if_pos y2]
     exact this
    ·refine WSs.last (Yj (Zr (r:=Zbz K) (Zcj hr) (Zv (r:=rIx K) Zk (pv 5) Zf (fun _ _=>rfl)) (pv 2) (by with_unfolding_all rfl)) Zy Zw) ⟨_,rfl,.inr (.inl ⟨tq,_,0,_,rfl,rfl,SqT.of (s4.at rq),Zt (j:=0) rfl,_,rfl,.inl ⟨m,_,rfl,.inl (SqL.of (s4.at hm3)),rfl,Zbc _,_,rfl,?_⟩⟩)⟩
     rw [if_pos rfl,Zau,decide_eq_false y]
     refine Yo (fun _=>?_) (fun z=>absurd rfl z)
     have y2:Zaw sg qq=false:=by simpa using y2
     have hse:=Ztd yv hqm y2
     have s04:=s3.trans s4
     obtain ⟨kp',b',kj',t',m1,m2,m3,m4,m5⟩:=Zjv (pn.mono s04) yv hse
     have rq4:=s4.at rq
     refine WSs.last (Xu PassesOwn.never rfl (Yp (Zx ih hr rfl T.m__law_on T.d__law_on.F.kp T.d__law_on.b .nil Z6 (Zb (pv 0) (Zb (X1 (X0 hr) (X1 (X0 hr) (pv 0) Ze (fun _ _=>rfl)) (Zg (Zb (Zv (r:=rIx K) Zk (pv 5) Zf (fun _ _=>rfl)) (Zb (Zv (r:=rIx K) Zk (pv 5) Zf (fun _ _=>rfl)) Za))) (fun _ _=>rfl)) (Zb (Zp Zaa (pv 2) (Zl (Zb (Zv (r:=rIx K) Zk (pv 5) Zf (fun _ _=>rfl)) Za))) (Zb (Zp Zku (pv 3) Zf) Za)))))) (Yw (i:=6) Zcd.nd) Zy) ⟨_,rfl,_,rfl,d,_,rfl,by rw [<-m2];exact W9.k (k:=Yi "joined") m1,_,rfl,.inr (.inl ⟨tq,_,0,_,rfl,rfl,SqT.of rq4,Zt (j:=0) rfl,_,rfl,.inr (.inl ⟨tq,_,2,_,rfl,rfl,SqT.of rq4,Zt (j:=2) rfl,sz (by simp),fun u5 H5 s5 n5 e5=>⟨b',_,rfl,by rw [<-m4];exact W9.t (k:=Yl (qq.1,qq.2.2.1)) (s5.at m3) e5,?_⟩⟩)⟩)⟩
     refine ⟨_,rfl,_,rfl,.inr (.inl ⟨tq,_,0,_,rfl,rfl,SqT.of (s5.at rq4),Zt (j:=0) rfl,sz (by simp),fun lm H6 s6 n6 e6=>.inr (.inr ⟨m,lm,_,_,rfl,rfl,s6.at (s5.at (s4.at hm3)),e6,by rw [List.length_map];exact sz (by show _+1<=_;omega),fun l7 H7 s7 n7 e7=>?_⟩)⟩)⟩
     have s47:=s5.trans (s6.trans s7)
     have s07:=s04.trans s47
     refine ⟨_,rfl,_,_,rfl,rfl,d,t',l7,n,bey js (qq.1,qq.2.2.1),met++[qq.1],ps,js,sg,?_,pn.mono s07,yv,m5.mono s47,Zo5 yv hse,by rw [e7,List.map_append];rfl,by rw [List.length_append];show _+1+_<=_;omega,by omega,by omega,fun l8 H8 s8 n8 ⟨ws,w1,w2⟩=>?_⟩
     ·show [V.ref d,V.ref t',V.ref l7,V.int (((n+1:Nat):Int)-1)]=[V.ref d,V.ref t',V.ref l7,V.int (n:Int)]
      rw [show ((n+1:Nat):Int)-1=(n:Int) by omega]
     have s38:=s4.trans (s47.trans s8)
     have s08:=s3.trans s38
     have hin:∀r∈Zb9 ps js sg n (bey js (qq.1,qq.2.2.1)) (met++[qq.1]),r≠[]/\r.length<=n:=fun r hr=>Zhe n hr
     have hfew:=Zdn yv n (a:=bey js (qq.1,qq.2.2.1)) (met:=met++[qq.1])
     have hfew:(Zb9 ps js sg n (bey js (qq.1,qq.2.2.1)) (met++[qq.1])).length<=2048:=Nat.le_trans hfew (show 2 ^ n<=2 ^ 11 from Nat.pow_le_pow_right (by decide) (by omega))
     have hone:Wh ps js sg n met qq=(Zb9 ps js sg n (bey js (qq.1,qq.2.2.1)) (met++[qq.1])).map (qq ::·):=by unfold Wh;rw [if_neg y,if_neg (by rw [y2];decide)]
     rw [hone] at hfl
     generalize hR:Zb9 ps js sg n (bey js (qq.1,qq.2.2.1)) (met++[qq.1])=R at hfl w2 hin hfew
     generalize hP:((Yx ps a.1 a.2).take i).flatMap (Wh ps js sg n met)=Pr at hfl f2
     have hwl:=Paired.length w2
     have nlf:l8≠lf:=fun z=>by rw [z,(s4.trans s47).at f1] at n8;cases n8
     let I28:=fun (j:Nat) (σ:St) (H':Hp)=>∃o6,σ=[some (.ref d),some (.ref t),some (.ref m),some (.int (n+1:Nat)),some (.ref lf),some (.ref tq),o6]/\Same H H'/\H' l2=some (.lst (us.map V.ref))/\Paired (Xl H') us (Yx ps a.1 a.2)/\H' l8=some (.lst (ws.map V.ref))/\Paired (Zd6 H') ws R/\Xl H' tq qq/\Zee H' lf (Pr++(R.take j).map (qq ::·))
     refine ⟨l8,rfl,⟨_,SqL.of w1⟩,Xr (K:=K) (xs:=ws.map V.ref) I28 ⟨_,rfl,s08,s38.at h3,Paired.mapP hu3 fun _ _ r=>r.mono s38,w1,w2,s38.at rq,fs,s38.at f1,by rw [List.take_zero,List.map_nil,List.append_nil];exact Paired.mapP f2 fun _ _ r=>r.mono s38⟩ ?_ ?_ ?_⟩
     ·rintro j σ H' _ ⟨_,_,_,_,_,h,_⟩
      exact SqL.of h
     ·rintro j v σ H9 hj ⟨o6',rfl,s9,h9,hu9,hl9,hw9,rq9,gs,g1,g2⟩
      rw [List.getElem?_map] at hj
      obtain ⟨tr,htr,rfl⟩:=Option.map_eq_some_iff.mp hj
      obtain ⟨rr,hrr,vs,v1,v2⟩:=Paired.get hw9 htr
      have hrm:=hin rr (List.mem_of_getElem? hrr)
      have hvl:=Paired.length v2
      have hgs:=Paired.length g2
      have hPl:=Paired.length f2
      rw [List.length_append,List.length_map,List.length_take] at hgs
      refine WSs.last (Xm (Zcx PySem.F.plainAttrs_list PySem.F.slot_list_append PySem.F.type_list_append Y9 (pv 4) (Zb (Zp Zeo (Zg (Zb (pv 5) Za)) (pv 6)) Za))) ⟨_,rfl,.inl ⟨rfl,_,SqL.of g1⟩,_,rfl,sz (by simp),fun t9 H10 s10 n10 e10=>⟨_,rfl,t9,tr,_,_,rfl,rfl,SqT.of e10,SqT.of (s10.at v1),by simp,?_,?_,fun t11 H11 s11 n11 e11=>⟨lf,_,_,rfl,rfl,s11.at (s10.at g1),?_,?_⟩⟩⟩
      ·intro z
       exact hrm.1 (List.length_eq_zero_iff.mp (by rw [<-hvl,List.map_eq_nil_iff.mp z];rfl))
      ·rw [List.length_map];exact sz (by show 1+_<=_;omega)
      ·rw [List.length_map,sizeLine_eq];omega
      have s911:=s10.trans s11
      have fe:=s911.at g1
      refine ⟨_,rfl,(s9.trans s911).upd0 n1,(Zi nl).trans (s911.at h9),Paired.mapP hu9 fun _ _ r=>(r.mono s911).off fe,(Zi nlf).trans (s911.at hl9),Paired.mapP hw9 fun _ _ r=>(r.mono s911).off fe,(Xl.mono s911 rq9).off fe,?_⟩
      have e12:Pr++(R.take (j+1)).map (qq ::·)=Pr++(R.take j).map (qq ::·)++[qq ::rr]:=by
       rw [List.take_add_one,hrr,List.map_append,<-List.append_assoc];rfl
      rw [e12]
      exact Zee.add fe (Paired.mapP g2 fun _ _ r=>r.mono s911) ⟨tq ::vs,e11,.cons (Xl.mono s911 rq9) (Paired.mapP v2 fun _ _ r=>r.mono s911)⟩
     ·rintro σ H9 ⟨o6',rfl,s9,h9,hu9,hl9,hw9,rq9,hf9⟩
      rw [List.length_map,hwl,List.take_length] at hf9
      exact ⟨_,_,rfl,s9,h9,hu9,by rw [hfl];exact hf9⟩
   ·rintro σ H3 ⟨o5,o6,rfl,s3,h3,hu3,hf3⟩
    have hul:=Paired.length hu3
    rw [List.length_map,hul,List.take_length] at hf3
    exact WSs.last (Zq (pv 4)) ⟨_,rfl,q lf H3 s3 n1 hf3⟩
theorem Zq4(T:Tx K mg){k:Nat}(h:15<=k:=by decide):Zz P w K mg base CX0 k T.d__law_on.f T.d__law_on.fd ["_law_plan", "_law_into_here", "_law_met", "_law_many"] (Zv1 12):=(Ziq T 12).mono h
section
variable {ps:List Zc} {js:List (Zc×Zc)} {sg:List (Str×Str×Str)} {e:Zc}
theorem Zf6{α β:Type}{p:α->Bool}{f:α->List β}:∀l:List α,(l.filter p).flatMap f=l.flatMap fun x=>if p x=true then f x else []
 | []=>rfl
 | x ::l=>by
  rw [List.flatMap_cons,<-Zf6 l]
  cases h:p x with
  | true=>rw [List.filter_cons_of_pos h,List.flatMap_cons];rfl
  | false=>rw [List.filter_cons_of_neg (by rw [h];decide)];rfl
theorem Ztv:∀(n:Nat) {ss:List S4},ss.length+n=12->goL ps js sg e (n+1) ss=(Zb9 ps js sg n (bey js (Zaf e ss)) (e.1 ::ss.map Prod.fst)).map (ss ++ ·)
 | 0,ss,h=>by
  show (onL ps js e ss).flatMap _=_
  rw [Zk0 (by omega)]
  rfl
 | n+1,ss,h=>by
  show (onL ps js e ss).flatMap _=_
  have he:onL ps js e ss=(Yx ps (bey js (Zaf e ss)).1 (bey js (Zaf e ss)).2).filter fun q=>decide (q.1∉e.1 ::ss.map Prod.fst):=by unfold onL;rw [if_neg (by omega)]
  rw [he,Zf6,Zex,List.map_flatMap]
  refine congrArg (fun f=>List.flatMap f (Yx ps (bey js (Zaf e ss)).1 (bey js (Zaf e ss)).2)) (funext fun q=>?_)
  unfold Wh
  by_cases z:q.1∈e.1 ::ss.map Prod.fst
  ·rw [if_pos z,if_neg (fun y=>(of_decide_eq_true y:q.1∉e.1 ::ss.map Prod.fst) z)];rfl
  rw [if_neg z,if_pos (decide_eq_true z)]
  by_cases y:Zaw sg q=true
  ·rw [if_pos y,if_pos y];rfl
  rw [if_neg y,if_neg y]
  have ih:=Ztv n (ss:=ss++[q]) (by rw [List.length_append];show _+1+n=12;omega)
  have hle:Zaf e (ss++[q])=(q.1,q.2.2.1):=by unfold Zaf;rw [List.getLast?_concat]
  rw [hle,List.map_append,<-List.cons_append] at ih
  refine ih.trans ?_
  rw [List.map_map]
  refine List.map_congr_left fun r _=>?_
  show ss++[q]++r=ss++q ::r
  rw [List.append_assoc];rfl
theorem Zu8:Zgx ps js sg e []=Zb9 ps js sg 12 (bey js e) [e.1]:=(Ztv 12 (ss:=[]) rfl).trans (List.map_id _)
end
def trR(sig:Str)(ss:List S4):Tr:=.tup (.str sig ::ss.map Zwo)
theorem Im.pair{H:Hp}{n:Nat}{α:Type}{R:Addr->α->Prop}{f:α->Tr}{ts:List Addr}{xs:List α}(h:Paired R ts xs)(hR:∀a x,R a x->Im K H n (f x) (.ref a)):Paired (Im K H n) (xs.map f) (ts.map V.ref):=by
 induction h with
 | nil=>exact .nil
 | cons r _ ih=>exact .cons (hR _ _ r) ih
theorem W2.im{H:Hp}{l:Addr}{sig:Str}{rs:List (List S4)}(h:W2 H l sig rs):Im K H 3 (.lst (rs.map (trR sig))) (.ref l):=by
 obtain ⟨ts,h1,h2⟩:=h
 exact Im.lst (n:=2) (SqL.of h1) (Im.pair h2 fun t ss ⟨us,g1,g2⟩=>Im.tup (n:=1) (SqT.of g1) (.cons (.str _) (Zwt g2)))
def Zpm(K:Frag):Sp:=fun vs H Q _=>∃(a:Addr) (ns:List Int),vs=[.ref a]/\SqL K H a (ns.map V.int)/\ns.length<=63/\∀H',Q (.bl true) H'
theorem Zxa{f:Addr}{fd:FuncData} (F:Fun K "law" "law" Zey f fd) (T:Tx K mg):Zz P w K mg base CX0 20 f fd ["_law_script"] (Zpm K):=by
 refine F.okW Zek fun cdv A outer s H vs Q E hr h=>?_
 ·obtain ⟨a,ns,rfl,hS,hns,q⟩:=h
  refine WSs.step (Z2 (i:=1) Zek.nd (Zx (Zik T) hr rfl T.m__law_yard_by T.d__law_yard_by.F.kp T.d__law_yard_by.b .nil Z6 (Zb (Zx (Zk8 T) hr rfl T.m__law_cells T.d__law_cells.F.kp T.d__law_cells.b .nil Z6 (Zb (pv 0) (Zb Zf (Zb Zf Za)))) (Zb (Zx (Zis T) hr rfl T.m__law_cell_at T.d__law_cell_at.F.kp T.d__law_cell_at.b .nil Z6 (Zb (pv 0) (Zb Zf Za))) Za)))) ⟨_,rfl,a,ns,2,16,rfl,hS,hns,by decide,by decide,fun cl H1 cs s1 n1 e1 hc hcl=>⟨_,rfl,a,ns,0,rfl,s1.seq hS,cl,_,cs,rfl,SqL.of e1,fun c h=>(hc c h).1,hcl,fun t pl jl sl H2 ps js sg s2 ht hP hJ hG yo=>?_⟩⟩
  have hya:Zfk H2 t ps js sg:=⟨pl,jl,sl,ht,hP,hJ,hG⟩
  have yv:=yo.v
  refine WSs.step (Z2 (i:=2) Zek.nd (Zx (Zjd T) hr rfl T.m__law_tracks T.d__law_tracks.F.kp T.d__law_tracks.b .nil Z6 (Zb (pv 1) Za))) ⟨_,rfl,t,ps,js,sg,rfl,hya,yv,fun x H3 s3 n3 tr=>?_⟩
  refine WSs.step (Z2 (i:=3) Zek.nd (Zx (Zou T) hr rfl T.m__law_map T.d__law_map.F.kp T.d__law_map.b .nil Z6 (Zb (pv 1) Za))) ⟨_,rfl,t,ps,js,sg,rfl,hya.mono s3,yv,fun d H4 s4 n4 pn=>?_⟩
  have s24:=s3.trans s4
  obtain ⟨gs,hgl,hgs⟩:=hG.mono s24
  have ht:=s24.at ht
  have tr:=tr.mono s4
  let I29:=fun (i:Nat) (σ:St) (H':Hp)=>(∃o4 o5 o6,σ=[some (.ref a),some (.ref t),some (.ref x),some (.ref d),o4,o5,o6])/\Same H4 H'
  refine WSs.step (Xu PassesOwn.never rfl (Yp (Zv (r:=rIx K) Zk (pv 1) Zf (fun _ _=>rfl))) (Yw (i:=4) Zek.nd) Zy) ⟨_,rfl,.inr (.inl ⟨t,_,2,_,rfl,rfl,SqT.of ht,Zt (j:=2) rfl,sl,rfl,⟨_,SqL.of hgl⟩,Xr (K:=K) (xs:=gs.map V.ref) I29 ⟨⟨none,none,none,rfl⟩,Same.refl _⟩ ?_ ?_ ?_⟩)⟩
  ·rintro i σ H' _ ⟨_,sm⟩
   exact SqL.of (sm.at hgl)
  ·rintro i v σ H5 hi ⟨⟨o4,o5,o6,rfl⟩,s5⟩
   rw [List.getElem?_map] at hi
   obtain ⟨tg,htg,rfl⟩:=Option.map_eq_some_iff.mp hi
   obtain ⟨⟨sig,e⟩,hg,rg⟩:=Paired.get hgs htg
   have hg:=List.mem_of_getElem? hg
   have he:e∈Z8 ps:=Zuo yv (g:=(sig,e)) hg
   have rg:H5 tg=some (.tup [.str sig,.str e.1,.str e.2]):=s5.at rg
   have pn5:=pn.mono s5
   obtain ⟨kp,b,kj,t0,k1,k2,k3,k4,k5⟩:=Zjv pn5 yv he
   refine WSs.step (Z2 (i:=5) Zek.nd (X1 (X0 hr) (X1 (X0 hr) (pv 3) Ze (fun _ _=>rfl)) (Zg (Zb (Zv (r:=rIx K) Zk (pv 4) Zf (fun _ _=>rfl)) (Zb (Zv (r:=rIx K) Zk (pv 4) Zf (fun _ _=>rfl)) Za))) (fun _ _=>rfl))) ⟨_,rfl,d,_,rfl,by rw [<-k2];exact W9.k (k:=Yi "joined") k1,_,rfl,.inr (.inl ⟨tg,_,1,_,rfl,rfl,SqT.of rg,Zt (j:=1) rfl,_,rfl,.inr (.inl ⟨tg,_,2,_,rfl,rfl,SqT.of rg,Zt (j:=2) rfl,sz (by simp),fun u H6 s6 n6 e6=>⟨b,_,rfl,by rw [<-k4];exact W9.t (k:=Yl e) (s6.at k3) e6,?_⟩⟩)⟩)⟩
   have rg:=s6.at rg
   refine WSs.step (Z2 (i:=6) Zek.nd (Yb (r:=Zod K) (Zhs hr.units) (by rfl) T.n_sorted PyProof.Rows.boot_sorted (Zb (Wr (N':=["_law_steps", "_law_row"]) rfl (Yd.std 1 [4] rfl (by trivial) (by trivial) rfl ⟨rfl,trivial⟩ rfl rfl ⟨⟨_,rfl,rfl,rfl⟩,trivial⟩) (Yp (Zx (Zq4 T) hr rfl T.m__law_on T.d__law_on.F.kp T.d__law_on.b .nil Z6 (Zb (pv 3) (Zb (pv 5) (Zb (Zl (Zb (Zv (r:=rIx K) Zk (pv 4) Zf (fun _ _=>rfl)) Za)) (Zb Zf Za)))))) (fun _ _ _ _=>(Zci (i:=0) (by show (["_law_steps", "_law_row"]:List Str).Nodup;decide +kernel))) (fun _ _ _ _=>Za2) (fun _ _ _ _=>(Zp (r:=Znq K) Zeo (Zg (Zb (Zv (r:=rIx K) Zk (pv 1) Zf (fun _ _=>rfl)) Za)) (pv 0)))) Za))) ⟨_,rfl,_,rfl,_,rfl,.inr (.inl ⟨tg,_,1,_,rfl,rfl,SqT.of rg,Zt (j:=1) rfl,sz (by simp),fun lm H7 s7 n7 e7=>⟨d,t0,lm,12,bey js e,[e.1],ps,js,sg,rfl,(pn5.mono s6).mono s7,yv,(k5.mono s6).mono s7,Zo5 yv he,e7,by show 1+12<=20;decide,by decide,by decide,fun l8 H8 s8 n8 ⟨ws,w1,w2⟩=>⟨l8,rfl,⟨_,SqL.of w1⟩,fun D hD=>?_⟩⟩⟩)⟩
   have hR:∀r∈Zb9 ps js sg 12 (bey js e) [e.1],r≠[]/\r.length<=12:=fun r hr=>Zhe 12 hr
   have hRl:(Zb9 ps js sg 12 (bey js e) [e.1]).length<=4096:=Zdn yv 12
   have hall:=Zu8 (ps:=ps) (js:=js) (sg:=sg) (e:=e)
   generalize Zb9 ps js sg 12 (bey js e) [e.1]=R at w2 hR hRl hall
   have hwl:=Paired.length w2
   have s68:=s7.trans s8
   have rg:=s68.at rg
   refine Xw (K:=K) (xs:=ws.map V.ref) (fun i ys H'=>(∃ts:List Addr,ys=ts.map V.ref/\Paired (fun t ss=>Zcg H' t sig ss) ts (R.take i))/\H' D=some (.lst ys)/\Same H8 H') ⟨⟨[],rfl,.nil⟩,Zh,Same.new hD⟩ ?_ ?_ ?_
   ·rintro i ys H' _ ⟨_,_,sm⟩
    exact SqL.of (sm.at w1)
   ·rintro i v ys H9 hi ⟨⟨ts,rfl,hts⟩,hD9,s9⟩
    rw [List.getElem?_map] at hi
    obtain ⟨tw,htw,rfl⟩:=Option.map_eq_some_iff.mp hi
    obtain ⟨rr,hrr,vs,v1,v2⟩:=Paired.get w2 htw
    have hrm:=hR rr (List.mem_of_getElem? hrr)
    have hvl:=Paired.length v2
    have htl:=Paired.length hts
    rw [List.length_take] at htl
    refine ⟨Zaq.set rfl,_,rfl,.inr (.inl ⟨tg,_,0,_,rfl,rfl,SqT.of (s9.at rg),Zt (j:=0) rfl,sz (by simp),fun t10 H10 s10 n10 e10=>⟨_,rfl,t10,tw,_,_,rfl,rfl,SqT.of e10,SqT.of (s10.at (s9.at v1)),by simp,?_,?_,fun t11 H11 s11 n11 e11=>⟨s11.at (s10.at hD9),?_,⟨ts++[t11],by rw [List.map_append];rfl,?_⟩,Zh,fun b o y=>?_⟩⟩⟩)⟩
    ·intro z
     exact hrm.1 (List.length_eq_zero_iff.mp (by rw [<-hvl,List.map_eq_nil_iff.mp z];rfl))
    ·rw [List.length_map];exact sz (by show 1+_<=_;omega)
    ·rw [List.length_map,sizeLine_eq];omega
    ·have s911:=s10.trans s11
     have fe:=s911.at hD9
     rw [List.take_add_one,hrr]
     exact Paired.append (Paired.mapP hts fun _ _ r=>(r.mono s911).off fe) (.cons (Zcg.off ⟨vs,e11,Paired.mapP v2 fun _ _ r=>(Xl.mono s9 r).mono s911⟩ fe) .nil)
    ·rw [Zi (Zj y hD)];exact (s9.trans (s10.trans s11)).at y
   rintro ys H9 ⟨⟨ts,rfl,hts⟩,hD9,s9⟩
   rw [List.length_map,hwl,List.take_length] at hts
   refine ⟨D,ts,sig,rtF H9 sig,rfl,SqL.of hD9,Znc hts,fun ts' hp' hw lu H10 s10 n10 e10=>?_⟩
   obtain ⟨rs2,p1,p2⟩:=Zjt hp' hts
   have up2:=Zs6 p2 hw
   have rt2:W2 H10 lu sig rs2:=⟨ts',e10,Paired.mapP p2 fun _ _ r=>r.mono s10⟩
   have s510:=s6.trans (s68.trans (s9.trans s10))
   refine WSs.last (Yj (Zr (r:=Ziz K) (Zmh hr) (Zx (Zjm T) hr rfl T.m_routes_from T.d_routes_from.F.kp T.d_routes_from.b .nil Z6 (Zb (pv 2) (Zb (Zv (r:=rIx K) Zk (pv 4) Zf (fun _ _=>rfl)) Za))) (pv 6) (Z9 _)) Zy Zw) ⟨_,rfl,_,rfl,.inr (.inl ⟨tg,_,0,_,rfl,rfl,SqT.of ((s9.trans s10).at rg),Zt (j:=0) rfl,x,(sig,e),ps,js,sg,rfl,(tr.mono s5).mono s510,yv,hg,fun l11 rs H11 s11 n11 rt1 p3 up1=>⟨_,rfl,.inr (.inl ⟨3,.lst (rs.map (trR sig)),.lst (rs2.map (trR sig)),by decide,.inr ⟨_,_,rfl,rfl⟩,rt1.im,(rt2.mono s11).im,_,rfl,?_⟩)⟩⟩)⟩
   rw [hall] at p3
   have e12:rs=rs2:=List.map_inj_right (fun _ _ z=>Zsx z) |>.mp (Zth ((p3.trans p1.symm).map Zk7) up1 up2)
   subst e12
   rw [decide_eq_true rfl]
   exact Yo (fun z=>nomatch z) (fun _=>⟨⟨_,_,_,rfl⟩,s5.trans (s510.trans s11)⟩)
  ·rintro σ H5 ⟨⟨o4,o5,o6,rfl⟩,s5⟩
   exact WSs.last (Zq Zph) (q _)
end
end K23
end
namespace K23
open PySem L2 NM YM
section
end
theorem Zae{α:Type}:∀{us:List α},us.length=1->∃a,us=[a]
 | [a],_=>⟨a,rfl⟩
theorem Xz{α:Type}:∀{us:List α},us.length=2->∃a b,us=[a,b]
 | [a,b],_=>⟨a,b,rfl⟩
theorem Zo3{α:Type}:∀{us:List α},us.length=3->∃a b c,us=[a,b,c]
 | [a,b,c],_=>⟨a,b,c,rfl⟩
theorem Zv0{α:Type}:∀{us:List α},us.length=4->∃a b c d,us=[a,b,c,d]
 | [a,b,c,d],_=>⟨a,b,c,d,rfl⟩
theorem all_mk{l:PySem.W.OpenLaw}{w:World}{K:Frag}{h:Heap}{mg:Str->Option Value}{fa f0 f1 f2 f3 f4 f5 f6 f7 f8 f9 f10 f11 f12 f13 f14 f15 f16 f17 f18 f19 f20 f21 f22 f23 f24 f25 f26 f27 f28 f29 f30 f31 f32 f33 f34 f35 f36 f37 f38 f39 f40 f41 f42 f43 f44 f45 f46 f47 f48 f49 f50 f51 f52 f53 f54 cPart cPlain cStop cGate cPoints cCross cTracks:Addr}(X:K.In h)(G:h.Ns mainGlobals mg) (hfa:mg "law" =some (.ref fa))
  {tk_LETTERS:Tok} {tk_FIGURES:Tok}
  {td5:Addr} {dod5:Option Addr} {dsl5:Array (Option Value)} {doc5:Value} {dn5:Nat} {dtk5:Tok} {td30:Addr} {dod30:Option Addr} {dsl30:Array (Option Value)} {doc30:Value} {dn30:Nat} {tk_LONGEST_NAME:Tok} {tk_MOST_PARTS:Tok} {tk_MOST_SIGNALS:Tok} {tk_MOST_STEPS:Tok} {at_NO_END:Addr} {aod_NO_END:Option Addr} {asl_NO_END:Array (Option Value)} {an_NO_END:Nat} {atk0_NO_END atk1_NO_END:Tok}
  {od0 an0 od1 an1 od2 an2 od3 an3 od4 an4 od5 an5 od6 an6 od7 an7 od8 an8 od9 an9 od10 an10 od11 an11 od12 an12 od13 an13 od14 an14 od15 an15 od16 an16 od17 an17 od18 an18 od19 an19 od20 an20 od21 an21 od22 an22 od23 an23 od24 an24 od25 an25 od26 an26 od27 an27 od28 an28 od29 an29 od30 an30 od31 an31 od32 an32 od33 an33 od34 an34 od35 an35 od36 an36 od37 an37 od38 an38 od39 an39 od40 an40 od41 an41 od42 an42 od43 an43 od44 an44 od45 an45 od46 an46 od47 an47 od48 an48 od49 an49 od50 an50 od51 an51 od52 an52 od53 an53 od54 an54:Option Addr} {sl0 sl1 sl2 sl3 sl4 sl5 sl6 sl7 sl8 sl9 sl10 sl11 sl12 sl13 sl14 sl15 sl16 sl17 sl18 sl19 sl20 sl21 sl22 sl23 sl24 sl25 sl26 sl27 sl28 sl29 sl30 sl31 sl32 sl33 sl34 sl35 sl36 sl37 sl38 sl39 sl40 sl41 sl42 sl43 sl44 sl45 sl46 sl47 sl48 sl49 sl50 sl51 sl52 sl53 sl54:Array (Option Value)} {oc0 kV0 dc0 pm0 cd0 ct0 oc1 kV1 dc1 pm1 cd1 ct1 oc2 kV2 dc2 pm2 cd2 ct2 oc3 kV3 dc3 pm3 cd3 ct3 oc4 kV4 dc4 pm4 cd4 ct4 oc5 kV5 dc5 pm5 cd5 ct5 oc6 kV6 dc6 pm6 cd6 ct6 oc7 kV7 dc7 pm7 cd7 ct7 oc8 kV8 dc8 pm8 cd8 ct8 oc9 kV9 dc9 pm9 cd9 ct9 oc10 kV10 dc10 pm10 cd10 ct10 oc11 kV11 dc11 pm11 cd11 ct11 oc12 kV12 dc12 pm12 cd12 ct12 oc13 kV13 dc13 pm13 cd13 ct13 oc14 kV14 dc14 pm14 cd14 ct14 oc15 kV15 dc15 pm15 cd15 ct15 oc16 kV16 dc16 pm16 cd16 ct16 oc17 kV17 dc17 pm17 cd17 ct17 oc18 kV18 dc18 pm18 cd18 ct18 oc19 kV19 dc19 pm19 cd19 ct19 oc20 kV20 dc20 pm20 cd20 ct20 oc21 kV21 dc21 pm21 cd21 ct21 oc22 kV22 dc22 pm22 cd22 ct22 oc23 kV23 dc23 pm23 cd23 ct23 oc24 kV24 dc24 pm24 cd24 ct24 oc25 kV25 dc25 pm25 cd25 ct25 oc26 kV26 dc26 pm26 cd26 ct26 oc27 kV27 dc27 pm27 cd27 ct27 oc28 kV28 dc28 pm28 cd28 ct28 oc29 kV29 dc29 pm29 cd29 ct29 oc30 kV30 dc30 pm30 cd30 ct30 oc31 kV31 dc31 pm31 cd31 ct31 oc32 kV32 dc32 pm32 cd32 ct32 oc33 kV33 dc33 pm33 cd33 ct33 oc34 kV34 dc34 pm34 cd34 ct34 oc35 kV35 dc35 pm35 cd35 ct35 oc36 kV36 dc36 pm36 cd36 ct36 oc37 kV37 dc37 pm37 cd37 ct37 oc38 kV38 dc38 pm38 cd38 ct38 oc39 kV39 dc39 pm39 cd39 ct39 oc40 kV40 dc40 pm40 cd40 ct40 oc41 kV41 dc41 pm41 cd41 ct41 oc42 kV42 dc42 pm42 cd42 ct42 oc43 kV43 dc43 pm43 cd43 ct43 oc44 kV44 dc44 pm44 cd44 ct44 oc45 kV45 dc45 pm45 cd45 ct45 oc46 kV46 dc46 pm46 cd46 ct46 oc47 kV47 dc47 pm47 cd47 ct47 oc48 kV48 dc48 pm48 cd48 ct48 oc49 kV49 dc49 pm49 cd49 ct49 oc50 kV50 dc50 pm50 cd50 ct50 oc51 kV51 dc51 pm51 cd51 ct51 oc52 kV52 dc52 pm52 cd52 ct52 oc53 kV53 dc53 pm53 cd53 ct53 oc54 kV54 dc54 pm54 cd54 ct54:Value}
  (z_aa:nsIn K mainGlobals "Part" =some (some (.ref cPart)))
  (z_ab:nsIn K mainGlobals "Plain" =some (some (.ref cPlain)))
  (z_ac:nsIn K mainGlobals "Stop" =some (some (.ref cStop)))
  (z_ad:nsIn K mainGlobals "Gate" =some (some (.ref cGate)))
  (z_ae:nsIn K mainGlobals "Points" =some (some (.ref cPoints)))
  (z_af:nsIn K mainGlobals "Cross" =some (some (.ref cCross)))
  (z_ag:nsIn K mainGlobals "Tracks" =some (some (.ref cTracks)))
  (a0:nsIn K mainGlobals "is_name" =some (some (.ref f0)))
  (l0:K.lookup f0=some ⟨oc0,od0,.func (fnOf "is_name" "is_name" (Zn Zb6) (Zm Zb6) (Zd Zb6) .none kV0 dc0 pm0 an0 cd0 ct0),sl0⟩)
  (e0:codeIn K cd0 "is_name" =true)
  (k0:keepIn K (.ref f0)=true)
  (a1:findIn K (.ref cPart) "__init__" =some (some (.ref f1)))
  (l1:K.lookup f1=some ⟨oc1,od1,.func (fnOf "__init__" "Part.__init__" (Zn Xi) (Zm Xi) (Zd Xi) .none kV1 dc1 pm1 an1 cd1 ct1),sl1⟩)
  (e1:codeIn K cd1 "Part.__init__" =true)
  (k1:keepIn K (.ref f1)=true)
  (a2:findIn K (.ref cPart) "ends" =some (some (.ref f2)))
  (l2:K.lookup f2=some ⟨oc2,od2,.func (fnOf "ends" "Part.ends" (Zn Zao) (Zm Zao) (Zd Zao) .none kV2 dc2 pm2 an2 cd2 ct2),sl2⟩)
  (e2:codeIn K cd2 "Part.ends" =true)
  (k2:keepIn K (.ref f2)=true)
  (a3:findIn K (.ref cPart) "lies" =some (some (.ref f3)))
  (l3:K.lookup f3=some ⟨oc3,od3,.func (fnOf "lies" "Part.lies" (Zn Zap) (Zm Zap) (Zd Zap) .none kV3 dc3 pm3 an3 cd3 ct3),sl3⟩)
  (e3:codeIn K cd3 "Part.lies" =true)
  (k3:keepIn K (.ref f3)=true)
  (a4:findIn K (.ref cPart) "pairs" =some (some (.ref f4)))
  (l4:K.lookup f4=some ⟨oc4,od4,.func (fnOf "pairs" "Part.pairs" (Zn Wv) (Zm Wv) (Zd Wv) .none kV4 dc4 pm4 an4 cd4 ct4),sl4⟩)
  (e4:codeIn K cd4 "Part.pairs" =true)
  (k4:keepIn K (.ref f4)=true)
  (a5:findIn K (.ref cPart) "leads" =some (some (.ref f5)))
  (l5:K.lookup f5=some ⟨oc5,od5,.func (fnOf "leads" "Part.leads" (Zn Ww) (Zm Ww) (Zd Ww) (.ref td5) kV5 dc5 pm5 an5 cd5 ct5),sl5⟩)
  (ld5:K.lookup td5=some ⟨doc5,dod5,.seq #[.str "" dtk5] dn5,dsl5⟩)
  (e5:codeIn K cd5 "Part.leads" =true)
  (k5:keepIn K (.ref f5)=true)
  (a6:findIn K (.ref cPart) "bears" =some (some (.ref f6)))
  (l6:K.lookup f6=some ⟨oc6,od6,.func (fnOf "bears" "Part.bears" (Zn Wt) (Zm Wt) (Zd Wt) .none kV6 dc6 pm6 an6 cd6 ct6),sl6⟩)
  (e6:codeIn K cd6 "Part.bears" =true)
  (k6:keepIn K (.ref f6)=true)
  (a7:findIn K (.ref cStop) "ends" =some (some (.ref f7)))
  (l7:K.lookup f7=some ⟨oc7,od7,.func (fnOf "ends" "Stop.ends" (Zn Zam) (Zm Zam) (Zd Zam) .none kV7 dc7 pm7 an7 cd7 ct7),sl7⟩)
  (e7:codeIn K cd7 "Stop.ends" =true)
  (k7:keepIn K (.ref f7)=true)
  (a8:findIn K (.ref cStop) "pairs" =some (some (.ref f8)))
  (l8:K.lookup f8=some ⟨oc8,od8,.func (fnOf "pairs" "Stop.pairs" (Zn Wo) (Zm Wo) (Zd Wo) .none kV8 dc8 pm8 an8 cd8 ct8),sl8⟩)
  (e8:codeIn K cd8 "Stop.pairs" =true)
  (k8:keepIn K (.ref f8)=true)
  (a9:findIn K (.ref cPoints) "ends" =some (some (.ref f9)))
  (l9:K.lookup f9=some ⟨oc9,od9,.func (fnOf "ends" "Points.ends" (Zn X7) (Zm X7) (Zd X7) .none kV9 dc9 pm9 an9 cd9 ct9),sl9⟩)
  (e9:codeIn K cd9 "Points.ends" =true)
  (k9:keepIn K (.ref f9)=true)
  (a10:findIn K (.ref cPoints) "lies" =some (some (.ref f10)))
  (l10:K.lookup f10=some ⟨oc10,od10,.func (fnOf "lies" "Points.lies" (Zn Wb) (Zm Wb) (Zd Wb) .none kV10 dc10 pm10 an10 cd10 ct10),sl10⟩)
  (e10:codeIn K cd10 "Points.lies" =true)
  (k10:keepIn K (.ref f10)=true)
  (a11:findIn K (.ref cPoints) "pairs" =some (some (.ref f11)))
  (l11:K.lookup f11=some ⟨oc11,od11,.func (fnOf "pairs" "Points.pairs" (Zn Xo) (Zm Xo) (Zd Xo) .none kV11 dc11 pm11 an11 cd11 ct11),sl11⟩)
  (e11:codeIn K cd11 "Points.pairs" =true)
  (k11:keepIn K (.ref f11)=true)
  (a12:findIn K (.ref cPoints) "bears" =some (some (.ref f12)))
  (l12:K.lookup f12=some ⟨oc12,od12,.func (fnOf "bears" "Points.bears" (Zn Xt) (Zm Xt) (Zd Xt) .none kV12 dc12 pm12 an12 cd12 ct12),sl12⟩)
  (e12:codeIn K cd12 "Points.bears" =true)
  (k12:keepIn K (.ref f12)=true)
  (a13:findIn K (.ref cCross) "ends" =some (some (.ref f13)))
  (l13:K.lookup f13=some ⟨oc13,od13,.func (fnOf "ends" "Cross.ends" (Zn Ws) (Zm Ws) (Zd Ws) .none kV13 dc13 pm13 an13 cd13 ct13),sl13⟩)
  (e13:codeIn K cd13 "Cross.ends" =true)
  (k13:keepIn K (.ref f13)=true)
  (a14:findIn K (.ref cCross) "pairs" =some (some (.ref f14)))
  (l14:K.lookup f14=some ⟨oc14,od14,.func (fnOf "pairs" "Cross.pairs" (Zn X9) (Zm X9) (Zd X9) .none kV14 dc14 pm14 an14 cd14 ct14),sl14⟩)
  (e14:codeIn K cd14 "Cross.pairs" =true)
  (k14:keepIn K (.ref f14)=true)
  (a15:findIn K (.ref cCross) "bears" =some (some (.ref f15)))
  (l15:K.lookup f15=some ⟨oc15,od15,.func (fnOf "bears" "Cross.bears" (Zn We) (Zm We) (Zd We) .none kV15 dc15 pm15 an15 cd15 ct15),sl15⟩)
  (e15:codeIn K cd15 "Cross.bears" =true)
  (k15:keepIn K (.ref f15)=true)
  (a16:nsIn K mainGlobals "steps_into" =some (some (.ref f16)))
  (l16:K.lookup f16=some ⟨oc16,od16,.func (fnOf "steps_into" "steps_into" (Zn Wp) (Zm Wp) (Zd Wp) .none kV16 dc16 pm16 an16 cd16 ct16),sl16⟩)
  (e16:codeIn K cd16 "steps_into" =true)
  (k16:keepIn K (.ref f16)=true)
  (a17:nsIn K mainGlobals "end_behind" =some (some (.ref f17)))
  (l17:K.lookup f17=some ⟨oc17,od17,.func (fnOf "end_behind" "end_behind" (Zn Wl) (Zm Wl) (Zd Wl) .none kV17 dc17 pm17 an17 cd17 ct17),sl17⟩)
  (e17:codeIn K cd17 "end_behind" =true)
  (k17:keepIn K (.ref f17)=true)
  (a18:nsIn K mainGlobals "ends_there" =some (some (.ref f18)))
  (l18:K.lookup f18=some ⟨oc18,od18,.func (fnOf "ends_there" "ends_there" (Zn Wn) (Zm Wn) (Zd Wn) .none kV18 dc18 pm18 an18 cd18 ct18),sl18⟩)
  (e18:codeIn K cd18 "ends_there" =true)
  (k18:keepIn K (.ref f18)=true)
  (a19:nsIn K mainGlobals "steps_on" =some (some (.ref f19)))
  (l19:K.lookup f19=some ⟨oc19,od19,.func (fnOf "steps_on" "steps_on" (Zn Zbb) (Zm Zbb) (Zd Zbb) .none kV19 dc19 pm19 an19 cd19 ct19),sl19⟩)
  (e19:codeIn K cd19 "steps_on" =true)
  (k19:keepIn K (.ref f19)=true)
  (a20:nsIn K mainGlobals "routes_from" =some (some (.ref f20)))
  (l20:K.lookup f20=some ⟨oc20,od20,.func (fnOf "routes_from" "routes_from" (Zn Wg) (Zm Wg) (Zd Wg) .none kV20 dc20 pm20 an20 cd20 ct20),sl20⟩)
  (e20:codeIn K cd20 "routes_from" =true)
  (k20:keepIn K (.ref f20)=true)
  (a21:nsIn K mainGlobals "is_pair" =some (some (.ref f21)))
  (l21:K.lookup f21=some ⟨oc21,od21,.func (fnOf "is_pair" "is_pair" (Zn Zb2) (Zm Zb2) (Zd Zb2) .none kV21 dc21 pm21 an21 cd21 ct21),sl21⟩)
  (e21:codeIn K cd21 "is_pair" =true)
  (k21:keepIn K (.ref f21)=true)
  (a22:nsIn K mainGlobals "is_known" =some (some (.ref f22)))
  (l22:K.lookup f22=some ⟨oc22,od22,.func (fnOf "is_known" "is_known" (Zn Za9) (Zm Za9) (Zd Za9) .none kV22 dc22 pm22 an22 cd22 ct22),sl22⟩)
  (e22:codeIn K cd22 "is_known" =true)
  (k22:keepIn K (.ref f22)=true)
  (a23:nsIn K mainGlobals "refuse_name" =some (some (.ref f23)))
  (l23:K.lookup f23=some ⟨oc23,od23,.func (fnOf "refuse_name" "refuse_name" (Zn X8) (Zm X8) (Zd X8) .none kV23 dc23 pm23 an23 cd23 ct23),sl23⟩)
  (e23:codeIn K cd23 "refuse_name" =true)
  (k23:keepIn K (.ref f23)=true)
  (a24:nsIn K mainGlobals "parts_by_name" =some (some (.ref f24)))
  (l24:K.lookup f24=some ⟨oc24,od24,.func (fnOf "parts_by_name" "parts_by_name" (Zn Xd) (Zm Xd) (Zd Xd) .none kV24 dc24 pm24 an24 cd24 ct24),sl24⟩)
  (e24:codeIn K cd24 "parts_by_name" =true)
  (k24:keepIn K (.ref f24)=true)
  (a25:nsIn K mainGlobals "ends_to_parts" =some (some (.ref f25)))
  (l25:K.lookup f25=some ⟨oc25,od25,.func (fnOf "ends_to_parts" "ends_to_parts" (Zn Xh) (Zm Xh) (Zd Xh) .none kV25 dc25 pm25 an25 cd25 ct25),sl25⟩)
  (e25:codeIn K cd25 "ends_to_parts" =true)
  (k25:keepIn K (.ref f25)=true)
  (a26:nsIn K mainGlobals "refuse_join" =some (some (.ref f26)))
  (l26:K.lookup f26=some ⟨oc26,od26,.func (fnOf "refuse_join" "refuse_join" (Zn Wf) (Zm Wf) (Zd Wf) .none kV26 dc26 pm26 an26 cd26 ct26),sl26⟩)
  (e26:codeIn K cd26 "refuse_join" =true)
  (k26:keepIn K (.ref f26)=true)
  (a27:nsIn K mainGlobals "joined_ends" =some (some (.ref f27)))
  (l27:K.lookup f27=some ⟨oc27,od27,.func (fnOf "joined_ends" "joined_ends" (Zn X6) (Zm X6) (Zd X6) .none kV27 dc27 pm27 an27 cd27 ct27),sl27⟩)
  (e27:codeIn K cd27 "joined_ends" =true)
  (k27:keepIn K (.ref f27)=true)
  (a28:nsIn K mainGlobals "refuse_post" =some (some (.ref f28)))
  (l28:K.lookup f28=some ⟨oc28,od28,.func (fnOf "refuse_post" "refuse_post" (Zn Wa) (Zm Wa) (Zd Wa) .none kV28 dc28 pm28 an28 cd28 ct28),sl28⟩)
  (e28:codeIn K cd28 "refuse_post" =true)
  (k28:keepIn K (.ref f28)=true)
  (a29:nsIn K mainGlobals "posts_of" =some (some (.ref f29)))
  (l29:K.lookup f29=some ⟨oc29,od29,.func (fnOf "posts_of" "posts_of" (Zn Za6) (Zm Za6) (Zd Za6) .none kV29 dc29 pm29 an29 cd29 ct29),sl29⟩)
  (e29:codeIn K cd29 "posts_of" =true)
  (k29:keepIn K (.ref f29)=true)
  (a30:findIn K (.ref cTracks) "__init__" =some (some (.ref f30)))
  (l30:K.lookup f30=some ⟨oc30,od30,.func (fnOf "__init__" "Tracks.__init__" (Zn Y2) (Zm Y2) (Zd Y2) (.ref td30) kV30 dc30 pm30 an30 cd30 ct30),sl30⟩)
  (ld30:K.lookup td30=some ⟨doc30,dod30,.seq #[.none] dn30,dsl30⟩)
  (e30:codeIn K cd30 "Tracks.__init__" =true)
  (k30:keepIn K (.ref f30)=true)
  (a31:findIn K (.ref cTracks) "named" =some (some (.ref f31)))
  (l31:K.lookup f31=some ⟨oc31,od31,.func (fnOf "named" "Tracks.named" (Zn Xy) (Zm Xy) (Zd Xy) .none kV31 dc31 pm31 an31 cd31 ct31),sl31⟩)
  (e31:codeIn K cd31 "Tracks.named" =true)
  (k31:keepIn K (.ref f31)=true)
  (a32:findIn K (.ref cTracks) "beyond" =some (some (.ref f32)))
  (l32:K.lookup f32=some ⟨oc32,od32,.func (fnOf "beyond" "Tracks.beyond" (Zn Xg) (Zm Xg) (Zd Xg) .none kV32 dc32 pm32 an32 cd32 ct32),sl32⟩)
  (e32:codeIn K cd32 "Tracks.beyond" =true)
  (k32:keepIn K (.ref f32)=true)
  (a33:findIn K (.ref cTracks) "signal_at" =some (some (.ref f33)))
  (l33:K.lookup f33=some ⟨oc33,od33,.func (fnOf "signal_at" "Tracks.signal_at" (Zn Yy) (Zm Yy) (Zd Yy) .none kV33 dc33 pm33 an33 cd33 ct33),sl33⟩)
  (e33:codeIn K cd33 "Tracks.signal_at" =true)
  (k33:keepIn K (.ref f33)=true)
  (a34:findIn K (.ref cTracks) "end_of" =some (some (.ref f34)))
  (l34:K.lookup f34=some ⟨oc34,od34,.func (fnOf "end_of" "Tracks.end_of" (Zn Xe) (Zm Xe) (Zd Xe) .none kV34 dc34 pm34 an34 cd34 ct34),sl34⟩)
  (e34:codeIn K cd34 "Tracks.end_of" =true)
  (k34:keepIn K (.ref f34)=true)
  (a35:nsIn K mainGlobals "_law_mixed" =some (some (.ref f35)))
  (l35:K.lookup f35=some ⟨oc35,od35,.func (fnOf "_law_mixed" "_law_mixed" (Zn Wm) (Zm Wm) (Zd Wm) .none kV35 dc35 pm35 an35 cd35 ct35),sl35⟩)
  (e35:codeIn K cd35 "_law_mixed" =true)
  (k35:keepIn K (.ref f35)=true)
  (a36:nsIn K mainGlobals "_law_cell_at" =some (some (.ref f36)))
  (l36:K.lookup f36=some ⟨oc36,od36,.func (fnOf "_law_cell_at" "_law_cell_at" (Zn Xn) (Zm Xn) (Zd Xn) .none kV36 dc36 pm36 an36 cd36 ct36),sl36⟩)
  (e36:codeIn K cd36 "_law_cell_at" =true)
  (k36:keepIn K (.ref f36)=true)
  (a37:nsIn K mainGlobals "_law_cells" =some (some (.ref f37)))
  (l37:K.lookup f37=some ⟨oc37,od37,.func (fnOf "_law_cells" "_law_cells" (Zn Wu) (Zm Wu) (Zd Wu) .none kV37 dc37 pm37 an37 cd37 ct37),sl37⟩)
  (e37:codeIn K cd37 "_law_cells" =true)
  (k37:keepIn K (.ref f37)=true)
  (a38:nsIn K mainGlobals "_law_ends" =some (some (.ref f38)))
  (l38:K.lookup f38=some ⟨oc38,od38,.func (fnOf "_law_ends" "_law_ends" (Zn Zah) (Zm Zah) (Zd Zah) .none kV38 dc38 pm38 an38 cd38 ct38),sl38⟩)
  (e38:codeIn K cd38 "_law_ends" =true)
  (k38:keepIn K (.ref f38)=true)
  (a39:nsIn K mainGlobals "_law_name_by" =some (some (.ref f39)))
  (l39:K.lookup f39=some ⟨oc39,od39,.func (fnOf "_law_name_by" "_law_name_by" (Zn Xq) (Zm Xq) (Zd Xq) .none kV39 dc39 pm39 an39 cd39 ct39),sl39⟩)
  (e39:codeIn K cd39 "_law_name_by" =true)
  (k39:keepIn K (.ref f39)=true)
  (a40:nsIn K mainGlobals "_law_block" =some (some (.ref f40)))
  (l40:K.lookup f40=some ⟨oc40,od40,.func (fnOf "_law_block" "_law_block" (Zn Wy) (Zm Wy) (Zd Wy) .none kV40 dc40 pm40 an40 cd40 ct40),sl40⟩)
  (e40:codeIn K cd40 "_law_block" =true)
  (k40:keepIn K (.ref f40)=true)
  (a41:nsIn K mainGlobals "_law_line" =some (some (.ref f41)))
  (l41:K.lookup f41=some ⟨oc41,od41,.func (fnOf "_law_line" "_law_line" (Zn Zaj) (Zm Zaj) (Zd Zaj) .none kV41 dc41 pm41 an41 cd41 ct41),sl41⟩)
  (e41:codeIn K cd41 "_law_line" =true)
  (k41:keepIn K (.ref f41)=true)
  (a42:nsIn K mainGlobals "_law_closed" =some (some (.ref f42)))
  (l42:K.lookup f42=some ⟨oc42,od42,.func (fnOf "_law_closed" "_law_closed" (Zn X5) (Zm X5) (Zd X5) .none kV42 dc42 pm42 an42 cd42 ct42),sl42⟩)
  (e42:codeIn K cd42 "_law_closed" =true)
  (k42:keepIn K (.ref f42)=true)
  (a43:nsIn K mainGlobals "_law_drawn" =some (some (.ref f43)))
  (l43:K.lookup f43=some ⟨oc43,od43,.func (fnOf "_law_drawn" "_law_drawn" (Zn Wz) (Zm Wz) (Zd Wz) .none kV43 dc43 pm43 an43 cd43 ct43),sl43⟩)
  (e43:codeIn K cd43 "_law_drawn" =true)
  (k43:keepIn K (.ref f43)=true)
  (a44:nsIn K mainGlobals "_law_signals_by" =some (some (.ref f44)))
  (l44:K.lookup f44=some ⟨oc44,od44,.func (fnOf "_law_signals_by" "_law_signals_by" (Zn Y1) (Zm Y1) (Zd Y1) .none kV44 dc44 pm44 an44 cd44 ct44),sl44⟩)
  (e44:codeIn K cd44 "_law_signals_by" =true)
  (k44:keepIn K (.ref f44)=true)
  (a45:nsIn K mainGlobals "_law_long" =some (some (.ref f45)))
  (l45:K.lookup f45=some ⟨oc45,od45,.func (fnOf "_law_long" "_law_long" (Zn Zag) (Zm Zag) (Zd Zag) .none kV45 dc45 pm45 an45 cd45 ct45),sl45⟩)
  (e45:codeIn K cd45 "_law_long" =true)
  (k45:keepIn K (.ref f45)=true)
  (a46:nsIn K mainGlobals "_law_yard_by" =some (some (.ref f46)))
  (l46:K.lookup f46=some ⟨oc46,od46,.func (fnOf "_law_yard_by" "_law_yard_by" (Zn Xs) (Zm Xs) (Zd Xs) .none kV46 dc46 pm46 an46 cd46 ct46),sl46⟩)
  (e46:codeIn K cd46 "_law_yard_by" =true)
  (k46:keepIn K (.ref f46)=true)
  (a47:nsIn K mainGlobals "_law_part" =some (some (.ref f47)))
  (l47:K.lookup f47=some ⟨oc47,od47,.func (fnOf "_law_part" "_law_part" (Zn Zal) (Zm Zal) (Zd Zal) .none kV47 dc47 pm47 an47 cd47 ct47),sl47⟩)
  (e47:codeIn K cd47 "_law_part" =true)
  (k47:keepIn K (.ref f47)=true)
  (a48:nsIn K mainGlobals "_law_tracks" =some (some (.ref f48)))
  (l48:K.lookup f48=some ⟨oc48,od48,.func (fnOf "_law_tracks" "_law_tracks" (Zn Wd) (Zm Wd) (Zd Wd) .none kV48 dc48 pm48 an48 cd48 ct48),sl48⟩)
  (e48:codeIn K cd48 "_law_tracks" =true)
  (k48:keepIn K (.ref f48)=true)
  (a49:nsIn K mainGlobals "_law_map" =some (some (.ref f49)))
  (l49:K.lookup f49=some ⟨oc49,od49,.func (fnOf "_law_map" "_law_map" (Zn Za7) (Zm Za7) (Zd Za7) .none kV49 dc49 pm49 an49 cd49 ct49),sl49⟩)
  (e49:codeIn K cd49 "_law_map" =true)
  (k49:keepIn K (.ref f49)=true)
  (a50:nsIn K mainGlobals "_law_leads" =some (some (.ref f50)))
  (l50:K.lookup f50=some ⟨oc50,od50,.func (fnOf "_law_leads" "_law_leads" (Zn Wq) (Zm Wq) (Zd Wq) .none kV50 dc50 pm50 an50 cd50 ct50),sl50⟩)
  (e50:codeIn K cd50 "_law_leads" =true)
  (k50:keepIn K (.ref f50)=true)
  (a51:nsIn K mainGlobals "_law_into" =some (some (.ref f51)))
  (l51:K.lookup f51=some ⟨oc51,od51,.func (fnOf "_law_into" "_law_into" (Zn Zai) (Zm Zai) (Zd Zai) .none kV51 dc51 pm51 an51 cd51 ct51),sl51⟩)
  (e51:codeIn K cd51 "_law_into" =true)
  (k51:keepIn K (.ref f51)=true)
  (a52:nsIn K mainGlobals "_law_ends_so" =some (some (.ref f52)))
  (l52:K.lookup f52=some ⟨oc52,od52,.func (fnOf "_law_ends_so" "_law_ends_so" (Zn Xx) (Zm Xx) (Zd Xx) .none kV52 dc52 pm52 an52 cd52 ct52),sl52⟩)
  (e52:codeIn K cd52 "_law_ends_so" =true)
  (k52:keepIn K (.ref f52)=true)
  (a53:nsIn K mainGlobals "_law_on" =some (some (.ref f53)))
  (l53:K.lookup f53=some ⟨oc53,od53,.func (fnOf "_law_on" "_law_on" (Zn Zb3) (Zm Zb3) (Zd Zb3) .none kV53 dc53 pm53 an53 cd53 ct53),sl53⟩)
  (e53:codeIn K cd53 "_law_on" =true)
  (k53:keepIn K (.ref f53)=true)
  (a54:nsIn K mainGlobals "law" =some (some (.ref f54)))
  (l54:K.lookup f54=some ⟨oc54,od54,.func (fnOf "law" "law" (Zn Zey) (Zm Zey) (Zd Zey) .none kV54 dc54 pm54 an54 cd54 ct54),sl54⟩)
  (e54:codeIn K cd54 "law" =true)
  (k54:keepIn K (.ref f54)=true)
  (z_ah:PySem.W.plainGet K cPart Str.empty=true)
  (z_ai:PySem.W.hasDictIn K cPart=true)
  (z_aj:PySem.W.plainOver K cPart=true)
  (z_ak:findIn K (.ref cPart) "__setattr__" =some (some (.builtin "object.__setattr__")))
  (z_al:findIn K (.ref cPart) "name" =some none)
  (z_am:PySem.W.makesIn K cPart=true)
  (z_an:findIn K (.ref cPart) "__init__" =some (some (.ref f1)))
  (z_ao:PySem.W.isFn K (.ref f1)=true)
  (z_ap:keepIn K (.ref cPart)=true)
  (z_aq:findIn K (.ref cPart) "ends" =some (some (.ref f2)))
  (z_ar:PySem.W.isFn K (.ref f2)=true)
  (z_as:keepIn K (.ref f2)=true)
  (z_at:findIn K (.ref cPart) "lies" =some (some (.ref f3)))
  (z_au:PySem.W.isFn K (.ref f3)=true)
  (z_av:keepIn K (.ref f3)=true)
  (z_aw:findIn K (.ref cPart) "pairs" =some (some (.ref f4)))
  (z_ax:PySem.W.isFn K (.ref f4)=true)
  (z_ay:keepIn K (.ref f4)=true)
  (z_az:findIn K (.ref cPart) "bears" =some (some (.ref f6)))
  (z_a0:PySem.W.isFn K (.ref f6)=true)
  (z_a1:keepIn K (.ref f6)=true)
  (z_a2:findIn K (.ref cPart) "leads" =some (some (.ref f5)))
  (z_a3:PySem.W.isFn K (.ref f5)=true)
  (z_a4:keepIn K (.ref f5)=true)
  (z_a5:PySem.W.plainGet K cPlain Str.empty=true)
  (z_a6:PySem.W.hasDictIn K cPlain=true)
  (z_a7:PySem.W.plainOver K cPlain=true)
  (z_a8:findIn K (.ref cPlain) "__setattr__" =some (some (.builtin "object.__setattr__")))
  (z_a9:findIn K (.ref cPlain) "name" =some none)
  (z_ba:PySem.W.makesIn K cPlain=true)
  (z_bb:findIn K (.ref cPlain) "__init__" =some (some (.ref f1)))
  (z_bc:PySem.W.isFn K (.ref f1)=true)
  (z_bd:keepIn K (.ref cPlain)=true)
  (z_be:findIn K (.ref cPlain) "ends" =some (some (.ref f2)))
  (z_bf:PySem.W.isFn K (.ref f2)=true)
  (z_bg:keepIn K (.ref f2)=true)
  (z_bh:findIn K (.ref cPlain) "lies" =some (some (.ref f3)))
  (z_bi:PySem.W.isFn K (.ref f3)=true)
  (z_bj:keepIn K (.ref f3)=true)
  (z_bk:findIn K (.ref cPlain) "pairs" =some (some (.ref f4)))
  (z_bl:PySem.W.isFn K (.ref f4)=true)
  (z_bm:keepIn K (.ref f4)=true)
  (z_bn:findIn K (.ref cPlain) "bears" =some (some (.ref f6)))
  (z_bo:PySem.W.isFn K (.ref f6)=true)
  (z_bp:keepIn K (.ref f6)=true)
  (z_bq:findIn K (.ref cPlain) "leads" =some (some (.ref f5)))
  (z_br:PySem.W.isFn K (.ref f5)=true)
  (z_bs:keepIn K (.ref f5)=true)
  (z_bt:PySem.W.plainGet K cStop Str.empty=true)
  (z_bu:PySem.W.hasDictIn K cStop=true)
  (z_bv:PySem.W.plainOver K cStop=true)
  (z_bw:findIn K (.ref cStop) "__setattr__" =some (some (.builtin "object.__setattr__")))
  (z_bx:findIn K (.ref cStop) "name" =some none)
  (z_by:PySem.W.makesIn K cStop=true)
  (z_bz:findIn K (.ref cStop) "__init__" =some (some (.ref f1)))
  (z_b0:PySem.W.isFn K (.ref f1)=true)
  (z_b1:keepIn K (.ref cStop)=true)
  (z_b2:findIn K (.ref cStop) "ends" =some (some (.ref f7)))
  (z_b3:PySem.W.isFn K (.ref f7)=true)
  (z_b4:keepIn K (.ref f7)=true)
  (z_b5:findIn K (.ref cStop) "lies" =some (some (.ref f3)))
  (z_b6:PySem.W.isFn K (.ref f3)=true)
  (z_b7:keepIn K (.ref f3)=true)
  (z_b8:findIn K (.ref cStop) "pairs" =some (some (.ref f8)))
  (z_b9:PySem.W.isFn K (.ref f8)=true)
  (z_ca:keepIn K (.ref f8)=true)
  (z_cb:findIn K (.ref cStop) "bears" =some (some (.ref f6)))
  (z_cc:PySem.W.isFn K (.ref f6)=true)
  (z_cd:keepIn K (.ref f6)=true)
  (z_ce:findIn K (.ref cStop) "leads" =some (some (.ref f5)))
  (z_cf:PySem.W.isFn K (.ref f5)=true)
  (z_cg:keepIn K (.ref f5)=true)
  (z_ch:PySem.W.plainGet K cGate Str.empty=true)
  (z_ci:PySem.W.hasDictIn K cGate=true)
  (z_cj:PySem.W.plainOver K cGate=true)
  (z_ck:findIn K (.ref cGate) "__setattr__" =some (some (.builtin "object.__setattr__")))
  (z_cl:findIn K (.ref cGate) "name" =some none)
  (z_cm:PySem.W.makesIn K cGate=true)
  (z_cn:findIn K (.ref cGate) "__init__" =some (some (.ref f1)))
  (z_co:PySem.W.isFn K (.ref f1)=true)
  (z_cp:keepIn K (.ref cGate)=true)
  (z_cq:findIn K (.ref cGate) "ends" =some (some (.ref f7)))
  (z_cr:PySem.W.isFn K (.ref f7)=true)
  (z_cs:keepIn K (.ref f7)=true)
  (z_ct:findIn K (.ref cGate) "lies" =some (some (.ref f3)))
  (z_cu:PySem.W.isFn K (.ref f3)=true)
  (z_cv:keepIn K (.ref f3)=true)
  (z_cw:findIn K (.ref cGate) "pairs" =some (some (.ref f8)))
  (z_cx:PySem.W.isFn K (.ref f8)=true)
  (z_cy:keepIn K (.ref f8)=true)
  (z_cz:findIn K (.ref cGate) "bears" =some (some (.ref f6)))
  (z_c0:PySem.W.isFn K (.ref f6)=true)
  (z_c1:keepIn K (.ref f6)=true)
  (z_c2:findIn K (.ref cGate) "leads" =some (some (.ref f5)))
  (z_c3:PySem.W.isFn K (.ref f5)=true)
  (z_c4:keepIn K (.ref f5)=true)
  (z_c5:PySem.W.plainGet K cPoints Str.empty=true)
  (z_c6:PySem.W.hasDictIn K cPoints=true)
  (z_c7:PySem.W.plainOver K cPoints=true)
  (z_c8:findIn K (.ref cPoints) "__setattr__" =some (some (.builtin "object.__setattr__")))
  (z_c9:findIn K (.ref cPoints) "name" =some none)
  (z_da:PySem.W.makesIn K cPoints=true)
  (z_db:findIn K (.ref cPoints) "__init__" =some (some (.ref f1)))
  (z_dc:PySem.W.isFn K (.ref f1)=true)
  (z_dd:keepIn K (.ref cPoints)=true)
  (z_de:findIn K (.ref cPoints) "ends" =some (some (.ref f9)))
  (z_df:PySem.W.isFn K (.ref f9)=true)
  (z_dg:keepIn K (.ref f9)=true)
  (z_dh:findIn K (.ref cPoints) "lies" =some (some (.ref f10)))
  (z_di:PySem.W.isFn K (.ref f10)=true)
  (z_dj:keepIn K (.ref f10)=true)
  (z_dk:findIn K (.ref cPoints) "pairs" =some (some (.ref f11)))
  (z_dl:PySem.W.isFn K (.ref f11)=true)
  (z_dm:keepIn K (.ref f11)=true)
  (z_dn:findIn K (.ref cPoints) "bears" =some (some (.ref f12)))
  (z_do:PySem.W.isFn K (.ref f12)=true)
  (z_dp:keepIn K (.ref f12)=true)
  (z_dq:findIn K (.ref cPoints) "leads" =some (some (.ref f5)))
  (z_dr:PySem.W.isFn K (.ref f5)=true)
  (z_ds:keepIn K (.ref f5)=true)
  (z_dt:PySem.W.plainGet K cCross Str.empty=true)
  (z_du:PySem.W.hasDictIn K cCross=true)
  (z_dv:PySem.W.plainOver K cCross=true)
  (z_dw:findIn K (.ref cCross) "__setattr__" =some (some (.builtin "object.__setattr__")))
  (z_dx:findIn K (.ref cCross) "name" =some none)
  (z_dy:PySem.W.makesIn K cCross=true)
  (z_dz:findIn K (.ref cCross) "__init__" =some (some (.ref f1)))
  (z_d0:PySem.W.isFn K (.ref f1)=true)
  (z_d1:keepIn K (.ref cCross)=true)
  (z_d2:findIn K (.ref cCross) "ends" =some (some (.ref f13)))
  (z_d3:PySem.W.isFn K (.ref f13)=true)
  (z_d4:keepIn K (.ref f13)=true)
  (z_d5:findIn K (.ref cCross) "lies" =some (some (.ref f3)))
  (z_d6:PySem.W.isFn K (.ref f3)=true)
  (z_d7:keepIn K (.ref f3)=true)
  (z_d8:findIn K (.ref cCross) "pairs" =some (some (.ref f14)))
  (z_d9:PySem.W.isFn K (.ref f14)=true)
  (z_ea:keepIn K (.ref f14)=true)
  (z_eb:findIn K (.ref cCross) "bears" =some (some (.ref f15)))
  (z_ec:PySem.W.isFn K (.ref f15)=true)
  (z_ed:keepIn K (.ref f15)=true)
  (z_ee:findIn K (.ref cCross) "leads" =some (some (.ref f5)))
  (z_ef:PySem.W.isFn K (.ref f5)=true)
  (z_eg:keepIn K (.ref f5)=true)
  (z_eh:PySem.W.plainGet K cTracks Str.empty=true)
  (z_ei:PySem.W.hasDictIn K cTracks=true)
  (z_ej:PySem.W.plainOver K cTracks=true)
  (z_ek:findIn K (.ref cTracks) "__setattr__" =some (some (.builtin "object.__setattr__")))
  (z_el:findIn K (.ref cTracks) "part_of" =some none)
  (z_em:findIn K (.ref cTracks) "joined" =some none)
  (z_en:findIn K (.ref cTracks) "post_of" =some none)
  (z_eo:findIn K (.ref cTracks) "signal_on" =some none)
  (z_ep:PySem.W.makesIn K cTracks=true)
  (z_eq:findIn K (.ref cTracks) "__init__" =some (some (.ref f30)))
  (z_er:PySem.W.isFn K (.ref f30)=true)
  (z_es:keepIn K (.ref cTracks)=true)
  (z_et:findIn K (.ref cTracks) "named" =some (some (.ref f31)))
  (z_eu:PySem.W.isFn K (.ref f31)=true)
  (z_ev:keepIn K (.ref f31)=true)
  (z_ew:findIn K (.ref cTracks) "beyond" =some (some (.ref f32)))
  (z_ex:PySem.W.isFn K (.ref f32)=true)
  (z_ey:keepIn K (.ref f32)=true)
  (z_ez:findIn K (.ref cTracks) "signal_at" =some (some (.ref f33)))
  (z_e0:PySem.W.isFn K (.ref f33)=true)
  (z_e1:keepIn K (.ref f33)=true)
  (z_e2:findIn K (.ref cTracks) "end_of" =some (some (.ref f34)))
  (z_e3:PySem.W.isFn K (.ref f34)=true)
  (z_e4:keepIn K (.ref f34)=true)
  (z_e5:nsIn K mainGlobals "len" =some none)
  (z_e6:nsIn K mainGlobals "range" =some none)
  (z_e7:nsIn K mainGlobals "isinstance" =some none)
  (z_e8:nsIn K mainGlobals "list" =some none)
  (z_e9:nsIn K mainGlobals "dict" =some none)
  (z_fa:nsIn K mainGlobals "tuple" =some none)
  (z_fb:nsIn K mainGlobals "str" =some none)
  (z_fc:nsIn K mainGlobals "enumerate" =some none)
  (z_fd:nsIn K mainGlobals "max" =some none)
  (z_fe:nsIn K mainGlobals "min" =some none)
  (z_ff:nsIn K mainGlobals "sum" =some none)
  (z_fg:nsIn K mainGlobals "sorted" =some none)
  (z_fh:nsIn K mainGlobals "all" =some none)
  (z_fi:kitOne K (.type "tuple") (.type "tuple")=some true)
  (z_fj:kitOne K (.type "str") (.type "str")=some true)
  (z_fk:kitOne K (.type "NoneType") (.type "tuple")=some false)
  (z_fl:kitOne K (.type "int") (.type "tuple")=some false)
  (z_fm:kitOne K (.type "str") (.type "tuple")=some false)
  (z_fn:kitOne K (.type "list") (.type "tuple")=some false)
  (z_fo:kitOne K (.type "bool") (.type "tuple")=some false)
  (z_fp:kitOne K (.ref cPart) (.ref cStop)=some false)
  (z_fq:kitOne K (.ref cPlain) (.ref cStop)=some false)
  (z_fr:kitOne K (.ref cStop) (.ref cStop)=some true)
  (z_fs:kitOne K (.ref cGate) (.ref cStop)=some true)
  (z_ft:kitOne K (.ref cPoints) (.ref cStop)=some false)
  (z_fu:kitOne K (.ref cCross) (.ref cStop)=some false)
  (z_fv:nsIn K mainGlobals "LETTERS" =some (some (.str "abcdefghijklmnopqrstuvwxyz" tk_LETTERS)))
  (z_fw:nsIn K mainGlobals "FIGURES" =some (some (.str "0123456789" tk_FIGURES)))
  (z_fx:nsIn K mainGlobals "LONGEST_NAME" =some (some (.int 6 tk_LONGEST_NAME)))
  (z_fy:nsIn K mainGlobals "MOST_PARTS" =some (some (.int 40 tk_MOST_PARTS)))
  (z_fz:nsIn K mainGlobals "MOST_SIGNALS" =some (some (.int 40 tk_MOST_SIGNALS)))
  (z_f0:nsIn K mainGlobals "MOST_STEPS" =some (some (.int 12 tk_MOST_STEPS)))
  (z_f1:nsIn K mainGlobals "NO_END" =some (some (.ref at_NO_END)))
  (z_f2:K.lookup at_NO_END=some ⟨.type "tuple",aod_NO_END,.seq #[.str "" atk0_NO_END,.str "" atk1_NO_END] an_NO_END,asl_NO_END⟩)
  (tG:PySem.W.specialIn K (.builtin "object.__class__") "__get__" =some (some (.builtin "getset_descriptor.__get__")))
  (tK:PySem.W.takesIn K (.builtin "object.__class__")=some true)
  (z_f3:findIn K (.ref cPart) "__class__" =some (some (.builtin "object.__class__")))
  (z_f4:PySem.W.mroIn K cPart (.type "object")=some true)
  (z_f5:findIn K (.ref cPlain) "__class__" =some (some (.builtin "object.__class__")))
  (z_f6:PySem.W.mroIn K cPlain (.type "object")=some true)
  (z_f7:findIn K (.ref cStop) "__class__" =some (some (.builtin "object.__class__")))
  (z_f8:PySem.W.mroIn K cStop (.type "object")=some true)
  (z_f9:findIn K (.ref cGate) "__class__" =some (some (.builtin "object.__class__")))
  (z_ga:PySem.W.mroIn K cGate (.type "object")=some true)
  (z_gb:findIn K (.ref cPoints) "__class__" =some (some (.builtin "object.__class__")))
  (z_gc:PySem.W.mroIn K cPoints (.type "object")=some true)
  (z_gd:findIn K (.ref cCross) "__class__" =some (some (.builtin "object.__class__")))
  (z_ge:PySem.W.mroIn K cCross (.type "object")=some true)
  :∃fd:FuncData,(∀(s:Shared) (v:Value),BindsTo s fd ⟨[v],[]⟩ [("_law_script",v)])/\∀base:Heap,K.In base->base.Ns mainGlobals mg->Zz l.prog w K mg base CX0 20 fa fd ["_law_script"] (Zpm K):=by
 have e:=hfa.symm.trans (mg_of X G a54)
 cases e
 have F0:=Z5 (st:=Zb6) l0 e0 k0
 have b0:=F0.binds (ps:=["thing"]) fun _ _ _ _ _ _ us hl=>by obtain ⟨_,rfl⟩:=Zae hl;rfl
 have F1:=Z5 (st:=Xi) l1 e1 k1
 have b1:=F1.binds (ps:=["self", "name"]) fun _ _ _ _ _ _ us hl=>by obtain ⟨_,_,rfl⟩:=Xz hl;rfl
 have F2:=Z5 (st:=Zao) l2 e2 k2
 have b2:=F2.binds (ps:=["self"]) fun _ _ _ _ _ _ us hl=>by obtain ⟨_,rfl⟩:=Zae hl;rfl
 have F3:=Z5 (st:=Zap) l3 e3 k3
 have b3:=F3.binds (ps:=["self"]) fun _ _ _ _ _ _ us hl=>by obtain ⟨_,rfl⟩:=Zae hl;rfl
 have F4:=Z5 (st:=Wv) l4 e4 k4
 have b4:=F4.binds (ps:=["self", "lie"]) fun _ _ _ _ _ _ us hl=>by obtain ⟨_,_,rfl⟩:=Xz hl;rfl
 have F5:=Zpx (st:=Ww) l5 e5 k5
 have F6:=Z5 (st:=Wt) l6 e6 k6
 have b6:=F6.binds (ps:=["self"]) fun _ _ _ _ _ _ us hl=>by obtain ⟨_,rfl⟩:=Zae hl;rfl
 have F7:=Z5 (st:=Zam) l7 e7 k7
 have b7:=F7.binds (ps:=["self"]) fun _ _ _ _ _ _ us hl=>by obtain ⟨_,rfl⟩:=Zae hl;rfl
 have F8:=Z5 (st:=Wo) l8 e8 k8
 have b8:=F8.binds (ps:=["self", "lie"]) fun _ _ _ _ _ _ us hl=>by obtain ⟨_,_,rfl⟩:=Xz hl;rfl
 have F9:=Z5 (st:=X7) l9 e9 k9
 have b9:=F9.binds (ps:=["self"]) fun _ _ _ _ _ _ us hl=>by obtain ⟨_,rfl⟩:=Zae hl;rfl
 have F10:=Z5 (st:=Wb) l10 e10 k10
 have b10:=F10.binds (ps:=["self"]) fun _ _ _ _ _ _ us hl=>by obtain ⟨_,rfl⟩:=Zae hl;rfl
 have F11:=Z5 (st:=Xo) l11 e11 k11
 have b11:=F11.binds (ps:=["self", "lie"]) fun _ _ _ _ _ _ us hl=>by obtain ⟨_,_,rfl⟩:=Xz hl;rfl
 have F12:=Z5 (st:=Xt) l12 e12 k12
 have b12:=F12.binds (ps:=["self"]) fun _ _ _ _ _ _ us hl=>by obtain ⟨_,rfl⟩:=Zae hl;rfl
 have F13:=Z5 (st:=Ws) l13 e13 k13
 have b13:=F13.binds (ps:=["self"]) fun _ _ _ _ _ _ us hl=>by obtain ⟨_,rfl⟩:=Zae hl;rfl
 have F14:=Z5 (st:=X9) l14 e14 k14
 have b14:=F14.binds (ps:=["self", "lie"]) fun _ _ _ _ _ _ us hl=>by obtain ⟨_,_,rfl⟩:=Xz hl;rfl
 have F15:=Z5 (st:=We) l15 e15 k15
 have b15:=F15.binds (ps:=["self"]) fun _ _ _ _ _ _ us hl=>by obtain ⟨_,rfl⟩:=Zae hl;rfl
 have F16:=Z5 (st:=Wp) l16 e16 k16
 have b16:=F16.binds (ps:=["tracks", "end"]) fun _ _ _ _ _ _ us hl=>by obtain ⟨_,_,rfl⟩:=Xz hl;rfl
 have F17:=Z5 (st:=Wl) l17 e17 k17
 have b17:=F17.binds (ps:=["step"]) fun _ _ _ _ _ _ us hl=>by obtain ⟨_,rfl⟩:=Zae hl;rfl
 have F18:=Z5 (st:=Wn) l18 e18 k18
 have b18:=F18.binds (ps:=["tracks", "step"]) fun _ _ _ _ _ _ us hl=>by obtain ⟨_,_,rfl⟩:=Xz hl;rfl
 have F19:=Z5 (st:=Zbb) l19 e19 k19
 have b19:=F19.binds (ps:=["tracks", "begun"]) fun _ _ _ _ _ _ us hl=>by obtain ⟨_,_,rfl⟩:=Xz hl;rfl
 have F20:=Z5 (st:=Wg) l20 e20 k20
 have b20:=F20.binds (ps:=["tracks", "signal"]) fun _ _ _ _ _ _ us hl=>by obtain ⟨_,_,rfl⟩:=Xz hl;rfl
 have F21:=Z5 (st:=Zb2) l21 e21 k21
 have b21:=F21.binds (ps:=["thing"]) fun _ _ _ _ _ _ us hl=>by obtain ⟨_,rfl⟩:=Zae hl;rfl
 have F22:=Z5 (st:=Za9) l22 e22 k22
 have b22:=F22.binds (ps:=["end", "ends"]) fun _ _ _ _ _ _ us hl=>by obtain ⟨_,_,rfl⟩:=Xz hl;rfl
 have F23:=Z5 (st:=X8) l23 e23 k23
 have b23:=F23.binds (ps:=["name", "known"]) fun _ _ _ _ _ _ us hl=>by obtain ⟨_,_,rfl⟩:=Xz hl;rfl
 have F24:=Z5 (st:=Xd) l24 e24 k24
 have b24:=F24.binds (ps:=["parts"]) fun _ _ _ _ _ _ us hl=>by obtain ⟨_,rfl⟩:=Zae hl;rfl
 have F25:=Z5 (st:=Xh) l25 e25 k25
 have b25:=F25.binds (ps:=["part_of"]) fun _ _ _ _ _ _ us hl=>by obtain ⟨_,rfl⟩:=Zae hl;rfl
 have F26:=Z5 (st:=Wf) l26 e26 k26
 have b26:=F26.binds (ps:=["join", "part_at", "joined"]) fun _ _ _ _ _ _ us hl=>by obtain ⟨_,_,_,rfl⟩:=Zo3 hl;rfl
 have F27:=Z5 (st:=X6) l27 e27 k27
 have b27:=F27.binds (ps:=["joins", "part_at"]) fun _ _ _ _ _ _ us hl=>by obtain ⟨_,_,rfl⟩:=Xz hl;rfl
 have F28:=Z5 (st:=Wa) l28 e28 k28
 have b28:=F28.binds (ps:=["end", "part_at", "ends_with_signals"]) fun _ _ _ _ _ _ us hl=>by obtain ⟨_,_,_,rfl⟩:=Zo3 hl;rfl
 have F29:=Z5 (st:=Za6) l29 e29 k29
 have b29:=F29.binds (ps:=["signals", "part_at"]) fun _ _ _ _ _ _ us hl=>by obtain ⟨_,_,rfl⟩:=Xz hl;rfl
 have F30:=Zpx (st:=Y2) l30 e30 k30
 have F31:=Z5 (st:=Xy) l31 e31 k31
 have b31:=F31.binds (ps:=["self", "name"]) fun _ _ _ _ _ _ us hl=>by obtain ⟨_,_,rfl⟩:=Xz hl;rfl
 have F32:=Z5 (st:=Xg) l32 e32 k32
 have b32:=F32.binds (ps:=["self", "end"]) fun _ _ _ _ _ _ us hl=>by obtain ⟨_,_,rfl⟩:=Xz hl;rfl
 have F33:=Z5 (st:=Yy) l33 e33 k33
 have b33:=F33.binds (ps:=["self", "end"]) fun _ _ _ _ _ _ us hl=>by obtain ⟨_,_,rfl⟩:=Xz hl;rfl
 have F34:=Z5 (st:=Xe) l34 e34 k34
 have b34:=F34.binds (ps:=["self", "signal"]) fun _ _ _ _ _ _ us hl=>by obtain ⟨_,_,rfl⟩:=Xz hl;rfl
 have F35:=Z5 (st:=Wm) l35 e35 k35
 have b35:=F35.binds (ps:=["_law_cell", "_law_k"]) fun _ _ _ _ _ _ us hl=>by obtain ⟨_,_,rfl⟩:=Xz hl;rfl
 have F36:=Z5 (st:=Xn) l36 e36 k36
 have b36:=F36.binds (ps:=["_law_script", "_law_k"]) fun _ _ _ _ _ _ us hl=>by obtain ⟨_,_,rfl⟩:=Xz hl;rfl
 have F37:=Z5 (st:=Wu) l37 e37 k37
 have b37:=F37.binds (ps:=["_law_script", "_law_at", "_law_end"]) fun _ _ _ _ _ _ us hl=>by obtain ⟨_,_,_,rfl⟩:=Zo3 hl;rfl
 have F38:=Z5 (st:=Zah) l38 e38 k38
 have b38:=F38.binds (ps:=["_law_kind"]) fun _ _ _ _ _ _ us hl=>by obtain ⟨_,rfl⟩:=Zae hl;rfl
 have F39:=Z5 (st:=Xq) l39 e39 k39
 have b39:=F39.binds (ps:=["_law_kind", "_law_cell", "_law_k"]) fun _ _ _ _ _ _ us hl=>by obtain ⟨_,_,_,rfl⟩:=Zo3 hl;rfl
 have F40:=Z5 (st:=Wy) l40 e40 k40
 have b40:=F40.binds (ps:=["_law_cell", "_law_names"]) fun _ _ _ _ _ _ us hl=>by obtain ⟨_,_,rfl⟩:=Xz hl;rfl
 have F41:=Z5 (st:=Zaj) l41 e41 k41
 have b41:=F41.binds (ps:=["_law_cells_here"]) fun _ _ _ _ _ _ us hl=>by obtain ⟨_,rfl⟩:=Zae hl;rfl
 have F42:=Z5 (st:=X5) l42 e42 k42
 have b42:=F42.binds (ps:=["_law_parts", "_law_joins", "_law_rest", "_law_cell"]) fun _ _ _ _ _ _ us hl=>by obtain ⟨_,_,_,_,rfl⟩:=Zv0 hl;rfl
 have F43:=Z5 (st:=Wz) l43 e43 k43
 have b43:=F43.binds (ps:=["_law_cells_here"]) fun _ _ _ _ _ _ us hl=>by obtain ⟨_,rfl⟩:=Zae hl;rfl
 have F44:=Z5 (st:=Y1) l44 e44 k44
 have b44:=F44.binds (ps:=["_law_parts", "_law_cell"]) fun _ _ _ _ _ _ us hl=>by obtain ⟨_,_,rfl⟩:=Xz hl;rfl
 have F45:=Z5 (st:=Zag) l45 e45 k45
 have b45:=F45.binds (ps:=["_law_cell"]) fun _ _ _ _ _ _ us hl=>by obtain ⟨_,rfl⟩:=Zae hl;rfl
 have F46:=Z5 (st:=Xs) l46 e46 k46
 have b46:=F46.binds (ps:=["_law_cells_here", "_law_cell"]) fun _ _ _ _ _ _ us hl=>by obtain ⟨_,_,rfl⟩:=Xz hl;rfl
 have F47:=Z5 (st:=Zal) l47 e47 k47
 have b47:=F47.binds (ps:=["_law_kind", "_law_name"]) fun _ _ _ _ _ _ us hl=>by obtain ⟨_,_,rfl⟩:=Xz hl;rfl
 have F48:=Z5 (st:=Wd) l48 e48 k48
 have b48:=F48.binds (ps:=["_law_yard"]) fun _ _ _ _ _ _ us hl=>by obtain ⟨_,rfl⟩:=Zae hl;rfl
 have F49:=Z5 (st:=Za7) l49 e49 k49
 have b49:=F49.binds (ps:=["_law_yard"]) fun _ _ _ _ _ _ us hl=>by obtain ⟨_,rfl⟩:=Zae hl;rfl
 have F50:=Z5 (st:=Wq) l50 e50 k50
 have b50:=F50.binds (ps:=["_law_kind", "_law_end"]) fun _ _ _ _ _ _ us hl=>by obtain ⟨_,_,rfl⟩:=Xz hl;rfl
 have F51:=Z5 (st:=Zai) l51 e51 k51
 have b51:=F51.binds (ps:=["_law_plan", "_law_end"]) fun _ _ _ _ _ _ us hl=>by obtain ⟨_,_,rfl⟩:=Xz hl;rfl
 have F52:=Z5 (st:=Xx) l52 e52 k52
 have b52:=F52.binds (ps:=["_law_plan", "_law_step"]) fun _ _ _ _ _ _ us hl=>by obtain ⟨_,_,rfl⟩:=Xz hl;rfl
 have F53:=Z5 (st:=Zb3) l53 e53 k53
 have b53:=F53.binds (ps:=["_law_plan", "_law_into_here", "_law_met", "_law_many"]) fun _ _ _ _ _ _ us hl=>by obtain ⟨_,_,_,_,rfl⟩:=Zv0 hl;rfl
 have F54:=Z5 (st:=Zey) l54 e54 k54
 have T:Tx K mg:={
  d_is_name:=⟨f0,_,F0,b0⟩
  m_is_name:=mg_of X G a0
  d_Part___init__:=⟨f1,_,F1,b1⟩
  d_Part_ends:=⟨f2,_,F2,b2⟩
  d_Part_lies:=⟨f3,_,F3,b3⟩
  d_Part_pairs:=⟨f4,_,F4,b4⟩
  d_Part_leads:=⟨f5,_,_,F5,fun s us KX hl=>by
   rw [List.append_nil] at hl ⊢
   match us,hl with
   | [_,_,_],_=>exact BindsTo.of_defaults rfl (KX _ _ ld5) rfl rfl rfl,.str "" dtk5,⟨dtk5,rfl⟩,fun s us KX hl=>by
   have h2:us.length=2:=by simpa using hl
   match us,h2 with
   | [_,_],_=>exact BindsTo.of_defaults rfl (KX _ _ ld5) rfl rfl rfl⟩
  d_Part_bears:=⟨f6,_,F6,b6⟩
  d_Stop_ends:=⟨f7,_,F7,b7⟩
  d_Stop_pairs:=⟨f8,_,F8,b8⟩
  d_Points_ends:=⟨f9,_,F9,b9⟩
  d_Points_lies:=⟨f10,_,F10,b10⟩
  d_Points_pairs:=⟨f11,_,F11,b11⟩
  d_Points_bears:=⟨f12,_,F12,b12⟩
  d_Cross_ends:=⟨f13,_,F13,b13⟩
  d_Cross_pairs:=⟨f14,_,F14,b14⟩
  d_Cross_bears:=⟨f15,_,F15,b15⟩
  d_steps_into:=⟨f16,_,F16,b16⟩
  m_steps_into:=mg_of X G a16
  d_end_behind:=⟨f17,_,F17,b17⟩
  m_end_behind:=mg_of X G a17
  d_ends_there:=⟨f18,_,F18,b18⟩
  m_ends_there:=mg_of X G a18
  d_steps_on:=⟨f19,_,F19,b19⟩
  m_steps_on:=mg_of X G a19
  d_routes_from:=⟨f20,_,F20,b20⟩
  m_routes_from:=mg_of X G a20
  d_is_pair:=⟨f21,_,F21,b21⟩
  m_is_pair:=mg_of X G a21
  d_is_known:=⟨f22,_,F22,b22⟩
  m_is_known:=mg_of X G a22
  d_refuse_name:=⟨f23,_,F23,b23⟩
  m_refuse_name:=mg_of X G a23
  d_parts_by_name:=⟨f24,_,F24,b24⟩
  m_parts_by_name:=mg_of X G a24
  d_ends_to_parts:=⟨f25,_,F25,b25⟩
  m_ends_to_parts:=mg_of X G a25
  d_refuse_join:=⟨f26,_,F26,b26⟩
  m_refuse_join:=mg_of X G a26
  d_joined_ends:=⟨f27,_,F27,b27⟩
  m_joined_ends:=mg_of X G a27
  d_refuse_post:=⟨f28,_,F28,b28⟩
  m_refuse_post:=mg_of X G a28
  d_posts_of:=⟨f29,_,F29,b29⟩
  m_posts_of:=mg_of X G a29
  d_Tracks___init__:=⟨f30,_,_,F30,fun s us KX hl=>by
   rw [List.append_nil] at hl ⊢
   match us,hl with
   | [_,_,_,_],_=>exact BindsTo.of_defaults rfl (KX _ _ ld30) rfl rfl rfl,.none,rfl,fun s us KX hl=>by
   have h2:us.length=3:=by simpa using hl
   match us,h2 with
   | [_,_,_],_=>exact BindsTo.of_defaults rfl (KX _ _ ld30) rfl rfl rfl⟩
  d_Tracks_named:=⟨f31,_,F31,b31⟩
  d_Tracks_beyond:=⟨f32,_,F32,b32⟩
  d_Tracks_signal_at:=⟨f33,_,F33,b33⟩
  d_Tracks_end_of:=⟨f34,_,F34,b34⟩
  d__law_mixed:=⟨f35,_,F35,b35⟩
  m__law_mixed:=mg_of X G a35
  d__law_cell_at:=⟨f36,_,F36,b36⟩
  m__law_cell_at:=mg_of X G a36
  d__law_cells:=⟨f37,_,F37,b37⟩
  m__law_cells:=mg_of X G a37
  d__law_ends:=⟨f38,_,F38,b38⟩
  m__law_ends:=mg_of X G a38
  d__law_name_by:=⟨f39,_,F39,b39⟩
  m__law_name_by:=mg_of X G a39
  d__law_block:=⟨f40,_,F40,b40⟩
  m__law_block:=mg_of X G a40
  d__law_line:=⟨f41,_,F41,b41⟩
  m__law_line:=mg_of X G a41
  d__law_closed:=⟨f42,_,F42,b42⟩
  m__law_closed:=mg_of X G a42
  d__law_drawn:=⟨f43,_,F43,b43⟩
  m__law_drawn:=mg_of X G a43
  d__law_signals_by:=⟨f44,_,F44,b44⟩
  m__law_signals_by:=mg_of X G a44
  d__law_long:=⟨f45,_,F45,b45⟩
  m__law_long:=mg_of X G a45
  d__law_yard_by:=⟨f46,_,F46,b46⟩
  m__law_yard_by:=mg_of X G a46
  d__law_part:=⟨f47,_,F47,b47⟩
  m__law_part:=mg_of X G a47
  d__law_tracks:=⟨f48,_,F48,b48⟩
  m__law_tracks:=mg_of X G a48
  d__law_map:=⟨f49,_,F49,b49⟩
  m__law_map:=mg_of X G a49
  d__law_leads:=⟨f50,_,F50,b50⟩
  m__law_leads:=mg_of X G a50
  d__law_into:=⟨f51,_,F51,b51⟩
  m__law_into:=mg_of X G a51
  d__law_ends_so:=⟨f52,_,F52,b52⟩
  m__law_ends_so:=mg_of X G a52
  d__law_on:=⟨f53,_,F53,b53⟩
  m__law_on:=mg_of X G a53
  CPart:=cPart
  mPart:=mg_of X G z_aa
  clPart:=⟨z_ah,z_ai,z_aj,z_ak⟩
  nPart_name:=z_al
  mkPart:=⟨z_am,z_an,z_ao,z_ap⟩
  mtPart_ends:=⟨z_aq,z_ar,z_as⟩
  mtPart_lies:=⟨z_at,z_au,z_av⟩
  mtPart_pairs:=⟨z_aw,z_ax,z_ay⟩
  mtPart_bears:=⟨z_az,z_a0,z_a1⟩
  mtPart_leads:=⟨z_a2,z_a3,z_a4⟩
  CPlain:=cPlain
  mPlain:=mg_of X G z_ab
  clPlain:=⟨z_a5,z_a6,z_a7,z_a8⟩
  nPlain_name:=z_a9
  mkPlain:=⟨z_ba,z_bb,z_bc,z_bd⟩
  mtPlain_ends:=⟨z_be,z_bf,z_bg⟩
  mtPlain_lies:=⟨z_bh,z_bi,z_bj⟩
  mtPlain_pairs:=⟨z_bk,z_bl,z_bm⟩
  mtPlain_bears:=⟨z_bn,z_bo,z_bp⟩
  mtPlain_leads:=⟨z_bq,z_br,z_bs⟩
  CStop:=cStop
  mStop:=mg_of X G z_ac
  clStop:=⟨z_bt,z_bu,z_bv,z_bw⟩
  nStop_name:=z_bx
  mkStop:=⟨z_by,z_bz,z_b0,z_b1⟩
  mtStop_ends:=⟨z_b2,z_b3,z_b4⟩
  mtStop_lies:=⟨z_b5,z_b6,z_b7⟩
  mtStop_pairs:=⟨z_b8,z_b9,z_ca⟩
  mtStop_bears:=⟨z_cb,z_cc,z_cd⟩
  mtStop_leads:=⟨z_ce,z_cf,z_cg⟩
  CGate:=cGate
  mGate:=mg_of X G z_ad
  clGate:=⟨z_ch,z_ci,z_cj,z_ck⟩
  nGate_name:=z_cl
  mkGate:=⟨z_cm,z_cn,z_co,z_cp⟩
  mtGate_ends:=⟨z_cq,z_cr,z_cs⟩
  mtGate_lies:=⟨z_ct,z_cu,z_cv⟩
  mtGate_pairs:=⟨z_cw,z_cx,z_cy⟩
  mtGate_bears:=⟨z_cz,z_c0,z_c1⟩
  mtGate_leads:=⟨z_c2,z_c3,z_c4⟩
  CPoints:=cPoints
  mPoints:=mg_of X G z_ae
  clPoints:=⟨z_c5,z_c6,z_c7,z_c8⟩
  nPoints_name:=z_c9
  mkPoints:=⟨z_da,z_db,z_dc,z_dd⟩
  mtPoints_ends:=⟨z_de,z_df,z_dg⟩
  mtPoints_lies:=⟨z_dh,z_di,z_dj⟩
  mtPoints_pairs:=⟨z_dk,z_dl,z_dm⟩
  mtPoints_bears:=⟨z_dn,z_do,z_dp⟩
  mtPoints_leads:=⟨z_dq,z_dr,z_ds⟩
  CCross:=cCross
  mCross:=mg_of X G z_af
  clCross:=⟨z_dt,z_du,z_dv,z_dw⟩
  nCross_name:=z_dx
  mkCross:=⟨z_dy,z_dz,z_d0,z_d1⟩
  mtCross_ends:=⟨z_d2,z_d3,z_d4⟩
  mtCross_lies:=⟨z_d5,z_d6,z_d7⟩
  mtCross_pairs:=⟨z_d8,z_d9,z_ea⟩
  mtCross_bears:=⟨z_eb,z_ec,z_ed⟩
  mtCross_leads:=⟨z_ee,z_ef,z_eg⟩
  CTracks:=cTracks
  mTracks:=mg_of X G z_ag
  clTracks:=⟨z_eh,z_ei,z_ej,z_ek⟩
  nTracks_part_of:=z_el
  nTracks_joined:=z_em
  nTracks_post_of:=z_en
  nTracks_signal_on:=z_eo
  mkTracks:=⟨z_ep,z_eq,z_er,z_es⟩
  mtTracks_named:=⟨z_et,z_eu,z_ev⟩
  mtTracks_beyond:=⟨z_ew,z_ex,z_ey⟩
  mtTracks_signal_at:=⟨z_ez,z_e0,z_e1⟩
  mtTracks_end_of:=⟨z_e2,z_e3,z_e4⟩
  n_len:=PySem.W.mg_none_of X G z_e5
  n_range:=PySem.W.mg_none_of X G z_e6
  n_isinstance:=PySem.W.mg_none_of X G z_e7
  n_list:=PySem.W.mg_none_of X G z_e8
  n_dict:=PySem.W.mg_none_of X G z_e9
  n_tuple:=PySem.W.mg_none_of X G z_fa
  n_str:=PySem.W.mg_none_of X G z_fb
  n_enumerate:=PySem.W.mg_none_of X G z_fc
  n_max:=PySem.W.mg_none_of X G z_fd
  n_min:=PySem.W.mg_none_of X G z_fe
  n_sum:=PySem.W.mg_none_of X G z_ff
  n_sorted:=PySem.W.mg_none_of X G z_fg
  n_all:=PySem.W.mg_none_of X G z_fh
  kTT:=z_fi
  kSS:=z_fj
  kNT:=z_fk
  kIT:=z_fl
  kST:=z_fm
  kLT:=z_fn
  kBT:=z_fo
  iPart:=z_fp
  iPlain:=z_fq
  iStop:=z_fr
  iGate:=z_fs
  iPoints:=z_ft
  iCross:=z_fu
  c_LETTERS:=⟨_,mg_of X G z_fv⟩
  c_FIGURES:=⟨_,mg_of X G z_fw⟩
  c_LONGEST_NAME:=⟨_,mg_of X G z_fx⟩
  c_MOST_PARTS:=⟨_,mg_of X G z_fy⟩
  c_MOST_SIGNALS:=⟨_,mg_of X G z_fz⟩
  c_MOST_STEPS:=⟨_,mg_of X G z_f0⟩
  a_NO_END:=at_NO_END
  c_NO_END:=mg_of X G z_f1
  t_NO_END:=fun H=>.inr ⟨_,_,_,z_f2,rfl,rfl,by simp [sizeLine_eq],.cons ⟨_,rfl⟩ (.cons ⟨_,rfl⟩ .nil)⟩
  tG:=tG
  tK:=tK
  tcPart:=z_f3
  tmPart:=z_f4
  tcPlain:=z_f5
  tmPlain:=z_f6
  tcStop:=z_f7
  tmStop:=z_f8
  tcGate:=z_f9
  tmGate:=z_ga
  tcPoints:=z_gb
  tmPoints:=z_gc
  tcCross:=z_gd
  tmCross:=z_ge
 }
 exact ⟨fnOf "law" "law" (Zn Zey) (Zm Zey) (Zd Zey) .none kV54 dc54 pm54 an54 cd54 ct54,fun s v=>.of_eq rfl,fun base _ _=>Zxa F54 T⟩
theorem walk{l:PySem.W.OpenLaw}{q:Program}{loose:List Str}{XP:(Str->Option Value)->Heap->Prop}{YP:World->Heap->Prop}{d:DefRec}{K:Params->Frag}(hn:l.most=some 63)(hdf:d.params.defaults=[])
  (hY:∀(w:World) (h:Heap),YP w h->(K w.params).In h)
  (F:∀(w:World) (mg:Str->Option Value) (fa:Addr) (h:Heap),(K w.params).In h->h.Ns mainGlobals mg->mg d.name=some (.ref fa) ->
   ∃fd:FuncData,(∀(s:Shared) (u:Value),BindsTo s fd ⟨[u],[]⟩ [("_law_script",u)])/\∀base:Heap,(K w.params).In base->base.Ns mainGlobals mg->Zz l.prog w (K w.params) mg base CX0 20 fa fd ["_law_script"] (Zpm (K w.params))) :
  PySem.W.WalkO q loose XP YP l.row.toRowW d [] (fun f vs=>PySem.call f vs) :=
 L2.walk_of (n:=63) (k:=20) (x := "_law_script") (CX:=fun _=>CX0) (sp:=fun w=>Zpm (K w.params)) hn (by decide) hdf ⟨rfl,by decide,by decide⟩ hY F (fun _ _ a ns hl _ hS=>⟨a,ns,rfl,hS,hl,fun _=>rfl⟩) fun _ _ _ _ _ z=>z
end K23
namespace PySem.W.Fast
def tw6100410544124561588:=()
def tw1775781915575957049:=()
def tw3646815346942780973:=()
def tw1494166661353913592:=()
def tw4350891475499183860:=()
def tw17341446740078490993:=()
def tw7286178853095624659:=()
def tw17602902783312876399:=()
def tw16503711322193141656:=()
def tw1527425779118960717:=()
def tw5110671847042756780:=()
def tw15382573229610366772:=()
def tw7763803230217372510:=()
def tw11656064216210454413:=()
def tw16645121488110814201:=()
def tw5447397652163035639:=()
def tw9790916852465268289:=()
def tw408190372983906407:=()
def tw12180270179381402684:=()
def tw18050490106184617989:=()
def tw16296934906821055738:=()
def tw12000307712920684752:=()
def tw16227616084960559064:=()
def tw3360419035286203436:=()
def tw6360347628799084933:=()
def tw2798922639409008110:=()
def tw8798123331707080107:=()
def tw3820498561693150312:=()
def tw2090842016815580462:=()
def tw10264336967675681125:=()
def tw8997728188396615269:=()
def tw17751786498480443987:=()
def tw8496758208284643867:=()
def tw17444121974285950032:=()
def tw2862581214739574097:=()
def tw8674811634895227903:=()
def tw11513295813672891318:=()
def tw12844109558417830892:=()
def tw18216410490062782112:=()
def tw6593718238945967908:=()
def tw16978237495512156547:=()
def tw2856915431049027762:=()
def tw10365796832605000566:=()
def tw9911682226824971841:=()
def tw15414626274409945537:=()
def tw5007936362214738682:=()
def tw10841542707911687504:=()
def tw16429048773082473173:=()
def tw17964375595891988590:=()
def tw4426910011546505419:=()
def tw8746478303955307295:=()
def tw6480524155298037922:=()
def tw2970445079424062656:=()
def tw11703810689783505722:=()
def tw8796455952656258817:=()
def tw11194273852421450512:=()
def tw15681186866367582861:=()
def tw17642465249245670891:=()
def tw18384765333831396572:=()
def tw9356962126777422153:=()
def tw6763334850761890419:=()
def tw10271559220526321000:=()
def tw12511218646029944762:=()
def tw13322358356027676516:=()
def tw11096499928817797305:=()
def tw13410981299108279337:=()
def tw5063322141395405668:=()
def tw5468946728710256892:=()
def tw6209141734372581675:=()
def tw3586591558129588281:=()
def tw5134901073058689535:=()
def tw16429195094301119001:=()
def tw7998209075735767501:=()
def tw638115521049801624:=()
def tw15373203204002241117:=()
def tw301489212322706809:=()
def tw527279068991449055:=()
def tw4880505713934995823:=()
def tw13870073421681488585:=()
def tw8239739889526713475:=()
def tw17986530699969067544:=()
def tw15686840812848667562:=()
def tw17518093808808133137:=()
def tw5686803379718632288:=()
def tw10948338115312057609:=()
def tw1499684214276615419:=()
def tw7320229195290154559:=()
def tw5516928705167651165:=()
def tw9204644014027930993:=()
def tw3769950572509684167:=()
def tw560764401341235817:=()
def tw10208248553350905607:=()
def tw1582889257850522557:=()
def tw5330324987102649193:=()
def tw15881210831647173919:=()
def tw18020430013007953394:=()
def tw3357321605074661421:=()
def tw3337060826131330665:=()
def tw4690010425533020709:=()
def tw8740143001175828251:=()
def tw12983537372240098559:=()
def tw4700572043582692677:=()
def tw14751247366012889930:=()
def tw3448113817480828948:=()
def tw12095119468783642758:=()
def tw17879359281887376747:=()
def tw11884693012958558474:=()
def tw10699995647854399428:=()
def tw13183882415113232987:=()
def tw8392677399355195637:=()
def tw16571379423482807677:=()
def tw13126987855267597313:=()
def tw1502107270787624449:=()
def tw4536668572105008360:=()
def tw16207717595583403977:=()
def tw1437779412475637521:=()
def tw14011867667475440708:=()
def tw6480933656188038361:=()
def tw17441222267888561396:=()
def tw2846847600945632036:=()
def tw11490193241848730742:=()
def tw8150246714027238144:=()
def tw14863058053086206649:=()
def tw15103489493266057069:=()
def tw3312771514184296767:=()
def tw10783166914867863356:=()
def tw8168232872490176158:=()
def tw4561003144077438264:=()
def tw9344308432275577621:=()
def tw1655810266063437763:=()
def tw373967958704683532:=()
def tw4446643846397016687:=()
def tw12496339802451179347:=()
def tw3434639414543319459:=()
def tw13854506135093466800:=()
def tw3712074160950063391:=()
def tw14556981745219328556:=()
def tw12929452839539899572:=()
def tw10091368381633523585:=()
def tw4787352568628014901:=()
def tw2633187246317343929:=()
def tw7357026310186092032:=()
def tw15930539007635961002:=()
def tw4681012860248554717:=()
def tw16209499977595637333:=()
def tw17390653001144169892:=()
def tw15737396826119795865:=()
def tw11064919359553894159:=()
def tw1328667539676334878:=()
def tw7337013500965497744:=()
def tw11184330174290266788:=()
def tw17087964071179832052:=()
def tw2909040656901424397:=()
def tw17997811429835575877:=()
def tw2771792329433118652:=()
def tw13723639356784284393:=()
def tw1727030150578391531:=()
def tw17138966761071322644:=()
def tw13170939790044979847:=()
def tw12989827708211992610:=()
def tw17952638401931328768:=()
def tw8595537585113156740:=()
def tw5100125215252648474:=()
def tw8440551395703922895:=()
def tw16777748435395175954:=()
def tw1766107392698170668:=()
def tw9002692811035923873:=()
def tw1390053754532445870:=()
def tw15515484390712010169:=()
def tw1594275085134104095:=()
def tw9558903554902508113:=()
def tw15499372480006059796:=()
def tw9457018847316927973:=()
def tw3815423002392987117:=()
def tw690563359692328525:=()
def tw17617133324010178153:=()
def tw17465477178999966044:=()
def tw1991531354576191685:=()
def tw11938553004743902930:=()
def tw4613279493860306693:=()
def tw9963061563341933556:=()
def tw4228482423740382041:=()
def tw16665640443777595259:=()
def tw12677802893899523635:=()
def tw11684748385006571299:=()
def tw12943683589417832461:=()
def tw12836964595818803781:=()
def tw18080970009578742429:=()
def tw6731426392883623515:=()
def tw16963149057814480722:=()
def tw14406426276602948441:=()
def tw11886335722735696133:=()
def tw15251668042364963572:=()
def tw15821805701234552838:=()
def tw312255470885914074:=()
def tw9657310880424585281:=()
def tw5476381272861678417:=()
def tw9494149467209750146:=()
def tw1319099908349720380:=()
def tw6504984807402294297:=()
def tw11426231873730408488:=()
def tw12291196927338004071:=()
def tw11501829400806785762:=()
def tw13530723204026419890:=()
def tw7515187384850131133:=()
def tw3269072084500149603:=()
def tw8388530333778309213:=()
def tw11146029322766965808:=()
def tw9115866182227903281:=()
def tw17628479414340809555:=()
def tw9092518605183297741:=()
def tw2065579987583539879:=()
def tw5940888245199983114:=()
def tw11772777173673195911:=()
def tw13184085205213523960:=()
def tw1752054397708701313:=()
def tw11044320628954460291:=()
def tw10092460635962348793:=()
def tw11645376889749058907:=()
def tw3569778641712138673:=()
def tw1069054716209958982:=()
def tw8051169134752693685:=()
def tw16726872746328112198:=()
def tw6183574158323849016:=()
def tw2543121044245898664:=()
def tw7122753767153731348:=()
def tw8435936959188742810:=()
def tw14862036936445218089:=()
def tw7923393449300611469:=()
def tw13908972732627905680:=()
def tw319674772206310963:=()
def tw14677850352012643861:=()
def tw3251836287617130482:=()
def tw4588612585101366696:=()
def tw5790098726038238624:=()
def tw11757979219068632780:=()
def tw17443011535218621188:=()
def tw15403150178953841982:=()
def tw7384398543874611389:=()
def tw17996332495037119984:=()
def tw2033897067090705929:=()
def tw10700703328246752895:=()
def tw10109302238614941163:=()
def tw13103060033846773178:=()
def tw16317617347580378100:=()
def tw11203047049495474428:=()
def tw9181352183431206167:=()
def tw16097608722345787785:=()
def tw1019248971584359201:=()
def tw13914052673929006099:=()
def tw12306260118654411985:=()
def tw15216547465016368493:=()
def tw10890218758381938908:=()
def tw3900406755785723638:=()
def tw10502369249160350183:=()
def tw9253795495406371622:=()
def tw15896697641844100385:=()
def tw11780490194602907357:=()
def tw11181733062058890595:=()
def tw6238415438444483629:=()
def tw10594582921180054567:=()
def tw15833885442552074459:=()
def tw7270037919312276548:=()
def tw7936332273145161026:=()
def tw5866343222353793395:=()
def tw9587988368660341904:=()
def tw1471851478863865813:=()
def tw8884968001309152514:=()
def tw9844346381015894948:=()
def tw9430272027129855294:=()
def tw635591503650867150:=()
def tw13008098370850819978:=()
def tw3388094828217221462:=()
def tw9629106521239486849:=()
def tw2074045192640309359:=()
def tw18154731902970935511:=()
def tw4468699356518495950:=()
def tw2892585888942785260:=()
def tw6156098934821703366:=()
def tw7223530352599300828:=()
def tw13974109793360734443:=()
def tw3856393355951171216:=()
def tw11756540418380786332:=()
def tw15528399097382243119:=()
def tw2900518178513994230:=()
def tw14585230119856328746:=()
def tw18246674628086109056:=()
def tw1072126328118094905:=()
def tw8159661486675775427:=()
def tw3503211528537586541:=()
def tw13362429833035735926:=()
def tw18425265081820355504:=()
def tw11532387898464965608:=()
def tw14168557376263218323:=()
def tw7137238266912779271:=()
def tw8459525191510684753:=()
def tw2562818926162019659:=()
def tw13627675137217973769:=()
def tw10536892786205802330:=()
def tw1743096447788861794:=()
def tw36165639733888271:=()
def tw16160617980295165668:=()
def tw12021505902465753469:=()
def tw13450730683414621029:=()
def tw1339428526929429071:=()
def tw8904622744427585406:=()
def tw15816661772084561766:=()
def tw1698982479248057172:=()
def tw8667110208472405981:=()
def tw2838251443480305373:=()
def tw825204018978611562:=()
def tw8195043671318773621:=()
def tw4493418492106661054:=()
def tw11862111765851094177:=()
def tw16602991376935042382:=()
def tw11174665988995507547:=()
def tw9854130482528412080:=()
def tw10290500373495508458:=()
def tw8597010687505169939:=()
def tw5559720515909640044:=()
def tw1250933597824721110:=()
def tw1482326258160494916:=()
def tw4561127367825287347:=()
def tw12428702833261674884:=()
def tw8452008032794092133:=()
def tw2857245948948268049:=()
def tw13938692243714819947:=()
def tw17355473569147151643:=()
def tw13830901286442924676:=()
def tw8534097226773072980:=()
def tw11391142742387712720:=()
def tw4245943765613018022:=()
def tw12370040475986099628:=()
def tw3803214865484100414:=()
def tw3514309867525391012:=()
def tw16190441686171118:=()
def tw16901030646401749425:=()
def tw575371678367547469:=()
def tw5404925254952222704:=()
def tw1424183930191750180:=()
def tw3623262240301190933:=()
def tw3115664911984429705:=()
def tw14389120889296591032:=()
def tw18307298217957201413:=()
def tw6257582344232079532:=()
def tw9818445442193426064:=()
def tw1712658473029860479:=()
def tw16085217132271963812:=()
def tw13177050101308111559:=()
def tw7186146723604558077:=()
def tw2846309205334567122:=()
def tw5046777021577252793:=()
def tw4859475779546318698:=()
def tw4778316181443633875:=()
def tw17332132767325323716:=()
def tw16887835072566985225:=()
def tw18161262874189997199:=()
def tw17402390196879599287:=()
def tw3828855100831923778:=()
def tw13419936638287303620:=()
def tw1110609615312517354:=()
def tw2743178607388760155:=()
def tw4143815780873883799:=()
def tw14320872198801631714:=()
def tw1271032593966801052:=()
def tw1755494056077844988:=()
def tw6527728053338131058:=()
def tw6624127349105477550:=()
def tw18013741349867833840:=()
def tw8418226606169332735:=()
def tw14137591659049084440:=()
def tw1601986368509110725:=()
def tw9839098700602244075:=()
def tw10719984714535462248:=()
def tw9148895129651263385:=()
def tw8342563299455586721:=()
def tw14742005330517201771:=()
def tw7796375144997468304:=()
def tw1765257623637817517:=()
def tw3758473554863329153:=()
def tw15948455117064831430:=()
def tw5674439466621983477:=()
def tw16231580457979872077:=()
def tw1205021462880367675:=()
def tw8371653397902686593:=()
def tw1098468680517310224:=()
def tw10952736030951455820:=()
def tw10430786182554333178:=()
def tw7945667961020462406:=()
def tw12651509148379207129:=()
def tw18184007196621931768:=()
def tw13727632004955758077:=()
def tw3439260805090828680:=()
def tw10463335262000555512:=()
def tw510788538237298754:=()
def tw7575099290298143399:=()
def tw13600422046623494492:=()
def tw16193854545715223621:=()
def tw11641078777970849453:=()
def tw12302802891494527502:=()
def tw17807368091988295020:=()
def tw9750224645081063833:=()
def tw833822554818204508:=()
def tw16225493568853335012:=()
def tw17142706551364244901:=()
def tw11554334083033687683:=()
def tw6269426910585545264:=()
def tw2252045045297066628:=()
def tw5600336620528613469:=()
def tw6293261810636829771:=()
def tw695486035099240772:=()
def tw1935535372431338078:=()
def tw7151580742901080942:=()
def tw1150635275002964583:=()
def tw14136544290595985399:=()
def tw2392311701479649103:=()
def tw191928675500775762:=()
def tw13485482989343565305:=()
def tw4304474044476460267:=()
def tw14916828775276897670:=()
def tw8338032099488603229:=()
def tw772472758763720506:=()
def tw11016225199599015479:=()
def tw7726309997809906671:=()
def tw18404526365805142414:=()
def tw2606828305067593768:=()
def tw15800854760503949801:=()
def tw10510943197328465715:=()
def tw15926200156416050138:=()
def tw12528420341011174870:=()
def tw10365598263755236658:=()
def tw9781696669705941551:=()
def tw5590562973031029756:=()
def tw5323722818971711963:=()
def tw4928371970662413220:=()
def tw14042268378805117215:=()
def tw5776895837047300853:=()
def tw9407019099996332056:=()
def tw9185167437866774186:=()
def tw6688921227175787898:=()
def tw11963226232685658395:=()
def tw723402742655329523:=()
def tw16055989886187983914:=()
def tw17803433754689365983:=()
def tw2800144919995054864:=()
def tw5392487236631801772:=()
def tw14731554293400158016:=()
def tw14682606128776949495:=()
def tw11332850637456870105:=()
def tw10874583538093339754:=()
def tw17634618779189066679:=()
def tw2714508291644793009:=()
def tw16806841313112187283:=()
def tw5899849780590467840:=()
def tw15334367719354595858:=()
def tw9295126286507867522:=()
def tw500827892712588624:=()
def tw14567487478620674684:=()
def tw705677102702976215:=()
def tw43298329516506916:=()
def tw17382429302614327463:=()
def tw627314510408544118:=()
def tw9882798291390281572:=()
def tw7150566550006559952:=()
def tw18131748467473023432:=()
def tw8839170400876243226:=()
def tw5403295960626905774:=()
def tw8884488152416182494:=()
def tw597848407772809260:=()
def tw17205663939825311307:=()
def tw17655576453578213752:=()
def tw9347455426467107066:=()
def tw2676457129752134917:=()
def tw8843340817670380758:=()
end PySem.W.Fast
open PySem PySem.W PyProof.Rows
set_option maxRecDepth 100000 in
set_option maxHeartbeats 0 in
theorem PySem.Challenge.cw_yardkeep_k23_whole_all_routes_holds : PySem.Challenge.rw_yardkeep_k23_whole_all_routes.Holds := by
  w_on; o_law; k_head; (case hw=>w_witness2)
  k_fill
  refine K23.walk (l:=PySem.Challenge.rw_yardkeep_k23_whole_all_routes) rfl rfl (fun w h Y=>PySem.W.kIn_of Y) ?F
  case F =>
    intro w mg fa h KX G hmg
    refine' K23.all_mk KX G hmg ?q0a ?q0b ?q0c ?q0d ?q0e ?q0f ?q0g ?q0h ?q0i ?q0j ?q0k ?q0l ?q0m ?q0n ?q0o ?q0p ?q0q ?q0r ?q0s ?q0t ?q0u ?q0v ?q0w ?q0x ?q0y ?q0z ?q00 ?q01 ?q02 ?q03 ?q04 ?q05 ?q06 ?q07 ?q08 ?q09 ?q1a ?q1b ?q1c ?q1d ?q1e ?q1f ?q1g ?q1h ?q1i ?q1j ?q1k ?q1l ?q1m ?q1n ?q1o ?q1p ?q1q ?q1r ?q1s ?q1t ?q1u ?q1v ?q1w ?q1x ?q1y ?q1z ?q10 ?q11 ?q12 ?q13 ?q14 ?q15 ?q16 ?q17 ?q18 ?q19 ?q2a ?q2b ?q2c ?q2d ?q2e ?q2f ?q2g ?q2h ?q2i ?q2j ?q2k ?q2l ?q2m ?q2n ?q2o ?q2p ?q2q ?q2r ?q2s ?q2t ?q2u ?q2v ?q2w ?q2x ?q2y ?q2z ?q20 ?q21 ?q22 ?q23 ?q24 ?q25 ?q26 ?q27 ?q28 ?q29 ?q3a ?q3b ?q3c ?q3d ?q3e ?q3f ?q3g ?q3h ?q3i ?q3j ?q3k ?q3l ?q3m ?q3n ?q3o ?q3p ?q3q ?q3r ?q3s ?q3t ?q3u ?q3v ?q3w ?q3x ?q3y ?q3z ?q30 ?q31 ?q32 ?q33 ?q34 ?q35 ?q36 ?q37 ?q38 ?q39 ?q4a ?q4b ?q4c ?q4d ?q4e ?q4f ?q4g ?q4h ?q4i ?q4j ?q4k ?q4l ?q4m ?q4n ?q4o ?q4p ?q4q ?q4r ?q4s ?q4t ?q4u ?q4v ?q4w ?q4x ?q4y ?q4z ?q40 ?q41 ?q42 ?q43 ?q44 ?q45 ?q46 ?q47 ?q48 ?q49 ?q5a ?q5b ?q5c ?q5d ?q5e ?q5f ?q5g ?q5h ?q5i ?q5j ?q5k ?q5l ?q5m ?q5n ?q5o ?q5p ?q5q ?q5r ?q5s ?q5t ?q5u ?q5v ?q5w ?q5x ?q5y ?q5z ?q50 ?q51 ?q52 ?q53 ?q54 ?q55 ?q56 ?q57 ?q58 ?q59 ?q6a ?q6b ?q6c ?q6d ?q6e ?q6f ?q6g ?q6h ?q6i ?q6j ?q6k ?q6l ?q6m ?q6n ?q6o ?q6p ?q6q ?q6r ?q6s ?q6t ?q6u ?q6v ?q6w ?q6x ?q6y ?q6z ?q60 ?q61 ?q62 ?q63 ?q64 ?q65 ?q66 ?q67 ?q68 ?q69 ?q7a ?q7b ?q7c ?q7d ?q7e ?q7f ?q7g ?q7h ?q7i ?q7j ?q7k ?q7l ?q7m ?q7n ?q7o ?q7p ?q7q ?q7r ?q7s ?q7t ?q7u ?q7v ?q7w ?q7x ?q7y ?q7z ?q70 ?q71 ?q72 ?q73 ?q74 ?q75 ?q76 ?q77 ?q78 ?q79 ?q8a ?q8b ?q8c ?q8d ?q8e ?q8f ?q8g ?q8h ?q8i ?q8j ?q8k ?q8l ?q8m ?q8n ?q8o ?q8p ?q8q ?q8r ?q8s ?q8t ?q8u ?q8v ?q8w ?q8x ?q8y ?q8z ?q80 ?q81 ?q82 ?q83 ?q84 ?q85 ?q86 ?q87 ?q88 ?q89 ?q9a ?q9b ?q9c ?q9d ?q9e ?q9f ?q9g ?q9h ?q9i ?q9j ?q9k ?q9l ?q9m ?q9n ?q9o ?q9p ?q9q ?q9r ?q9s ?q9t ?q9u ?q9v ?q9w ?q9x ?q9y ?q9z ?q90 ?q91 ?q92 ?q93 ?q94 ?q95 ?q96 ?q97 ?q98 ?q99 ?qja ?qjb ?qjc ?qjd ?qje ?qjf ?qjg ?qjh ?qji ?qjj ?qjk ?qjl ?qjm ?qjn ?qjo ?qjp ?qjq ?qjr ?qjs ?qjt ?qju ?qjv ?qjw ?qjx ?qjy ?qjz ?qj0 ?qj1 ?qj2 ?qj3 ?qj4 ?qj5 ?qj6 ?qj7 ?qj8 ?qj9 ?qka ?qkb ?qkc ?qkd ?qke ?qkf ?qkg ?qkh ?qki ?qkj ?qkk ?qkl ?qkm ?qkn ?qko ?qkp ?qkq ?qkr ?qks ?qkt ?qku ?qkv ?qkw ?qkx ?qky ?qkz ?qk0 ?qk1 ?qk2 ?qk3 ?qk4 ?qk5 ?qk6 ?qk7 ?qk8 ?qk9 ?qva ?qvb ?qvc ?qvd ?qve ?qvf ?qvg ?qvh ?qvi ?qvj ?qvk ?qvl ?qvm
    case q0a|q0b|q0c|q0d|q0e|q0f|q0g|q0h|q0i|q0j|q0k|q0l|q0m|q0n|q0o|q0p|q0q|q0r|q0s|q0t|q0u|q0v|q0w|q0x|q0y|q0z|q00|q01|q02|q03|q04|q05|q06|q07|q08|q09|q1a|q1b|q1c|q1d|q1e|q1f|q1g|q1h|q1i|q1j|q1k|q1l|q1m|q1n|q1o|q1p|q1q|q1r|q1s|q1t|q1u|q1v|q1w|q1x|q1y|q1z|q10|q11|q12|q13|q14|q15|q16|q17|q18|q19|q2a|q2b|q2c|q2d|q2e|q2f|q2g|q2h|q2i|q2j|q2k|q2l|q2m|q2n|q2o|q2p|q2q|q2r|q2s|q2t|q2u|q2v|q2w|q2x|q2y|q2z|q20|q21|q22|q23|q24|q25|q26|q27|q28|q29|q3a|q3b|q3c|q3d|q3e|q3f|q3g|q3h|q3i|q3j|q3k|q3l|q3m|q3n|q3o|q3p|q3q|q3r|q3s|q3t|q3u|q3v|q3w|q3x|q3y|q3z|q30|q31|q32|q33|q34|q35|q36|q37|q38|q39|q4a|q4b|q4c|q4d|q4e|q4f|q4g|q4h|q4i|q4j|q4k|q4l|q4m|q4n|q4o|q4p|q4q|q4r|q4s|q4t|q4u|q4v|q4w|q4x|q4y|q4z|q40|q41|q42|q43|q44|q45|q46|q47|q48|q49|q5a|q5b|q5c|q5d|q5e|q5f|q5g|q5h|q5i|q5j|q5k|q5l|q5m|q5n|q5o|q5p|q5q|q5r|q5s|q5t|q5u|q5v|q5w|q5x|q5y|q5z|q50|q51|q52|q53|q54|q55|q56|q57|q58|q59|q6a|q6b|q6c|q6d|q6e|q6f|q6g|q6h|q6i|q6j|q6k|q6l|q6m|q6n|q6o|q6p|q6q|q6r|q6s|q6t|q6u|q6v|q6w|q6x|q6y|q6z|q60|q61|q62|q63|q64|q65|q66|q67|q68|q69|q7a|q7b|q7c|q7d|q7e|q7f|q7g|q7h|q7i|q7j|q7k|q7l|q7m|q7n|q7o|q7p|q7q|q7r|q7s|q7t|q7u|q7v|q7w|q7x|q7y|q7z|q70|q71|q72|q73|q74|q75|q76|q77|q78|q79|q8a|q8b|q8c|q8d|q8e|q8f|q8g|q8h|q8i|q8j|q8k|q8l|q8m|q8n|q8o|q8p|q8q|q8r|q8s|q8t|q8u|q8v|q8w|q8x|q8y|q8z|q80|q81|q82|q83|q84|q85|q86|q87|q88|q89|q9a|q9b|q9c|q9d|q9e|q9f|q9g|q9h|q9i|q9j|q9k|q9l|q9m|q9n|q9o|q9p|q9q|q9r|q9s|q9t|q9u|q9v|q9w|q9x|q9y|q9z|q90|q91|q92|q93|q94|q95|q96|q97|q98|q99|qja|qjb|qjc|qjd|qje|qjf|qjg|qjh|qji|qjj|qjk|qjl|qjm|qjn|qjo|qjp|qjq|qjr|qjs|qjt|qju|qjv|qjw|qjx|qjy|qjz|qj0|qj1|qj2|qj3|qj4|qj5|qj6|qj7|qj8|qj9|qka|qkb|qkc|qkd|qke|qkf|qkg|qkh|qki|qkj|qkk|qkl|qkm|qkn=>k_is
    case qko|qkp|qkq|qkr|qks|qkt|qku|qkv|qkw|qkx|qky|qkz|qk0=>kit_is
    case qk1|qk2|qk3|qk4|qk5|qk6|qk7|qk8|qk9|qva|qvb|qvc|qvd|qve|qvf|qvg|qvh|qvi|qvj|qvk|qvl|qvm=>k_is
