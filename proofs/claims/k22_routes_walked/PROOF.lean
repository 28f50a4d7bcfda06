import PyProof.Rows.All
import Wide.All
import OpenK.AllK
import Wide.FinOn
import Lean
import PyProof.EqAt
import PyProof.EqKinds
import PyProof.TupleCall
import PyProof.NeKinds
import KE.KEqDict
import KE.KPairComp
import PyProof.EnumStmt
import PyProof.EnumMake
import PyProof.Rows.EnumRows
import KE.KDictList
import PyProof.ListRange
import PyProof.StationsW
import PyProof.Rows.SortStr
import KE.KDictSum
import PyProof.InstStoreFacts
import KE.KIsAll
import PyProof.ExcAttrAll.ValueError
import PyProof.ExcClass2
import PyProof.RulesAs
import KE.KDictOf
import PyProof.IsiH_list
import KE.KLam
import KE.KNestM
import PyProof.Rows.ZipGen
import PyProof.Rows.FactsT2
import PyProof.Rows.TupAssign
import PyProof.StrOps2
import PyProof.FitsStr
import PyProof.SumWalkG
import KE.KRevSl
import KE.KRevIter
import PyProof.Rows.SortRuns
import KE.KSortTup
import PyProof.FactsAll.tuple_2
import PyProof.TupleKey
import PyProof.Rows.SortKeyStr
import PySem.Challenge.RW_yardkeep_k22_routes_walked
set_option Elab.async false
set_option linter.all false
set_option maxRecDepth 100000
set_option maxHeartbeats 4000000
local macro_rules|`(tactic|trivial)=>`(tactic|decide +kernel)
open PySem.W (Frag kitOne keepIn findIn nsIn mg_of fnOf codeIn)
namespace L2
open PySem PySem.Spec PyProof.Rows
abbrev Key:=Sum Int Str
def Zig:Key->Value->Bool
 | .inl k,v=>Value.isInt k v
 | .inr x,v=>Value.isStrOf x v
def Yc9(w:World):Key->Int
 | .inl k=>hashInt k
 | .inr x=>hashStr w x
theorem Y5:∀{k:Key} {v:Value},Zig k v=true->(∃i t,k=Sum.inl i/\v=Value.int i t)\/(∃x t,k=Sum.inr x/\v=Value.str x t)
 | .inl i,v,h=>by
  obtain ⟨t,e⟩:=Value.isInt_shape (k:=i) (v:=v) h;exact .inl ⟨i,t,rfl,e⟩
 | .inr x,v,h=>by
  obtain ⟨t,e⟩:=Value.isStrOf_shape (x:=x) (v:=v) h;exact .inr ⟨x,t,rfl,e⟩
theorem Zs9(i:Int)(t:Tok):Zig (.inl i) (.int i t)=true:=by simp [Zig,Value.isInt]
theorem Zta(x:Str)(t:Tok):Zig (.inr x) (.str x t)=true:=by simp [Zig,Value.isStrOf]
theorem Zzh(a b:Int):decide ((Sum.inl a:Key)=Sum.inl b)=(a ==b):=by
 by_cases e:a=b
 ·subst e;simp
 ·have h:¬(Sum.inl a:Key)=Sum.inl b:=fun q=>e (Sum.inl.inj q)
  rw [decide_eq_false h];exact (beq_eq_false_iff_ne.mpr e).symm
theorem Yau(a b:Str):decide ((Sum.inr a:Key)=Sum.inr b)=decide (a=b):=by
 by_cases e:a=b
 ·subst e;simp
 ·have h:¬(Sum.inr a:Key)=Sum.inr b:=fun q=>e (Sum.inr.inj q)
  rw [decide_eq_false h,decide_eq_false e]
theorem Zz5(a:Int)(b:Str):decide ((Sum.inl a:Key)=Sum.inr b)=false:=decide_eq_false (fun q=>nomatch q)
theorem Zze(a:Str)(b:Int):decide ((Sum.inr a:Key)=Sum.inl b)=false:=decide_eq_false (fun q=>nomatch q)
def Z9(prog:Program)(w:World):PySem.KeyKind prog w Key where
 is:=Zig
 hash:=Yc9 w
 inj:=fun v a b ha hb=>by
  rcases Y5 ha with ⟨i,t,rfl,rfl⟩|⟨x,t,rfl,rfl⟩
  ·rcases Y5 hb with ⟨j,u,rfl,e⟩|⟨y,u,rfl,e⟩
   ·injection e with e1 _;rw [e1]
   ·exact nomatch e
  ·rcases Y5 hb with ⟨j,u,rfl,e⟩|⟨y,u,rfl,e⟩
   ·exact nomatch e
   ·injection e with e1 _;rw [e1]
 byValue:=fun k v h=>by
  rcases Y5 h with ⟨i,t,rfl,rfl⟩|⟨x,t,rfl,rfl⟩ <;>rfl
 pyHash:=fun hv h=>by
  rcases Y5 hv with ⟨i,t,rfl,rfl⟩|⟨x,t,rfl,rfl⟩
  ·exact wpAny_pyHash_int h
  ·exact wpAny_pyHash_str h
 eqBool:=fun hu hv h=>by
  rcases Y5 hu with ⟨i,t,rfl,rfl⟩|⟨x,t,rfl,rfl⟩
  ·rcases Y5 hv with ⟨j,u,rfl,rfl⟩|⟨y,u,rfl,rfl⟩
   ·rw [Zzh] at h;exact wpAny_eqBool_int h
   ·rw [Zz5] at h;exact SeqAt.EqAt.int_str i t y u _ _ _ _ h
  ·rcases Y5 hv with ⟨j,u,rfl,rfl⟩|⟨y,u,rfl,rfl⟩
   ·rw [Zze] at h;exact SeqAt.EqAt.str_int x t j u _ _ _ _ h
   ·rw [Yau] at h;exact wpAny_eqBool_str h
 «strs» :=fun k x t v h=>by
  rcases Y5 h with ⟨i,u,rfl,e⟩|⟨y,u,rfl,e⟩
  ·exact nomatch e
  ·injection e with e1 _
   subst e1;cases v <;>rfl
theorem Zoo(prog:Program)(w:World)(i:Int)(t:Tok):(Z9 prog w).is (.inl i) (.int i t)=true:=Zs9 i t
theorem Zoj(prog:Program)(w:World)(x:Str)(t:Tok):(Z9 prog w).is (.inr x) (.str x t)=true:=Zta x t
end L2
namespace L2
open PySem PySem.Spec PyProof.Rows
inductive V where
 | non | bl (b:Bool) | int (i:Int) | str (x:Str) | byt (b:Array UInt8) | flt (b:UInt64) | ref (a:Addr) | ty (n:String)
 deriving DecidableEq
def Yf:V->Value->Prop
 | .non,u=>u=Value.none
 | .bl b,u=>u=Value.bool b
 | .int i,u=>∃t,u=Value.int i t
 | .str x,u=>∃t,u=Value.str x t
 | .byt b,u=>∃t,u=Value.bytes b t
 | .flt b,u=>∃t,u=Value.float b t
 | .ref a,u=>u=Value.ref a
 | .ty n,u=>u=Value.type n
abbrev Ya:List V->List Value->Prop:=Paired Yf
theorem Ya.length{xs:List V}{us:List Value}(r:Ya xs us):xs.length=us.length:=Paired.length r
theorem Ya.get:∀{xs:List V} {us:List Value} {i:Nat} {x:V},Ya xs us->xs[i]? =some x->∃u,us[i]? =some u/\Yf x u
 | _,_,_,_,.nil,e=>by simp at e
 | _,_,0,_,.cons r _,e=>by simp at e;subst e;exact ⟨_,rfl,r⟩
 | _,_,i+1,x,.cons _ t,e=>by
  obtain ⟨u,h1,h2⟩:=Ya.get (i:=i) (x:=x) t (by simpa using e);exact ⟨u,by simpa using h1,h2⟩
theorem Ya.set{x:V}{u:Value}(r:Yf x u):∀{xs:List V} {us:List Value} (i:Nat),Ya xs us->Ya (xs.set i x) (us.set i u)
 | _,_,_,.nil=>.nil
 | _,_,0,.cons _ t=>.cons r t
 | _,_,i+1,.cons q t=>.cons q (Ya.set r i t)
theorem Ya.append:∀{xs ys:List V} {us ws:List Value},Ya xs us->Ya ys ws->Ya (xs++ys) (us++ws)
 | _,_,_,_,.nil,s=>s
 | _,_,_,_,.cons r t,s=>.cons r (Ya.append t s)
theorem Ya.take:∀{xs:List V} {us:List Value} (n:Nat),Ya xs us->Ya (xs.take n) (us.take n)
 | _,_,0,_=>.nil
 | _,_,_+1,.nil=>.nil
 | _,_,n+1,.cons r t=>.cons r (Ya.take n t)
theorem Ya.drop:∀{xs:List V} {us:List Value} (n:Nat),Ya xs us->Ya (xs.drop n) (us.drop n)
 | _,_,0,r=>r
 | _,_,_+1,.nil=>.nil
 | _,_,n+1,.cons _ t=>Ya.drop n t
def Zcb:Option V->Option Value->Prop
 | some v,some u=>Yf v u
 | none,none=>True
 | _,_=>False
def KV{κ:Type}:List (κ×V)->List (κ×Value)->Prop:=Paired fun (p:κ×V) (q:κ×Value)=>p.1=q.1/\Yf p.2 q.2
def kV:Key->V
 | .inl i=>.int i
 | .inr x=>.str x
inductive HO where
  | lst (xs:List V)
  | tup (xs:List V)
  | dK (kvs:List (Key×V)) | dT (kvs:List (List Key×V))
  | set (S:Int->Bool) (n:Nat)
  | ins (C dx:Addr) (fs:List (Str×V))
  | own (x:Addr)
  | xd (fs:List (Str×V))
  | met (f x:Addr)
  | rng (lo hi:Int)
  | frz (o:Obj) (u:HO)
  | tbl (ps:Array Value)
  | ext (φ:Heap->Prop)
abbrev Hp:=Addr->Option HO
def upd(H:Hp)(a:Addr)(o:HO):Hp:=fun b=>if b=a then some o else H b
theorem Zf{H:Hp}{a:Addr}{o:HO}:upd H a o a=some o:=by unfold upd;rw [if_pos rfl]
theorem Zh{H:Hp}{a b:Addr}{o:HO}(h:b≠a):upd H a o b=H b:=by unfold upd;rw [if_neg h]
theorem Zlw{H:Hp}{a:Addr}{o u:HO}:upd (upd H a o) a u=upd H a u:=by
 funext b;unfold upd;split <;>rfl
theorem Zyh{H:Hp}{a b:Addr}{o u:HO}(h:H a=some o)(h':H b=some u)(d:o≠u):a≠b:=by
 intro e;subst e;rw [h] at h';exact d (Option.some.inj h')
theorem Zj{H:Hp}{a b:Addr}{o:HO}(h:H a=some o)(h':H b=none):a≠b:=by
 intro e;subst e;rw [h] at h';cases h'
section
variable (P:Program) (w:World)
def Yi(H:Hp)(h:Heap)(a:Addr):HO->Prop
 | .lst xs=>xs.length<=sizeLine/\∃(a7:List Value) (n:Nat),Ya xs a7/\h.get? a=some { cls:=.type "list",data:=.seq a7.toArray n }
 | .tup xs=>xs.length<=sizeLine/\∃a7:List Value,Ya xs a7/\IsTup h a a7.toArray
 | .dK kvs=>kvs.length<=sizeLine/\(a ==sysModules)=false/\∃vs,KV kvs vs/\h.DictOf (Z9 P w) a vs
 | .dT kvs=>kvs.length<=sizeLine/\(a ==sysModules)=false/\∃xs:List (List Key×Addr×Value),
   Paired (fun (p:List Key×V) (q:List Key×Addr×Value)=>p.1=q.1/\H q.2.1=some (.tup (p.1.map kV))/\Yf p.2 q.2.2) kvs xs /\
   ∃o es ep,h.get? a=some o/\o.ExactDict/\o.data=.dict es ep/\es.toList=xs.map (entryOfKey (tupleKind (Z9 P w)))/\(xs.map (·.1)).Nodup
 | .set S n=>h.SetOf (intKind P w) a S n
 | .ins C dx fs=>H dx=some (.own a)/\fs.length<=1000/\dx≠a/\h.get? a=some (PySem.W.instObj C dx) /\
   ∃mA,h.Ns1 dx mA/\(∀f,Zcb (fs.lookup f) (mA f))/\PySem.Within mA (fs.map (·.1))
 | .own _=>∃o,h.get? a=some o
 | .xd fs=>∃mA,h.Ns1 a mA/\∀f,Zcb (fs.lookup f) (mA f)
 | .rng lo hi=>∃t u v,h.get? a=some { cls:=.type "range",data:=.fields #[.int lo t,.int hi u,.int 1 v] }
 | .frz o u=>h.get? a=some o/\Yi H h a u
 | .tbl ps=>∃(ln cl:Value) (q:Str) (t:Nat),ps[0]? =some ln/\ps[1]? =some cl/\ps[2]? =some (.str q t) /\
   (h.get? a=some { cls:=.none,data:=.fields #[] }\/∃(c:Addr) (oc:Obj) (vs:Array Value) (tt:Nat),H c=some (.frz oc (.own a))/\oc.data=.fields vs/\vs[1]? =some (.str q tt) /\
    h.get? a=some { cls:=.none,data:=.fields #[ln,cl,.ref c] })
 | .met f x=>h.get? a=some (PySem.W.methodObj (.ref f) (.ref x))
 | .ext φ=>φ h/\(∃o,h.get? a=some o)/\∀h1 h2:Heap,φ h1->(∀o,h1.get? a=some o->h2.get? a=some o)->φ h2
def HOk(H:Hp)(h:Heap):Prop:=∀a o,H a=some o->Yi P w H h a o
end
section
variable {P:Program} {w:World} {H H':Hp} {h h':Heap} {a:Addr} {o:HO}
theorem Yi.lt(x:Yi P w H h a o):a<h.objs.size:=by
 cases o with
 | lst xs=>obtain ⟨_,_,_,_,e⟩:=x;exact Heap.lt_size e
 | tup xs=>obtain ⟨_,_,_,p⟩:=x;exact p.lt
 | dK kvs=>obtain ⟨_,_,_,_,o,_,_,e,_⟩:=x;exact Heap.lt_size e
 | dT kvs=>obtain ⟨_,_,_,_,o,_,_,e,_⟩:=x;exact Heap.lt_size e
 | set S n=>obtain ⟨o,_,_,_,e,_⟩:=x;exact Heap.lt_size e
 | ins C dx fs=>obtain ⟨_,_,_,e,_⟩:=x;exact Heap.lt_size e
 | own y=>obtain ⟨_,e⟩:=x;exact Heap.lt_size e
 | xd fs=>obtain ⟨_,⟨_,_,_,e,_⟩,_⟩:=x;exact Heap.lt_size e
 | rng lo hi=>obtain ⟨_,_,_,e⟩:=x;exact Heap.lt_size e
 | frz ob u=>obtain ⟨e,_⟩:=x;exact Heap.lt_size e
 | tbl ps =>
  obtain ⟨_,_,_,_,_,_,_,e | ⟨_,_,_,_,_,_,_,e⟩⟩:=x
  ·exact Heap.lt_size e
  ·exact Heap.lt_size e
 | met f y=>exact Heap.lt_size (show h.get? a=some _ from x)
 | ext φ=>obtain ⟨_,⟨_,e⟩,_⟩:=x;exact Heap.lt_size e
theorem Paired.mapP{α β:Type}{F G:α->β->Prop}:∀{l₁:List α} {l₂:List β},Paired F l₁ l₂->(∀a b,F a b->G a b)->Paired G l₁ l₂
 | _,_,.nil,_=>.nil
 | _,_,.cons r t,f=>.cons (f _ _ r) (Paired.mapP t f)
theorem Yi.stay(x:Yi P w H h a o)(k:∀b u,(b=a\/H b=some (.own a))->h.get? b=some u->h'.get? b=some u)
  (ho:∀b,H b=some (.own a)->H' b=some (.own a)) (ht:∀b xs,H b=some (.tup xs)->H' b=some (.tup xs))
  (hz:∀b o,H b=some (.frz o (.own a))->H' b=some (.frz o (.own a)):=by first | exact fun _ _ q=>q | (intro b o q;rw [Zh (Zj q (by assumption))];exact q)):Yi P w H' h' a o:=by
 induction o with
 | lst xs=>obtain ⟨z,a7,n,r,e⟩:=x;exact ⟨z,a7,n,r,k _ _ (.inl rfl) e⟩
 | tup xs=>obtain ⟨z,a7,r,ob,e,c⟩:=x;exact ⟨z,a7,r,ob,k _ _ (.inl rfl) e,c⟩
 | dK kvs=>obtain ⟨z,y,vs,r,ob,es,ep,e,c⟩:=x;exact ⟨z,y,vs,r,ob,es,ep,k _ _ (.inl rfl) e,c⟩
 | dT kvs =>
  obtain ⟨z,y,xs,r,ob,es,ep,e,c⟩:=x;exact ⟨z,y,xs,Paired.mapP r fun p q z=>⟨z.1,ht _ _ z.2.1,z.2.2⟩,ob,es,ep,k _ _ (.inl rfl) e,c⟩
 | set S n=>obtain ⟨ob,es,ep,t,e,c⟩:=x;exact ⟨ob,es,ep,t,k _ _ (.inl rfl) e,c⟩
 | ins C dx fs =>
  obtain ⟨d,z,ne,e,mA,⟨od,es,ep,e2,c⟩,r⟩:=x;exact ⟨ho _ d,z,ne,k _ _ (.inl rfl) e,mA,⟨od,es,ep,k _ _ (.inr d) e2,c⟩,r⟩
 | own y=>obtain ⟨ob,e⟩:=x;exact ⟨ob,k _ _ (.inl rfl) e⟩
 | xd fs=>obtain ⟨mA,⟨od,es,ep,e,c⟩,r⟩:=x;exact ⟨mA,⟨od,es,ep,k _ _ (.inl rfl) e,c⟩,r⟩
 | rng lo hi=>obtain ⟨t,u,v,e⟩:=x;exact ⟨t,u,v,k _ _ (.inl rfl) e⟩
 | frz ob u ih=>obtain ⟨e,q⟩:=x;exact ⟨k _ _ (.inl rfl) e,ih q⟩
 | tbl ps =>
  obtain ⟨ln,cl,q,t,e1,e2,e3,e | ⟨c,oc,vs,tt,f1,f2,f3,e⟩⟩:=x
  ·exact ⟨ln,cl,q,t,e1,e2,e3,.inl (k a _ (.inl rfl) e)⟩
  ·exact ⟨ln,cl,q,t,e1,e2,e3,.inr ⟨c,oc,vs,tt,hz _ _ f1,f2,f3,k a _ (.inl rfl) e⟩⟩
 | met f y =>
  have e:h.get? a=some (PySem.W.methodObj (.ref f) (.ref y)):=x;show h'.get? a=some (PySem.W.methodObj (.ref f) (.ref y));exact k a _ (.inl rfl) e
 | ext φ=>obtain ⟨p,⟨o,e⟩,st⟩:=x;exact ⟨st _ _ p fun o q=>k _ _ (.inl rfl) q,⟨o,k _ _ (.inl rfl) e⟩,st⟩
theorem HOk.lt(x:HOk P w H h)(e:H a=some o):a<h.objs.size:=(x a o e).lt
theorem HOk.fresh(x:HOk P w H h)(e:h.objs.size<=a):H a=none:=by
 cases q:H a with
 | none=>rfl
 | some u=>exact absurd (Nat.lt_of_lt_of_le (x.lt q) e) (Nat.lt_irrefl _)
theorem HOk.kept(x:HOk P w H h)(k:∀b u,h.get? b=some u->h'.get? b=some u):HOk P w H h':=fun a o e =>
 (x a o e).stay (fun b u _ q=>k b u q) (fun _ q=>q) fun _ _ q=>q
theorem HOk.laid(x:HOk P w H h)(k:∀b u,h.get? b=some u->h'.get? b=some u)(hp:h.objs.size<=a)(new:Yi P w (upd H a o) h' a o):HOk P w (upd H a o) h':=fun b u e=>by
 have hn:=x.fresh hp
 by_cases hb:b=a
 ·subst hb;rw [Zf] at e;cases e;exact new
 ·rw [Zh hb] at e;exact (x b u e).stay (fun c v _ q=>k c v q) (fun c q=>by rw [Zh (Zj q hn)];exact q) fun c xs q=>by rw [Zh (Zj q hn)];exact q
end
def Rd(H:Hp)(a:Addr)(u:HO):Prop:=H a=some u\/∃o,H a=some (.frz o u)
theorem Rd.ok{P:Program}{w:World}{H:Hp}{h:Heap}{a:Addr}{u:HO}(r:Rd H a u)(x:HOk P w H h):Yi P w H h a u:=by
 rcases r with r|⟨o,r⟩
 ·exact x a u r
 ·obtain ⟨_,q⟩:=x a _ r;exact q
def Mut:Option HO->Prop
 | some (.lst _)=>True
 | some (.dK _)=>True
 | some (.dT _)=>True
 | some (.set _ _)=>True
 | some (.ins _ _ _)=>True
 | some (.ext _)=>True
 | _=>False
section
variable {P:Program} {w:World} {H:Hp} {h h':Heap} {x e:Addr} {o':HO}
theorem HOk.write(ok:HOk P w H h)(mu:Mut (H x))(he:e=x\/H e=some (.own x))(k:∀b u,b≠e->h.get? b=some u->h'.get? b=some u)(heo:∃u,h'.get? e=some u)
  (new:Yi P w (upd H x o') h' x o'):HOk P w (upd H x o') h':=fun b u q=>by
 have nown:∀c y,H c=some (.own y)->c≠x:=fun c y r z=>by subst z;rw [r] at mu;exact mu
 have ntup:∀c xs,H c=some (.tup xs)->c≠x:=fun c xs r z=>by subst z;rw [r] at mu;exact mu
 have nfrz:∀c o y,H c=some (.frz o (.own y))->c≠x:=fun c o y r z=>by subst z;rw [r] at mu;exact mu
 by_cases hb:b=x
 ·subst hb;rw [Zf] at q;cases q;exact new
 ·rw [Zh hb] at q
  by_cases U8:b=e
  ·have q':H b=some (.own x):=by
    rcases he with z|z
    ·exact absurd (U8.trans z) hb
    ·rw [U8];exact z
   rw [q] at q';cases q';obtain ⟨v,hv⟩:=heo;exact ⟨v,by rw [U8];exact hv⟩
  ·refine (ok b u q).stay (fun c v hc r=>k c v ?_ r) (fun c r=>by rw [Zh (nown c b r)];exact r) (fun c xs r=>by rw [Zh (ntup c xs r)];exact r) (fun c o r=>by rw [Zh (nfrz c o b r)];exact r);rcases hc with rfl|hc
   ·exact U8
   ·rintro rfl;rcases he with z|z
    ·exact nown c b hc z
    ·rw [hc] at z;cases z;exact hb rfl
end
structure Un(fs ex:List Addr)(H H':Hp)(h h':Heap):Prop where
 keep:∀b o,h.get? b=some o->H b=none->b∉fs->b∉ex->h'.get? b=some o
 slot:∀b o,h.get? b=some o->H b=none->b∈fs->b∉ex->∃sl,h'.get? b=some { o with slots:=sl }
 free:∀b o,h.get? b=some o->H b=none->b∉ex->H' b=none
 there:∀b o,h.get? b=some o->b∉ex->∃o',h'.get? b=some o'
 tups:∀b xs,H b=some (.tup xs)->H' b=some (.tup xs)
 frzs:∀b o u,H b=some (.frz o u)->H' b=some (.frz o u)
 tbls:∀b ps,H b=some (.tbl ps)->∃more,H' b=some (.tbl (ps++more))
section
variable {fs fs' ex ex':List Addr} {H H1 H2:Hp} {h h1 h2 h':Heap} {a x e:Addr} {o:HO}
theorem Un.any(u:Un fs ex H H1 h h1){b:Addr}{ob:Obj}(q:h.get? b=some ob)(n:H b=none)(hx:b∉ex):∃sl,h1.get? b=some { ob with slots:=sl }:=by
 by_cases hb:b∈fs
 ·exact u.slot b ob q n hb hx
 ·exact ⟨ob.slots,u.keep b ob q n hb hx⟩
theorem Un.kept(k:∀b u,h.get? b=some u->h'.get? b=some u):Un fs ex H H h h' :=
 ⟨fun b ob q _ _ _=>k b ob q,fun b ob q _ _ _=>⟨ob.slots,k b ob q⟩,fun _ _ _ n _=>n,fun b ob q _=>⟨ob,k b ob q⟩,fun _ _ q=>q,fun _ _ _ q=>q,fun _ ps q=>⟨#[],by rw [q];simp⟩⟩
theorem Un.refl:Un fs ex H H h h:=Un.kept fun _ _ q=>q
theorem Un.laid(k:∀b u,h.get? b=some u->h'.get? b=some u)(hp:h.objs.size<=a)(hn:H a=none):Un fs ex H (upd H a o) h h' where
 keep:=fun b u q _ _ _=>k b u q
 slot:=fun b u q _ _ _=>⟨u.slots,k b u q⟩
 free:=fun b u q n _=>by rw [Zh (Nat.ne_of_lt (Nat.lt_of_lt_of_le (Heap.lt_size q) hp))];exact n
 there:=fun b u q _=>⟨u,k b u q⟩
 tups:=fun b xs q=>by rw [Zh (Zj q hn)];exact q
 frzs:=fun b u xs q=>by rw [Zh (Zj q hn)];exact q
 tbls:=fun b ps q=>⟨#[],by rw [Zh (Zj q hn),q];simp⟩
theorem Un.write(mu:Mut (H x))(he:e=x\/H e=some (.own x))(k:∀b u,b≠e->h.get? b=some u->h'.get? b=some u)(heo:∃u,h'.get? e=some u):Un fs ex H (upd H x o) h h':=by
 have hx:∀b,H b=none->b≠x:=fun b n z=>by subst z;rw [n] at mu;exact mu
 have hb:∀b,H b=none->b≠e:=fun b n z=>by
  subst z;rcases he with r|r
  ·exact hx b n r
  ·rw [n] at r;cases r
 have hm:∀b u,H b=some u->¬Mut (some u)->b≠x:=fun b u q nm z=>by subst z;rw [q] at mu;exact nm mu
 refine ⟨fun b u q n _ _=>k b u (hb b n) q,fun b u q n _ _=>⟨u.slots,k b u (hb b n) q⟩,fun b u q n _=>by rw [Zh (hx b n)];exact n,fun b u q _=>?_,
  fun b xs q=>by rw [Zh (hm b _ q fun z=>z)];exact q,fun b u xs q=>by rw [Zh (hm b _ q fun z=>z)];exact q,fun b ps q=>⟨#[],by rw [Zh (hm b _ q fun z=>z),q];simp⟩⟩
 by_cases U8:b=e
 ·subst U8;exact heo
 ·exact ⟨u,k b u U8 q⟩
end
def trk(h:Heap)(H:Hp):List Addr:=(List.range h.objs.size).filter fun a=>(H a).isSome
def Zly(h:Heap)(H:Hp):Heap:=PySem.W.hideAll h (trk h H)
theorem Zs7(h:Heap)(H:Hp):(Zly h H).objs.size=h.objs.size:=PySem.W.hideAll_size _ _
theorem Zu3{h:Heap}{H:Hp}{b:Addr}{o:Obj}(e:h.get? b=some o)(n:H b=none):(Zly h H).get? b=some o :=
 PySem.W.hideAll_get _ e fun hm=>by
  have q:(H b).isSome=true:=(List.mem_filter.mp hm).2;rw [n] at q;simp at q
theorem Zw4{h:Heap}{H:Hp}{b:Addr}{o:Obj}(e:(Zly h H).get? b=some o):h.get? b=some o/\H b=none:=by
 have e':h.get? b=some o:=PySem.W.of_hideAll (trk h H) e;refine ⟨e',?_⟩;cases q:H b with
 | none=>rfl
 | some x =>
  have hm:b∈trk h H:=List.mem_filter.mpr ⟨List.mem_range.mpr (Heap.lt_size e'),by simp [q]⟩;have z:(Zly h H).get? b=none:=PySem.W.hideAll_none (trk h H) hm;rw [z] at e;cases e
def Zwz(g h:Heap)(L:Addr):List (Addr×Obj):=(List.range h.objs.size).filterMap fun a=>if a=L\/(g.get? a).isSome=true then none else (h.get? a).map fun o=>(a,o)
def Zx(g h:Heap)(L d:Addr):List (Addr×Obj):=(Zwz g h L).filter fun p=>decide (p.1≠d)
end L2
namespace L2
open PySem PySem.Spec PyProof.Rows
def Zyw(mg:Str->Option Value)(h:Heap):Prop:=∃bm ob,mg "__builtins__" =some (.ref bm)/\bm≠builtinsNs/\h.get? bm=some ob/\ob.cls=.type "module" /\ob.dict=some builtinsNs/\ob.data=.plain
structure Mod(K:Frag)(mg:Str->Option Value)(base:Heap):Prop where
 kin:K.In base
 glob:base.Ns mainGlobals mg
 blt:∃mb,base.Ns builtinsNs mb/\∀x:Str,x ≠ "__name__" ->mb x=bootBuiltins x
 nolimit:base.NoLimit
 bm:Zyw mg base
structure Cx where
 prog:Program
 w:World
 K:Frag
 mg:Str->Option Value
 base:Heap
 A:Around
 N:List Str
 s₀:Shared
 H₀:Hp
 env:Env
 outer:List Env
 stack:List Env
 ex:List Addr
 fn:Str->Bool
 calm:Bool
 pn:List (Addr×Obj)
 xe:Value->Shared->Prop
def frs(l:List Env):List Addr:=l.filterMap (·.frame)
abbrev Cx.fs(X:Cx):List Addr:=frs X.outer
def Vis(sc:Scope)(x:Str):Prop:=sc.names.lookup x=some .local\/sc.names.lookup x=some .cell\/sc.names.lookup x=some .free
def Loc(sc:Scope)(x:Str):Prop:=sc.names.lookup x=some .local\/sc.names.lookup x=some .cell
def Yc1(env:Env)(h:Heap)(m:Str->Option Value)(x:Str)(u:Value):Prop :=
 (env.kindOf x=some .local/\m x=some u)\/((env.kindOf x=some .cell\/env.kindOf x=some .free)/\∃c,env.cells.lookup x=some c/\h.IsCell c (some u))
structure Cx.Ok(X:Cx):Prop where
 mod:Mod X.K X.mg X.base
 kind:X.env.scope.kind=.function
 glob:X.env.globals=mainGlobals
 blt:X.env.builtins=builtinsNs
 above:X.s₀.heap.objs.size<=X.env.locals
 inj:∀x y c,X.env.cells.lookup x=some c->X.env.cells.lookup y=some c->x=y
 has:∀x,(X.env.kindOf x=some .cell\/X.env.kindOf x=some .free)->∃c,X.env.cells.lookup x=some c
 cab:∀x c,X.fn x=true->X.env.cells.lookup x=some c->X.s₀.heap.objs.size<=c
 hd:X.calm=true->X.A.handled=none
 frames:X.A.frames=some X.stack
 stk:X.stack=X.outer\/(X.stack=X.env ::X.outer/\X.env.frame=some X.env.locals)
 exf:∀b∈X.ex,b≠X.env.locals/\∀x c,X.env.cells.lookup x=some c->c≠b
 bs:∀b o,X.base.get? b=some o->X.s₀.heap.get? b=some o/\X.H₀ b=none
 bsz:X.base.objs.size<=X.s₀.heap.objs.size
 noex:∀b o,X.base.get? b=some o->b∉X.ex
 exfs:∀b∈X.ex,b∉X.fs
 funs:X.s₀.heap.FunFrames X.base X.outer
 frf:∀b∈X.fs,X.H₀ b=none
structure Inv(X:Cx)(a6:List (Addr×Obj))(σ:List (Option V))(H:Hp)(s:Shared):Prop where
 ok:X.Ok
 os:s.os=X.s₀.os
 bare:AllBare s.gens
 base:Un X.fs X.ex X.H₀ H X.s₀.heap s.heap
 loc:∃m,s.heap.Ns X.env.locals m/\∀(i:Nat) (x:Str) (v:V),X.N[i]? =some x->σ[i]? =some (some v)->Vis X.env.scope x->∃u,Yf v u/\Yc1 X.env s.heap m x u
 cell:∀x c,X.env.cells.lookup x=some c->∃v,s.heap.IsCell c v
 free:H X.env.locals=none
 freeC:∀x c,X.env.cells.lookup x=some c->H c=none
 pin:∀p∈X.pn++a6,s.heap.get? p.1=some p.2/\H p.1=none/\p.1≠X.env.locals/\p.1∉X.fs/\∀v,p.2.data ≠ .cell v
 hok:HOk X.prog X.w H s.heap
 len:σ.length=X.N.length
section
variable {X:Cx} {a6:List (Addr×Obj)} {σ:List (Option V)} {H H':Hp} {s:Shared} {h':Heap}
theorem Cx.Ok.nofr(ok:X.Ok){b:Addr}{o:Obj}(e:X.base.get? b=some o):b∉X.fs:=fun hb=>by
 have:=(ok.funs.mem hb).1;rw [e] at this;cases this
theorem Inv.bs(I:Inv X a6 σ H s):∀b o,X.base.get? b=some o->s.heap.get? b=some o/\H b=none:=fun b o e =>
 ⟨I.base.keep b o (I.ok.bs b o e).1 (I.ok.bs b o e).2 (I.ok.nofr e) (I.ok.noex b o e),I.base.free b o (I.ok.bs b o e).1 (I.ok.bs b o e).2 (I.ok.noex b o e)⟩
theorem Inv.bk(I:Inv X a6 σ H s):∀b o,X.base.get? b=some o->s.heap.get? b=some o:=fun b o e=>(I.bs b o e).1
theorem Inv.mod(I:Inv X a6 σ H s):Mod X.K X.mg X.base:=I.ok.mod
theorem Inv.kIn(I:Inv X a6 σ H s):X.K.In s.heap:=I.ok.mod.kin.keeps I.bk
theorem Inv.fr(I:Inv X a6 σ H s):∃m,Fr X.base X.env.locals s.heap m :=
 let ⟨m,hn,_⟩:=I.loc
 ⟨m,hn,I.bk,Nat.le_trans I.ok.bsz I.ok.above⟩
theorem Inv.lt(I:Inv X a6 σ H s):X.env.locals<s.heap.objs.size:=let ⟨_,hn,_⟩:=I.loc;hn.lt
theorem Inv.sz(I:Inv X a6 σ H s):X.s₀.heap.objs.size<=s.heap.objs.size:=Nat.le_trans I.ok.above (Nat.le_of_lt I.lt)
theorem Inv.nofs(I:Inv X a6 σ H s){a:Addr}(h:s.heap.objs.size<=a):a∉X.fs:=fun hb=>by
 obtain ⟨_,o,ho,_⟩:=I.ok.funs.mem hb;exact absurd (Nat.lt_of_lt_of_le (Heap.lt_size ho) (Nat.le_trans I.sz h)) (Nat.lt_irrefl _)
theorem Inv.cne(I:Inv X a6 σ H s):∀x c,X.env.cells.lookup x=some c->c≠X.env.locals:=fun x c e z=>by
 obtain ⟨v,o,ho,hd⟩:=I.cell x c e;obtain ⟨m,⟨o',es,ep,S1,hd',_⟩,_⟩:=I.loc;rw [z,S1] at ho;cases ho;rw [hd'] at hd;cases hd
theorem Inv.funs(I:Inv X a6 σ H s):s.heap.FunFrames X.base X.outer:=by
 have all:∀(l:List Env),(∀b∈frs l,b∈X.fs)->X.s₀.heap.FunFrames X.base l->s.heap.FunFrames X.base l:=by
  intro l
  induction l with
  | nil=>intro _ _;trivial
  | cons env r ih =>
   intro hs hl;obtain ⟨hk,⟨L,o,hf,hn,ho,hd⟩,hr⟩:=hl;have hL:L∈X.fs:=hs L (by unfold frs;rw [List.filterMap_cons,hf];exact List.mem_cons_self);obtain ⟨sl,e⟩:=I.base.slot L o ho (I.ok.frf L hL) hL fun z=>I.ok.exfs L z hL
   exact ⟨hk,⟨L,_,hf,hn,e,hd⟩,ih (fun b hb=>hs b (by unfold frs;rw [List.filterMap_cons,hf];exact List.mem_cons_of_mem _ hb)) hr⟩
 exact all X.outer (fun _ hb=>hb) I.ok.funs
theorem Inv.stack(I:Inv X a6 σ H s):s.heap.FunFrames X.base X.stack:=by
 rcases I.ok.stk with e|⟨e,hf⟩
 ·rw [e];exact I.funs
 ·rw [e];obtain ⟨m,hn,_⟩:=I.loc;refine .cons (by rw [I.ok.kind];decide) hf hn ?_ I.funs;exact Heap.get?_none_of_le (Nat.le_trans I.ok.bsz I.ok.above)
theorem Inv.stkSub(I:Inv X a6 σ H s):∀b∈frs X.stack,b∈X.env.locals ::X.fs:=fun b hb=>by
 rcases I.ok.stk with e|⟨e,hf⟩
 ·rw [e] at hb;exact List.mem_cons_of_mem _ hb
 ·rw [e] at hb;unfold frs at hb;rw [List.filterMap_cons,hf] at hb;exact hb
theorem Inv.stkFree(I:Inv X a6 σ H s):∀b∈frs X.stack,H b=none:=fun b hb=>by
 rcases List.mem_cons.mp (I.stkSub b hb) with e|hb
 ·rw [e];exact I.free
 ·obtain ⟨_,o,ho,_⟩:=I.ok.funs.mem hb;exact I.base.free b o ho (I.ok.frf b hb) fun z=>I.ok.exfs b z hb
theorem Inv.step{g':Array GenState}{t':Nat}{d':Drawn}{ch:List Addr}(I:Inv X a6 σ H s)
  (Q7:∀b∈ch,(b∈X.ex\/X.s₀.heap.objs.size<=b)/\b≠X.env.locals/\(∀x c,X.env.cells.lookup x=some c->c≠b)/\∀p∈X.pn++a6,p.1≠b)
  (keep:∀b o,b≠X.env.locals->b∉X.fs->b∉ch->s.heap.get? b=some o->H b=none->h'.get? b=some o)
  (slot:∀b o,b≠X.env.locals->b∈X.fs->b∉ch->s.heap.get? b=some o->H b=none->∃sl,h'.get? b=some { o with slots:=sl }) (free:∀b o,b∉ch->s.heap.get? b=some o->H b=none->H' b=none)
  (there:∀b o,b∉ch->s.heap.get? b=some o->∃o',h'.get? b=some o')
  (tups:∀b xs,H b=some (.tup xs)->H' b=some (.tup xs)) (frzs:∀b o u,H b=some (.frz o u)->H' b=some (.frz o u)) (tbls:∀b ps,H b=some (.tbl ps)->∃more,H' b=some (.tbl (ps++more)))
  (ns:∀m,s.heap.Ns X.env.locals m->h'.Ns X.env.locals m) (hok:HOk X.prog X.w H' h') (hg:AllBare g') :
  Inv X a6 σ H' { s with heap:=h',gens:=g',drawn:=d',toks:=t' }:=by
 have neL:∀b o,X.s₀.heap.get? b=some o->b≠X.env.locals:=fun b o e=>Nat.ne_of_lt (Nat.lt_of_lt_of_le (Heap.lt_size e) I.ok.above)
 have neC:∀b o,X.s₀.heap.get? b=some o->b∉X.ex->b∉ch:=fun b o e hx hb=>by
  rcases (Q7 b hb).1 with z|z
  ·exact hx z
  ·exact absurd (Nat.lt_of_lt_of_le (Heap.lt_size e) z) (Nat.lt_irrefl _)
 have V9:∀x c,X.env.cells.lookup x=some c->∀v,s.heap.IsCell c v->h'.IsCell c v:=fun x c e v ⟨o,ho,hd⟩=>by
  have nch:c∉ch:=fun z=>(Q7 c z).2.2.1 x c e rfl
  by_cases hc:c∈X.fs
  ·obtain ⟨sl,q⟩:=slot c o (I.cne x c e) hc nch ho (I.freeC x c e);exact ⟨_,q,hd⟩
  ·exact ⟨o,keep c o (I.cne x c e) hc nch ho (I.freeC x c e),hd⟩
 refine ⟨I.ok,I.os,hg,⟨fun b o e n hb hx=>?_,fun b o e n hb hx=>?_,fun b o e n hx=>?_,fun b o e hx=>?_,fun b xs e=>tups b xs (I.base.tups b xs e),fun b o xs e=>frzs b o xs (I.base.frzs b o xs e),fun b ps e=>?_⟩,?_,fun x c e=>?_,?_,fun x c e=>?_,fun p hp=>?_,hok,I.len⟩
 ·exact keep b o (neL b o e) hb (neC b o e hx) (I.base.keep b o e n hb hx) (I.base.free b o e n hx)
 ·obtain ⟨sl,e1⟩:=I.base.slot b o e n hb hx;obtain ⟨sl',e2⟩:=slot b _ (neL b o e) hb (neC b o e hx) e1 (I.base.free b o e n hx);exact ⟨sl',e2⟩
 ·obtain ⟨o',e1⟩:=I.base.there b o e hx;exact free b o' (neC b o e hx) e1 (I.base.free b o e n hx)
 ·obtain ⟨o',e1⟩:=I.base.there b o e hx;exact there b o' (neC b o e hx) e1
 ·obtain ⟨m1,e1⟩:=I.base.tbls b ps e;obtain ⟨m2,e2⟩:=tbls b _ e1;exact ⟨m1++m2,by rw [e2,Array.append_assoc]⟩
 ·obtain ⟨m,hn,hl⟩:=I.loc;refine ⟨m,ns m hn,fun i x v e1 e2 e3=>?_⟩;obtain ⟨u,r,l⟩:=hl i x v e1 e2 e3;refine ⟨u,r,?_⟩;rcases l with l|⟨k,c,e,z⟩
  ·exact .inl l
  ·exact .inr ⟨k,c,e,V9 x c e _ z⟩
 ·obtain ⟨v,z⟩:=I.cell x c e;exact ⟨v,V9 x c e v z⟩
 ·obtain ⟨m,⟨o,_,_,ho,_⟩,_⟩:=I.loc;exact free _ o (fun z=>(Q7 _ z).2.1 rfl) ho I.free
 ·obtain ⟨v,o,ho,hd⟩:=I.cell x c e;exact free c o (fun z=>(Q7 c z).2.2.1 x c e rfl) ho (I.freeC x c e)
 ·obtain ⟨e,n,ne,nf,d⟩:=I.pin p hp;have nch:p.1∉ch:=fun z=>(Q7 p.1 z).2.2.2 p hp rfl
  exact ⟨keep p.1 p.2 ne nf nch e n,free p.1 p.2 nch e n,ne,nf,d⟩
theorem Inv.un{t':Nat}(I:Inv X a6 σ H s)(u:Un X.fs [] H H' s.heap h')(hok:HOk X.prog X.w H' h'):Inv X a6 σ H' { s with heap:=h',toks:=t' }:=by
 obtain ⟨m,⟨o,es,ep,ho,r⟩,_⟩:=id I.loc;obtain ⟨sl,hL⟩:=u.any ho I.free (by simp);exact I.step (g':=s.gens) (d':=s.drawn) (ch:=[]) (fun _ z=>nomatch z) (fun b o _ hb _ e n=>u.keep b o e n hb (by simp)) (fun b o _ hb _ e n=>u.slot b o e n hb (by simp)) (fun b o _ e n=>u.free b o e n (by simp)) (fun b o _ e=>u.there b o e (by simp)) u.tups u.frzs u.tbls (fun m' hm=>by
  obtain ⟨o',es',ep',S1,r'⟩:=hm;rw [ho] at S1;cases S1;exact ⟨_,es',ep',hL,r'⟩) hok I.bare
theorem Inv.call{g':Array GenState}{t':Nat}{d':Drawn}{ch:List Addr}(I:Inv X a6 σ H s)(u:Un (frs X.stack) ch H H' s.heap h')(hok:HOk X.prog X.w H' h')(hg:AllBare g')
  (Q7:∀b∈ch,(b∈X.ex\/X.s₀.heap.objs.size<=b)/\b≠X.env.locals/\(∀x c,X.env.cells.lookup x=some c->c≠b)/\∀p∈X.pn++a6,p.1≠b) :
  Inv X a6 σ H' { s with heap:=h',gens:=g',drawn:=d',toks:=t' }:=by
 obtain ⟨m,⟨o,es,ep,ho,r⟩,_⟩:=id I.loc;obtain ⟨sl,hL⟩:=u.any ho I.free fun z=>(Q7 _ z).2.1 rfl
 exact I.step (ch:=ch) Q7 (fun b o hL hb hc e n=>u.keep b o e n (fun z=>(List.mem_cons.mp (I.stkSub b z)).elim hL hb) hc) (fun b o _ _ hc e n=>u.any e n hc) (fun b o hc e n=>u.free b o e n hc) (fun b o hc e=>u.there b o e hc) u.tups u.frzs u.tbls (fun m' hm=>by
  obtain ⟨o',es',ep',S1,r'⟩:=hm;rw [ho] at S1;cases S1;exact ⟨_,es',ep',hL,r'⟩) hok hg
theorem Inv.turned{t':Nat}{it:Addr}(I:Inv X a6 σ H s)(k:∀b o,b≠it->s.heap.get? b=some o->h'.get? b=some o)(hn:H it=none)(hL:it≠X.env.locals)
  (h1:it∈X.ex\/X.s₀.heap.objs.size<=it) (h2:∀x c,X.env.cells.lookup x=some c->c≠it) (h3:∀p∈X.pn++a6,p.1≠it):Inv X a6 σ H { s with heap:=h',toks:=t' }:=by
 have nit:∀b u,H b=some u->b≠it:=fun b u e z=>by rw [z,hn] at e;cases e
 refine I.step (g':=s.gens) (d':=s.drawn) (ch:=[it]) (fun b hb=>?_) (fun b o _ _ hc e _=>k b o (fun z=>hc (by simp [z])) e) (fun b o _ _ hc e _=>⟨o.slots,k b o (fun z=>hc (by simp [z])) e⟩) (fun _ _ _ _ n=>n)
  (fun b o hc e=>⟨o,k b o (fun z=>hc (by simp [z])) e⟩) (fun _ _ e=>e) (fun _ _ _ e=>e) (fun b ps e=>⟨#[],by rw [e];simp⟩) (fun m hm=>?_) (fun b u e=>?_) I.bare
 ·have e:b=it:=by simpa using hb
  subst e;exact ⟨h1,hL,h2,h3⟩
 ·obtain ⟨o,es,ep,ho,r⟩:=hm;exact ⟨o,es,ep,k _ o (Ne.symm hL) ho,r⟩
 ·refine (I.hok b u e).stay (fun c v hc q=>k c v ?_ q) (fun _ q=>q) fun _ _ q=>q
  rcases hc with z|z
  ·rw [z];exact nit b u e
  ·exact nit c _ z
theorem Inv.tok(I:Inv X a6 σ H s)(t:Nat):Inv X a6 σ H { s with toks:=t }:=I.un (h':=s.heap) (t':=t) Un.refl I.hok
theorem Inv.kept{t':Nat}(I:Inv X a6 σ H s)(k:∀b u,s.heap.get? b=some u->h'.get? b=some u):Inv X a6 σ H { s with heap:=h',toks:=t' }:=I.un (Un.kept k) (I.hok.kept k)
theorem Inv.laid{a:Addr}{o:HO}{t':Nat}(I:Inv X a6 σ H s)(k:∀b u,s.heap.get? b=some u->h'.get? b=some u)(hp:s.heap.objs.size<=a)(new:Yi X.prog X.w (upd H a o) h' a o) :
  Inv X a6 σ (upd H a o) { s with heap:=h',toks:=t' }:=I.un (Un.laid k hp (I.hok.fresh hp)) (I.hok.laid k hp new)
theorem Inv.write{x e:Addr}{o:HO}{t':Nat}(I:Inv X a6 σ H s)(mu:Mut (H x))(he:e=x\/H e=some (.own x))(k:∀b u,b≠e->s.heap.get? b=some u->h'.get? b=some u)(heo:∃u,h'.get? e=some u)
  (new:Yi X.prog X.w (upd H x o) h' x o):Inv X a6 σ (upd H x o) { s with heap:=h',toks:=t' }:=I.un (Un.write mu he k heo) (I.hok.write mu he k heo new)
theorem Inv.weak{σ':List (Option V)}(I:Inv X a6 σ H s)(hl:σ'.length=σ.length)(w:∀(i:Nat) v,σ'[i]? =some (some v)->σ[i]? =some (some v)):Inv X a6 σ' H s :=
 ⟨I.ok,I.os,I.bare,I.base,let ⟨m,hn,hl'⟩:=I.loc;⟨m,hn,fun i x v e1 e2 e3=>hl' i x v e1 (w i v e2) e3⟩,I.cell,I.free,I.freeC,I.pin,I.hok,hl.trans I.len⟩
theorem Inv.pins_of{j5:List (Addr×Obj)}(I:Inv X a6 σ H s)(h:∀p∈j5,s.heap.get? p.1=some p.2/\H p.1=none/\p.1≠X.env.locals/\p.1∉X.fs/\∀v,p.2.data ≠ .cell v):Inv X j5 σ H s :=
 ⟨I.ok,I.os,I.bare,I.base,I.loc,I.cell,I.free,I.freeC,fun p hp=>(List.mem_append.mp hp).elim (fun z=>I.pin p (List.mem_append_left _ z)) (h p),I.hok,I.len⟩
theorem Znh{N:List Str}(hN:N.Nodup){i j:Nat}{x:Str}(a:N[i]? =some x)(b:N[j]? =some x):i=j:=by
 obtain ⟨h1,e1⟩:=List.getElem?_eq_some_iff.mp a;obtain ⟨h2,e2⟩:=List.getElem?_eq_some_iff.mp b;exact (List.getElem_inj hN).mp (e1.trans e2.symm)
theorem Zry{M:Model}{A:Around}{E:Value->Shared->Prop}{i:Nat}{x:Str}{v:V}{u:Value}{Q:Unit->Shared->Prop}(I:Inv X a6 σ H s)(hN:X.N.Nodup)(hi:X.N[i]? =some x)(hx:Loc X.env.scope x)(r:Yf v u)
  (h:∀s',Inv X a6 (σ.set i (some v)) H s'->(∃a,Heap.SameBut a s.heap s'.heap/\(a=X.env.locals\/X.env.cells.lookup x=some a))->Q () s') (hf:X.fn x=true\/X.env.scope.names.lookup x=some .local:=by first | exact .inl rfl | exact .inr rfl | assumption):wpAny M A (storeName X.env x u) Q E s:=by
 obtain ⟨m,hn,hl⟩:=id I.loc;have hcls:(X.env.scope.kind ==.class || (X.env.scope.kind ==.module && X.env.locals !=X.env.globals))=false:=by rw [I.ok.kind];rfl
 have hiσ:i<σ.length:=by rw [I.len];exact (List.getElem?_eq_some_iff.mp hi).1
 have cne:=I.cne;have J6:∀{a:Addr} {h':Heap},(∃o,s.heap.get? a=some o/\H a=none)->Heap.SameBut a s.heap h'->HOk X.prog X.w H h':=fun {a h'} ha hs b ob e=>by
  obtain ⟨_,_,D7⟩:=ha;refine (I.hok b ob e).stay (fun c w' hc q=>(hs.2 c ?_).trans q) (fun _ q=>q) fun _ _ q=>q
  rintro rfl;rcases hc with rfl|hc
  ·rw [D7] at e;cases e
  ·rw [D7] at hc;cases hc
 rcases hx with hk|hk
 ·refine wpAny_storeName_local hk hn (fun h' hn' hs=>?_) hcls;obtain ⟨oL,_,_,hoL,_⟩:=id hn;refine h _ ⟨I.ok,I.os,I.bare,⟨fun b o e n hb hx=>?_,fun b o e n hb hx=>?_,I.base.free,fun b o e hx=>?_,I.base.tups,I.base.frzs,I.base.tbls⟩,⟨_,hn',fun j y v' e1 e2 e3=>?_⟩,fun y c e=>?_,I.free,I.freeC,fun p hp=>?_,J6 ⟨oL,hoL,I.free⟩ hs,by simpa using I.len⟩ ⟨_,hs,.inl rfl⟩
  ·exact (hs.2 b (Nat.ne_of_lt (Nat.lt_of_lt_of_le (Heap.lt_size e) I.ok.above))).trans (I.base.keep b o e n hb hx)
  ·obtain ⟨sl,e1⟩:=I.base.slot b o e n hb hx;exact ⟨sl,(hs.2 b (Nat.ne_of_lt (Nat.lt_of_lt_of_le (Heap.lt_size e) I.ok.above))).trans e1⟩
  ·obtain ⟨o',e1⟩:=I.base.there b o e hx;exact ⟨o',(hs.2 b (Nat.ne_of_lt (Nat.lt_of_lt_of_le (Heap.lt_size e) I.ok.above))).trans e1⟩
  ·by_cases hj:j=i
   ·subst hj;rw [hi] at e1;cases e1;rw [List.getElem?_set_self hiσ] at e2;cases e2;exact ⟨u,r,.inl ⟨hk,by simp⟩⟩
   ·rw [List.getElem?_set_ne (Ne.symm hj)] at e2;obtain ⟨u',r',q⟩:=hl j y v' e1 e2 e3;refine ⟨u',r',?_⟩;rcases q with ⟨k,e⟩|⟨k,c,e,z⟩
    ·refine .inl ⟨k,?_⟩;have:y≠x:=fun e=>hj (Znh hN e1 (e ▸ hi))
     simp [this,e]
    ·exact .inr ⟨k,c,e,z.sameBut hs (cne y c e)⟩
  ·obtain ⟨w',z⟩:=I.cell y c e;exact ⟨w',z.sameBut hs (cne y c e)⟩
  ·obtain ⟨e,n,ne,nf,d⟩:=I.pin p hp;exact ⟨(hs.2 p.1 ne).trans e,n,ne,nf,d⟩
 ·have hfn:X.fn x=true:=by
   rcases hf with z|z
   ·exact z
   ·rw [z] at hk;cases hk
  obtain ⟨c,hc⟩:=I.ok.has x (.inl hk);obtain ⟨w',z⟩:=I.cell x c hc;refine wpAny_storeName_cell I.ok.kind hk hc z (fun h' hc' hs=>?_);obtain ⟨oc,hoc,hocd⟩:=id z;refine h { s with heap:=h' } ⟨I.ok,I.os,I.bare,⟨fun b o e n hb hx=>?_,fun b o e n hb hx=>?_,I.base.free,fun b o e hx=>?_,I.base.tups,I.base.frzs,I.base.tbls⟩,⟨m,hn.sameBut hs (Ne.symm (cne x c hc)),fun j y v' e1 e2 e3=>?_⟩,fun y c' e=>?_,I.free,I.freeC,fun p hp=>?_,J6 ⟨oc,hoc,I.freeC x c hc⟩ hs,by simpa using I.len⟩ ⟨c,hs,.inr hc⟩
  ·exact (hs.2 b (Nat.ne_of_lt (Nat.lt_of_lt_of_le (Heap.lt_size e) (I.ok.cab x c hfn hc)))).trans (I.base.keep b o e n hb hx)
  ·obtain ⟨sl,e1⟩:=I.base.slot b o e n hb hx;exact ⟨sl,(hs.2 b (Nat.ne_of_lt (Nat.lt_of_lt_of_le (Heap.lt_size e) (I.ok.cab x c hfn hc)))).trans e1⟩
  ·obtain ⟨o',e1⟩:=I.base.there b o e hx;exact ⟨o',(hs.2 b (Nat.ne_of_lt (Nat.lt_of_lt_of_le (Heap.lt_size e) (I.ok.cab x c hfn hc)))).trans e1⟩
  ·by_cases hj:j=i
   ·subst hj;rw [hi] at e1;cases e1;rw [List.getElem?_set_self hiσ] at e2;cases e2;exact ⟨u,r,.inr ⟨.inl hk,c,hc,hc'⟩⟩
   ·rw [List.getElem?_set_ne (Ne.symm hj)] at e2;obtain ⟨u',r',q⟩:=hl j y v' e1 e2 e3;refine ⟨u',r',?_⟩;rcases q with q|⟨k,c',e,z'⟩
    ·exact .inl q
    ·refine .inr ⟨k,c',e,z'.sameBut hs ?_⟩;rintro rfl;exact hj (Znh hN e1 (I.ok.inj _ _ _ e hc ▸ hi))
  ·by_cases hcc:c'=c
   ·subst hcc;exact ⟨_,hc'⟩
   ·obtain ⟨w2,z2⟩:=I.cell y c' e;exact ⟨w2,z2.sameBut hs hcc⟩
  ·obtain ⟨e,n,ne,nf,d⟩:=I.pin p hp;refine ⟨(hs.2 p.1 ?_).trans e,n,ne,nf,d⟩;intro q;rw [q,hoc] at e;have q':oc=p.2:=Option.some.inj e;exact d w' (by rw [<-q'];exact hocd)
theorem Zoi{M:Model}{A:Around}{E:Value->Shared->Prop}{i:Nat}{x:Str}{v:V}{u:Value}{Q:Unit->Shared->Prop}(I:Inv X a6 σ H s)(hN:X.N.Nodup)(hi:X.N[i]? =some x)(hx:Loc X.env.scope x)(r:Yf v u)
  (h:∀s',Inv X a6 (σ.set i (some v)) H s'->Q () s') (hf:X.fn x=true\/X.env.scope.names.lookup x=some .local:=by first | exact .inl rfl | exact .inr rfl | assumption):wpAny M A (storeName X.env x u) Q E s :=
 Zry I hN hi hx r (fun s' I' _=>h s' I') hf
theorem Inv.call'{s':Shared}{ch:List Addr}(I:Inv X a6 σ H s)(ho:s'.os=s.os)(u:Un (frs X.stack) ch H H' s.heap s'.heap)(hok:HOk X.prog X.w H' s'.heap)(hg:AllBare s'.gens)
  (Q7:∀b∈ch,(b∈X.ex\/X.s₀.heap.objs.size<=b)/\b≠X.env.locals/\(∀x c,X.env.cells.lookup x=some c->c≠b)/\∀p∈X.pn++a6,p.1≠b):Inv X a6 σ H' s':=by
 obtain ⟨h',g',d',t',o'⟩:=s';have e:o'=s.os:=ho;subst e;exact I.call (g':=g') (t':=t') (d':=d') u hok hg Q7
end
abbrev XK:=Value->Option Addr->Hp->Prop
abbrev St:=List (Option V)
abbrev VK:=V->Hp->Prop
abbrev TE:=St->Hp->VK->Prop
abbrev TT:=St->Hp->(Bool->Hp->Prop)->Prop
abbrev TA:=St->Hp->(List V->Hp->Prop)->Prop
structure Zet where
 nx:St->Hp->Prop
 rt:VK
 bk:St->Hp->Prop:=fun _ _=>False
 ct:St->Hp->Prop:=fun _ _=>False
abbrev TS:=Zet->St->Hp->Prop
def EP(X:Cx)(a6:List (Addr×Obj))(σ:St)(Q:VK)(u:Value)(s':Shared):Prop:=∃v H',Inv X a6 σ H' s'/\Yf v u/\Q v H'
def TP(X:Cx)(a6:List (Addr×Obj))(σ:St)(Q:Bool->Hp->Prop)(b:Bool)(s':Shared):Prop:=∃H',Inv X a6 σ H' s'/\Q b H'
def AP(X:Cx)(a6:List (Addr×Obj))(σ:St)(Q:List V->Hp->Prop)(us:List Value)(s':Shared):Prop:=∃vs H',Inv X a6 σ H' s'/\Ya vs us/\Q vs H'
def SP(X:Cx)(a6:List (Addr×Obj))(D:Zet)(f:Flow)(s':Shared):Prop :=
 match f with
 | .next=>∃σ' H',Inv X a6 σ' H' s'/\D.nx σ' H'
 | .brk=>∃σ' H',Inv X a6 σ' H' s'/\D.bk σ' H'
 | .cont=>∃σ' H',Inv X a6 σ' H' s'/\D.ct σ' H'
 | .ret u=>∃v σ' H',Inv X a6 σ' H' s'/\Yf v u/\D.rt v H'
def PE(X:Cx)(e:Expr)(t:TE):Prop :=
 ∀(a6:List (Addr×Obj)) (s:Shared) (σ:St) (H:Hp) (Q:VK),Inv X a6 σ H s->t σ H Q->wpAny (model X.prog X.w) X.A (eval e X.env) (EP X a6 σ Q) X.xe s
def PT(X:Cx)(e:Expr)(t:TT):Prop :=
 ∀(a6:List (Addr×Obj)) (s:Shared) (σ:St) (H:Hp) (Q:Bool->Hp->Prop),Inv X a6 σ H s->t σ H Q->wpAny (model X.prog X.w) X.A (isTrue e X.env (eval e X.env)) (TP X a6 σ Q) X.xe s
def PW(X:Cx)(e:Expr)(t:TT):Prop :=
 ∀(x3:Sem Value) (a6:List (Addr×Obj)) (s:Shared) (σ:St) (H:Hp) (Q:Bool->Hp->Prop),Inv X a6 σ H s->t σ H Q->wpAny (model X.prog X.w) X.A (isTrue e X.env x3) (TP X a6 σ Q) X.xe s
theorem PW.pt{X:Cx}{e:Expr}{t:TT}(h:PW X e t):PT X e t:=h _
def PA(X:Cx)(es:List Expr)(t:TA):Prop :=
 ∀(pos:Pos) (a6:List (Addr×Obj)) (s:Shared) (σ:St) (H:Hp) (Q:List V->Hp->Prop),Inv X a6 σ H s->t σ H Q->wpAny (model X.prog X.w) X.A (spliced (backTo pos (starEach es X.env))) (AP X a6 σ Q) X.xe s
def PS(X:Cx)(st:Stmt)(t:TS):Prop :=
 ∀(a6:List (Addr×Obj)) (s:Shared) (σ:St) (H:Hp) (D:Zet),Inv X a6 σ H s->t D σ H->wpAny (model X.prog X.w) X.A (exec st X.env) (SP X a6 D) X.xe s
def PSs(X:Cx)(st:List Stmt)(t:TS):Prop :=
 ∀(a6:List (Addr×Obj)) (s:Shared) (σ:St) (H:Hp) (D:Zet),Inv X a6 σ H s->t D σ H->wpAny (model X.prog X.w) X.A (execs st X.env) (SP X a6 D) X.xe s
theorem thn{α:Type}{t:Sem α}{Q Q':α->Shared->Prop}{M:Model}{A:Around}{E:Value->Shared->Prop}{s:Shared}(h:wpAny M A t Q E s)(hQ:∀a s,Q a s->Q' a s):wpAny M A t Q' E s:=wpAny_mono h hQ fun _ _ x=>x
end L2
namespace L2
open PySem PySem.Spec PyProof.Rows
section
variable {X:Cx}
theorem bin{a b:Expr}{ta tb:TE}(ha:PE X a ta)(hb:PE X b tb){a6:List (Addr×Obj)}{s:Shared}{σ:St}{H:Hp}{R:V->V->Hp->Prop}(I:Inv X a6 σ H s)(h:ta σ H fun x H1=>tb σ H1 fun y H2=>R x y H2)
  {α:Type} {Q:α->Shared->Prop} {f:Value->Value->Sem α}
  (hf:∀v u s2 x y H2,Inv X a6 σ H2 s2->Yf x v->Yf y u->R x y H2->wpAny (model X.prog X.w) X.A (f v u) Q X.xe s2) :
  wpAny (model X.prog X.w) X.A (eval a X.env) (fun v s₁=>wpAny (model X.prog X.w) X.A (eval b X.env) (fun u s₂=>wpAny (model X.prog X.w) X.A (f v u) Q X.xe s₂) X.xe s₁) X.xe s:=by
 refine thn (ha a6 s σ H _ I h) fun v s1 ⟨x,H1,I1,r1,q1⟩=>?_
 refine thn (hb a6 s1 σ H1 _ I1 q1) fun u s2 ⟨y,H2,I2,r2,q2⟩=>?_
 exact hf v u s2 x y H2 I2 r1 r2 q2
def Zkh(i:Nat):TE:=fun σ H Q=>∃v,σ[i]? =some (some v)/\Q v H
def tC(v:V):TE:=fun _ H Q=>Q v H
theorem Yao{i:Nat}{x:Str}{pos:Pos}(hN:X.N[i]? =some x)(hv:Vis X.env.scope x) (hd:(x ==("__debug__" :Str))=false:=by decide) (E7:(x ==("__classdict__" :Str))=false:=by decide):PE X (.Name x pos) (Zkh i):=by
 intro a6 s σ H Q I h;obtain ⟨v,e,h⟩:=h;obtain ⟨m,hn,hl⟩:=I.loc;obtain ⟨u,r,l⟩:=hl i x v hN e hv;have v8:EP X a6 σ Q u s:=⟨v,H,I,r,h⟩
 rcases l with ⟨hk,hm⟩|⟨hk,c,hc,hcell⟩
 ·exact wpAny_Name (wpAny_loadName_local I.ok.kind hk hn hm v8) hd
 ·rcases hk with hk|hk
  ·exact wpAny_Name (wpAny_loadName_cell I.ok.kind hk hc hcell v8) hd
  ·exact wpAny_Name (wpAny_loadName_free I.ok.kind hk hc hcell v8 E7) hd
theorem Zd{i j pos}:PE X (.Constant (.int i) j pos) (tC (.int i)):=fun _ _ _ H _ I h=>wpAny_Constant_int ⟨.int i,H,I.tok _,⟨_,rfl⟩,h⟩
theorem Zc9{b j pos}:PE X (.Constant (.bool b) j pos) (tC (.bl b)):=fun _ _ _ H _ I h=>Constant_bool ⟨.bl b,H,I,rfl,h⟩
theorem Zux{j pos}:PE X (.Constant .none j pos) (tC .non):=fun _ _ _ H _ I h=>Constant_none ⟨.non,H,I,rfl,h⟩
theorem Ze{x j pos}:PE X (.Constant (.str x) j pos) (tC (.str x)):=fun _ _ _ H _ I h=>Calls.Constant_str ⟨.str x,H,I.tok _,⟨_,rfl⟩,h⟩
def Gl(X:Cx)(x:Str):Prop:=X.env.kindOf x=some .globalImplicit
theorem Zfk{E:Value->Shared->Prop}{a6:List (Addr×Obj)}{s:Shared}{σ:St}{H:Hp}{x:Str}{u:Value}{pos:Pos}{Q:Value->Shared->Prop}(I:Inv X a6 σ H s)(hg:Gl X x)(hm:X.mg x=some u)(h:Q u s)
  (hd:(x ==("__debug__" :Str))=false:=by decide):wpAny (model X.prog X.w) X.A (eval (.Name x pos) X.env) Q E s :=
 Calls.Name_function_global I.ok.kind hg (Calls.loadGlobal_global (by rw [I.ok.glob];exact I.mod.glob.keeps I.bk) hm h) hd
theorem Ze3{E:Value->Shared->Prop}{a6:List (Addr×Obj)}{s:Shared}{σ:St}{H:Hp}{x:Str}{u:Value}{pos:Pos}{Q:Value->Shared->Prop}(I:Inv X a6 σ H s)(hg:Gl X x)(hm:X.mg x=none)(hv:bootBuiltins x=some u)(h:Q u s)
  (hn:x ≠ "__name__" :=by decide) (hd:(x ==("__debug__" :Str))=false:=by decide):wpAny (model X.prog X.w) X.A (eval (.Name x pos) X.env) Q E s:=by
 obtain ⟨mb,h1,h2⟩:=I.mod.blt;exact Calls.Name_function_global I.ok.kind hg (Calls.loadGlobal_builtin (by rw [I.ok.glob];exact I.mod.glob.keeps I.bk) hm (by rw [I.ok.blt];exact h1.keeps I.bk) ((h2 x hn).trans hv) h) hd
theorem Zfl{x:Str}{v:V}{u:Value}{pos:Pos}(hg:Gl X x)(hm:X.mg x=some u)(r:Yf v u) (hd:(x ==("__debug__" :Str))=false:=by decide):PE X (.Name x pos) (tC v) :=
 fun _ _ _ H _ I h=>Zfk I hg hm ⟨v,H,I,r,h⟩ hd
theorem Zbt{x:Str}{v:V}{u:Value}{pos:Pos}(hg:Gl X x)(hm:X.mg x=none)(hv:bootBuiltins x=some u)(r:Yf v u) (hn:x ≠ "__name__" :=by decide) (hd:(x ==("__debug__" :Str))=false:=by decide):PE X (.Name x pos) (tC v) :=
 fun _ _ _ H _ I h=>Ze3 I hg hm hv ⟨v,H,I,r,h⟩ hn hd
variable {a b:Expr} {ta tb:TE} {pos:Pos}
def PC(X:Cx)(op:CmpOp)(a b:Expr)(t:TE):Prop :=
 ∀(a6:List (Addr×Obj)) (s:Shared) (σ:St) (H:Hp) (Q:VK),Inv X a6 σ H s->t σ H Q ->
  wpAny (model X.prog X.w) X.A (eval a X.env) (fun v s₁=>wpAny (model X.prog X.w) X.A (eval b X.env) (fun u s₂=>wpAny (model X.prog X.w) X.A (compareOp op v u) (EP X a6 σ Q) X.xe s₂) X.xe s₁) X.xe s
def tB(t:TE):TT:=fun σ H Q=>t σ H fun x H1=>∃c,x=.bl c/\Q c H1
theorem Ydr{op:CmpOp}{t:TE}(h:PC X op a b t)(h1:behindInMarks op b=false:=by first | exact nobehind _ (by decide) (by decide) | rfl):PT X (.Compare a [op] [b] pos) (tB t):=by
 intro a6 s σ H Q I hw;refine wpAny_isTrue_Compare1 (thn (h a6 s σ H _ I hw) fun v s1 h1=>thn h1 fun u s2 h2=>thn h2 fun c s3 ⟨x,H1,I1,r1,q1⟩=>?_) h1;obtain ⟨d,rfl,q⟩:=q1;cases r1;exact wpAny_truthy_bool ⟨H1,I1,q⟩
theorem Xb{e:Expr}{t:TE}(h:PE X e t)(he:∀x3,isTrue e X.env x3=(do let v <-x3;standAt e.pos;holding [v] (truthy v)):=by intro _;rfl):PT X e (tB t):=by
 intro a6 s σ H Q I hw;refine isTrue_plain (thn (h a6 s σ H _ I hw) fun v s1 ⟨x,H1,I1,r1,q1⟩=>?_) (he _);obtain ⟨d,rfl,q⟩:=q1;cases r1;exact wpAny_truthy_bool ⟨H1,I1,q⟩
variable {tA tB':TT} {Zx:List Expr}
def Ydg(t u:TT):TT:=fun σ H Q=>t σ H fun c H1=>if c=true then u σ H1 Q else Q false H1
def tOr(t u:TT):TT:=fun σ H Q=>t σ H fun c H1=>if c=true then Q true H1 else u σ H1 Q
def Ydq(t:TT):TT:=fun σ H Q=>t σ H fun c H1=>Q (!c) H1
theorem Zia(ha:PT X a tA):PW X (.BoolOp .And [a] pos) tA:=by
 intro wh a6 s σ H Q I h;refine isTrue_and (thn (ha a6 s σ H Q I h) fun c s1 e=>?_);cases c with
 | true=>exact isTrue_and_nil e
 | false=>exact e
theorem Zbl(ha:PT X a tA):PW X (.BoolOp .Or [a] pos) tA:=by
 intro wh a6 s σ H Q I h;refine isTrue_or (thn (ha a6 s σ H Q I h) fun c s1 e=>?_);cases c with
 | false=>exact isTrue_or_nil e
 | true=>exact e
theorem Zmp(ha:PT X a tA)(hb:PW X (.BoolOp .And (b ::Zx) pos) tB'):PW X (.BoolOp .And (a ::b ::Zx) pos) (Ydg tA tB'):=by
 intro wh a6 s σ H Q I h;refine isTrue_and (thn (ha a6 s σ H _ I h) fun c s1 ⟨H1,I1,q1⟩=>?_);cases c with
 | true=>exact hb wh a6 s1 σ H1 Q I1 q1
 | false=>exact ⟨H1,I1,q1⟩
theorem Zda(ha:PT X a tA)(hb:PW X (.BoolOp .Or (b ::Zx) pos) tB'):PW X (.BoolOp .Or (a ::b ::Zx) pos) (tOr tA tB'):=by
 intro wh a6 s σ H Q I h;refine isTrue_or (thn (ha a6 s σ H _ I h) fun c s1 ⟨H1,I1,q1⟩=>?_);cases c with
 | true=>exact ⟨H1,I1,q1⟩
 | false=>exact hb wh a6 s1 σ H1 Q I1 q1
theorem Wc(ha:PT X a tA):PT X (.UnaryOp .Not a pos) (Ydq tA):=by
 intro a6 s σ H Q I h;exact isTrue_not (ha a6 s σ H (fun c H1=>Q (!c) H1) I h)
def Ya7(ta tb:TE):TE:=fun σ H Q=>ta σ H fun x H1=>∃c,x=.bl c/\if c=true then tb σ H1 Q else Q (.bl false) H1
def Yc2(ta tb:TE):TE:=fun σ H Q=>ta σ H fun x H1=>∃c,x=.bl c/\if c=true then Q (.bl true) H1 else tb σ H1 Q
theorem Zgw{op}{t:TE}(h:PE X a t):PE X (.BoolOp op [a] pos) t:=fun a6 s σ H Q I hw=>BoolOp_one (h a6 s σ H Q I hw)
theorem Zgd(ha:PE X a ta)(hb:PE X (.BoolOp .And (b ::Zx) pos) tb):PE X (.BoolOp .And (a ::b ::Zx) pos) (Ya7 ta tb):=by
 intro a6 s σ H Q I h;refine BoolOp_and (thn (ha a6 s σ H _ I h) fun v s1 ⟨x,H1,I1,r1,q1⟩=>?_);obtain ⟨c,rfl,q1⟩:=q1;cases r1;refine wpAny_truthy_bool ?_;cases c with
 | true=>exact hb a6 s1 σ H1 Q I1 q1
 | false=>exact ⟨.bl false,H1,I1,rfl,q1⟩
theorem Zy0(ha:PE X a ta)(hb:PE X (.BoolOp .Or (b ::Zx) pos) tb):PE X (.BoolOp .Or (a ::b ::Zx) pos) (Yc2 ta tb):=by
 intro a6 s σ H Q I h;refine BoolOp_or (thn (ha a6 s σ H _ I h) fun v s1 ⟨x,H1,I1,r1,q1⟩=>?_);obtain ⟨c,rfl,q1⟩:=q1;cases r1;refine wpAny_truthy_bool ?_;cases c with
 | false=>exact hb a6 s1 σ H1 Q I1 q1
 | true=>exact ⟨.bl true,H1,I1,rfl,q1⟩
def tIf(t:TT)(ta tb:TE):TE:=fun σ H Q=>t σ H fun c H1=>if c=true then ta σ H1 Q else tb σ H1 Q
theorem Zcd{c:Expr}(hc:PT X c tA)(ha:PE X a ta)(hb:PE X b tb):PE X (.IfExp c a b pos) (tIf tA ta tb):=by
 intro a6 s σ H Q I h;refine wpAny_IfExp (thn (hc a6 s σ H _ I h) fun d s1 ⟨H1,I1,q1⟩=>?_);cases d with
 | true=>exact ha a6 s1 σ H1 Q I1 q1
 | false=>exact hb a6 s1 σ H1 Q I1 q1
end
end L2
namespace L2
open PySem PySem.Spec PyProof.Rows
def SqL(K:Frag)(H:Hp)(a:Addr)(xs:List V):Prop :=
 Rd H a (.lst xs) \/
  ∃(o:Obj) (a7:Array Value) (n:Nat),K.lookup a=some o/\o.cls=.type "list" /\o.dict=none/\o.data=.seq a7 n/\a7.size<=sizeLine/\Ya xs a7.toList
def SqT(K:Frag)(H:Hp)(a:Addr)(xs:List V):Prop :=
 Rd H a (.tup xs) \/
  ∃(o:Obj) (a7:Array Value) (n:Nat),K.lookup a=some o/\o.cls=.type "tuple" /\o.data=.seq a7 n/\a7.size<=sizeLine/\Ya xs a7.toList
def Ydi:Value->Option V
 | .none=>some .non
 | .bool b=>some (.bl b)
 | .int i _=>some (.int i)
 | .str x _=>some (.str x)
 | .bytes b _=>some (.byt b)
 | .float b _=>some (.flt b)
 | .ref a=>some (.ref a)
 | .type n=>some (.ty n)
 | _=>none
theorem Yf.abs{x:V}{u:Value}(r:Yf x u):Ydi u=some x:=by
 cases x with
 | non=>cases r;rfl
 | bl _=>cases r;rfl
 | int _=>obtain ⟨t,rfl⟩:=r;rfl
 | str _=>obtain ⟨t,rfl⟩:=r;rfl
 | byt _=>obtain ⟨t,rfl⟩:=r;rfl
 | flt _=>obtain ⟨t,rfl⟩:=r;rfl
 | ref _=>cases r;rfl
 | ty _=>cases r;rfl
theorem Yf.inj{x y:V}{u:Value}(r:Yf x u)(q:Yf y u):x=y:=Option.some.inj (r.abs.symm.trans q.abs)
theorem Ya.inj{xs ys:List V}{us:List Value}(h:Ya xs us)(h':Ya ys us):xs=ys:=by
 induction h generalizing ys with
 | nil=>cases h';rfl
 | cons r t ih=>cases h' with
  | cons r' t'=>rw [r.inj r',ih t']
section
variable {X:Cx} {a6:List (Addr×Obj)} {σ:St} {H:Hp} {s:Shared} {a:Addr} {xs ys:List V}
theorem SqL.of{K:Frag}(h:H a=some (.lst xs)):SqL K H a xs:=.inl (.inl h)
theorem SqT.of{K:Frag}(h:H a=some (.tup xs)):SqT K H a xs:=.inl (.inl h)
theorem Inv.list(I:Inv X a6 σ H s)(h:SqL X.K H a xs):∃a7:List Value,Ya xs a7/\PlainL s.heap a a7.toArray/\xs.length<=sizeLine:=by
 rcases h with h|⟨o,a7,n,hk,hc,hd,hs,hz,r⟩
 ·obtain ⟨z,a7,n,r,e⟩:=h.ok I.hok;exact ⟨a7,r,⟨_,n,e,rfl,rfl,rfl⟩,z⟩
 ·refine ⟨a7.toList,r,⟨o,n,I.kIn a o hk,hc,hd,by simpa using hs⟩,?_⟩;have e:=r.length;simp only [Array.length_toList] at e;lia
theorem Inv.tuple(I:Inv X a6 σ H s)(h:SqT X.K H a xs):∃a7:List Value,Ya xs a7/\IsTup s.heap a a7.toArray/\xs.length<=sizeLine:=by
 rcases h with h|⟨o,a7,n,hk,hc,hs,hz,r⟩
 ·obtain ⟨z,a7,r,p⟩:=h.ok I.hok;exact ⟨a7,r,p,z⟩
 ·refine ⟨a7.toList,r,⟨o,I.kIn a o hk,hc,n,by simpa using hs⟩,?_⟩;have e:=r.length;simp only [Array.length_toList] at e;lia
theorem Inv.list_inj(I:Inv X a6 σ H s)(h:SqL X.K H a xs)(h':SqL X.K H a ys):xs=ys:=by
 obtain ⟨a7,r,⟨o,n,e,_,_,d⟩,_⟩:=I.list h;obtain ⟨its',r',⟨o',n',e',_,_,d'⟩,_⟩:=I.list h';rw [e] at e';cases e';rw [d] at d'
 injection d' with d1 _
 have:a7=its':=by simpa using congrArg Array.toList d1
 subst this;exact r.inj r'
theorem Inv.tuple_inj(I:Inv X a6 σ H s)(h:SqT X.K H a xs)(h':SqT X.K H a ys):xs=ys:=by
 obtain ⟨a7,r,⟨o,e,_,n,d⟩,_⟩:=I.tuple h;obtain ⟨its',r',⟨o',e',_,n',d'⟩,_⟩:=I.tuple h';rw [e] at e';cases e';rw [d] at d'
 injection d' with d1 _
 have:a7=its':=by simpa using congrArg Array.toList d1
 subst this;exact r.inj r'
end
abbrev Cx.wish(X:Cx)(E:Value->Shared->Prop):Cx:={ X with xe:=E }
abbrev Cx.nox(X:Cx):Cx:=X.wish fun _ _=>False
theorem Cx.Ok.wish{X:Cx}(ok:X.Ok)(E:Value->Shared->Prop):(X.wish E).Ok :=
 ⟨ok.mod,ok.kind,ok.glob,ok.blt,ok.above,ok.inj,ok.has,ok.cab,ok.hd,ok.frames,ok.stk,ok.exf,ok.bs,ok.bsz,ok.noex,ok.exfs,ok.funs,ok.frf⟩
theorem Cx.Ok.unwish{X:Cx}{E:Value->Shared->Prop}(ok:(X.wish E).Ok):X.Ok :=
 ⟨ok.mod,ok.kind,ok.glob,ok.blt,ok.above,ok.inj,ok.has,ok.cab,ok.hd,ok.frames,ok.stk,ok.exf,ok.bs,ok.bsz,ok.noex,ok.exfs,ok.funs,ok.frf⟩
section
variable {X:Cx} {a6:List (Addr×Obj)} {σ:St} {H:Hp} {s:Shared} {E:Value->Shared->Prop}
theorem Inv.wish(I:Inv X a6 σ H s)(E:Value->Shared->Prop):Inv (X.wish E) a6 σ H s:=⟨I.ok.wish E,I.os,I.bare,I.base,I.loc,I.cell,I.free,I.freeC,I.pin,I.hok,I.len⟩
theorem Inv.unwish(I:Inv (X.wish E) a6 σ H s):Inv X a6 σ H s:=⟨I.ok.unwish,I.os,I.bare,I.base,I.loc,I.cell,I.free,I.freeC,I.pin,I.hok,I.len⟩
theorem SP.unwish{D:Zet}{f:Flow}{s':Shared}(h:SP (X.wish E) a6 D f s'):SP X a6 D f s':=by
 cases f with
 | next=>obtain ⟨σ',H',I,q⟩:=h;exact ⟨σ',H',I.unwish,q⟩
 | brk=>obtain ⟨σ',H',I,q⟩:=h;exact ⟨σ',H',I.unwish,q⟩
 | cont=>obtain ⟨σ',H',I,q⟩:=h;exact ⟨σ',H',I.unwish,q⟩
 | ret u=>obtain ⟨v,σ',H',I,r,q⟩:=h;exact ⟨v,σ',H',I.unwish,r,q⟩
theorem PSs.nox{st:List Stmt}{t:TS}(h:PSs X.nox st t):PSs X st t:=fun a6 s σ H D I hw =>
 wpAny_mono (h a6 s σ H D (I.wish _) hw) (fun _ _ q=>q.unwish) fun _ _ z=>False.elim z
end
section
variable {X:Cx} {st:Stmt} {Zx:List Stmt} {t u:TS} {e:Expr} {te:TE} {pos:Pos}
def Ycs:TS:=fun D σ H=>D.nx σ H
def Ydn(t u:TS):TS:=fun D σ H=>t { D with nx:=u D } σ H
theorem Zs:PSs X [] Ycs:=fun _ _ σ H _ I h=>wpAny_execs_nil ⟨σ,H,I,h⟩
theorem Zvh(h1:PS X st t)(h2:PSs X Zx u):PSs X (st ::Zx) (Ydn t u):=by
 intro a6 s σ H D I h;refine wpAny_execs_cons (thn (h1 a6 s σ H { D with nx:=u D } I h) fun f s1 q=>?_);cases f with
 | next =>
  obtain ⟨σ',H',I',q⟩:=q;exact h2 a6 s1 σ' H' D I' q
 | ret v=>exact q
 | brk=>exact q
 | cont=>exact q
theorem Zxg(h1:PS X st t):PSs X [st] t:=by
 intro a6 s σ H D I h;refine wpAny_execs_cons (thn (h1 a6 s σ H D I h) fun f s1 q=>?_);cases f with
 | next=>exact wpAny_execs_nil q
 | ret v=>exact q
 | brk=>exact q
 | cont=>exact q
def Ycj:TS:=fun D σ H=>D.ct σ H
theorem Zn0:PS X (.Continue pos) Ycj:=fun _ _ σ H _ I h=>wpAny_Continue ⟨σ,H,I,h⟩
theorem Inv.quiet{a6:List (Addr×Obj)}{σ:St}{H:Hp}{s:Shared}(I:Inv X a6 σ H s):interactive X.env=false:=by simp [interactive,I.ok.kind]
def Yci(te:TE):TS:=fun D σ H=>te σ H fun _ H1=>D.nx σ H1
theorem Xg(he:PE X e te)(hs:swapsWith e none pos.line X.env=pure false:=by rfl):PS X (.Expr e pos) (Yci te):=by
 intro a6 s σ H D I h;exact wpAny_Expr_any (thn (he a6 s σ H _ I h) fun v s1 ⟨x,H1,I1,r1,q1⟩=>⟨σ,H1,I1,q1⟩) I.quiet hs
def Yds(te:TE):TS:=fun D σ H=>te σ H D.rt
theorem Zl(he:PE X e te):PS X (.Return (some e) pos) (Yds te):=by
 intro a6 s σ H D I h;exact wpAny_Return_some (thn (he a6 s σ H _ I h) fun v s1 ⟨x,H1,I1,r1,q1⟩=>⟨x,σ,H1,I1,r1,q1⟩)
def Ydt(c:TT)(t u:TS):TS:=fun D σ H=>c σ H fun b H1=>if b=true then t D σ H1 else u D σ H1
theorem Z8{c:Expr}{a b:List Stmt}{tc:TT}(hc:PT X c tc)(ha:PSs X a t)(hb:PSs X b u):PS X (.If c a b pos) (Ydt tc t u):=by
 intro a6 s σ H D I h;refine wpAny_If (thn (hc a6 s σ H _ I h) fun d s1 ⟨H1,I1,q1⟩=>?_);cases d with
 | true=>exact ha a6 s1 σ H1 D I1 q1
 | false=>exact hb a6 s1 σ H1 D I1 q1
end
abbrev TG:=V->St->Hp->(St->Hp->Prop)->Prop
abbrev TGs:=List V->St->Hp->(St->Hp->Prop)->Prop
def PG(X:Cx)(x5:Expr)(t:TG):Prop :=
 ∀(a6:List (Addr×Obj)) (s:Shared) (σ:St) (H:Hp) (v:V) (u:Value) (Q:St->Hp->Prop),Inv X a6 σ H s->Yf v u->t v σ H Q ->
  wpAny (model X.prog X.w) X.A (assign x5 X.env u) (fun _ s'=>∃σ' H',Inv X a6 σ' H' s'/\Q σ' H') X.xe s
def PGs(X:Cx)(ts:List Expr)(t:TGs):Prop :=
 ∀(a6:List (Addr×Obj)) (s:Shared) (σ:St) (H:Hp) (vs:List V) (us:List Value) (Q:St->Hp->Prop),Inv X a6 σ H s->Ya vs us->t vs σ H Q ->
  wpAny (model X.prog X.w) X.A (assignInOrder ((assignEach ts X.env).map (·.2)) us) (fun _ s'=>∃σ' H',Inv X a6 σ' H' s'/\Q σ' H') X.xe s
section
variable {X:Cx} {pos:Pos}
def Zdm(i:Nat):TG:=fun v σ H Q=>Q (σ.set i (some v)) H
theorem Zlx{i:Nat}{x:Str}(hN:X.N.Nodup)(hi:X.N[i]? =some x)(hx:Loc X.env.scope x)(hf:X.fn x=true\/X.env.scope.names.lookup x=some .local:=by first | exact .inl rfl | exact .inr rfl | assumption):PG X (.Name x pos) (Zdm i):=by
 intro a6 s σ H v u Q I r h;exact wpAny_assign_Name (Zoi I hN hi hx r (fun s' I'=>⟨_,H,I',h⟩) hf)
def Ydk:TGs:=fun vs σ H Q=>vs=[]/\Q σ H
def Yck(t:TG)(u:TGs):TGs:=fun vs σ H Q=>∃v r,vs=v ::r/\t v σ H fun σ' H'=>u r σ' H' Q
theorem Xl:PGs X [] Ydk:=by
 intro a6 s σ H vs us Q I r h;obtain ⟨e,h⟩:=h;subst e;cases r;exact assignInOrder_nil ⟨σ,H,I,h⟩
theorem Z4{e:Expr}{es:List Expr}{t:TG}{u:TGs}(h1:PG X e t)(h2:PGs X es u)
  (hs:(assignEach (e ::es) X.env).map (·.2)=assign e X.env ::(assignEach es X.env).map (·.2):=by rfl):PGs X (e ::es) (Yck t u):=by
 intro a6 s σ H vs us Q I r h;obtain ⟨v,vr,e1,h⟩:=h;subst e1;cases r with
 | cons r rr =>
  rw [hs];refine assignInOrder_cons (thn (h1 a6 s σ H _ _ _ I r h) fun _ s1 ⟨σ1,H1,I1,q1⟩=>?_);exact h2 a6 s1 σ1 H1 _ _ Q I1 rr q1
def Ycb(K:Frag)(n:Nat)(t:TGs):TG:=fun v σ H Q=>∃a xs,v=.ref a/\SqT K H a xs/\xs.length=n/\t xs σ H Q
theorem Zaz{es:List Expr}{k:Nat}{t:TGs}{n:Nat}(hc:X.calm=true)(h:PGs X es t)
  (hn:(assignEach es X.env).length=n:=by rfl) (C3:(assignEach es X.env).findIdx? (·.1)=none:=by rfl):PG X (.Tuple es k pos) (Ycb X.K n t):=by
 intro a6 s σ H v u Q I r hw;obtain ⟨a,xs,e1,hq,hl,hw⟩:=hw;subst e1;cases r;obtain ⟨a7,rv,ht,hz⟩:=I.tuple hq;refine assign_Tuple_tuple (I.ok.hd hc) ht (by simp [hn,<-hl,rv.length]) C3 fun h' hx=>?_
 have I1:Inv X a6 σ H { s with heap:=h' }:=I.kept (t':=s.toks) fun b o e=>hx b o (Nat.ne_of_lt (Heap.lt_size e)) e
 exact h a6 _ σ H xs _ Q I1 (by simpa using rv) hw
def Zw9(te:TE)(g:TG):TS:=fun D σ H=>te σ H fun x H1=>g x σ H1 D.nx
theorem Zuh{tg e:Expr}{te:TE}{g:TG}(he:PE X e te)(hg:PG X tg g)(hs:swapsWithSole [tg] e pos.line X.env=pure false:=by rfl)(hw:swappedStores [tg] e X.env=pure none:=by rfl)
  (h1:(assignEach [tg] X.env).map (·.2)=[assign tg X.env]:=by rfl):PS X (.Assign [tg] e pos) (Zw9 te g):=by
 intro a6 s σ H D I h;refine wpAny_Assign_stores (thn (he a6 s σ H _ I h) fun v s1 ⟨x,H1,I1,r1,q1⟩=>?_) hs hw;rw [h1];exact thn (hg a6 s1 σ H1 x v _ I1 r1 q1) fun _ s2 q=>q
theorem Zzw{i:Nat}{x:Str}{e:Expr}{te:TE}{x6:Pos}(hN:X.N.Nodup)(hi:X.N[i]? =some x)(hx:Loc X.env.scope x)(he:PE X e te)(hs:swapsWith e (some (.Name x x6)) pos.line X.env=pure false:=by rfl)(hf:X.fn x=true\/X.env.scope.names.lookup x=some .local:=by first | exact .inl rfl | exact .inr rfl | assumption) :
  PS X (.Assign [.Name x x6] e pos) (Zw9 te (Zdm i)):=by
 intro a6 s σ H D I h;refine wpAny_Assign_Name (thn (he a6 s σ H _ I h) fun v s1 ⟨y,H1,I1,r1,q1⟩=>?_) hs;exact Zoi I1 hN hi hx r1 (fun s2 I2=>⟨_,H1,I2,q1⟩) hf
theorem Zz{i:Nat}{x:Str}{e:Expr}{te:TE}{x6:Pos}(hN:X.N.Nodup)(he:PE X e te)(hi:X.N[i]? =some x:=by rfl)(hx:Loc X.env.scope x:=by first | exact Or.inl rfl | exact Or.inr rfl)(hs:swapsWith e (some (.Name x x6)) pos.line X.env=pure false:=by rfl)(hf:X.fn x=true\/X.env.scope.names.lookup x=some .local:=by first | exact .inl rfl | exact .inr rfl | assumption):PS X (.Assign [.Name x x6] e pos) (Zw9 te (Zdm i)):=Zzw hN hi hx he hs hf
theorem Yr{i:Nat}{x:Str}(hN:X.N.Nodup)(hi:X.N[i]? =some x:=by rfl)(hx:Loc X.env.scope x:=by first | exact Or.inl rfl | exact Or.inr rfl)(hf:X.fn x=true\/X.env.scope.names.lookup x=some .local:=by first | exact .inl rfl | exact .inr rfl | assumption):PG X (.Name x pos) (Zdm i):=Zlx hN hi hx hf
theorem Zan{i:Nat}{x:Str}(hN:X.N.Nodup)(hi:X.N[i]? =some x:=by rfl)(hx:Loc X.env.scope x:=by exact Or.inl (lookup_relabel_local rfl))(hf:X.fn x=true\/X.env.scope.names.lookup x=some .local:=by exact Or.inr (lookup_relabel_local rfl)):PG X (.Name x pos) (Zdm i):=Zlx hN hi hx hf
end
section
variable {X:Cx} {pos:Pos}
def Zzk(c:TT)(tb:TS):TS:=fun D σ H=>∃W:Nat->St->Hp->Prop,(∃m,W m σ H)/\∀m σ H,W m σ H ->
 c σ H fun b H1=>if b=true then ∃N:St->Hp->Prop,(∀σ' H',N σ' H'->∃m',m'<m/\W m' σ' H')/\tb { D with nx:=N,ct:=N,bk:=D.nx } σ H1 else D.nx σ H1
theorem Znp{c:Expr}{body:List Stmt}{tc:TT}{tb:TS}(hp:PassesOwn (model X.prog X.w) X.A X.env X.xe)(hc:PT X c tc)(hb:PSs X body tb):PS X (.While c body [] pos) (Zzk tc tb):=by
 intro a6 s σ H D I h;obtain ⟨W,⟨m0,w0⟩,turn⟩:=h;refine wpAny_While (codeAny_whileLoop (fun n s'=>∃σ' H',Inv X a6 σ' H' s'/\W n σ' H') ?_ m0 ⟨σ,H,I,w0⟩);rintro n s1 ⟨σ1,H1,I1,w1⟩;refine wpAny_passesOwn hp (thn (hc a6 s1 σ1 H1 _ I1 (turn n σ1 H1 w1)) fun b s2 ⟨H2,I2,q2⟩=>?_);cases b with
 | true =>
  obtain ⟨N,hN,q2⟩:=q2;rw [if_pos rfl];refine wpAny_passesOwn hp (thn (hb a6 s2 σ1 H2 _ I2 q2) fun f s3 q3=>?_);cases f with
  | next =>
   obtain ⟨σ3,H3,I3,n3⟩:=q3;obtain ⟨m',hm,w3⟩:=hN σ3 H3 n3;exact ⟨m',hm,σ3,H3,I3,w3⟩
  | cont =>
   obtain ⟨σ3,H3,I3,n3⟩:=q3;obtain ⟨m',hm,w3⟩:=hN σ3 H3 n3;exact ⟨m',hm,σ3,H3,I3,w3⟩
  | brk=>exact q3
  | ret v=>exact q3
 | false =>
  rw [if_neg Bool.false_ne_true];exact wpAny_execs_nil ⟨σ1,H2,I2,q2⟩
end
structure It where
 go:Nat->Hp->Prop
 yld:Nat->Hp->V->Hp->Prop
 stop:Nat->Hp->Prop
def Zhu(X:Cx)(a6:List (Addr×Obj))(H:Hp)(b:Addr):Prop :=
 H b=none/\b≠X.env.locals/\b∉X.fs/\(b∈X.ex\/X.s₀.heap.objs.size<=b)/\(∀x c,X.env.cells.lookup x=some c->c≠b)/\∀p∈X.pn++a6,p.1≠b
theorem Inv.fpOk{X:Cx}{a6:List (Addr×Obj)}{σ:St}{H H':Hp}{s:Shared}{b:Addr}(I:Inv X a6 σ H s)(hb:s.heap.objs.size<=b)(hn:H' b=none):Zhu X a6 H' b:=by
 refine ⟨hn,Nat.ne_of_gt (Nat.lt_of_lt_of_le I.lt hb),I.nofs hb,.inr (Nat.le_trans I.sz hb),fun x c e z=>?_,fun p hp z=>?_⟩
 ·obtain ⟨v,q⟩:=I.cell x c e;exact absurd (Nat.lt_of_lt_of_le q.lt (by rw [z];exact hb)) (Nat.lt_irrefl _)
 ·exact absurd (Nat.lt_of_lt_of_le (Heap.lt_size (I.pin p hp).1) (by rw [z];exact hb)) (Nat.lt_irrefl _)
structure Zok(P:Program)(w:World)(K:Frag)(tg:Expr)(J:It)(fp:List Addr)(it:Addr)(tn:Nat->Heap->Prop):Prop where
 mem:it∈fp
 obj:∀i h,tn i h->∀b∈fp,∃o,h.get? b=some o/\∀v,o.data ≠ .cell v
 keep:∀i h h',tn i h->(∀b∈fp,∀o,h.get? b=some o->h'.get? b=some o)->tn i h'
 item:∀(X:Cx),X.prog=P->X.w=w->X.K=K->X.calm=true->∀(i:Nat) (a6:List (Addr×Obj)) (s:Shared) (σ:St) (H:Hp) (E:Value->Shared->Prop),Inv X a6 σ H s->(∀b∈fp,Zhu X a6 H b)->tn i s.heap->J.go i H ->
  wpAny (model P w) X.A (pyNext (.ref it)) (fun r s1=>∃u,r=some u /\
   wpAny (model P w) X.A (letOwnedTupleGo tg (.ref it) u) (fun _ s2=>∃x H',Inv X a6 σ H' s2/\Yf x u/\J.yld i H x H'/\tn (i+1) s2.heap/\∀b∈fp,H' b=none) E s1) E s
 done:∀(X:Cx),X.prog=P->X.w=w->X.K=K->X.calm=true->∀(i:Nat) (a6:List (Addr×Obj)) (s:Shared) (σ:St) (H:Hp) (E:Value->Shared->Prop),Inv X a6 σ H s->(∀b∈fp,Zhu X a6 H b)->tn i s.heap->J.stop i H ->
  wpAny (model P w) X.A (pyNext (.ref it)) (fun r s1=>r=none/\Inv X a6 σ H s1) E s
 self:∀(A:Around) (i:Nat) (s:Shared) (Q:Value->Shared->Prop) (E:Value->Shared->Prop),tn i s.heap->Q (.ref it) s->wpAny (model P w) A (pyIter (.ref it)) Q E s
abbrev TI:=St->Hp->(It->Hp->Prop)->Prop
def PIE(X:Cx)(a6:List (Addr×Obj))(σ:St)(tg:Expr)(R:It->Hp->Prop)(itv:Value)(s2:Shared):Prop :=
 ∃(it:Addr) (fp:List Addr) (tn:Nat->Heap->Prop) (J:It) (H':Hp),itv=.ref it/\Inv X a6 σ H' s2/\Zok X.prog X.w X.K tg J fp it tn/\tn 0 s2.heap/\(∀b∈fp,Zhu X a6 H' b)/\R J H'
def PI(X:Cx)(tg k8:Expr)(wi:TI):Prop :=
 ∀(a6:List (Addr×Obj)) (s:Shared) (σ:St) (H:Hp) (R:It->Hp->Prop),Inv X a6 σ H s->wi σ H R ->
  wpAny (model X.prog X.w) X.A (eval k8 X.env) (fun v s1=>wpAny (model X.prog X.w) X.A (pyIter v) (PIE X a6 σ tg R) X.xe s1) X.xe s
theorem Zm9{M:Model}{A:Around}{E:Value->Shared->Prop}{s:Shared}{tg:Expr}{it:Addr}{u:Value}{o:Obj}{n:String}{vs:Array Value}{Q:Unit->Shared->Prop}(ho:s.heap.get? it=some o)(hc:o.cls=.type n)(hd:o.data=.fields vs)
    (hn:["enumerate", "zip", "dict_itemiterator", "dict_reverseitemiterator", "odict_iterator", "itertools.zip_longest", "itertools.pairwise"].contains n=false) (hQ:Q () s):wpAny M A (letOwnedTupleGo tg (.ref it) u) Q E s:=by
  unfold letOwnedTupleGo;cases tg <;>first
    | exact wpAny_pure hQ
    | (cases u <;>first
        | exact wpAny_pure hQ
        | (refine wpAny_bind (wpAny_load ho ?_)
           rw [hc,hd];show wpAny M A (if (["enumerate", "zip", "dict_itemiterator", "dict_reverseitemiterator", "odict_iterator", "itertools.zip_longest", "itertools.pairwise"].contains n && vs[0]? ==some (rawInt _))=true then _ else _) Q E s;rw [if_neg (by intro h;rw [hn,Bool.false_and] at h;cases h)];exact wpAny_pure hQ))
def Itl(K:Frag)(a:Addr):It :=
 ⟨fun i H=>∃xs x,SqL K H a xs/\xs[i]? =some x,fun i H x H'=>H'=H/\∀xs,SqL K H a xs->xs[i]? =some x,fun i H=>∃xs,SqL K H a xs/\xs.length<=i⟩
def Itt(K:Frag)(a:Addr):It :=
 ⟨fun i H=>∃xs x,SqT K H a xs/\xs[i]? =some x,fun i H x H'=>H'=H/\∀xs,SqT K H a xs->xs[i]? =some x,fun i H=>∃xs,SqT K H a xs/\xs.length<=i⟩
def Itr(lo:Int)(n:Nat):It:=⟨fun i _=>i<n,fun i H x H'=>H'=H/\x=.int (lo+i),fun i _=>n<=i⟩
theorem Zsg{P:Program}{w:World}{K:Frag}{tg:Expr}(a it:Addr):Zok P w K tg (Itl K a) [it] it (fun i h=>h.IsListIter it a i) where
 mem:=by simp
 obj:=fun i h st b hb=>by
  have e:b=it:=by simpa using hb
  subst e;obtain ⟨o,e,c,d⟩:=st;exact ⟨o,e,fun v z=>by rw [d] at z;cases z⟩
 keep:=fun i h h' st k=>st.at fun o e=>k it (by simp) o e
 item:=by
  intro X hP hw hK hc i a6 s σ H E I hf st hg;subst hP hw hK;obtain ⟨xs,x,hq,hx⟩:=hg;obtain ⟨a7,rv,p,hz⟩:=I.list hq;obtain ⟨u,hu,ru⟩:=rv.get hx;obtain ⟨f0,f1,f2,f3,f4,f5⟩:=hf it (by simp);refine wpAny_pyNext_list_item st p.isList (x:=u) (by simpa using hu) fun h' r6 sb=>?_
  have I1:Inv X a6 σ H { s with heap:=h' }:=I.turned (t':=s.toks) (fun b o hb e=>(sb.2 b hb).trans e) f0 f1 f3 f4 f5;obtain ⟨o,e,c,d⟩:=id r6;exact ⟨u,rfl,Zm9 (s:={ s with heap:=h' }) e c d (by decide) ⟨x,H,I1,ru,⟨rfl,fun ys hy=>by rw [I.list_inj hy hq];exact hx⟩,r6,fun b hb=>(hf b hb).1⟩⟩
 done:=by
  intro X hP hw hK hc i a6 s σ H E I hf st hg;subst hP hw hK;obtain ⟨xs,hq,hx⟩:=hg;obtain ⟨a7,rv,p,hz⟩:=I.list hq;obtain ⟨f0,f1,f2,f3,f4,f5⟩:=hf it (by simp);have hl:=rv.length;exact wpAny_pyNext_list_end (I.ok.hd hc) st p.isList (by simp;lia) fun h' eb=>⟨rfl,I.turned (t':=s.toks) (fun b o hb e=>eb b o hb e) f0 f1 f3 f4 f5⟩
 self:=fun _ _ _ _ _ st h=>wpAny_pyIter_listiter st h
theorem Zpn{P:Program}{w:World}{K:Frag}{tg:Expr}(a it:Addr):Zok P w K tg (Itt K a) [it] it (fun i h=>h.IsTupleIter it a i) where
 mem:=by simp
 obj:=fun i h st b hb=>by
  have e:b=it:=by simpa using hb
  subst e;obtain ⟨o,e,c,d⟩:=st;exact ⟨o,e,fun v z=>by rw [d] at z;cases z⟩
 keep:=fun i h h' st k=>st.at fun o e=>k it (by simp) o e
 item:=by
  intro X hP hw hK hc i a6 s σ H E I hf st hg;subst hP hw hK;obtain ⟨xs,x,hq,hx⟩:=hg;obtain ⟨a7,rv,p,hz⟩:=I.tuple hq;obtain ⟨u,hu,ru⟩:=rv.get hx;obtain ⟨f0,f1,f2,f3,f4,f5⟩:=hf it (by simp);refine wpAny_pyNext_tuple_item st (show s.heap.IsTuple a a7.toArray from p) (x:=u) (by simpa using hu) fun h' r6 sb=>?_
  have I1:Inv X a6 σ H { s with heap:=h' }:=I.turned (t':=s.toks) (fun b o hb e=>(sb.2 b hb).trans e) f0 f1 f3 f4 f5;obtain ⟨o,e,c,d⟩:=id r6;exact ⟨u,rfl,Zm9 (s:={ s with heap:=h' }) e c d (by decide) ⟨x,H,I1,ru,⟨rfl,fun ys hy=>by rw [I.tuple_inj hy hq];exact hx⟩,r6,fun b hb=>(hf b hb).1⟩⟩
 done:=by
  intro X hP hw hK hc i a6 s σ H E I hf st hg;subst hP hw hK;obtain ⟨xs,hq,hx⟩:=hg;obtain ⟨a7,rv,p,hz⟩:=I.tuple hq;obtain ⟨f0,f1,f2,f3,f4,f5⟩:=hf it (by simp);have hl:=rv.length;exact wpAny_pyNext_tuple_end (I.ok.hd hc) st (show s.heap.IsTuple a a7.toArray from p) (by simp;lia) fun h' eb=>⟨rfl,I.turned (t':=s.toks) (fun b o hb e=>eb b o hb e) f0 f1 f3 f4 f5⟩
 self:=fun _ _ _ _ _ st h=>wpAny_pyIter_tupleiter st h
theorem Zpd{P:Program}{w:World}{K:Frag}{tg:Expr}(it:Addr)(lo:Int)(n:Nat):Zok P w K tg (Itr lo n) [it] it (fun i h=>IsRangeIter h it (lo+(i:Nat) * 1) ((n:Int)-(i:Nat)) 1) where
 mem:=by simp
 obj:=fun i h st b hb=>by
  have e:b=it:=by simpa using hb
  subst e;exact ⟨_,st,fun v z=>by
   have z':Data.fields _=Data.cell v:=z;cases z'⟩
 keep:=fun i h h' st k=>k it (by simp) _ st
 item:=by
  intro X hP hw hK hc i a6 s σ H E I hf st hg;subst hP hw hK;obtain ⟨f0,f1,f2,f3,f4,f5⟩:=hf it (by simp);have W:=Walks.range (prog:=X.prog) (w:=X.w) (I.ok.hd hc) it lo 1 n;refine W.item i s _ _ hg st fun v h' tk hv r6 kk=>?_
  obtain ⟨t,rfl⟩:=hv;have I1:Inv X a6 σ H { s with heap:=h',toks:=tk }:=I.turned (fun b o hb e=>kk b o (by simpa using hb) e) f0 f1 f3 f4 f5;refine ⟨_,rfl,Zm9 (s:={ s with heap:=h',toks:=tk }) (n := "range_iterator") r6 rfl rfl (by decide) ⟨.int (lo+i),H,I1,⟨t,?_⟩,⟨rfl,rfl⟩,r6,fun b hb=>(hf b hb).1⟩⟩;rw [Int.mul_one]
 done:=by
  intro X hP hw hK hc i a6 s σ H E I hf st hg;subst hP hw hK;obtain ⟨f0,f1,f2,f3,f4,f5⟩:=hf it (by simp);exact wpAny_pyNext_range_end (I.ok.hd hc) st (by have:n<=i:=hg;lia) fun h' eb=>⟨rfl,I.turned (t':=s.toks) (fun b o hb e=>eb b o hb e) f0 f1 f3 f4 f5⟩
 self:=fun _ _ _ _ _ st h=>wpAny_pyIter_rangeiter st h
end L2
namespace L2
open PySem PySem.Spec PyProof.Rows
section
variable {X:Cx} {tg:Expr}
def Ybl(K:Frag)(tl:TE):TI:=fun σ H R=>tl σ H fun x H1=>∃a,x=.ref a/\(∃xs,SqL K H1 a xs)/\R (Itl K a) H1
def Yc8(K:Frag)(tl:TE):TI:=fun σ H R=>tl σ H fun x H1=>∃a,x=.ref a/\(∃xs,SqT K H1 a xs)/\R (Itt K a) H1
theorem Ym{l:Expr}{tl:TE}(hl:PE X l tl):PI X tg l (Ybl X.K tl):=by
 intro a6 s σ H R I h;refine thn (hl a6 s σ H _ I h) fun v s1 ⟨x,H1,I1,r1,q1⟩=>?_
 obtain ⟨a,e,⟨xs,hq⟩,q⟩:=q1;subst e;cases r1;obtain ⟨a7,rv,p,hz⟩:=I1.list hq;refine wpAny_pyIter_list p.isList ?_;refine ⟨s1.heap.objs.size,[s1.heap.objs.size],_,_,H1,rfl,I1.kept (t':=s1.toks) fun b o e=>Heap.get?_push_of_some _ e,Zsg a _,⟨_,Heap.get?_push_size _ rfl,rfl,rfl⟩,fun b hb=>?_,q⟩;have e:b=s1.heap.objs.size:=by simpa using hb
 subst e;exact I1.fpOk (Nat.le_refl _) (I1.hok.fresh (Nat.le_refl _))
theorem Zmo{l:Expr}{tl:TE}(hl:PE X l tl):PI X tg l (Yc8 X.K tl):=by
 intro a6 s σ H R I h;refine thn (hl a6 s σ H _ I h) fun v s1 ⟨x,H1,I1,r1,q1⟩=>?_
 obtain ⟨a,e,⟨xs,hq⟩,q⟩:=q1;subst e;cases r1;obtain ⟨a7,rv,p,hz⟩:=I1.tuple hq;refine wpAny_pyIter_tuple (show s1.heap.IsTuple a a7.toArray from p) ?_;refine ⟨s1.heap.objs.size,[s1.heap.objs.size],_,_,H1,rfl,I1.kept (t':=s1.toks) fun b o e=>Heap.get?_push_of_some _ e,Zpn a _,⟨_,Heap.get?_push_size _ rfl,rfl,rfl⟩,fun b hb=>?_,q⟩;have e:b=s1.heap.objs.size:=by simpa using hb
 subst e;exact I1.fpOk (Nat.le_refl _) (I1.hok.fresh (Nat.le_refl _))
theorem Zna{a6:List (Addr×Obj)}{σ:St}{H:Hp}{s:Shared}{R:It->Hp->Prop}{E:Value->Shared->Prop}{lo hi:Int}{t u v:Tok}{tk:Nat}(I:Inv X a6 σ H s)(h1:-(2 ^ 62)<=lo)(h2:lo<2 ^ 62)(h3:-(2 ^ 62)<=hi)(h4:hi<2 ^ 62)
  (q:R (Itr lo (hi-lo).toNat) H):wpAny (model X.prog X.w) X.A (pyIter (.ref s.heap.objs.size)) (PIE X a6 σ tg R) E { s with heap:=s.heap.push { cls:=.type "range",data:=.fields #[.int lo t,.int hi u,.int 1 v] },toks:=tk }:=by
 refine wpAny_pyIter_range (IsRange.new ..) (small_one h1 h2 h3 h4) ?_;have I1:Inv X a6 σ H { s with heap:=s.heap.push { cls:=.type "range",data:=.fields #[.int lo t,.int hi u,.int 1 v] },toks:=tk }:=I.kept fun b o e=>Heap.get?_push_of_some _ e
 refine ⟨(s.heap.push { cls:=.type "range",data:=.fields #[.int lo t,.int hi u,.int 1 v] }).objs.size,[(s.heap.push { cls:=.type "range",data:=.fields #[.int lo t,.int hi u,.int 1 v] }).objs.size],_,_,H,rfl,
  I1.kept (t':=tk) fun b o e=>Heap.get?_push_of_some _ e,Zpd _ lo (hi-lo).toNat,?_,fun b hb=>?_,q⟩
 ·have e1:lo+((0:Nat):Int) * 1=lo:=by simp
  have e2:(((hi-lo).toNat:Nat):Int)-((0:Nat):Int)=Builtin.Range.rangeSize lo hi 1:=by rw [rangeSize_one];split <;>lia
  show IsRangeIter _ _ (lo+((0:Nat):Int) * 1) ((((hi-lo).toNat:Nat):Int)-((0:Nat):Int)) 1;rw [e1,e2];exact Heap.get?_push_size _ rfl
 ·have e:b=(s.heap.push { cls:=.type "range",data:=.fields #[.int lo t,.int hi u,.int 1 v] }).objs.size:=by simpa using hb
  subst e;exact I1.fpOk (Nat.le_refl _) (I1.hok.fresh (Nat.le_refl _))
def Yb5(ta:TA):TI:=fun σ H R=>ta σ H fun vs H1=>∃j:Int,vs=[.int j]/\-(2 ^ 62)<=j/\j<2 ^ 62/\R (Itr 0 j.toNat) H1
def Yb3(ta:TA):TI:=fun σ H R=>ta σ H fun vs H1=>∃i j:Int,vs=[.int i,.int j]/\(-(2 ^ 62)<=i/\i<2 ^ 62/\-(2 ^ 62)<=j/\j<2 ^ 62)/\R (Itr i (j-i).toNat) H1
theorem Zld{a:Expr}{ta:TA}{p pos:Pos} (hg:Gl X "range") (hm:X.mg "range" =none) (ha:PA X [a] ta) (hs:starEach [a] X.env=[(false,eval a X.env)]:=by rfl):PI X tg (.Call (.Name "range" p) [a] [] pos) (Yb5 ta):=by
 intro a6 s σ H R I h;refine Call_ (Ze3 I hg hm boot_range (PyProof.Rows.callWith_type1 (thn (ha pos a6 s σ H _ I h) fun us s1 ⟨vs,H1,I1,r1,q1⟩=>?_) hs rfl));obtain ⟨j,e,q1,q2,q⟩:=q1;subst e;cases r1 with
 | cons r rr =>
  cases rr;obtain ⟨t,rfl⟩:=r;exact call_range_1 (Zna I1 (by lia) (by lia) q1 q2 (by simpa using q))
theorem Zce{a b:Expr}{ta:TA}{p pos:Pos} (hg:Gl X "range") (hm:X.mg "range" =none) (ha:PA X [a,b] ta) (hs:starEach [a,b] X.env=[(false,eval a X.env),(false,eval b X.env)]:=by rfl) (hs2:starEach [b] X.env=[(false,eval b X.env)]:=by rfl) :
  PI X tg (.Call (.Name "range" p) [a,b] [] pos) (Yb3 ta):=by
 intro a6 s σ H R I h;refine Call_ (Ze3 I hg hm boot_range (PyProof.Rows.callWith_type1 (thn (ha pos a6 s σ H _ I h) fun us s1 ⟨vs,H1,I1,r1,q1⟩=>?_) (by rw [hs,hs2]) (by rw [hs2];rfl)));obtain ⟨i,j,e,⟨q1,q2,q3,q4⟩,q⟩:=q1;subst e;cases r1 with
 | cons r rr =>
  cases rr with
  | cons r' rr =>
   cases rr;obtain ⟨t,rfl⟩:=r;obtain ⟨t',rfl⟩:=r';exact call_range_2 (Zna I1 q1 q2 q3 q4 q)
def Yc3(wi:TI)(g:TG)(tb:TS):TS:=fun D σ H=>wi σ H fun J H1=>∃W:Nat->Nat->St->Hp->Prop,(∃m,W 0 m σ H1)/\∀i m σ H,W i m σ H ->
 (J.stop i H/\D.nx σ H)\/(J.go i H/\∃N:St->Hp->Prop,(∀σ' H',N σ' H'->∃m',m'<m/\W (i+1) m' σ' H')/\∀x H',J.yld i H x H'->g x σ H' fun σ2 H2=>tb { D with nx:=N,ct:=N,bk:=D.nx } σ2 H2)
def Zgy(fp:List Addr)(h:Heap):List (Addr×Obj):=fp.filterMap fun b=>(h.get? b).map fun o=>(b,o)
theorem Zad{fp:List Addr}{h:Heap}{b:Addr}{o:Obj}(hb:b∈fp)(e:h.get? b=some o):(b,o)∈Zgy fp h:=List.mem_filterMap.mpr ⟨b,hb,by rw [e];rfl⟩
theorem Zso{fp:List Addr}{h:Heap}{p:Addr×Obj}(hp:p∈Zgy fp h):p.1∈fp/\h.get? p.1=some p.2:=by
 obtain ⟨b,hb,e⟩:=List.mem_filterMap.mp hp;cases q:h.get? b with
 | none=>rw [q] at e;cases e
 | some o =>
  rw [q] at e;have e':(b,o)=p:=Option.some.inj e;subst e';exact ⟨hb,q⟩
theorem Inv.pinned{a6:List (Addr×Obj)}{σ:St}{H:Hp}{s:Shared}{fp:List Addr}(I:Inv X a6 σ H s)(hf:∀b∈fp,Zhu X a6 H b)(ho:∀b∈fp,∃o,s.heap.get? b=some o/\∀v,o.data ≠ .cell v):Inv X (a6++Zgy fp s.heap) σ H s :=
 I.pins_of fun p hp=>(List.mem_append.mp hp).elim (fun z=>I.pin p (List.mem_append_right _ z)) fun z=>by
  obtain ⟨hb,e⟩:=Zso z;obtain ⟨f0,f1,f2,_⟩:=hf p.1 hb;obtain ⟨o,e',d⟩:=ho p.1 hb;rw [e] at e';cases e';exact ⟨e,f0,f1,f2,d⟩
theorem Inv.unpinned{a6 pl:List (Addr×Obj)}{σ:St}{H:Hp}{s:Shared}(I:Inv X (a6++pl) σ H s):Inv X a6 σ H s:=I.pins_of fun p hp=>I.pin p (List.mem_append_right _ (List.mem_append_left _ hp))
theorem Y8{k8:Expr}{body:List Stmt}{wi:TI}{g:TG}{tb:TS}{pos:Pos}(hp:PassesOwn (model X.prog X.w) X.A X.env X.xe)(hc:X.calm=true)(hi:PI X tg k8 wi)(hg:PG X tg g)(hb:PSs X body tb)
  (hs:∀x,foldedSetIterable k8 X.env x=pure x:=by intro _;rfl):PS X (.For tg k8 body [] pos) (Yc3 wi g tb):=by
 intro a6 s σ H D I h;refine wpAny_For (thn (hi a6 s σ H _ I h) fun v s1 h1=>thn h1 fun itv s2 h2=>?_) hs;obtain ⟨it,fp,tn,J,H2,e,I2,T,a9,f2,W,⟨m0,w0⟩,turn⟩:=h2;subst e;have A5:∀{H':Hp},(∀b∈fp,H' b=none)->∀b∈fp,Zhu X a6 H' b:=fun hn b hb=>⟨hn b hb,(f2 b hb).2⟩
 refine codeAny_forLoop_any (fun n s'=>∃i σ' H',Inv X a6 σ' H' s'/\tn i s'.heap/\(∀b∈fp,H' b=none)/\W i n σ' H') ?_ m0 ⟨0,σ,H2,I2,a9,fun b hb=>(f2 b hb).1,w0⟩;rintro n s3 ⟨i,σ3,H3,I3,i3,fr3,w3⟩;rcases turn i n σ3 H3 w3 with ⟨stop,qn⟩|⟨go,N,hN,step⟩
 ·refine wpAny_passesOwn hp (thn (T.done X rfl rfl rfl hc i a6 s3 σ3 H3 X.xe I3 (A5 fr3) i3 stop) fun r s4 ⟨hr,I4⟩=>?_);subst hr;exact wpAny_execs_nil ⟨σ3,H3,I4,qn⟩
 ·refine wpAny_passesOwn hp (thn (T.item X rfl rfl rfl hc i a6 s3 σ3 H3 X.xe I3 (A5 fr3) i3 go) fun r s4 ⟨u,hr,h4⟩=>?_);subst hr;refine wpAny_passesOwn hp (thn h4 fun _ s5 ⟨x,H5,I5,r5,y5,u6,fr5⟩=>?_);have I5':=I5.pinned (A5 fr5) (T.obj _ _ u6);refine wpAny_passesOwn hp (thn (hg _ s5 σ3 H5 x u _ I5' r5 (step x H5 y5)) fun _ s6 ⟨σ6,H6,I6,q6⟩=>?_);refine wpAny_passesOwn hp (thn (hb _ s6 σ6 H6 _ I6 q6) fun f s7 q7=>?_);have x9:∀{σ7:St} {H7:Hp},Inv X (a6++Zgy fp s5.heap) σ7 H7 s7->N σ7 H7->∃m,m<n/\∃i σ' H',Inv X a6 σ' H' s7/\tn i s7.heap/\(∀b∈fp,H' b=none)/\W i m σ' H':=fun {σ7 H7} I7 n7=>by
   obtain ⟨m',hm,w7⟩:=hN σ7 H7 n7;refine ⟨m',hm,i+1,σ7,H7,I7.unpinned,T.keep _ _ _ u6 fun b hb o e=>(I7.pin (b,o) (List.mem_append_right _ (List.mem_append_right _ (Zad hb e)))).1,fun b hb=>?_,w7⟩;obtain ⟨o,e,d⟩:=T.obj _ _ u6 b hb;exact (I7.pin (b,o) (List.mem_append_right _ (List.mem_append_right _ (Zad hb e)))).2.1
  cases f with
  | next=>obtain ⟨σ7,H7,I7,n7⟩:=q7;exact x9 I7 n7
  | cont=>obtain ⟨σ7,H7,I7,n7⟩:=q7;exact x9 I7 n7
  | brk=>obtain ⟨σ7,H7,I7,q7⟩:=q7;exact ⟨σ7,H7,I7.unpinned,q7⟩
  | ret v=>obtain ⟨x7,σ7,H7,I7,r7,q7⟩:=q7;exact ⟨x7,σ7,H7,I7.unpinned,r7,q7⟩
end
theorem Xx{K:Frag}{a:Addr}{xs:List V}{g:TG}{tb:TS}{D:Zet}{σ:St}{H:Hp}(Pv:Nat->St->Hp->Prop)(h0:Pv 0 σ H)(hl:∀i σ H,i<=xs.length->Pv i σ H->SqL K H a xs)
  (hs:∀i x σ H,xs[i]? =some x->Pv i σ H->g x σ H fun σ2 H2=>tb { D with nx:=Pv (i+1),ct:=Pv (i+1),bk:=D.nx } σ2 H2) (hd:∀σ H,Pv xs.length σ H->D.nx σ H) :
  ∃W:Nat->Nat->St->Hp->Prop,(∃m,W 0 m σ H)/\∀i m σ H,W i m σ H ->
   ((Itl K a).stop i H/\D.nx σ H)\/((Itl K a).go i H/\∃N:St->Hp->Prop,(∀σ' H',N σ' H'->∃m',m'<m/\W (i+1) m' σ' H')/\∀x H',(Itl K a).yld i H x H'->g x σ H' fun σ2 H2=>tb { D with nx:=N,ct:=N,bk:=D.nx } σ2 H2):=by
 refine ⟨fun i m σ H=>m=xs.length-i/\i<=xs.length/\Pv i σ H,⟨xs.length,by simp,Nat.zero_le _,h0⟩,?_⟩;rintro i m σ H ⟨rfl,hi,p⟩;have q:=hl i σ H hi p
 by_cases c8:i<xs.length
 ·refine .inr ⟨⟨xs,xs[i],q,by simp [c8]⟩,Pv (i+1),fun σ' H' p'=>⟨xs.length-(i+1),by lia,rfl,c8,p'⟩,fun x H' y=>?_⟩;obtain ⟨e,y⟩:=y;subst e;exact hs i x σ _ (y xs q) p
 ·have e:i=xs.length:=by lia
  subst e;exact .inl ⟨⟨xs,q,Nat.le_refl _⟩,hd σ H p⟩
theorem Zwu{K:Frag}{a:Addr}{xs:List V}{g:TG}{tb:TS}{D:Zet}{σ:St}{H:Hp}(Pv:Nat->St->Hp->Prop)(h0:Pv 0 σ H)(hl:∀i σ H,i<=xs.length->Pv i σ H->SqT K H a xs)
  (hs:∀i x σ H,xs[i]? =some x->Pv i σ H->g x σ H fun σ2 H2=>tb { D with nx:=Pv (i+1),ct:=Pv (i+1),bk:=D.nx } σ2 H2) (hd:∀σ H,Pv xs.length σ H->D.nx σ H) :
  ∃W:Nat->Nat->St->Hp->Prop,(∃m,W 0 m σ H)/\∀i m σ H,W i m σ H ->
   ((Itt K a).stop i H/\D.nx σ H)\/((Itt K a).go i H/\∃N:St->Hp->Prop,(∀σ' H',N σ' H'->∃m',m'<m/\W (i+1) m' σ' H')/\∀x H',(Itt K a).yld i H x H'->g x σ H' fun σ2 H2=>tb { D with nx:=N,ct:=N,bk:=D.nx } σ2 H2):=by
 refine ⟨fun i m σ H=>m=xs.length-i/\i<=xs.length/\Pv i σ H,⟨xs.length,by simp,Nat.zero_le _,h0⟩,?_⟩;rintro i m σ H ⟨rfl,hi,p⟩;have q:=hl i σ H hi p
 by_cases c8:i<xs.length
 ·refine .inr ⟨⟨xs,xs[i],q,by simp [c8]⟩,Pv (i+1),fun σ' H' p'=>⟨xs.length-(i+1),by lia,rfl,c8,p'⟩,fun x H' y=>?_⟩;obtain ⟨e,y⟩:=y;subst e;exact hs i x σ _ (y xs q) p
 ·have e:i=xs.length:=by lia
  subst e;exact .inl ⟨⟨xs,q,Nat.le_refl _⟩,hd σ H p⟩
theorem Zd1{lo:Int}{n:Nat}{g:TG}{tb:TS}{D:Zet}{σ:St}{H:Hp}(Pv:Nat->St->Hp->Prop)(h0:Pv 0 σ H)
  (hs:∀i σ H,i<n->Pv i σ H->g (.int (lo+i)) σ H fun σ2 H2=>tb { D with nx:=Pv (i+1),ct:=Pv (i+1),bk:=D.nx } σ2 H2) (hd:∀σ H,Pv n σ H->D.nx σ H) :
  ∃W:Nat->Nat->St->Hp->Prop,(∃m,W 0 m σ H)/\∀i m σ H,W i m σ H ->
   ((Itr lo n).stop i H/\D.nx σ H)\/((Itr lo n).go i H/\∃N:St->Hp->Prop,(∀σ' H',N σ' H'->∃m',m'<m/\W (i+1) m' σ' H')/\∀x H',(Itr lo n).yld i H x H'->g x σ H' fun σ2 H2=>tb { D with nx:=N,ct:=N,bk:=D.nx } σ2 H2):=by
 refine ⟨fun i m σ H=>m=n-i/\i<=n/\Pv i σ H,⟨n,by simp,Nat.zero_le _,h0⟩,?_⟩;rintro i m σ H ⟨rfl,hi,p⟩
 by_cases c8:i<n
 ·refine .inr ⟨c8,Pv (i+1),fun σ' H' p'=>⟨n-(i+1),by lia,rfl,c8,p'⟩,fun x H' y=>?_⟩;obtain ⟨e,y⟩:=y;subst e y;exact hs i σ _ c8 p
 ·have e:i=n:=by lia
  subst e;exact .inl ⟨Nat.le_refl _,hd σ H p⟩
end L2
namespace L2
open PySem PySem.Spec PyProof.Rows
abbrev R2:=V->V->Hp->VK->Prop
def OpR(X:Cx)(f:Value->Value->Sem Value)(r:R2):Prop :=
 ∀(a6:List (Addr×Obj)) (s:Shared) (σ:St) (H:Hp) (x y:V) (v u:Value) (Q:VK),Inv X a6 σ H s->Yf x v->Yf y u->r x y H Q ->
  wpAny (model X.prog X.w) X.A (f v u) (EP X a6 σ Q) X.xe s
def UnR(X:Cx)(f:Value->Sem Value)(r:V->Hp->VK->Prop):Prop :=
 ∀(a6:List (Addr×Obj)) (s:Shared) (σ:St) (H:Hp) (x:V) (v:Value) (Q:VK),Inv X a6 σ H s->Yf x v->r x H Q ->
  wpAny (model X.prog X.w) X.A (f v) (EP X a6 σ Q) X.xe s
def Xj(X:Cx)(f:Value)(r:List V->Hp->VK->Prop):Prop :=
 ∀(a6:List (Addr×Obj)) (s:Shared) (σ:St) (H:Hp) (xs:List V) (us:List Value) (Q:VK),Inv X a6 σ H s->Ya xs us->r xs H Q ->
  wpAny (model X.prog X.w) X.A (call f us) (EP X a6 σ Q) X.xe s
def Ydl(X:Cx)(r:V->Hp->(Bool->Hp->Prop)->Prop):Prop :=
 ∀(a6:List (Addr×Obj)) (s:Shared) (σ:St) (H:Hp) (x:V) (v:Value) (Q:Bool->Hp->Prop),Inv X a6 σ H s->Yf x v->r x H Q ->
  wpAny (model X.prog X.w) X.A (truthy v) (TP X a6 σ Q) X.xe s
def tOp(r:R2)(ta tb:TE):TE:=fun σ H Q=>ta σ H fun x H1=>tb σ H1 fun y H2=>r x y H2 Q
def tUn(r:V->Hp->VK->Prop)(ta:TE):TE:=fun σ H Q=>ta σ H fun x H1=>r x H1 Q
def rI(C:Int->Int->Prop)(g:Int->Int->V):R2:=fun x y H Q=>∃i j,x=.int i/\y=.int j/\C i j/\Q (g i j) H
def rI0(g:Int->Int->V):R2:=fun x y H Q=>∃i j,x=.int i/\y=.int j/\Q (g i j) H
def rU(g:Int->V):V->Hp->VK->Prop:=fun x H Q=>∃i,x=.int i/\Q (g i) H
section
variable {X:Cx} {a b c:Expr} {ta tb tc:TE} {pos:Pos}
theorem Yan(ha:PE X a ta)(hb:PE X b tb){a6:List (Addr×Obj)}{s:Shared}{σ:St}{H:Hp}{R:V->V->Hp->Prop}(I:Inv X a6 σ H s)
  (h:ta σ H fun x H1=>tb σ H1 fun y H2=>R x y H2) {Q:Value->Shared->Prop} {f:Value->Value->Sem Value}
  (hf:∀v u s2 x y H2,Inv X a6 σ H2 s2->Yf x v->Yf y u->R x y H2->wpAny (model X.prog X.w) X.A (f v u) Q X.xe s2) :
  wpAny (model X.prog X.w) X.A (eval a X.env) (fun v s₁=>wpAny (model X.prog X.w) X.A (eval b X.env) (fun u s₂=>wpAny (model X.prog X.w) X.A (f v u) Q X.xe s₂) X.xe s₁) X.xe s:=by
 refine thn (ha a6 s σ H _ I h) fun v s1 ⟨x,H1,I1,r1,q1⟩=>?_
 refine thn (hb a6 s1 σ H1 _ I1 q1) fun u s2 ⟨y,H2,I2,r2,q2⟩=>?_
 exact hf v u s2 x y H2 I2 r1 r2 q2
theorem Zp{op:Operator}{r:R2}(ho:OpR X (binaryOp op) r)(ha:PE X a ta)(hb:PE X b tb):PE X (.BinOp a op b pos) (tOp r ta tb):=by
 intro a6 s σ H Q I h;exact wpAny_BinOp (Yan ha hb I h fun v u s2 x y H2 I2 rx ry q=>ho a6 s2 σ H2 x y v u Q I2 rx ry q)
theorem Zlq{op:UnaryOp}{r:V->Hp->VK->Prop}(ho:UnR X (unaryOp op) r)(ha:PE X a ta):PE X (.UnaryOp op a pos) (tUn r ta):=by
 intro a6 s σ H Q I h;exact UnaryOp_ (thn (ha a6 s σ H _ I h) fun v s1 ⟨x,H1,I1,r1,q1⟩=>ho a6 s1 σ H1 x v Q I1 r1 q1)
theorem opI{f:Value->Value->Sem Value}{C:Int->Int->Prop}{g:Int->Int->Int}
  (F7:∀(i j:Int) (t u:Tok) (s:Shared) (Q:Value->Shared->Prop) (E:Value->Shared->Prop),C i j->Q (.int (g i j) s.toks) { s with toks:=s.toks+1 }->wpAny (model X.prog X.w) X.A (f (.int i t) (.int j u)) Q E s) :
  OpR X f (rI C fun i j=>.int (g i j)):=by
 intro a6 s σ H x y v u Q I rx ry h;obtain ⟨i,j,rfl,rfl,hc,q⟩:=h;obtain ⟨t,rfl⟩:=rx;obtain ⟨t',rfl⟩:=ry;exact F7 i j t t' s _ _ hc ⟨.int (g i j),H,I.tok _,⟨_,rfl⟩,q⟩
theorem Ybt{f:Value->Value->Sem Value}{g:Int->Int->Int}
  (F7:∀(i j:Int) (t u:Tok) (s:Shared) (Q:Value->Shared->Prop) (E:Value->Shared->Prop),Q (.int (g i j) s.toks) { s with toks:=s.toks+1 }->wpAny (model X.prog X.w) X.A (f (.int i t) (.int j u)) Q E s) :
  OpR X f (rI0 fun i j=>.int (g i j)):=by
 intro a6 s σ H x y v u Q I rx ry h;obtain ⟨i,j,rfl,rfl,q⟩:=h;obtain ⟨t,rfl⟩:=rx;obtain ⟨t',rfl⟩:=ry;exact F7 i j t t' s _ _ ⟨.int (g i j),H,I.tok _,⟨_,rfl⟩,q⟩
theorem Zzm{f:Value->Value->Sem Value}{g:Int->Int->Bool}
  (F7:∀(i j:Int) (t u:Tok) (s:Shared) (Q:Value->Shared->Prop) (E:Value->Shared->Prop),Q (.bool (g i j)) s->wpAny (model X.prog X.w) X.A (f (.int i t) (.int j u)) Q E s) :
  OpR X f (rI0 fun i j=>.bl (g i j)):=by
 intro a6 s σ H x y v u Q I rx ry h;obtain ⟨i,j,rfl,rfl,q⟩:=h;obtain ⟨t,rfl⟩:=rx;obtain ⟨t',rfl⟩:=ry;exact F7 i j t t' s _ _ ⟨.bl (g i j),H,I,rfl,q⟩
def Ydj(i j:Int):Prop:=0<j/\j<1073741824
def Zzt(i j:Int):Prop:=(-(2 ^ 64)<i/\i<2 ^ 64)\/(-(2 ^ 64)<j/\j<2 ^ 64)
theorem Zzt.ok{i j:Int}(h:Zzt i j):IntMulOk i j:=by
 rcases h with ⟨h1,h2⟩|⟨h1,h2⟩
 ·exact .of_left (intBits_le_64 h1 h2)
 ·exact .of_right (intBits_le_64 h1 h2)
theorem Zzd:OpR X (binaryOp .Add) (rI0 fun i j=>.int (i+j)):=Ybt fun _ _ _ _ _ _ _ q=>add_int q
theorem Zdn:OpR X (binaryOp .Sub) (rI0 fun i j=>.int (i-j)):=Ybt fun _ _ _ _ _ _ _ q=>sub_int q
theorem Zgq:OpR X (binaryOp .Mult) (rI Zzt fun i j=>.int (i * j)):=opI fun _ _ _ _ _ _ _ hc q=>mul_int q hc.ok
theorem Yo:OpR X (binaryOp .FloorDiv) (rI Ydj fun i j=>.int (i / j)):=opI fun i j _ _ _ _ _ hc q=>by
 have h1:(0:Int)<j:=hc.1;have h2:j<1073741824:=hc.2;exact floordiv_int (by lia) (by rw [Int.fdiv_eq_ediv_of_nonneg i (by lia)];exact q) (.inl (PyProof.noPylong_small (by lia)))
theorem Yn:OpR X (binaryOp .Mod) (rI (fun _ j=>0<j) fun i j=>.int (i%j)):=opI fun i j _ _ _ _ _ hc q=>by
 have h1:(0:Int)<j:=hc;exact mod_int' (by lia) (by rw [Int.fmod_eq_emod_of_nonneg i (by lia)];exact q)
theorem unI{f:Value->Sem Value}{g:Int->Int}
  (F7:∀(i:Int) (t:Tok) (s:Shared) (Q:Value->Shared->Prop) (E:Value->Shared->Prop),Q (.int (g i) s.toks) { s with toks:=s.toks+1 }->wpAny (model X.prog X.w) X.A (f (.int i t)) Q E s) :
  UnR X f (rU fun i=>.int (g i)):=by
 intro a6 s σ H x v Q I rx h;obtain ⟨i,rfl,q⟩:=h;obtain ⟨t,rfl⟩:=rx;exact F7 i t s _ _ ⟨.int (g i),H,I.tok _,⟨_,rfl⟩,q⟩
theorem Zg3:UnR X (unaryOp .USub) (rU fun i=>.int (-i)):=unI fun _ _ _ _ _ q=>neg_int q
end
def Yb7:V->V->Bool
 | .non,.non=>true | .non,.int _=>true | .int _,.non=>true | .non,.bl _=>true | .bl _,.non=>true | .non,.str _=>true | .str _,.non=>true
 | .int _,.int _=>true | .bl _,.bl _=>true | .str _,.str _=>true | .byt _,.byt _=>true
 | .int _,.str _=>true | .str _,.int _=>true | .bl _,.str _=>true | .str _,.bl _=>true
 | _,_=>false
def rEq:R2:=fun x y H Q=>Yb7 x y=true/\Q (.bl (decide (x=y))) H
def rNe:R2:=fun x y H Q=>Yb7 x y=true/\Q (.bl (!decide (x=y))) H
theorem Zrq{i j:Int}:decide (V.int i=V.int j)=(i ==j):=by
 rw [Bool.eq_iff_iff];simp
theorem Zv5{i j:Bool}:decide (V.bl i=V.bl j)=(i ==j):=by
 rw [Bool.eq_iff_iff];simp
theorem Zq1{i j:Str}:decide (V.str i=V.str j)=(i ==j):=by
 rw [Bool.eq_iff_iff];simp
theorem Zrt{i j:Array UInt8}:decide (V.byt i=V.byt j)=(i.toList ==j.toList):=by
 rw [Bool.eq_iff_iff];cases i;cases j;simp
section
variable {X:Cx} {a b c:Expr} {ta tb tc:TE} {pos:Pos}
theorem Yl{a6:List (Addr×Obj)}{σ:St}{H:Hp}{s:Shared}{Q:VK}{k k':Bool}(I:Inv X a6 σ H s)(q:Q (.bl k) H)(e:k=k'):EP X a6 σ Q (.bool k') s:=by
 subst e;exact ⟨.bl k,H,I,rfl,q⟩
theorem Ybf:OpR X (compareOp .Eq) rEq:=by
 intro a6 s σ H x y v u Q I rx ry h;obtain ⟨hs,q⟩:=h;cases x with
 | non =>
  cases rx;cases y with
  | non=>cases ry;exact PySem.EqNone.eq_none_none (Yl I q (by simp))
  | bl j=>cases ry;exact PySem.EqNone.eq_none_bool (Yl I q (by simp))
  | int j=>obtain ⟨t',rfl⟩:=ry;exact PySem.EqNone.eq_none_int (Yl I q (by simp))
  | str j=>obtain ⟨t',rfl⟩:=ry;exact PySem.EqNone.eq_none_str (Yl I q (by simp))
  | _=>exact absurd (show false=true from hs) Bool.false_ne_true
 | bl i =>
  cases rx;cases y with
  | non=>cases ry;exact PySem.EqNone.eq_bool_none (Yl I q (by simp))
  | bl j=>cases ry;exact eq_bool (Yl I q Zv5)
  | str j=>obtain ⟨t',rfl⟩:=ry;exact PySem.EqMixed.eq_bool_str (Yl I q (by simp))
  | _=>exact absurd (show false=true from hs) Bool.false_ne_true
 | int i =>
  obtain ⟨t,rfl⟩:=rx;cases y with
  | non=>cases ry;exact PySem.EqNone.eq_int_none (Yl I q (by simp))
  | int j=>obtain ⟨t',rfl⟩:=ry;exact eq_int (Yl I q Zrq)
  | str j=>obtain ⟨t',rfl⟩:=ry;exact PySem.EqMixed.eq_int_str (Yl I q (by simp))
  | _=>exact absurd (show false=true from hs) Bool.false_ne_true
 | str i =>
  obtain ⟨t,rfl⟩:=rx;cases y with
  | non=>cases ry;exact PySem.EqNone.eq_str_none (Yl I q (by simp))
  | bl j=>cases ry;exact PySem.EqMixed.eq_str_bool (Yl I q (by simp))
  | int j=>obtain ⟨t',rfl⟩:=ry;exact PySem.EqMixed.eq_str_int (Yl I q (by simp))
  | str j=>obtain ⟨t',rfl⟩:=ry;exact eq_str (Yl I q Zq1)
  | _=>exact absurd (show false=true from hs) Bool.false_ne_true
 | byt i =>
  obtain ⟨t,rfl⟩:=rx;cases y with
  | byt j=>obtain ⟨t',rfl⟩:=ry;exact PySem.W.eq_bytes (Yl I q Zrt)
  | _=>exact absurd (show false=true from hs) Bool.false_ne_true
 | _=>cases y <;>exact absurd (show false=true from hs) Bool.false_ne_true
theorem Ybm:OpR X (compareOp .NotEq) rNe:=by
 intro a6 s σ H x y v u Q I rx ry h;obtain ⟨hs,q⟩:=h;cases x with
 | non =>
  cases rx;cases y with
  | non=>cases ry;exact PySem.EqNone.ne_none_none (Yl I q (by simp))
  | bl j=>cases ry;exact PySem.EqNone.ne_none_bool (Yl I q (by simp))
  | int j=>obtain ⟨t',rfl⟩:=ry;exact PySem.EqNone.ne_none_int (Yl I q (by simp))
  | str j=>obtain ⟨t',rfl⟩:=ry;exact PySem.EqNone.ne_none_str (Yl I q (by simp))
  | _=>exact absurd (show false=true from hs) Bool.false_ne_true
 | bl i =>
  cases rx;cases y with
  | non=>cases ry;exact PySem.EqNone.ne_bool_none (Yl I q (by simp))
  | bl j=>cases ry;exact ne_bool (Yl I q (congrArg not Zv5))
  | str j=>obtain ⟨t',rfl⟩:=ry;exact PySem.EqMixed.ne_bool_str (Yl I q (by simp))
  | _=>exact absurd (show false=true from hs) Bool.false_ne_true
 | int i =>
  obtain ⟨t,rfl⟩:=rx;cases y with
  | non=>cases ry;exact PySem.EqNone.ne_int_none (Yl I q (by simp))
  | int j=>obtain ⟨t',rfl⟩:=ry;exact ne_int (Yl I q (congrArg not Zrq))
  | str j=>obtain ⟨t',rfl⟩:=ry;exact PySem.EqMixed.ne_int_str (Yl I q (by simp))
  | _=>exact absurd (show false=true from hs) Bool.false_ne_true
 | str i =>
  obtain ⟨t,rfl⟩:=rx;cases y with
  | non=>cases ry;exact PySem.EqNone.ne_str_none (Yl I q (by simp))
  | bl j=>cases ry;exact PySem.EqMixed.ne_str_bool (Yl I q (by simp))
  | int j=>obtain ⟨t',rfl⟩:=ry;exact PySem.EqMixed.ne_str_int (Yl I q (by simp))
  | str j=>obtain ⟨t',rfl⟩:=ry;exact ne_str (Yl I q (congrArg not Zq1))
  | _=>exact absurd (show false=true from hs) Bool.false_ne_true
 | byt i =>
  obtain ⟨t,rfl⟩:=rx;cases y with
  | byt j=>obtain ⟨t',rfl⟩:=ry;exact PySem.W.ne_bytes (Yl I q (congrArg not Zrt))
  | _=>exact absurd (show false=true from hs) Bool.false_ne_true
 | _=>cases y <;>exact absurd (show false=true from hs) Bool.false_ne_true
theorem Zhb:OpR X (compareOp .Lt) (rI0 fun i j=>.bl (decide (i<j))):=Zzm fun _ _ _ _ _ _ _ q=>lt_int q
theorem Zyi:OpR X (compareOp .LtE) (rI0 fun i j=>.bl (decide (i<=j))):=Zzm fun _ _ _ _ _ _ _ q=>le_int q
theorem Zi8:OpR X (compareOp .Gt) (rI0 fun i j=>.bl (decide (j<i))):=Zzm fun _ _ _ _ _ _ _ q=>gt_int q
theorem Zsc:OpR X (compareOp .In) (fun x y H Q=>∃i j,x=.str i/\y=.str j/\Q (.bl (!(Builtin.Str.occurrences j i 0 j.length 1).isEmpty)) H):=by
 intro a6 s σ H x y v u Q I rx ry h;obtain ⟨i,j,rfl,rfl,q⟩:=h;obtain ⟨t,rfl⟩:=rx;obtain ⟨t',rfl⟩:=ry;exact in_str (Yl I q rfl)
theorem Yac:OpR X (compareOp .Is) (fun x y H Q=>y=.non/\Q (.bl (decide (x=.non))) H):=by
 intro a6 s σ H x y v u Q I rx ry h;obtain ⟨rfl,q⟩:=h;cases ry;refine is_none_gen (Yl I q ?_);cases x <;>first
  | (cases rx;rfl)
  | (obtain ⟨t,rfl⟩:=rx;rfl)
theorem OpR.or{f:Value->Value->Sem Value}{r r':R2}(h:OpR X f r)(h':OpR X f r'):OpR X f (fun x y H Q=>r x y H Q\/r' x y H Q):=by
 intro a6 s σ H x y v u Q I rx ry q;rcases q with q|q
 ·exact h a6 s σ H x y v u Q I rx ry q
 ·exact h' a6 s σ H x y v u Q I rx ry q
theorem Z0(b:Expr){op:CmpOp}(h:op ≠ .In:=by decide)(h2:op ≠ .NotIn:=by decide):behindInMarks op b=false:=by
 have e1:(op ==CmpOp.In)=false:=by cases op <;>first | rfl | exact absurd rfl h
 have e2:(op ==CmpOp.NotIn)=false:=by cases op <;>first | rfl | exact absurd rfl h2
 cases b <;>simp [behindInMarks,e1,e2]
theorem W7{op:CmpOp}{r:R2}(ho:OpR X (compareOp op) r)(ha:PE X a ta)(hb:PE X b tb)(hm:behindInMarks op b=false):PE X (.Compare a [op] [b] pos) (tOp r ta tb):=by
 intro a6 s σ H Q I h;exact wpAny_Compare1 (Yan ha hb I h fun v u s2 x y H2 I2 rx ry q=>ho a6 s2 σ H2 x y v u Q I2 rx ry q) hm
def Zyp(t:TE):TT:=fun σ H Q=>t σ H fun x H'=>∃k,x=.bl k/\Q k H'
theorem Zm{op:CmpOp}{r:R2}(ho:OpR X (compareOp op) r)(ha:PE X a ta)(hb:PE X b tb)(hm:behindInMarks op b=false):PT X (.Compare a [op] [b] pos) (Zyp (tOp r ta tb)):=by
 intro a6 s σ H Q I h;refine wpAny_isTrue_Compare1 (thn (ha a6 s σ H _ I h) fun v s1 ⟨x,H1,I1,r1,q1⟩=>thn (hb a6 s1 σ H1 _ I1 q1) fun u s2 ⟨y,H2,I2,r2,q2⟩ =>
  thn (ho a6 s2 σ H2 x y v u _ I2 r1 r2 q2) fun c s3 ⟨z,H3,I3,r3,k,e,q3⟩=>?_) hm
 subst e;cases r3;exact wpAny_truthy_bool ⟨H3,I3,q3⟩
def Zzv(r r':R2)(ta tb tc:TE):TE:=fun σ H Q=>ta σ H fun x H1=>tb σ H1 fun y H2=>r x y H2 fun z H3=>∃k,z=.bl k /\
 (if k=true then tc σ H3 fun w' H4=>r' y w' H4 Q else Q (.bl false) H3)
theorem Ztk{op op':CmpOp}{r r':R2}(ho:OpR X (compareOp op) r)(S1:OpR X (compareOp op') r')(ha:PE X a ta)(hb:PE X b tb)(hc:PE X c tc)
  (hm:lastMarks [op,op'] [b,c]=false:=by with_unfolding_all rfl):PE X (.Compare a [op,op'] [b,c] pos) (Zzv r r' ta tb tc):=by
 intro a6 s σ H Q I h;refine Compare_chain (thn (ha a6 s σ H _ I h) fun v s1 ⟨x,H1,I1,r1,q1⟩=>chain_link (thn (hb a6 s1 σ H1 _ I1 q1) fun u s2 ⟨y,H2,I2,r2,q2⟩ =>
  thn (ho a6 s2 σ H2 x y v u _ I2 r1 r2 q2) fun d s3 ⟨z,H3,I3,r3,k,e,q3⟩=>?_)) hm
 subst e;cases r3;refine wpAny_truthy_bool ?_;cases k with
 | false=>exact ite_ff ⟨.bl false,H3,I3,rfl,q3⟩
 | true=>exact ite_tt (chain_last (thn (hc a6 s3 σ H3 _ I3 q3) fun w' s4 ⟨z',H4,I4,r4,q4⟩=>S1 a6 s4 σ H4 y z' u w' Q I4 r2 r4 q4))
def Ybq(K:Frag)(x:V)(H:Hp)(k:Bool):Prop :=
 match x with
 | .non=>k=false
 | .bl b=>k=b
 | .int i=>k=(i !=0)
 | .str y=>y.length<=sizeLine/\k=((y.length:Int) !=0)
 | .byt y=>y.size<=sizeLine/\k=((y.size:Int) !=0)
 | .ref p=>(∃xs,SqL K H p xs/\k=!xs.isEmpty)\/(∃xs,SqT K H p xs/\k=!xs.isEmpty)\/∃kvs,H p=some (.dK kvs)/\k=!kvs.isEmpty
 | _=>False
theorem Zpu{κ:Type}{kvs:List (κ×V)}{vs:List (κ×Value)}(r:KV kvs vs):(!vs.isEmpty)=!kvs.isEmpty:=by
 cases r <;>rfl
theorem Zjb{xs:List V}{a7:List Value}(r:Ya xs a7):(!a7.toArray.isEmpty)=!xs.isEmpty:=by
 cases r <;>simp
theorem Zgp:(sizeLine:Nat)<2 ^ 63:=by rw [sizeLine_eq];decide
theorem Zzq:Ydl X (fun x H Q=>∃k,Ybq X.K x H k/\Q k H):=by
 intro a6 s σ H x v Q I rx h;obtain ⟨k,e,q⟩:=h;have hl:=Zgp;have hs:sizeLine=16777216:=sizeLine_eq;cases x with
 | non =>
  cases rx;have e':k=false:=e;subst e';exact truthy_none ⟨H,I,q⟩
 | bl b =>
  cases rx;have e':k=b:=e;subst e';exact wpAny_truthy_bool ⟨H,I,q⟩
 | int i =>
  obtain ⟨t,rfl⟩:=rx;have e':k=(i !=0):=e;subst e';exact PySem.P.truthy_int ⟨H,I,q⟩
 | str y =>
  obtain ⟨t,rfl⟩:=rx;obtain ⟨hy,e'⟩:y.length<=sizeLine/\k=((y.length:Int) !=0):=e;subst e';exact PySem.P.truthy_str (by lia) ⟨H,I.tok _,q⟩
 | byt y =>
  obtain ⟨t,rfl⟩:=rx;obtain ⟨hy,e'⟩:y.size<=sizeLine/\k=((y.size:Int) !=0):=e;subst e';exact PySem.W.truthy_bytes (by lia) ⟨H,I.tok _,q⟩
 | ref p =>
  cases rx;have e':(∃xs,SqL X.K H p xs/\k=!xs.isEmpty)\/(∃xs,SqT X.K H p xs/\k=!xs.isEmpty)\/∃kvs,H p=some (.dK kvs)/\k=!kvs.isEmpty:=e;rcases e' with ⟨xs,hx,e'⟩|⟨xs,hx,e'⟩|⟨kvs,hx,e'⟩
  ·subst e';obtain ⟨a7,r,pl,hz⟩:=I.list hx;have d6:=r.length;exact wpAny_truthy_list pl.isList (by simp only [List.size_toArray];lia) ⟨H,I.tok _,by rw [Zjb r];exact q⟩
  ·subst e';obtain ⟨a7,r,pl,hz⟩:=I.tuple hx;have d6:=r.length;exact truthy_tuple pl (by simp only [List.size_toArray];lia) ⟨H,I.tok _,by rw [Zjb r];exact q⟩
  ·subst e';obtain ⟨hz,hS,vs,r,m⟩:kvs.length<=sizeLine/\(p ==sysModules)=false/\∃vs,KV kvs vs/\s.heap.DictOf (Z9 X.prog X.w) p vs:=I.hok p _ hx;have d6:kvs.length=vs.length:=Paired.length r;exact wpAny_truthy_dict hS m (by lia) ⟨H,I.tok _,by rw [Zpu r];exact q⟩
 | _=>exact (show False from e).elim
theorem Znl(ha:PE X a ta)(he:∀x3,isTrue a X.env x3=(do let v <-x3;standAt a.pos;holding [v] (truthy v))) :
  PT X a (fun σ H Q=>ta σ H fun x H'=>∃k,Ybq X.K x H' k/\Q k H'):=by
 intro a6 s σ H Q I h;exact isTrue_plain (thn (ha a6 s σ H _ I h) fun v s1 ⟨x,H1,I1,r1,q1⟩=>Zzq a6 s1 σ H1 x v Q I1 r1 q1) (he _)
theorem Zpz:OpR X (binaryOp .Add) (fun x y H Q=>∃i j,x=.str i/\y=.str j/\i.length+j.length<=sizeLine/\Q (.str (i++j)) H):=by
 intro a6 s σ H x y v u Q I rx ry h;obtain ⟨i,j,rfl,rfl,hz,q⟩:=h;obtain ⟨t,rfl⟩:=rx;obtain ⟨t',rfl⟩:=ry;exact add_str (fun t' tk=>⟨.str (i++j),H,I.tok _,⟨_,rfl⟩,q⟩) hz
theorem Zci{x:V}{us:List Value}(r:Ya [x] us):∃u,us=[u]/\Yf x u:=by
 cases r with
 | cons r1 r2=>cases r2;exact ⟨_,rfl,r1⟩
theorem Zqh{x y:V}{us:List Value}(r:Ya [x,y] us):∃u w',us=[u,w']/\Yf x u/\Yf y w':=by
 cases r with
 | cons r1 r2 =>
  cases r2 with
  | cons r3 r4=>cases r4;exact ⟨_,_,rfl,r1,r3⟩
theorem Zs6(hc:X.calm=true):Xj X (.builtin "max") (fun xs H Q=>∃i j,xs=[.int i,.int j]/\Q (.int (if j >i then j else i)) H):=by
 intro a6 s σ H xs us Q I r h;obtain ⟨i,j,rfl,q⟩:=h;obtain ⟨u,w',rfl,⟨t,rfl⟩,⟨t',rfl⟩⟩:=Zqh r;refine max_two_ints (I.ok.hd hc) fun h' tk k=>⟨_,H,I.kept k,?_,q⟩
 by_cases hj:j >i
 ·rw [if_pos hj,if_pos hj];exact ⟨_,rfl⟩
 ·rw [if_neg hj,if_neg hj];exact ⟨_,rfl⟩
theorem Zss(hc:X.calm=true):Xj X (.builtin "min") (fun xs H Q=>∃i j,xs=[.int i,.int j]/\Q (.int (if j<i then j else i)) H):=by
 intro a6 s σ H xs us Q I r h;obtain ⟨i,j,rfl,q⟩:=h;obtain ⟨u,w',rfl,⟨t,rfl⟩,⟨t',rfl⟩⟩:=Zqh r;refine min_two_ints (I.ok.hd hc) fun h' tk k=>⟨_,H,I.kept k,?_,q⟩
 by_cases hj:j<i
 ·rw [if_pos hj,if_pos hj];exact ⟨_,rfl⟩
 ·rw [if_neg hj,if_neg hj];exact ⟨_,rfl⟩
theorem W4:Xj X (.type "str") (fun xs H Q=>∃i,xs=[.int i]/\i.natAbs.log2<1920/\Q (.str (toString i)) H):=by
 intro a6 s σ H xs us Q I r h;obtain ⟨i,rfl,hz,q⟩:=h;obtain ⟨u,rfl,t,rfl⟩:=Zci r;exact PySem.P.str_of_int hz ⟨.str _,H,I.tok _,⟨_,rfl⟩,q⟩
end
end L2
namespace L2
open PySem PySem.Spec PyProof.Rows
structure Zpx(h:Heap)(x dx C:Addr)(mA:Str->Option Value):Prop where
 obj:h.get? x=some (PySem.W.instObj C dx)
 ns:h.Ns1 dx mA
 ne:dx≠x
theorem Zsp{h:Heap}{dx:Addr}{mA:Str->Option Value}(n:h.Ns1 dx mA):∃od,h.get? dx=some od/\∀name,PySem.W.lookIn name od=some (mA name):=by
 obtain ⟨o,es,ep,ho,hd,hk,_,hm⟩:=n;refine ⟨o,ho,fun name=>?_⟩;have e:=hm name;unfold nsFind findBy at e;rw [<-Array.find?_toList] at e;unfold PySem.W.lookIn;rw [hd];dsimp only;split
 ·rename_i y q;rw [q] at e;exact congrArg some e
 ·rename_i q;rw [q] at e;have a:es.toList.any (·.refKey)=false:=by
   rw [List.any_eq_false];intro y hy;obtain ⟨z,t,B5⟩:=hk y (Array.mem_toList_iff.mp hy);simp [DictEntry.refKey,B5]
  have a':¬es.toList.any (·.refKey)=true:=by rw [a];exact Bool.false_ne_true
  rw [if_neg a'];exact congrArg some e
theorem Zpx.look{h:Heap}{x dx C:Addr}{mA:Str->Option Value}(I:Zpx h x dx C mA):∃od,PySem.W.InstAt h x (PySem.W.instObj C dx) C (some od)/\∀name,PySem.W.lookIn name od=some (mA name) :=
 let ⟨od,ho,hl⟩:=Zsp I.ns
 ⟨od,⟨I.obj,rfl,rfl,ho⟩,hl⟩
section
variable {prog:Program} {w:World} {A:Around} {E:Value->Shared->Prop} {s:Shared} {K:Frag} {x dx C f:Addr} {mA:Str->Option Value} {name:Str} {v:Value}
theorem Zx2{expr:Bool}{Q:Value->Shared->Prop}(X:K.In s.heap)(I:Zpx s.heap x dx C mA)(hg:PySem.W.plainGet K C name=true)(hh:PySem.W.hasDictIn K C=true)
  (ha:findIn K (.ref C) name=some none) (hv:mA name=some v) (hv':PySem.W.handedIn v=true) (h:Q v { s with toks:=s.toks+1 }) :
  wpAny (model prog w) A (getAttr (.ref x) name expr) Q E s:=by
 obtain ⟨od,J,hl⟩:=I.look;exact PySem.W.get_value X J (PySem.W.plainGet_of hg).1 (PySem.W.findObj_own hh ha rfl (by rw [hl,hv])) hv' h
theorem Zv4{pl:Sem Bool}{Q:Value×List Value->Shared->Prop}(X:K.In s.heap)(I:Zpx s.heap x dx C mA)(hg:PySem.W.plainGet K C name=true)
  (hf:findIn K (.ref C) name=some (some (.ref f))) (ht:PySem.W.isFn K (.ref f)=true) (hv:mA name=none) (h:Q (.ref f,[.ref x]) s) :
  wpAny (model prog w) A (getMethod (.ref x) name pl) Q E s:=by
 obtain ⟨od,J,hl⟩:=I.look;exact PySem.W.method_fn X J (PySem.W.plainGet_of hg).1 (PySem.W.plainGet_of hg).2 hf (beq_iff_eq.mp ht) (by show (PySem.W.lookIn name od).map (·.isSome)=some false;rw [hl,hv];rfl) h
theorem Zwo{ns:List Str}{Q:Unit->Shared->Prop}(X:K.In s.heap)(I:Zpx s.heap x dx C mA)
  (hs:findIn K (.ref C) "__setattr__" =some (some (.builtin "object.__setattr__"))) (hp:PySem.W.plainOver K C=true) (ht:PySem.W.takerIn K C name=some none) (hh:PySem.W.hasDictIn K C=true)
  (hw:PySem.Within mA ns) (hsz:ns.length<=sizeLine)
  (h:∀h',Zpx h' x dx C (fun y=>if y=name then some v else mA y)->Heap.SameBut dx s.heap h'->Q () { s with heap:=h',toks:=s.toks+2 }) :
  wpAny (model prog w) A (setAttr (.ref x) name v) Q E s:=by
 obtain ⟨od,J,hl⟩:=I.look;refine PySem.W.set_plain X J hs (PySem.W.osa_open (s:={ s with toks:=s.toks+1 }) (r:=none) X J hp ht fun b=>?_);obtain ⟨cd,hc,hd'⟩:=PySem.W.any_some hh;have hx:s.heap.get? x=some ⟨.ref C,some dx,.plain,#[]⟩:=I.obj;refine wpAny_bind (wpAny_pure (wpAny_bind (wpAny_bind (wpAny_loadPart hx (wpAny_bind (PySem.W.Looks.here (s:={ s with toks:=s.toks+1 }) (PySem.W.looks_clsIn X hc) ?_))))));rw [hd'];refine wpAny_pure (a:=some dx) (wpAny_bind (wpAny_pure (wpAny_bind ?_)));refine wpAny_nsSet1 (s:={ s with toks:=s.toks+1 }) I.ns fun h' hn2 hs2=>?_
 obtain ⟨oD,esD,epD,hoD,hdD,hcD⟩:=hn2.count (PySem.Within.cons name v hw);refine wpAny_bind (wpAny_lookBehind hoD (by rw [hdD];exact pastItsLine_dict (Nat.le_trans hcD (by rw [List.length_cons];lia))) ?_);exact wpAny_pure (h _ ⟨(hs2.2 _ (Ne.symm I.ne)).trans I.obj,hn2,I.ne⟩ hs2)
theorem Zvr{R:Result->Shared->Prop}{vs:List Value}{kw:List (Str×Value)}(X:K.In s.heap)(hm:PySem.W.makesIn K C=true)
  (hi:findIn K (.ref C) "__init__" =some (some (.ref f))) (hf:PySem.W.typeIn K (.ref f)=some (.type "function"))
  (h:codeAny (model prog w) (A.under (.builtin "type.__call__" ⟨.ref C ::vs,kw⟩)) (.call (.ref f) ⟨.ref (s.heap.objs.size+1) ::vs,kw⟩) (PySem.W.InitBack (s.heap.objs.size+1) R)
   { s with heap:=(s.heap.push PySem.W.emptyDict).push (PySem.W.instObj C s.heap.objs.size) }) :
  codeAny (model prog w) A (.call (.ref C) ⟨vs,kw⟩) R s:=by
 obtain ⟨hh,g,d,t,os⟩:=s;exact PySem.W.make_core (PySem.W.makes_of X hm) (PySem.W.looks_findIn X hi) (fun self=>PySem.W.bind_fn X self hf) (.inl rfl) h
end
def Zd9(f:Str)(v:V):List (Str×V)->List (Str×V)
 | []=>[(f,v)]
 | (g,x) ::r=>if g=f then (g,v) ::r else (g,x) ::Zd9 f v r
theorem Zha(f g:Str)(v:V):∀fs:List (Str×V),(Zd9 f v fs).lookup g=if g=f then some v else fs.lookup g
 | []=>by
  show List.lookup g [(f,v)]=_
  by_cases h:g=f
  ·have hb:(g ==f)=true:=beq_iff_eq.mpr h;simp only [List.lookup,hb,if_pos h]
  ·have hb:(g ==f)=false:=beq_eq_false_iff_ne.mpr h;simp only [List.lookup,hb,if_neg h]
 | (k,x) ::r=>by
  have ih:=Zha f g v r;rw [show Zd9 f v ((k,x) ::r)=(if k=f then (k,v) ::r else (k,x) ::Zd9 f v r) from rfl]
  by_cases hk:k=f
  ·rw [if_pos hk]
   by_cases h:g=k
   ·have hb:(g ==k)=true:=beq_iff_eq.mpr h;simp only [List.lookup,hb,if_pos (h.trans hk)]
   ·have hb:(g ==k)=false:=beq_eq_false_iff_ne.mpr h;simp only [List.lookup,hb,if_neg (fun e:g=f=>h (e.trans hk.symm))]
  ·rw [if_neg hk]
   by_cases h:g=k
   ·have hb:(g ==k)=true:=beq_iff_eq.mpr h;simp only [List.lookup,hb,if_neg (fun e:g=f=>hk (h.symm.trans e))]
   ·have hb:(g ==k)=false:=beq_eq_false_iff_ne.mpr h;simp only [List.lookup,hb];exact ih
theorem Zgh(f:Str)(v:V):∀fs:List (Str×V),f∈(Zd9 f v fs).map (·.1)/\∀g,g∈fs.map (·.1)->g∈(Zd9 f v fs).map (·.1)
 | []=>⟨by simp [Zd9],fun g h=>by simp at h⟩
 | (k,x) ::r=>by
  obtain ⟨i1,i2⟩:=Zgh f v r;rw [show Zd9 f v ((k,x) ::r)=(if k=f then (k,v) ::r else (k,x) ::Zd9 f v r) from rfl]
  by_cases hk:k=f
  ·rw [if_pos hk];subst hk;exact ⟨by simp,fun g h=>by simpa using h⟩
  ·rw [if_neg hk];refine ⟨?_,fun g h=>?_⟩
   ·rw [List.map_cons];exact List.mem_cons_of_mem _ i1
   ·rw [List.map_cons] at h ⊢;rcases List.mem_cons.mp h with e|e
    ·exact List.mem_cons.mpr (.inl e)
    ·exact List.mem_cons_of_mem _ (i2 g e)
theorem Zhc(f:Str)(v:V):∀fs:List (Str×V),(Zd9 f v fs).length<=fs.length+1
 | []=>by simp [Zd9]
 | (k,x) ::r=>by
  have ih:=Zhc f v r;rw [show Zd9 f v ((k,x) ::r)=(if k=f then (k,v) ::r else (k,x) ::Zd9 f v r) from rfl]
  by_cases hk:k=f
  ·rw [if_pos hk,List.length_cons,List.length_cons];lia
  ·rw [if_neg hk,List.length_cons,List.length_cons];lia
theorem Zcb.some_of{v:V}{o:Option Value}(r:Zcb (some v) o):∃u,o=some u/\Yf v u:=by
 cases o with
 | none=>exact (show False from r).elim
 | some u=>exact ⟨u,rfl,r⟩
theorem Zcb.none_of{o:Option Value}(r:Zcb none o):o=none:=by
 cases o with
 | none=>rfl
 | some u=>exact (show False from r).elim
theorem Zsf{v:V}{u:Value}(r:Yf v u):PySem.W.handedIn u=true:=by
 cases v with
 | non=>cases (show u=Value.none from r);rfl
 | bl b=>cases (show u=Value.bool b from r);rfl
 | int i=>obtain ⟨t,e⟩:=(show ∃t,u=Value.int i t from r);cases e;rfl
 | str x=>obtain ⟨t,e⟩:=(show ∃t,u=Value.str x t from r);cases e;rfl
 | byt b=>obtain ⟨t,e⟩:=(show ∃t,u=Value.bytes b t from r);cases e;rfl
 | flt b=>obtain ⟨t,e⟩:=(show ∃t,u=Value.float b t from r);cases e;rfl
 | ref a=>cases (show u=Value.ref a from r);rfl
 | ty n=>cases (show u=Value.type n from r);rfl
section
variable {P:Program} {w:World} {H H':Hp} {h h':Heap} {a C dx:Addr} {fs fs':List (Str×V)}
theorem Zh2(hok:HOk P w H h)(e:H a=some (.ins C dx fs)):∃mA,Zpx h a dx C mA/\(∀f,Zcb (fs.lookup f) (mA f))/\PySem.Within mA (fs.map (·.1))/\fs.length<=1000/\H dx=some (.own a):=by
 obtain ⟨d,z,ne,ob,mA,n,r,q⟩:=(show Yi P w H h a (.ins C dx fs) from hok a _ e)
 exact ⟨mA,⟨ob,n,ne⟩,r,q,z,d⟩
end
structure Cls(K:Frag)(C:Addr):Prop where
 pg:PySem.W.plainGet K C Str.empty=true
 hd:PySem.W.hasDictIn K C=true
 po:PySem.W.plainOver K C=true
 sa:findIn K (.ref C) "__setattr__" =some (some (.builtin "object.__setattr__"))
theorem Cls.get{K:Frag}{C:Addr}(c:Cls K C)(f:Str):PySem.W.plainGet K C f=true:=c.pg
def Xt(K:Frag)(C:Addr)(f:Str):Prop:=findIn K (.ref C) f=some none
theorem Xt.taker{K:Frag}{C:Addr}{f:Str}(n:Xt K C f):PySem.W.takerIn K C f=some none:=by
 unfold PySem.W.takerIn;rw [show findIn K (.ref C) f=some none from n]
 rfl
structure Yh(K:Frag)(C:Addr)(m:Str)(f:Addr):Prop where
 at_:findIn K (.ref C) m=some (some (.ref f))
 fn:PySem.W.isFn K (.ref f)=true
 kp:keepIn K (.ref f)=true
section
variable {X:Cx} {a6:List (Addr×Obj)} {σ:St} {H:Hp} {s:Shared} {a C dx:Addr} {fs:List (Str×V)} {f:Str} {v:V} {A:Around} {E:Value->Shared->Prop}
theorem Zp5{b:Bool}{Q:Value->Shared->Prop}(I:Inv X a6 σ H s)(e:H a=some (.ins C dx fs))(c:Cls X.K C)(n:Xt X.K C f)(l:fs.lookup f=some v)
  (h:∀u s',Inv X a6 σ H s'->Yf v u->Q u s'):wpAny (model X.prog X.w) A (getAttr (.ref a) f b) Q E s:=by
 obtain ⟨mA,O,r,_,_,_⟩:=Zh2 I.hok e;obtain ⟨u,hu,ru⟩:=Zcb.some_of (v:=v) (o:=mA f) (by rw [<-l];exact r f);exact Zx2 I.kIn O (c.get f) c.hd n hu (Zsf ru) (h u _ (I.tok _) ru)
theorem Ze9{m:Str}{g:Addr}{pl:Sem Bool}{Q:Value×List Value->Shared->Prop}(I:Inv X a6 σ H s)(e:H a=some (.ins C dx fs))(c:Cls X.K C)(k:Yh X.K C m g)(l:fs.lookup m=none)
  (h:Q (.ref g,[.ref a]) s):wpAny (model X.prog X.w) A (getMethod (.ref a) m pl) Q E s:=by
 obtain ⟨mA,O,r,_,_,_⟩:=Zh2 I.hok e;have hn:mA m=none:=Zcb.none_of (by rw [<-l];exact r m);exact Zv4 I.kIn O (c.get m) k.at_ k.fn hn h
theorem Zpj{y:V}{u:Value}{Q:Unit->Shared->Prop}(I:Inv X a6 σ H s)(e:H a=some (.ins C dx fs))(c:Cls X.K C)(n:Xt X.K C f)(hl:fs.length<1000)(ry:Yf y u)
  (h:∀s',Inv X a6 σ (upd H a (.ins C dx (Zd9 f y fs))) s'->Q () s'):wpAny (model X.prog X.w) A (setAttr (.ref a) f u) Q E s:=by
 obtain ⟨mA,O,r,wi,_,ho⟩:=Zh2 I.hok e;have hz:(fs.map (·.1)).length<=sizeLine:=by rw [List.length_map,sizeLine_eq];lia
 refine Zwo I.kIn O c.sa c.po n.taker c.hd wi hz fun h' O' sb=>h _ ?_
 have hd:∃o,h'.get? dx=some o:=let ⟨o,_,_,e',_⟩:=O'.ns;⟨o,e'⟩;refine I.write (x:=a) (e:=dx) (by rw [e];exact True.intro) (.inr ho) (fun b q hb z=>(sb.2 b hb).trans z) hd ?_;refine ⟨by rw [Zh O.ne];exact ho,?_,O.ne,O'.obj,_,O'.ns,fun g=>?_,fun g hg=>?_⟩
 ·have:=Zhc f y fs;lia
 ·show Zcb ((Zd9 f y fs).lookup g) (if g=f then some u else mA g);rw [Zha]
  by_cases q:g=f
  ·rw [if_pos q,if_pos q];exact ry
  ·rw [if_neg q,if_neg q];exact r g
 ·by_cases q:g=f
  ·rw [q];exact (Zgh f y fs).1
  ·refine (Zgh f y fs).2 g (wi g fun z=>hg ?_);show (if g=f then some u else mA g)=none;rw [if_neg q];exact z
theorem Inv.made(I:Inv X a6 σ H s):Inv X a6 σ (upd (upd H s.heap.objs.size (.own (s.heap.objs.size+1))) (s.heap.objs.size+1) (.ins C s.heap.objs.size []))
  { s with heap:=(s.heap.push PySem.W.emptyDict).push (PySem.W.instObj C s.heap.objs.size) }:=by
 have e1:(s.heap.push PySem.W.emptyDict).get? s.heap.objs.size=some PySem.W.emptyDict:=Heap.get?_push_size s.heap rfl;have e2:((s.heap.push PySem.W.emptyDict).push (PySem.W.instObj C s.heap.objs.size)).get? (s.heap.objs.size+1)=some (PySem.W.instObj C s.heap.objs.size):=by
  have:=Heap.get?_push_size (s.heap.push PySem.W.emptyDict) (o:=PySem.W.instObj C s.heap.objs.size) rfl;rwa [Heap.size_push] at this
 have e3:(s.heap.push PySem.W.emptyDict).Ns s.heap.objs.size (fun _=>none):=⟨PySem.W.emptyDict,#[],_,e1,rfl,(fun e he=>absurd he (by simp)),fun _=>rfl⟩
 have I1:=I.laid (a:=s.heap.objs.size) (o:=.own (s.heap.objs.size+1)) (h':=s.heap.push PySem.W.emptyDict) (t':=s.toks) (fun b u q=>Heap.get?_push_of_some _ q) (Nat.le_refl _) ⟨_,e1⟩;refine I1.laid (a:=s.heap.objs.size+1) (o:=.ins C s.heap.objs.size []) (t':=s.toks) (fun b u q=>Heap.get?_push_of_some _ q) (Nat.le_of_eq (Heap.size_push _ _)) ?_;have ne:s.heap.objs.size≠s.heap.objs.size+1:=Nat.ne_of_lt (Nat.lt_succ_self _);refine ⟨by rw [Zh ne,Zf],Nat.zero_le _,ne,e2,fun _=>none,(Heap.Ns1.of_empty e3).at fun o q=>Heap.get?_push_of_some _ q,fun _=>True.intro,fun y hy=>absurd rfl hy⟩
theorem Zwe{prog:Program}{w:World}{env:Env}{e:Expr}{f:Str}{pos:Pos}{s:Shared}{Q:Value->Shared->Prop}(hb:attributeBase e f env (eval e env)=eval e env)
  (h:wpAny (model prog w) A (eval e env) (fun o s₁=>wpAny (model prog w) A (getAttr o f true) Q E s₁) E s):wpAny (model prog w) A (eval (.Attribute e f pos) env) Q E s :=
 Attribute_any_ h (by rw [arm_eval_Attribute,hb])
end
def Ycz(K:Frag)(ta:TE)(f:Str):TE:=fun σ H Q=>ta σ H fun x H1=>∃a C dx fs v,x=.ref a/\H1 a=some (.ins C dx fs)/\Cls K C/\Xt K C f/\fs.lookup f=some v/\Q v H1
def Yc0(K:Frag)(ta tv:TE)(f:Str):TS:=fun D σ H=>tv σ H fun y H1=>ta σ H1 fun x H2=>∃a C dx fs,x=.ref a/\H2 a=some (.ins C dx fs)/\Cls K C/\Xt K C f/\fs.length<1000 /\
 D.nx σ (upd H2 a (.ins C dx (Zd9 f y fs)))
section
variable {X:Cx} {o e value:Expr} {f:Str} {pos x6 Q0:Pos} {ta tv:TE}
theorem Xz(he:PE X e ta)(hb:attributeBase e f X.env (eval e X.env)=eval e X.env):PE X (.Attribute e f pos) (Ycz X.K ta f):=by
 intro a6 s σ H Q I h;refine Zwe hb (thn (he a6 s σ H _ I h) fun u s1 zz=>?_);obtain ⟨x,H1,I1,rx,a,C,dx,fs,v,ex,ea,c,n,l,q⟩:=zz;subst ex;obtain rfl:u=Value.ref a:=rx;exact Zp5 I1 ea c n l fun u' s2 I2 ru=>⟨v,H1,I2,ru,q⟩
theorem Zjm(ha:PE X o ta)(hv:PE X value tv)(hs:swapsWith value (some (.Attribute o f x6)) pos.line X.env=pure false):PS X (.Assign [.Attribute o f x6] value pos) (Yc0 X.K ta tv f):=by
 intro a6 s σ H D I h;refine plainObj_wpAny_Assign_Attribute (thn (hv a6 s σ H _ I h) fun u s1 ⟨y,H1,I1,ry,q⟩=>thn (ha a6 s1 σ H1 _ I1 q) fun ov s2 zz=>?_) hs;obtain ⟨x,H2,I2,rx,a,C,dx,fs,ex,ea,c,n,l,q2⟩:=zz;subst ex;obtain rfl:ov=Value.ref a:=rx;exact Zpj I2 ea c n l ry fun s3 I3=>⟨σ,_,I3,q2⟩
theorem Zyu{pl:Sem Bool}{m:Str}{i8:Pos}{args:List Expr}{a6:List (Addr×Obj)}{s:Shared}{σ:St}{H:Hp}{Q:Value->Shared->Prop}{te:TE}(he:PE X e te)(I:Inv X a6 σ H s)
  (h:te σ H fun x H1=>∃a C dx fs g,x=.ref a/\H1 a=some (.ins C dx fs)/\Cls X.K C/\Yh X.K C m g/\fs.lookup m=none /\
   ∀s1,Inv X a6 σ H1 s1->wpAny (model X.prog X.w) X.A (callWith pos (.ref g) [.ref a] (backTo pos (starEach args X.env)) (backToKw pos (keywordEach [] X.env))) Q X.xe s1)
  (ht:eval (.Call (.Attribute e m i8) args [] pos) X.env=(do
   let ov <-eval e X.env
   standAt i8.atName
   let (f,first) <-holding [ov] (getMethod ov m pl)
   callWith pos f first (backTo pos (starEach args X.env)) (backToKw pos (keywordEach [] X.env)))) :
  wpAny (model X.prog X.w) X.A (eval (.Call (.Attribute e m i8) args [] pos) X.env) Q X.xe s:=by
 refine PySem.W.methodCall_KW (pl:=pl) (thn (he a6 s σ H _ I h) fun u s1 zz=>?_) ht;obtain ⟨x,H1,I1,rx,a,C,dx,fs,g,ex,ea,c,k,l,q⟩:=zz;subst ex;obtain rfl:u=Value.ref a:=rx;exact Ze9 I1 ea c k l (q s1 I1)
end
section
variable {X:Cx} {a6:List (Addr×Obj)} {σ:St} {H:Hp} {s:Shared} {A:Around} {E:Value->Shared->Prop} {Q:Value->Shared->Prop} {c:Value} {b:Bool}
inductive W6(K:Frag)(H:Hp):V->Value->Prop where
 | non:W6 K H .non (.type "NoneType")
 | bl (x:Bool):W6 K H (.bl x) (.type "bool")
 | int (i:Int):W6 K H (.int i) (.type "int")
 | str (x:Str):W6 K H (.str x) (.type "str")
 | flt (x:UInt64):W6 K H (.flt x) (.type "float")
 | lst {a:Addr} {xs:List V} (e:H a=some (.lst xs)):W6 K H (.ref a) (.type "list")
 | frz {a:Addr} {o:Obj} {xs:List V} (e:H a=some (.frz o (.lst xs))):W6 K H (.ref a) (.type "list")
 | tup {a:Addr} {xs:List V} (e:H a=some (.tup xs)):W6 K H (.ref a) (.type "tuple")
 | dK {a:Addr} {kvs:List (Key×V)} (e:H a=some (.dK kvs)):W6 K H (.ref a) (.type "dict")
 | dT {a:Addr} {kvs:List (List Key×V)} (e:H a=some (.dT kvs)):W6 K H (.ref a) (.type "dict")
 | ins {a C dx:Addr} {fs:List (Str×V)} (e:H a=some (.ins C dx fs)) (cl:Cls K C) (ha:findIn K (.ref C) "__class__" =some (some (.builtin "object.__class__")))
   (hn:PySem.W.specialIn K (.builtin "object.__class__") "__get__" =some (some (.builtin "getset_descriptor.__get__"))) (N1:PySem.W.takesIn K (.builtin "object.__class__")=some true)
   (hm:PySem.W.mroIn K C (.type "object")=some true):W6 K H (.ref a) (.ref C)
theorem Zlf{x:V}{u t:Value}(I:Inv X a6 σ H s)(rx:Yf x u)(ty:W6 X.K H x t)(e:kitOne X.K t c=some b)(h:∀tk,Q (.bool b) { s with toks:=tk }) :
  wpAny (model X.prog X.w) A (call (.builtin "isinstance") [u,c]) Q E s:=by
 cases ty with
 | non=>cases (show u=Value.none from rx);exact PySem.W.kia_one PySem.W.kitx_none I.kIn True.intro e (fun z=>nomatch z) h
 | bl y=>cases (show u=Value.bool y from rx);exact PySem.W.kia_one PySem.W.kitx_bool I.kIn True.intro e (fun z=>nomatch z) h
 | int i=>obtain ⟨t,q⟩:=(show ∃t,u=Value.int i t from rx);cases q;exact PySem.W.kia_one PySem.W.kitx_int I.kIn True.intro e (fun z=>nomatch z) h
 | str y=>obtain ⟨t,q⟩:=(show ∃t,u=Value.str y t from rx);cases q;exact PySem.W.kia_one PySem.W.kitx_str I.kIn True.intro e (fun z=>nomatch z) h
 | flt y=>obtain ⟨t,q⟩:=(show ∃t,u=Value.float y t from rx);cases q;exact PySem.W.kia_one PySem.W.kitx_float I.kIn True.intro e (fun z=>nomatch z) h
 | @lst a xs ea =>
  cases (show u=Value.ref a from rx);obtain ⟨_,_,n,_,h1⟩:=(show Yi X.prog X.w H s.heap a (.lst xs) from I.hok a _ ea)
  exact PySem.W.kia_one PySem.W.kitx_list I.kIn ⟨_,h1,rfl⟩ e (fun z=>nomatch z) h
 | @frz a ob xs ea =>
  cases (show u=Value.ref a from rx);obtain ⟨_,_,_,n,_,h1⟩:=(show Yi X.prog X.w H s.heap a (.frz ob (.lst xs)) from I.hok a _ ea)
  exact PySem.W.kia_one PySem.W.kitx_list I.kIn ⟨_,h1,rfl⟩ e (fun z=>nomatch z) h
 | @tup a xs ea =>
  cases (show u=Value.ref a from rx);obtain ⟨_,_,_,p⟩:=(show Yi X.prog X.w H s.heap a (.tup xs) from I.hok a _ ea)
  obtain ⟨o,h1,h2,_⟩:=p;exact PySem.W.kia_one PySem.W.kitx_tuple I.kIn ⟨o,h1,h2⟩ e (fun z=>nomatch z) h
 | @dK a kvs ea =>
  cases (show u=Value.ref a from rx);obtain ⟨_,_,vs,_,p⟩:=(show Yi X.prog X.w H s.heap a (.dK kvs) from I.hok a _ ea)
  obtain ⟨o,es,ep,h1,h2,_⟩:=p;exact PySem.W.kia_one PySem.W.kitx_dict I.kIn ⟨o,h1,h2.1⟩ e (fun z=>nomatch z) h
 | @dT a kvs ea =>
  cases (show u=Value.ref a from rx);obtain ⟨_,_,xs,_,o,es,ep,h1,h2,_⟩:=(show Yi X.prog X.w H s.heap a (.dT kvs) from I.hok a _ ea)
  exact PySem.W.kia_one PySem.W.kitx_dict I.kIn ⟨o,h1,h2.1⟩ e (fun z=>nomatch z) h
 | @ins a C dx fs ea cl ha hn N1 hm =>
  cases (show u=Value.ref a from rx);obtain ⟨mA,O,_⟩:=Zh2 I.hok ea;obtain ⟨od,J,_⟩:=O.look;exact PySem.W.kia_one (PySem.W.kitx_own (cl.get _) cl.hd ha hn N1 hm) I.kIn J e (fun z=>nomatch z) h
end
end L2
namespace L2
open PySem PySem.Spec PyProof.Rows
structure X0(k:Nat)(A:Around):Prop where
 hd:A.handled=none
 dp:A.depth+3 * k+5<recursionLimit
 un:A.units+16 * k+200<cLine
theorem X0.mono{j k:Nat}{A:Around}(r:X0 k A)(h:j<=k):X0 j A:=⟨r.hd,by have:=r.dp;lia,by have:=r.un;lia⟩
theorem X0.deeper{k:Nat}{A:Around}(r:X0 (k+1) A)(env:Env):X0 k (A.deeper env) :=
 ⟨r.hd,by have:=r.dp;show A.depth+1+3 * k+5<_;lia,by have:=r.un;show A.units+3+16 * k+200<_;lia⟩
theorem Zpg{A:Around}{C:Addr}{us:List Value}{kw:List (Str×Value)}:(A.under (.builtin "type.__call__" ⟨.ref C ::us,kw⟩)).depth=A.depth+1:=by
 first | rfl | simp [Around.under,Code.weight,Code.isCreation,Code.isGuard,Code.isCaller,Code.frames,Code.isFrame,guardIds]
theorem Zph{A:Around}{C:Addr}{us:List Value}{kw:List (Str×Value)}:(A.under (.builtin "type.__call__" ⟨.ref C ::us,kw⟩)).units=A.units+1:=by
 first | rfl | simp [Around.under,Code.cUnits,Code.frames,Code.isFrame]
theorem X0.make{k:Nat}{A:Around}(r:X0 (k+1) A)(C:Addr)(us:List Value)(kw:List (Str×Value)):X0 k (A.under (.builtin "type.__call__" ⟨.ref C ::us,kw⟩)) :=
 ⟨r.hd,by have:=r.dp;rw [Zpg];lia,by have:=r.un;rw [Zph];lia⟩
theorem X0.depth{k:Nat}{A:Around}(r:X0 k A):A.depth<recursionLimit:=by have:=r.dp;lia
theorem X0.units{k:Nat}{A:Around}(r:X0 k A):A.units+64<cLine:=by have:=r.un;lia
def Zxt:TA:=fun _ H Q=>Q [] H
def Zlc(ta:TE)(tr:TA):TA:=fun σ H Q=>ta σ H fun x H1=>tr σ H1 fun xs H2=>Q (x ::xs) H2
section
variable {X:Cx} {e:Expr} {es:List Expr} {te:TE} {t:TA} {pos:Pos}
theorem Za:PA X [] Zxt:=fun _ _ _ _ H Q I h=>Calls.spliced_nil ⟨[],H,I,.nil,h⟩
theorem Zxy(ha:PE X e te)(hr:PA X es t)(hs:starEach (e ::es) X.env=(false,eval e X.env) ::starEach es X.env:=by rfl):PA X (e ::es) (Zlc te t):=by
 intro pos a6 s σ H Q I h;rw [hs];show wpAny _ _ (spliced ((false,eval e X.env) ::backTo pos (starEach es X.env))) _ _ s;refine Calls.spliced_cons (thn (ha a6 s σ H _ I h) fun u s1 ⟨x,H1,I1,r1,q1⟩=>?_);exact thn (hr pos a6 s1 σ H1 _ I1 q1) fun us s2 ⟨xs,H2,I2,r2,q2⟩=>⟨x ::xs,H2,I2,.cons r1 r2,q2⟩
end
abbrev Sp:=List V->Hp->VK->XK->Prop
abbrev CXT:=List Env->Hp->Shared->XK->Value->Shared->Prop
structure Zox(P:Program)(w:World)(K:Frag)(mg:Str->Option Value)(base:Heap)(A:Around)(outer:List Env)(s:Shared)(H:Hp):Prop where
 frames:A.frames=some outer
 mod:Mod K mg base
 bs:∀b o,base.get? b=some o->s.heap.get? b=some o/\H b=none
 bsz:base.objs.size<=s.heap.objs.size
 funs:s.heap.FunFrames base outer
 frf:∀b∈frs outer,H b=none
 hok:HOk P w H s.heap
 bare:AllBare s.gens
def CE(outer:List Env)(P:Program)(w:World)(H:Hp)(s:Shared)(Q:VK)(u:Value)(s':Shared):Prop :=
 ∃v H',s'.os=s.os/\AllBare s'.gens/\Un (frs outer) [] H H' s.heap s'.heap/\HOk P w H' s'.heap/\Yf v u/\Q v H'
def CR(CX:CXT)(outer:List Env)(P:Program)(w:World)(H:Hp)(s:Shared)(Q:VK)(E:XK)(r:Result)(s':Shared):Prop :=
 match r with
 | .ok (.ret u)=>CE outer P w H s Q u s'
 | .ok _=>False
 | .error e=>CX outer H s E e s'
structure Zy(P:Program)(w:World)(K:Frag)(mg:Str->Option Value)(base:Heap)(CX:CXT)(k:Nat)(f:Addr)(fd:FuncData)(ps:List Str)(sp:Sp):Prop where
 len:∀vs H Q E,sp vs H Q E->vs.length=ps.length
 run:∀(A:Around) (outer:List Env) (s:Shared) (H:Hp) (args:Args) (us:List Value) (vs:List V) (Q:VK) (E:XK),X0 k A->Zox P w K mg base A outer s H->BindsTo s fd args (ps.zip us)->Ya vs us->sp vs H Q E ->
  codeAny (model P w) A (.call (.ref f) args) (CR CX outer P w H s Q E) s
theorem Zy.mono{P:Program}{w:World}{K:Frag}{mg:Str->Option Value}{base:Heap}{CX:CXT}{j k:Nat}{f:Addr}{fd:FuncData}{ps:List Str}{sp:Sp}(F:Zy P w K mg base CX j f fd ps sp)(h:j<=k) :
  Zy P w K mg base CX k f fd ps sp:=⟨F.len,fun A outer s H args us vs Q E hr=>F.run A outer s H args us vs Q E (hr.mono h)⟩
theorem Zox.make{P:Program}{w:World}{K:Frag}{mg:Str->Option Value}{base:Heap}{A:Around}{outer:List Env}{s:Shared}{H:Hp}(e:Zox P w K mg base A outer s H)(C:Addr)(us:List Value)(kw:List (Str×Value)) :
  Zox P w K mg base (A.under (.builtin "type.__call__" ⟨.ref C ::us,kw⟩)) outer s H:=⟨by first | exact e.frames | (simpa [Around.under,Code.envs,Code.isFrame,pushEnvs] using e.frames),e.mod,e.bs,e.bsz,e.funs,e.frf,e.hok,e.bare⟩
section
variable {X:Cx} {a6:List (Addr×Obj)} {σ:St} {H:Hp} {s s':Shared}
theorem Inv.env0(I:Inv X a6 σ H s):Zox X.prog X.w X.K X.mg X.base X.A X.stack s H :=
 ⟨I.ok.frames,I.ok.mod,I.bs,Nat.le_trans I.ok.bsz I.sz,I.stack,I.stkFree,I.hok,I.bare⟩
theorem Inv.after{Q:VK}{u:Value}(I:Inv X a6 σ H s)(h:CE X.stack X.prog X.w H s Q u s'):EP X a6 σ Q u s':=by
 obtain ⟨v,H',os,bare,un,hok,r,q⟩:=h;obtain ⟨hh,g,d,t,os'⟩:=s';obtain rfl:os'=s.os:=os;exact ⟨v,H',I.call (h':=hh) (g':=g) (d':=d) (t':=t) (ch:=[]) un hok bare (fun b z=>absurd z (by simp)),r,q⟩
end
def Ya3(sp:Sp)(C4:List V)(E:XK)(t:TA):TE:=fun σ H Q=>t σ H fun vs H1=>sp (vs++C4) H1 Q E
def Zyz(C:Addr)(m:Str)(sp:Sp)(C4:List V)(E:XK)(ta:TE)(t:TA):TE:=fun σ H Q=>ta σ H fun x H1=>∃a dx fs,x=.ref a/\H1 a=some (.ins C dx fs)/\fs.lookup m=none /\
 t σ H1 fun vs H2=>sp (x ::(vs++C4)) H2 Q E
def Za1(K:Frag)(fd:FuncData)(ps:List Str)(ds:List Value):Prop :=
 ∀(s:Shared) (us:List Value),K.In s.heap->(us++ds).length=ps.length->BindsTo s fd ⟨us,[]⟩ (ps.zip (us++ds))
theorem Za1.all{K:Frag}{fd:FuncData}{ps:List Str}(h:∀us:List Value,us.length=ps.length->bindArgs fd ⟨us,[]⟩=pure (ps.zip us)):Za1 K fd ps []:=fun s us _ hl=>by
 rw [List.append_nil] at hl ⊢;exact .of_eq (h us hl)
def Zbo(CX:CXT)(X:Cx)(E:XK):Prop:=∀(a6:List (Addr×Obj)) (σ:St) (H:Hp) (s:Shared) (e:Value) (s':Shared),Inv X a6 σ H s->CX X.stack H s E e s'->X.xe e s'
section
variable {X:Cx} {CX:CXT} {k:Nat} {f C:Addr} {fd:FuncData} {ps:List Str} {sp:Sp} {C4:List V} {ds:List Value} {E:XK} {x m:Str} {p pos i8:Pos} {e o:Expr} {es:List Expr} {ta:TE} {t:TA}
theorem Zpb{a6:List (Addr×Obj)}{σ:St}{H:Hp}{s:Shared}{Q:VK}{us:List Value}{vs:List V}(F:Zy X.prog X.w X.K X.mg X.base CX k f fd ps sp)(hr:X0 k X.A)(hb:Za1 X.K fd ps ds)(hd:Ya C4 ds)(hx:Zbo CX X E)
  (I:Inv X a6 σ H s) (r:Ya vs us) (h:sp (vs++C4) H Q E):wpAny (model X.prog X.w) X.A (call (.ref f) us) (EP X a6 σ Q) X.xe s:=by
 have r2:Ya (vs++C4) (us++ds):=r.append hd;have hl:(us++ds).length=ps.length:=by rw [<-r2.length];exact F.len _ _ _ _ h
 refine wpAny_call (codeAny_mono (F.run X.A X.stack s H ⟨us,[]⟩ (us++ds) (vs++C4) Q E hr I.env0 (hb s us I.kIn hl) r2 h) fun r s' hq=>?_);cases r with
 | error e=>exact hx a6 σ H s e s' I hq
 | ok fl =>
  cases fl with
  | ret u=>exact I.after hq
  | next=>exact False.elim hq
  | brk=>exact False.elim hq
  | cont=>exact False.elim hq
theorem Zr(F:Zy X.prog X.w X.K X.mg X.base CX k f fd ps sp)(hr:X0 k X.A)(hg:Gl X x)(hm:X.mg x=some (.ref f))(hk:keepIn X.K (.ref f)=true)(hb:Za1 X.K fd ps ds)(hd:Ya C4 ds)(hx:Zbo CX X E)
  (ha:PA X (e ::es) t) (N7:(x ==("__debug__" :Str))=false:=by decide) (he:starEach (e ::es) X.env=(false,eval e X.env) ::starEach es X.env:=by rfl) (j0:(backTo pos (starEach es X.env)).any (·.1)=false:=by rfl) :
  PE X (.Call (.Name x p) (e ::es) [] pos) (Ya3 sp C4 E t):=by
 intro a6 s σ H Q I h;refine wpAny_Call_Name_kw (Zfk I hg hm ?_ N7);refine PySem.W.callWith_K (h₀:=X.base) I.ok.mod.kin hk (thn (ha pos a6 s σ H _ I h) fun us s1 ⟨vs,H1,I1,r,q⟩=>⟨I1.kIn,?_⟩) he j0;exact Zpb F hr hb hd hx I1 r q
theorem Za5{pl:Sem Bool}(he:PE X o ta)(c:Cls X.K C)(hm:Yh X.K C m f)(F:Zy X.prog X.w X.K X.mg X.base CX k f fd ps sp)(hr:X0 k X.A)(hb:Za1 X.K fd ps ds)(hd:Ya C4 ds)(hx:Zbo CX X E)(ha:PA X (e ::es) t)
  (C3:starEach (e ::es) X.env=(false,eval e X.env) ::starEach es X.env:=by rfl) (j0:(backTo pos (starEach es X.env)).any (·.1)=false:=by rfl)
  (ht:eval (.Call (.Attribute o m i8) (e ::es) [] pos) X.env=(do
   let ov <-eval o X.env
   standAt i8.atName
   let (f,first) <-holding [ov] (getMethod ov m pl)
   callWith pos f first (backTo pos (starEach (e ::es) X.env)) (backToKw pos (keywordEach [] X.env))):=by rfl) :
  PE X (.Call (.Attribute o m i8) (e ::es) [] pos) (Zyz C m sp C4 E ta t):=by
 intro a6 s σ H Q I h;refine PySem.W.methodCall_KW (pl:=pl) (thn (he a6 s σ H _ I h) fun u s1 ⟨x,H1,I1,rx,a,dx,fs,ex,ea,l,q⟩=>?_) ht;subst ex;obtain rfl:u=Value.ref a:=rx;refine Ze9 I1 ea c hm l ?_;refine PySem.W.callWith_K (first:=[.ref a]) (h₀:=X.base) I.ok.mod.kin hm.kp (thn (ha pos a6 s1 σ H1 _ I1 q) fun us s2 ⟨vs,H2,I2,r,q2⟩=>⟨I2.kIn,?_⟩) C3 j0;exact Zpb (us:=.ref a ::us) (vs:=.ref a ::vs) F hr hb hd hx I2 (.cons rfl r) q2
theorem Zdv{pl:Sem Bool}(he:PE X o ta)(c:Cls X.K C)(hm:Yh X.K C m f)(F:Zy X.prog X.w X.K X.mg X.base CX k f fd ps sp)(hr:X0 k X.A)(hb:Za1 X.K fd ps ds)(hd:Ya C4 ds)(hx:Zbo CX X E)
  (ht:eval (.Call (.Attribute o m i8) [] [] pos) X.env=(do
   let ov <-eval o X.env
   standAt i8.atName
   let (f,first) <-holding [ov] (getMethod ov m pl)
   callWith pos f first (backTo pos (starEach [] X.env)) (backToKw pos (keywordEach [] X.env))):=by rfl) :
  PE X (.Call (.Attribute o m i8) [] [] pos) (Zyz C m sp C4 E ta Zxt):=by
 intro a6 s σ H Q I h;refine PySem.W.methodCall_KW (pl:=pl) (thn (he a6 s σ H _ I h) fun u s1 zz=>?_) ht;obtain ⟨x,H1,I1,rx,a,dx,fs,ex,ea,l,q⟩:=zz;subst ex;obtain rfl:u=Value.ref a:=rx;refine Ze9 I1 ea c hm l ?_;exact PySem.W.callWith_K0 (first:=[.ref a]) I1.kIn hm.kp (Zpb (us:=[.ref a]) (vs:=[.ref a]) F hr hb hd hx I1 (.cons rfl .nil) q)
structure Mk(K:Frag)(C f:Addr):Prop where
 makes:PySem.W.makesIn K C=true
 init:findIn K (.ref C) "__init__" =some (some (.ref f))
 fn:PySem.W.isFn K (.ref f)=true
 kp:keepIn K (.ref C)=true
theorem Zu5{a6:List (Addr×Obj)}{σ:St}{H:Hp}{s:Shared}{Q:VK}{us:List Value}{vs:List V}(M:Mk X.K C f)(F:Zy X.prog X.w X.K X.mg X.base CX k f fd ps sp)(hr:X0 (k+1) X.A)(hb:Za1 X.K fd ps ds)(hd:Ya C4 ds)
  (hx:Zbo CX X E) (I:Inv X a6 σ H s) (r:Ya vs us)
  (h:∀x dx,H x=none->H dx=none->dx≠x->sp (.ref x ::(vs++C4)) (upd (upd H dx (.own x)) x (.ins C dx [])) (fun v H2=>v=.non/\Q (.ref x) H2) E) :
  wpAny (model X.prog X.w) X.A (call (.ref C) us) (EP X a6 σ Q) X.xe s:=by
 have hq:=h (s.heap.objs.size+1) s.heap.objs.size (I.hok.fresh (Nat.le_succ _)) (I.hok.fresh (Nat.le_refl _)) (Nat.ne_of_lt (Nat.lt_succ_self _));have I2:=Inv.made (C:=C) I;have r2:Ya (V.ref (s.heap.objs.size+1) ::(vs++C4)) (Value.ref (s.heap.objs.size+1) ::(us++ds)):=.cons rfl (r.append hd);have hl:(Value.ref (s.heap.objs.size+1) ::us++ds).length=ps.length:=by
  have e:=r2.length;rw [F.len _ _ _ _ hq] at e;exact e.symm
 refine wpAny_call (Zvr (f:=f) I.kIn M.makes M.init (beq_iff_eq.mp M.fn) (codeAny_mono (F.run _ X.stack _ _ ⟨Value.ref (s.heap.objs.size+1) ::us,[]⟩ (Value.ref (s.heap.objs.size+1) ::(us++ds)) _ _ E (hr.make C us [])
  (I2.env0.make C us []) (hb _ (Value.ref (s.heap.objs.size+1) ::us) I2.kIn hl) r2 hq) fun r s' hq'=>?_))
 cases r with
 | error e=>exact hx a6 σ _ _ e s' I2 hq'
 | ok fl =>
  cases fl with
  | ret u =>
   obtain ⟨v,H',I3,rv,ev,q3⟩:=I2.after hq';subst ev;exact ⟨rv,⟨V.ref (s.heap.objs.size+1),H',I3,rfl,q3⟩⟩
  | next=>exact False.elim hq'
  | brk=>exact False.elim hq'
  | cont=>exact False.elim hq'
end
section
variable {X:Cx} {CX:CXT} {k:Nat} {f C:Addr} {fd:FuncData} {ps ks:List Str} {sp:Sp} {E:XK} {x m:Str} {p pos i8 kpos:Pos} {e o:Expr} {es:List Expr} {kws:List Keyword} {te ta:TE} {t tk:TA} {nm:Option Str}
variable {g:List Value->List Value->List Value} {gV:List V->List V->List V}
end
structure Zo(N P:List Str)(sc:Scope):Prop where
 kind:sc.kind=.function:=by rfl
 co:sc.isCoroutine=false:=by rfl
 gen:sc.isGenerator=false:=by rfl
 nd:N.Nodup:=by trivial
 pre:N.take P.length=P:=by rfl
 par:∀x∈P,sc.names.lookup x=some .local\/sc.names.lookup x=some .cell:=by trivial
 nofree:∀y∈sc.names,y.2 ≠ .free:=by trivial
theorem Zlk{kindOf:Str->Option NameKind}{x:Str}:∀{binds:List (Str×Value)} {m:Str->Option Value},(∀v,(x,v)∉binds)->bindL kindOf binds m x=m x
 | [],_,_=>rfl
 | (n,v) ::r,m,h=>by
  unfold bindL;rw [Zlk fun w hw=>h w (List.mem_cons_of_mem _ hw)];split
  ·have:x≠n:=by rintro rfl;exact h v List.mem_cons_self
   simp [this]
  ·rfl
theorem Zli{kindOf:Str->Option NameKind}{x:Str}:∀{binds:List (Str×Value)} {m:Str->Option Value},(∀v,(x,v)∉binds)->bindC kindOf binds m x=m x
 | [],_,_=>rfl
 | (n,v) ::r,m,h=>by
  unfold bindC;rw [Zli fun w hw=>h w (List.mem_cons_of_mem _ hw)];split
  ·rfl
  ·have:x≠n:=by rintro rfl;exact h v List.mem_cons_self
   simp [this]
theorem Zkt{kindOf:Str->Option NameKind}{x:Str}{v:Value}:∀{P:List Str} {vs:List Value} {i:Nat} {m:Str->Option Value},P.Nodup->P[i]? =some x->vs[i]? =some v->kindOf x=some .local ->
  bindL kindOf (P.zip vs) m x=some v
 | [],_,_,_,_,h,_,_=>by simp at h
 | _ ::_,[],_,_,_,_,h,_=>by simp at h
 | p ::P,w ::vs,0,m,nd,h1,h2,hk=>by
  simp at h1 h2;subst h1;subst h2;show bindL kindOf ((p,w) ::P.zip vs) m p=_;unfold bindL;rw [Zlk fun v hv=>(List.nodup_cons.mp nd).1 (List.of_mem_zip hv).1,if_pos hk];simp
 | p ::P,w ::vs,i+1,m,nd,h1,h2,hk=>by
  show bindL kindOf ((p,w) ::P.zip vs) m x=_;unfold bindL;exact Zkt (i:=i) (List.nodup_cons.mp nd).2 (by simpa using h1) (by simpa using h2) hk
theorem Zle{kindOf:Str->Option NameKind}{x:Str}{v:Value}:∀{P:List Str} {vs:List Value} {i:Nat} {m:Str->Option Value},P.Nodup->P[i]? =some x->vs[i]? =some v->kindOf x≠some .local ->
  bindC kindOf (P.zip vs) m x=some v
 | [],_,_,_,_,h,_,_=>by simp at h
 | _ ::_,[],_,_,_,_,h,_=>by simp at h
 | p ::P,w ::vs,0,m,nd,h1,h2,hk=>by
  simp at h1 h2;subst h1;subst h2;show bindC kindOf ((p,w) ::P.zip vs) m p=_;unfold bindC;rw [Zli fun v hv=>(List.nodup_cons.mp nd).1 (List.of_mem_zip hv).1,if_neg hk];simp
 | p ::P,w ::vs,i+1,m,nd,h1,h2,hk=>by
  show bindC kindOf ((p,w) ::P.zip vs) m x=_;unfold bindC;exact Zle (i:=i) (List.nodup_cons.mp nd).2 (by simpa using h1) (by simpa using h2) hk
def start(N:List Str)(vs:List V):St:=vs.map some++List.replicate (N.length-vs.length) none
def Zea(CX:CXT)(P:Program)(w:World)(K:Frag)(mg:Str->Option Value)(base:Heap)(N:List Str)(a8:Str)(scope:Scope)(f:Addr)(cd:Value)(A:Around)(outer:List Env)(s:Shared)(H:Hp)(E:XK):Cx where
 prog:=P
 w:=w
 K:=K
 mg:=mg
 base:=base
 A:=A.deeper (envOfC a8 scope s.heap.objs.size f cd)
 N:=N
 s₀:=s
 H₀:=H
 env:=envOfC a8 scope s.heap.objs.size f cd
 outer:=outer
 stack:=envOfC a8 scope s.heap.objs.size f cd ::outer
 ex:=[]
 calm:=true
 fn:=fun _=>true
 pn:=[]
 xe:=fun e s'=>wpAny (model P w) (A.deeper (envOfC a8 scope s.heap.objs.size f cd)) (leaving (envOfC a8 scope s.heap.objs.size f cd) e) (fun _ s''=>CX outer H s E e s'') (fun e' s''=>CX outer H s E e' s'') s'
theorem Znt{sc:Scope}{n:Nat}{x:Str}(h:sc.names.lookup x=some .cell):∃c,(cellsFrom n sc.names []).lookup x=some c:=by
 have q:=PySem.W.cellsFrom_some sc.names n [] (.inl h);exact Option.isSome_iff_exists.mp q
theorem Zr9{CX:CXT}{P:Program}{w:World}{K:Frag}{mg:Str->Option Value}{base:Heap}{N ps:List Str}{a8:Str}{scope:Scope}{f:Addr}{cd:Value}{A:Around}{outer:List Env}{s s1:Shared}{H:Hp}{E:XK}{us:List Value}{vs:List V}
  (S:Zo N ps scope) (hd:A.handled=none) (e0:Zox P w K mg base A outer s H) (hl:vs.length=ps.length) (r:Ya vs us)
  (x:InCallC s s.heap.objs.size (bindL (envOfC a8 scope s.heap.objs.size f cd).kindOf (ps.zip us) fun _=>none) (cellsFrom (s.heap.objs.size+1) scope.names []) (bindC (envOfC a8 scope s.heap.objs.size f cd).kindOf (ps.zip us) fun _=>none) s1) :
  Inv (Zea CX P w K mg base N a8 scope f cd A outer s H E) [] (start N vs) H s1:=by
 have j0:ps.length<=N.length:=by have:=congrArg List.length S.pre;rw [List.length_take] at this;lia
 obtain ⟨h1,tk,rfl,hk⟩:=x.done;have noA:∀b:Addr,b∉(Zea CX P w K mg base N a8 scope f cd A outer s H E).ex:=fun b z=>absurd (show b∈([]:List Addr) from z) (by simp)
 refine ⟨⟨e0.mod,S.kind,rfl,rfl,Nat.le_refl _,fun y z c h1 h2=>?_,fun y hy=>?_,fun y c _ h=>?_,fun _=>hd,Around.frames_deeper e0.frames,.inr ⟨rfl,rfl⟩,fun b z=>absurd z (noA b),e0.bs,e0.bsz,fun b _ _=>noA b,fun b z=>absurd z (noA b),e0.funs,e0.frf⟩,
  rfl,e0.bare,Un.kept hk,⟨_,x.toInCall.ns,fun i y v h1 h2 h3=>?_⟩,fun y c h=>⟨_,x.cell y c h⟩,e0.hok.fresh (Nat.le_refl _),fun y c h=>?_,fun p hp=>absurd (show p∈([]:List (Addr×Obj)) from hp) (by simp),e0.hok.kept hk,?_⟩
 ·exact name_of_addr x.apart (PySem.mem_of_lookup h1) (PySem.mem_of_lookup h2)
 ·have hy:scope.names.lookup y=some .cell\/scope.names.lookup y=some .free:=hy;rcases hy with hy|hy
  ·exact Znt hy
  ·exact absurd rfl (S.nofree _ (PySem.mem_of_lookup hy))
 ·exact Nat.le_of_lt (x.above y c (PySem.mem_of_lookup h))
 ·have hi:i<vs.length:=by
   unfold start at h2
   by_cases hi:i<vs.length
   ·exact hi
   ·rw [List.getElem?_append_right (by simpa using hi)] at h2;rw [List.getElem?_replicate] at h2;split at h2 <;>cases h2
  have ha:vs[i]? =some v:=by
   unfold start at h2;rw [List.getElem?_append_left (by simpa using hi),List.getElem?_map] at h2;cases e:vs[i]? with
   | none=>rw [e] at h2;cases h2
   | some a=>rw [e] at h2;cases h2;rfl
  obtain ⟨u,hu,rv⟩:=r.get ha;have hp:ps[i]? =some y:=by
   rw [<-S.pre,List.getElem?_take_of_lt (by lia)];exact h1
  have ndP:ps.Nodup:=by rw [<-S.pre];exact S.nd.sublist (List.take_sublist _ _)
  refine ⟨u,rv,?_⟩;rcases S.par y (List.mem_of_getElem? hp) with k|k
  ·exact .inl ⟨k,Zkt ndP hp hu k⟩
  ·obtain ⟨c,e⟩:=Znt (n:=s.heap.objs.size+1) k;refine .inr ⟨.inl k,c,e,?_⟩;have q:=x.cell y c e;rw [Zle ndP hp hu (by show scope.names.lookup y≠_;rw [k];decide)] at q;exact q
 ·exact e0.hok.fresh (Nat.le_of_lt (x.above y c (PySem.mem_of_lookup h)))
 ·unfold start;show _=N.length;rw [List.length_append,List.length_map,List.length_replicate];lia
theorem Zua{CX:CXT}{P:Program}{w:World}{K:Frag}{mg:Str->Option Value}{base:Heap}{k:Nat}{f:Addr}{name a8:Str}{params:Arguments}{body:List Stmt}{scope:Scope}{dV kV u8 pm b7 ct oc:Value}{an od:Option Addr}
  {F1:Array (Option Value)} {N ps:List Str} {sp:Sp} (lk:K.lookup f=some ⟨oc,od,.func (fnOf name a8 params body scope dV kV u8 pm an b7 ct),F1⟩) (E7:codeIn K b7 a8=true) (S:Zo N ps scope)
  (len:∀vs H Q E,sp vs H Q E->vs.length=ps.length)
  (u9:∀(A:Around) (outer:List Env) (s:Shared) (H:Hp) (vs:List V) (Q:VK) (E:XK),X0 k (A.deeper (envOfC a8 scope s.heap.objs.size f b7))->sp vs H Q E ->
   ∃t,PSs (Zea CX P w K mg base N a8 scope f b7 A outer s H E) body t/\t { nx:=fun _ H'=>Q .non H',rt:=Q } (start N vs) H) :
  Zy P w K mg base CX (k+1) f (fnOf name a8 params body scope dV kV u8 pm an b7 ct) ps sp:=by
 refine ⟨len,fun A outer s H args us vs Q E hr e0 hb r M4=>?_⟩;have hl:=len _ _ _ _ M4;have KX:K.In s.heap:=e0.mod.kin.keeps fun b o e=>(e0.bs b o e).1
 have lim:s.heap.NoLimit:=e0.mod.nolimit.keeps fun b o e=>(e0.bs b o e).1
 have hkind:∀y∈ps.zip us,scope.names.lookup y.1=some .local\/(scope.names.lookup y.1=some .cell/\((cellsFrom (s.heap.objs.size+1) scope.names []).lookup y.1).isSome=true):=fun ⟨n,v⟩ hy=>by
  rcases S.par n (List.of_mem_zip hy).1 with q|q
  ·exact .inl q
  ·exact .inr ⟨q,PySem.W.cellsFrom_some _ _ _ (.inl q)⟩
 refine codeAny_call_function hr.depth (KX _ _ lk) rfl S.co S.gen rfl (PySem.W.codeRec_of KX E7) (hb _ _ _ _ ?_);refine wpAny_newFunctionEnv_cells S.kind hkind fun env he s1 x=>?_
 subst he;refine ⟨lim.keeps x.toInCall.keep,codeAny_func ?_⟩;obtain ⟨t,ht,hq⟩:=u9 A outer s H vs Q E (hr.deeper _) M4;have I:Inv (Zea CX P w K mg base N a8 scope f b7 A outer s H E) [] (start N vs) H s1:=Zr9 S hr.hd e0 hl r x;refine wpAny_mono (ht [] s1 (start N vs) H _ I hq) (fun fl s' hs=>?_) fun e s' hs=>hs
 have v8:∀{σ':St} {H':Hp} {v:V} {u:Value},Inv (Zea CX P w K mg base N a8 scope f b7 A outer s H E) [] σ' H' s'->Yf v u->Q v H'->CE outer P w H s Q u s' :=
  fun {σ' H' v u} J rv q=>⟨v,H',J.os,J.bare,J.base,J.hok,rv,q⟩
 cases fl with
 | ret u =>
  obtain ⟨v,σ',H',J,rv,q⟩:=hs;exact v8 J rv q
 | next =>
  obtain ⟨σ',H',J,q⟩:=hs;exact v8 (v:=V.non) (u:=Value.none) J rfl q
 | brk =>
  obtain ⟨_,_,_,q⟩:=hs;exact False.elim q
 | cont =>
  obtain ⟨_,_,_,q⟩:=hs;exact False.elim q
end L2
namespace L2
open PySem PySem.Spec PyProof.Rows
section
variable {X:Cx} {x:Str} {p pos:Pos} {e:Expr} {es:List Expr} {t:TA} {id T:String} {r:List V->Hp->VK->Prop}
def tCB(r:List V->Hp->VK->Prop)(t:TA):TE:=fun σ H Q=>t σ H fun vs H1=>r vs H1 Q
theorem Zu(hc:Xj X (.builtin id) r)(hg:Gl X x)(hm:X.mg x=none)(hv:bootBuiltins x=some (.builtin id))(ha:PA X (e ::es) t) (hn:x ≠ "__name__" :=by decide) (N7:(x ==("__debug__" :Str))=false:=by decide)
  (he:starEach (e ::es) X.env=(false,eval e X.env) ::starEach es X.env:=by rfl) (j0:(backTo pos (starEach es X.env)).any (·.1)=false:=by rfl):PE X (.Call (.Name x p) (e ::es) [] pos) (tCB r t):=by
 intro a6 s σ H Q I h;refine wpAny_Call_Name_kw (Ze3 I hg hm hv ?_ hn N7);exact PyProof.Rows.callWith_builtin1 (thn (ha pos a6 s σ H _ I h) fun us s1 ⟨vs,H1,I1,r1,q1⟩=>hc a6 s1 σ H1 vs us Q I1 r1 q1) he j0
theorem Zab(hc:Xj X (.type T) r)(hg:Gl X x)(hm:X.mg x=none)(hv:bootBuiltins x=some (.type T))(ha:PA X (e ::es) t) (hn:x ≠ "__name__" :=by decide) (N7:(x ==("__debug__" :Str))=false:=by decide)
  (he:starEach (e ::es) X.env=(false,eval e X.env) ::starEach es X.env:=by rfl) (j0:(backTo pos (starEach es X.env)).any (·.1)=false:=by rfl):PE X (.Call (.Name x p) (e ::es) [] pos) (tCB r t):=by
 intro a6 s σ H Q I h;refine wpAny_Call_Name_kw (Ze3 I hg hm hv ?_ hn N7);exact PyProof.Rows.callWith_type1 (thn (ha pos a6 s σ H _ I h) fun us s1 ⟨vs,H1,I1,r1,q1⟩=>hc a6 s1 σ H1 vs us Q I1 r1 q1) he j0
end
end L2
namespace HT
open PySem PyProof.Rows
section
open PySem.SeqAt
open PySem.AutoSeq1 (wpAny_loadPart')
open PySem.MeetsSeq PySem.MeetsSeq2 PySem.MeetsSeq3
end
section
variable {prog:Program} {w:World} {A:Around} {E:Value->Shared->Prop} {s:Shared}
theorem cat_tup{t b:Addr}{vs ws:List Value}{Q:Value->Shared->Prop}(ht:IsTup s.heap t vs.toArray)(hb:IsTup s.heap b ws.toArray)(hv:vs≠[])
  (h1:ws=[]->Q (.ref t) s) (h2:ws≠[]->Q (.ref s.heap.objs.size) { s with heap:=s.heap.push { cls:=.type "tuple",data:=.seq (vs++ws).toArray } })
  (hsz:vs.length+ws.length<=sizeLine):wpAny (model prog w) A (binaryOp .Add (.ref t) (.ref b)) Q E s:=by
 obtain ⟨⟨cls,dd,data,sl⟩,ho,hc,n,hd⟩:=id ht;obtain ⟨⟨cls2,dd2,data2,sl2⟩,J7,L7,n2,hd2⟩:=id hb;simp only at hc hd L7 hd2;subst hc hd L7 hd2;have e:vs.toArray++ws.toArray=(vs++ws).toArray:=by simp
 by_cases hw:ws=[]
 ·exact concat_meets ⟨_,ho,rfl⟩ ⟨_,J7,rfl⟩ noFill_tuple_add seq_tuple_add PySem.F.slot_tuple_add PySem.F.entry_tuple_add (PySem.F.args_tuple_add_2 _ _)
   (tuple_addW1 t b vs.toArray ws.toArray n n2 dd dd2 sl sl2 (by simpa using hv) (by simp [hw])) ⟨ho,J7,h1 hw⟩
 ·refine concat_meets ⟨_,ho,rfl⟩ ⟨_,J7,rfl⟩ noFill_tuple_add seq_tuple_add PySem.F.slot_tuple_add PySem.F.entry_tuple_add (PySem.F.args_tuple_add_2 _ _)
   (tuple_addW2 t b vs.toArray ws.toArray n n2 dd dd2 sl sl2 (by simpa using hv) (by simpa using hw) (by rw [List.size_toArray,List.size_toArray];exact hsz)) ⟨ho,J7,?_⟩
  rw [e];exact h2 hw
def sIx(n d:Nat):Option Int->Nat
 | none=>d
 | some v=>if v<0 then (v+(n:Int)).toNat else min v.toNat n
theorem sIx_none(n d:Nat):sIx n d none=d:=rfl
theorem sIx_nat(n d k:Nat):sIx n d (some (k:Int))=min k n:=by
 show (if (k:Int)<0 then ((k:Int)+(n:Int)).toNat else min (k:Int).toNat n)=min k n;rw [if_neg (by lia),Int.toNat_natCast]
theorem Zzc(n d:Nat)(hd:d<=n)(o:Option Int):sIx n d o<=n:=by
 cases o with
 | none=>exact hd
 | some v =>
  show (if v<0 then (v+(n:Int)).toNat else min v.toNat n)<=n
  by_cases hv:v<0
  ·rw [if_pos hv];lia
  ·rw [if_neg hv];exact Nat.min_le_right _ _
theorem Zqz(v:Int)(n d:Nat):(if v<0 then max (v+(n:Int)) 0 else min v (n:Int))=((sIx n d (some v):Nat):Int):=by
 show (if v<0 then max (v+(n:Int)) 0 else min v (n:Int))=(((if v<0 then (v+(n:Int)).toNat else min v.toNat n):Nat):Int)
 by_cases hv:v<0
 ·simp only [if_pos hv];lia
 ·simp only [if_neg hv];lia
theorem Zo2(lo hi:Option Int)(n:Nat):Builtin.Slice.sliceAdjust lo hi 1 (n:Int)=(((sIx n 0 lo:Nat):Int),((sIx n n hi:Nat):Int)):=by
 have h1:¬((1:Int)<0):=by lia
 unfold Builtin.Slice.sliceAdjust;simp only [h1,if_false];refine Prod.ext ?_ ?_
 ·cases lo with
  | none=>rfl
  | some v=>exact Zqz v n 0
 ·cases hi with
  | none=>rfl
  | some v=>exact Zqz v n n
theorem Zou(i j:Nat):Builtin.Slice.slicePlaces (i:Int) (j:Int) 1=j-i:=by
 unfold Builtin.Slice.slicePlaces;have h1:(1:Int) >0:=by lia
 simp only [h1,if_true,Int.ediv_one];split <;>lia
theorem Zin{v:Value}{o:Option Int}{Q:Option Int->Shared->Prop}(p:IsPart v o)(h:Q o s):wpAny (model prog w) A (Builtin.Slice.slicePartIndex v) Q E s:=by
 cases p with
 | none=>exact slicePart_none h
 | int i t=>exact slicePart_int h
theorem Zge{sl:Addr}{vl vu:Value}{lo hi:Option Int}{n:Nat}{Q:Int×Int×Nat->Shared->Prop}(hs:s.heap.IsSliceOf sl vl vu .none)(pl:IsPart vl lo)(pu:IsPart vu hi)
  (h:Q (((sIx n 0 lo:Nat):Int),1,sIx n n hi-sIx n 0 lo) s):wpAny (model prog w) A (Builtin.Slice.sliceApplied (.ref sl) (pure (n:Int))) Q E s:=by
 obtain ⟨os,hos,E9,hds⟩:=id hs;unfold Builtin.Slice.sliceApplied Builtin.Slice.sliceFields;refine wpAny_bind (wpAny_bind (wpAny_field hos hds (x:=vl) rfl (wpAny_bind (wpAny_field hos hds (x:=vu) rfl (wpAny_bind (wpAny_field hos hds (x:=.none) rfl (wpAny_pure ?_)))))));refine wpAny_bind (slicePart_none ?_);show wpAny _ _ (if ((1:Int) ==0)=true then _ else _) _ _ s;rw [if_neg (by decide)];refine wpAny_bind (Zin pl (wpAny_bind (Zin pu (wpAny_bind (wpAny_pure ?_)))));show wpAny _ _ (match Builtin.Slice.sliceAdjust lo hi 1 (n:Int) with | (lo,hi)=>pure (lo,(1:Int),Builtin.Slice.slicePlaces lo hi 1)) _ _ s;rw [Zo2 lo hi n];show wpAny _ _ (pure (((sIx n 0 lo:Nat):Int),(1:Int),Builtin.Slice.slicePlaces ((sIx n 0 lo:Nat):Int) ((sIx n n hi:Nat):Int) 1)) _ _ s;rw [Zou];exact wpAny_pure h
theorem Zv8(xs:Array Value)(i k:Nat):((List.range k).filterMap fun (m:Nat)=>xs[((i:Int)+(m:Int) * 1).toNat]?).toArray=((xs.toList.drop i).take k).toArray:=by
 have e:(fun (m:Nat)=>xs[((i:Int)+(m:Int) * 1).toNat]?)=fun m=>xs[i+m]? :=by
  funext m
  have:((i:Int)+(m:Int) * 1).toNat=i+m:=by lia
  rw [this]
 rw [e];have:=pick_run xs i k;rw [List.filterMap_map] at this;have e2:((fun x=>xs[x]?) ∘ fun x=>i+x)=fun m=>xs[i+m]? :=rfl
 rw [e2] at this;rw [this]
theorem getItem_tuple_cut{t sl:Addr}{b8:Array Value}{vl vu:Value}{lo hi:Option Int}{Q:Value->Shared->Prop}(ht:IsTup s.heap t b8)(hs:s.heap.IsSliceOf sl vl vu .none)(pl:IsPart vl lo)(pu:IsPart vu hi)
  (hw:¬(sIx b8.size 0 lo=0/\sIx b8.size b8.size hi=b8.size))
  (h:Q (.ref s.heap.objs.size) { s with heap:=s.heap.push { cls:=.type "tuple",data:=.seq ((b8.toList.drop (sIx b8.size 0 lo)).take (sIx b8.size b8.size hi-sIx b8.size 0 lo)).toArray } })
  (hsz:b8.size<=sizeLine):wpAny (model prog w) A (getItem (.ref t) (.ref sl)) Q E s:=by
 have J8:sizeOk (.seq ((b8.toList.drop (sIx b8.size 0 lo)).take (sIx b8.size b8.size hi-sIx b8.size 0 lo)).toArray):=by
  show ((b8.toList.drop (sIx b8.size 0 lo)).take (sIx b8.size b8.size hi-sIx b8.size 0 lo)).toArray.size<=sizeLine;rw [List.size_toArray,List.length_take,List.length_drop,Array.length_toList];lia
 have hj:sIx b8.size b8.size hi<=b8.size:=Zzc _ _ (Nat.le_refl _) hi;obtain ⟨os,hos,E9,hds⟩:=id hs;have hTs:s.TypeIs (.ref sl) "slice" :=⟨os,hos,E9⟩
 unfold getItem
 try with_reducible refine wpAny_holding ?_
 first | refine wpAny_bind (wpAny_pure ?_) | skip
 refine wpAny_bind (wpAny_sequenceKey ht.typeIs (by decide) ?_);refine wpAny_bind (wpAny_callSpecial?_slot (name:=Str.ofString "__getitem__") ht.typeIs PyProof.Rows.slot_tuple_getitem
  (wpAny_call_entry PyProof.Rows.slot_tuple_getitem ht.typeIs entry_tuple_getitem ?_ (args_tuple_getitem _ _)))
 show wpAny _ _ (Builtin.Tuple.tupleItemsOf (.ref t) >>=_) _ _ s;refine wpAny_bind (tupleItemsOf_ ht ?_);refine wpAny_bind (wpAny_typeOf hTs ?_);rw [if_pos (by decide)];refine wpAny_bind (Zge hs pl pu ?_);have hno:¬((((sIx b8.size 0 lo:Nat):Int) ==0 && (1:Int) ==1 && (sIx b8.size b8.size hi-sIx b8.size 0 lo) ==b8.size)=true):=by
  intro q;rw [Bool.and_eq_true,Bool.and_eq_true] at q;have q1:((sIx b8.size 0 lo:Nat):Int)=0:=eq_of_beq q.1.1;have q2:sIx b8.size b8.size hi-sIx b8.size 0 lo=b8.size:=eq_of_beq q.2;exact hw ⟨by lia,by lia⟩
 show wpAny _ _ (if (((sIx b8.size 0 lo:Nat):Int) ==0 && (1:Int) ==1 && (sIx b8.size b8.size hi-sIx b8.size 0 lo) ==b8.size)=true then _ else _) _ _ s;rw [if_neg hno,Zv8]
 first
  | exact wpAny_bind (m:=Builtin.Tuple.tupleExact _) (wpAny_newObj_type (wpAny_pure ⟨_,rfl,wpAny_pure h⟩) J8)
  | exact wpAny_bind (m:=Builtin.Tuple.tupleExact _) (wpAny_newObj_type (wpAny_bind (wpAny_pure (wpAny_pure ⟨_,rfl,wpAny_pure h⟩))) J8)
  | exact wpAny_bind (wpAny_bind (m:=Builtin.Tuple.tupleExact _) (wpAny_newObj_type (wpAny_pure (wpAny_pure ⟨_,rfl,wpAny_pure h⟩)) J8))
  | exact wpAny_bind (wpAny_bind (m:=Builtin.Tuple.tupleExact _) (wpAny_newObj_type (wpAny_pure ⟨_,rfl,wpAny_pure h⟩) J8))
end
end HT
namespace L2
open PySem PySem.Spec PyProof.Rows
abbrev TO:=St->Hp->(Option Int->Hp->Prop)->Prop
def PO(X:Cx)(e:Option Expr)(t:TO):Prop :=
 ∀(a6:List (Addr×Obj)) (s:Shared) (σ:St) (H:Hp) (Q:Option Int->Hp->Prop),Inv X a6 σ H s->t σ H Q ->
  wpAny (model X.prog X.w) X.A (evalPart e X.env) (fun u s'=>∃o H',Inv X a6 σ H' s'/\IsPart u o/\Q o H') X.xe s
def Zxq:TO:=fun _ H Q=>Q none H
def Yb4(t:TE):TO:=fun σ H Q=>t σ H fun x H1=>∃i,x=.int i/\Q (some i) H1
section
variable {X:Cx} {e:Expr} {te:TE} {lo hi:Option Expr} {tl th:TO} {pos p2:Pos}
theorem Wj:PO X none Zxq:=by
 intro a6 s σ H Q I h;rw [evalPart_none];exact wpAny_pure ⟨none,H,I,.none,h⟩
theorem X4(h:PE X e te):PO X (some e) (Yb4 te):=by
 intro a6 s σ H Q I hw;rw [evalPart_some];refine thn (h a6 s σ H _ I hw) fun u s1 ⟨x,H1,I1,r1,q1⟩=>?_
 obtain ⟨i,rfl,q⟩:=q1;obtain ⟨t,rfl⟩:=r1;exact ⟨some i,H1,I1,.int i t,q⟩
def SlR(X:Cx)(r:V->Option Int->Option Int->Hp->VK->Prop):Prop :=
 ∀(a6:List (Addr×Obj)) (s:Shared) (σ:St) (H:Hp) (x:V) (v vl vu:Value) (lo hi:Option Int) (sl:Addr) (Q:VK),Inv X a6 σ H s->Yf x v->s.heap.IsSliceOf sl vl vu .none->IsPart vl lo->IsPart vu hi->r x lo hi H Q ->
  ∃T id,typeLookup (.type T) "__getitem__" =pure (some (.builtin id))/\s.TypeIs v T/\wpAny (model X.prog X.w) X.A (getItem v (.ref sl)) (EP X a6 σ Q) X.xe s
theorem SlR.or{r r':V->Option Int->Option Int->Hp->VK->Prop}(h:SlR X r)(h':SlR X r'):SlR X (fun x lo hi H Q=>r x lo hi H Q\/r' x lo hi H Q):=by
 intro a6 s σ H x v vl vu lo hi sl Q I rx hs pl pu q;rcases q with q|q
 ·exact h a6 s σ H x v vl vu lo hi sl Q I rx hs pl pu q
 ·exact h' a6 s σ H x v vl vu lo hi sl Q I rx hs pl pu q
def tSl(r:V->Option Int->Option Int->Hp->VK->Prop)(te:TE)(tl th:TO):TE:=fun σ H Q=>te σ H fun x H1=>tl σ H1 fun l H2=>th σ H2 fun u H3=>r x l u H3 Q
theorem Xv{r:V->Option Int->Option Int->Hp->VK->Prop}(hr:SlR X r)(he:PE X e te)(hl:PO X lo tl)(hu:PO X hi th):PE X (.Subscript e (.Slice lo hi none p2) pos) (tSl r te tl th):=by
 intro a6 s σ H Q I h;refine Subscript_ (thn (he a6 s σ H _ I h) fun v s1 ⟨x,H1,I1,r1,q1⟩=>?_);refine wpAny_Slice (thn (hl a6 s1 σ H1 _ I1 q1) fun vl s2 ⟨l,H2,I2,pl,q2⟩=>thn (hu a6 s2 σ H2 _ I2 q2) fun vu s3 ⟨u,H3,I3,pu,q3⟩=>?_);rw [evalPart_none];refine wpAny_pure ?_;have I4:Inv X a6 σ H3 { s3 with heap:=s3.heap.push { cls:=.type "slice",data:=.fields #[vl,vu,.none] } }:=I3.kept (t':=s3.toks) fun b ob q=>Heap.get?_push_of_some _ q
 obtain ⟨T,id,hT,ht,hg⟩:=hr a6 { s3 with heap:=s3.heap.push { cls:=.type "slice",data:=.fields #[vl,vu,.none] } } σ H3 x v vl vu l u s3.heap.objs.size Q I4 r1 (Heap.IsSliceOf.new ..) pl pu q3;show wpAny (model X.prog X.w) X.A (subscriptTail e (.Slice lo hi none p2) v (.ref s3.heap.objs.size)) (EP X a6 σ Q) X.xe { s3 with heap:=s3.heap.push { cls:=.type "slice",data:=.fields #[vl,vu,.none] } };exact tail_any (ops:=[.ref s3.heap.objs.size,v]) ht hT hg (by with_unfolding_all rfl)
def Ze2(xs:List V)(lo hi:Option Int):List V:=(xs.drop (HT.sIx xs.length 0 lo)).take (HT.sIx xs.length xs.length hi-HT.sIx xs.length 0 lo)
theorem Zg6(xs:List V)(lo hi:Option Int):(Ze2 xs lo hi).length<=xs.length:=by
 unfold Ze2;rw [List.length_take,List.length_drop];lia
def Ycu(K:Frag):V->Option Int->Option Int->Hp->VK->Prop:=fun x lo hi H Q=>∃a xs,x=.ref a/\SqT K H a xs /\
 ¬(HT.sIx xs.length 0 lo=0/\HT.sIx xs.length xs.length hi=xs.length)/\∀p,H p=none->Q (.ref p) (upd H p (.tup (Ze2 xs lo hi)))
theorem Yag:SlR X (Ycu X.K):=by
 intro a6 s σ H x v vl vu lo hi sl Q I rx hs pl pu h;obtain ⟨a,xs,rfl,hx,hw,q⟩:=h;cases rx;obtain ⟨a7,r,ht,hz⟩:=I.tuple hx;have d6:a7.toArray.size=xs.length:=by rw [List.size_toArray];exact r.length.symm
 refine ⟨"tuple",_,PyProof.Rows.slot_tuple_getitem.lookup,ht.typeIs,?_⟩;refine HT.getItem_tuple_cut ht hs pl pu (by rw [d6];exact hw) ?_ (by rw [d6];exact hz);rw [d6];refine ⟨.ref s.heap.objs.size,_,I.laid (t':=s.toks) (o:=.tup (Ze2 xs lo hi)) (fun b ob q=>Heap.get?_push_of_some _ q) (Nat.le_refl _) ?_,rfl,q _ (I.hok.fresh (Nat.le_refl _))⟩;exact ⟨Nat.le_trans (Zg6 xs lo hi) hz,_,(r.drop (HT.sIx xs.length 0 lo)).take (HT.sIx xs.length xs.length hi-HT.sIx xs.length 0 lo),IsTup.new _ _⟩
def Ybv(K:Frag):R2:=fun x y H Q=>∃a b xs ys,x=.ref a/\y=.ref b/\SqT K H a xs/\SqT K H b ys/\xs≠[]/\xs.length+ys.length<=sizeLine /\
 (ys=[]->Q (.ref a) H)/\(ys≠[]->∀p,H p=none->Q (.ref p) (upd H p (.tup (xs++ys))))
theorem Ya.nil_iff{xs:List V}{us:List Value}(r:Ya xs us):us=[]↔xs=[]:=by
 cases r with
 | nil=>simp
 | cons _ _=>simp
theorem Zxx:OpR X (binaryOp .Add) (Ybv X.K):=by
 intro a6 s σ H x y v u Q I rx ry h;obtain ⟨a,b,xs,ys,rfl,rfl,ha,hb,hx,hz,q1,q2⟩:=h;cases rx;cases ry;obtain ⟨a7,r1,p1,_⟩:=I.tuple ha;obtain ⟨C7,r2,p2,_⟩:=I.tuple hb;refine HT.cat_tup p1 p2 (fun z=>hx (r1.nil_iff.mp z)) (fun z=>⟨.ref a,H,I,rfl,q1 (r2.nil_iff.mp z)⟩) (fun z=>?_) (by rw [<-r1.length,<-r2.length];exact hz);refine ⟨.ref s.heap.objs.size,_,I.laid (t':=s.toks) (o:=.tup (xs++ys)) (fun b ob q=>Heap.get?_push_of_some _ q) (Nat.le_refl _) ?_,rfl,q2 (fun w=>z (r2.nil_iff.mpr w)) _ (I.hok.fresh (Nat.le_refl _))⟩;exact ⟨by rw [List.length_append];exact hz,_,r1.append r2,IsTup.new _ _⟩
end
end L2
namespace L2
open PySem PySem.Spec PyProof.Rows
def ixN(n:Nat)(i:Int):Option Nat:=if 0<=i then (if i<n then some i.toNat else none) else if -(n:Int)<=i then some (i+n).toNat else none
def atI{α:Type}(xs:List α)(i:Int):Option α:=(ixN xs.length i).bind fun j=>xs[j]?
theorem Zwm{n:Nat}{i:Int}{j:Nat}(h:ixN n i=some j):seqIndex? i n=some j/\j<n/\-(n:Int)<=i/\i<n:=by
 unfold ixN at h
 by_cases h0:0<=i
 ·rw [if_pos h0] at h
  by_cases h1:i<n
  ·rw [if_pos h1] at h;have e:i.toNat=j:=Option.some.inj h;exact ⟨by rw [seqIndex_of h0 h1,e],by lia,by lia,h1⟩
  ·rw [if_neg h1] at h;cases h
 ·rw [if_neg h0] at h
  by_cases h1:-(n:Int)<=i
  ·rw [if_pos h1] at h;have e:(i+n).toNat=j:=Option.some.inj h;exact ⟨by rw [seqIndex_neg (by lia) h1,e],by lia,h1,by lia⟩
  ·rw [if_neg h1] at h;cases h
theorem Zlv{α:Type}{xs:List α}{i:Int}{v:α}(h:atI xs i=some v):∃j,seqIndex? i xs.length=some j/\xs[j]? =some v/\j<xs.length/\-(xs.length:Int)<=i/\i<xs.length:=by
 unfold atI at h;cases e:ixN xs.length i with
 | none=>rw [e] at h;cases h
 | some j =>
  rw [e] at h;obtain ⟨h1,h2,h3,h4⟩:=Zwm e;exact ⟨j,h1,h,h2,h3,h4⟩
theorem Y4{α:Type}{xs:List α}{j:Nat}{v:α}(h:xs[j]? =some v):atI xs (j:Int)=some v:=by
 have hj:j<xs.length:=(List.getElem?_eq_some_iff.mp h).1;have e:ixN xs.length (j:Int)=some j:=by
  unfold ixN;rw [if_pos (by lia),if_pos (by lia)];simp
 unfold atI;rw [e];exact h
def Zrl(b:Expr):Prop:=∀o i,subscripted b false o i=operate [o,i] (getItem o i)
def IxR(X:Cx)(r:R2):Prop :=
 ∀(value slice:Expr) (a6:List (Addr×Obj)) (s:Shared) (σ:St) (H:Hp) (x y:V) (v u:Value) (Q:VK),Inv X a6 σ H s->Yf x v->Yf y u->r x y H Q ->
  subscripted slice false v u=operate [v,u] (getItem v u)->wpAny (model X.prog X.w) X.A (subscriptTail value slice v u) (EP X a6 σ Q) X.xe s
def MtR(X:Cx)(id:String)(r:V->List V->Hp->VK->Prop):Prop :=
 ∀(a6:List (Addr×Obj)) (s:Shared) (σ:St) (H:Hp) (x:V) (xs:List V) (v:Value) (us:List Value) (Q:VK),Inv X a6 σ H s->Yf x v->Ya xs us->r x xs H Q ->
  wpAny (model X.prog X.w) X.A (call (.builtin id) (v ::us)) (EP X a6 σ Q) X.xe s
section
variable {X:Cx} {a b:Expr} {ta tb:TE} {pos:Pos}
theorem IxR.or{r r':R2}(h:IxR X r)(h':IxR X r'):IxR X (fun x y H Q=>r x y H Q\/r' x y H Q):=by
 intro value slice a6 s σ H x y v u Q I rx ry q hs;rcases q with q|q
 ·exact h value slice a6 s σ H x y v u Q I rx ry q hs
 ·exact h' value slice a6 s σ H x y v u Q I rx ry q hs
theorem Yb8{r:R2}(hr:IxR X r)(ha:PE X a ta)(hb:PE X b tb)(hs:Zrl b):PE X (.Subscript a b pos) (tOp r ta tb):=by
 intro a6 s σ H Q I h;exact Subscript_ (Yan ha hb I h fun v u s2 x y H2 I2 rx ry q=>hr a b a6 s2 σ H2 x y v u Q I2 rx ry q (hs _ _))
def Ycn(K:Frag):R2:=fun x y H Q=>∃p xs i v,x=.ref p/\y=.int i/\SqL K H p xs/\atI xs i=some v/\Q v H
def Yb0(K:Frag):R2:=fun x y H Q=>∃p xs i v,x=.ref p/\y=.int i/\SqT K H p xs/\atI xs i=some v/\Q v H
def Yca:R2:=fun x y H Q=>∃z i c,x=.str z/\y=.int i/\z.length<=sizeLine/\atI z.cps.toList i=some c/\Q (.str ⟨#[c]⟩) H
theorem Zxj:IxR X (Ycn X.K):=by
 intro value slice a6 s σ H x y v u Q I rx ry h hs;obtain ⟨p,xs,i,z,rfl,rfl,hq,he,q⟩:=h;cases rx;obtain ⟨t,rfl⟩:=ry;obtain ⟨a7,r,pl,hz⟩:=I.list hq;obtain ⟨j,h1,h2,h3,h4,h5⟩:=Zlv he;obtain ⟨w,ew,D1⟩:=r.get h2;have hl:=r.length;have hn:=Zgp;have v8:EP X a6 σ Q w s:=⟨z,H,I,D1,q⟩
 by_cases h0:0<=i
 ·have hj:i.toNat=j:=by
   rw [seqIndex_of h0 h5] at h1;exact Option.some.inj h1
  exact item_listR pl.isList h0 (by lia) (by rw [hj];simpa using ew) v8 hs
 ·have hj:(i+(a7.toArray.size:Int)).toNat=j:=by
   rw [seqIndex_neg (by lia) h4] at h1;rw [List.size_toArray,<-hl];exact Option.some.inj h1
  exact subscriptTail_builtinR (x:=w) pl.isList.typeIs slot_list_getitem.lookup
   (wpAny_getItem_list_neg (Q:=fun r s'=>r=w/\EP X a6 σ Q r s') pl.isList (by lia) (by rw [List.size_toArray] <;>lia) (by lia) (by rw [hj];simpa using ew) ⟨rfl,v8⟩) hs
theorem Zy7:IxR X (Yb0 X.K):=by
 intro value slice a6 s σ H x y v u Q I rx ry h hs;obtain ⟨p,xs,i,z,rfl,rfl,hq,he,q⟩:=h;cases rx;obtain ⟨t,rfl⟩:=ry;obtain ⟨a7,r,pl,hz⟩:=I.tuple hq;obtain ⟨j,h1,h2,h3,h4,h5⟩:=Zlv he;obtain ⟨w,ew,D1⟩:=r.get h2;have hl:=r.length;have hn:=Zgp;have v8:EP X a6 σ Q w s:=⟨z,H,I,D1,q⟩
 exact subscriptTail_builtinR (x:=w) pl.typeIs slot_tuple_getitem.lookup
  (getItem_tuple (j:=j) (Q:=fun r s'=>r=w/\EP X a6 σ Q r s') pl (by lia) (by lia) (by rw [List.size_toArray,<-hl];exact h1) (by simpa using ew) ⟨rfl,v8⟩) hs
theorem Zz1:IxR X Yca:=by
 intro value slice a6 s σ H x y v u Q I rx ry h hs;obtain ⟨z,i,c,rfl,rfl,hz,he,q⟩:=h;obtain ⟨t,rfl⟩:=rx;obtain ⟨t',rfl⟩:=ry;obtain ⟨j,h1,h2,h3,h4,h5⟩:=Zlv he;have hl:z.cps.toList.length=z.length:=by simp [Str.length]
 rw [hl] at h1 h4 h5;have hn:=Zgp;exact tail_any (typeIs_str s z t) slot_str_getitem.lookup (getItem_str (c:=c) (by
  have e1:decide (i < -(2 ^ 63:Int))=false:=decide_eq_false (by lia);have e2:decide (i ≥ 2 ^ 63)=false:=decide_eq_false (by lia);rw [e1,e2,Bool.or_false]) (by rw [h1];simpa using h2) ⟨.str ⟨#[c]⟩,H,I.tok _,⟨_,rfl⟩,q⟩) hs
def rIx(K:Frag):R2:=fun x y H Q=>Ycn K x y H Q\/Yb0 K x y H Q\/Yca x y H Q
theorem Yai:IxR X (rIx X.K):=Zxj.or (Zy7.or Zz1)
theorem Zmq(lo hi:Option Int)(n:Nat):(sliceBounds lo hi none n).1=((HT.sIx n 0 lo:Nat):Int)/\(sliceBounds lo hi none n).2.1=((HT.sIx n n hi:Nat):Int)/\(sliceBounds lo hi none n).2.2=1:=by
 refine ⟨?_,?_,rfl⟩
 ·cases lo with
  | none=>simp [sliceBounds,HT.sIx]
  | some i =>
   simp only [sliceBounds,HT.sIx,Option.getD_none,show (1:Int) >0 by decide,if_true]
   by_cases h:i<0
   ·simp only [h,if_true] <;>lia
   ·simp only [h,if_false] <;>lia
 ·cases hi with
  | none=>simp [sliceBounds,HT.sIx]
  | some i =>
   simp only [sliceBounds,HT.sIx,Option.getD_none,show (1:Int) >0 by decide,if_true]
   by_cases h:i<0
   ·simp only [h,if_true] <;>lia
   ·simp only [h,if_false] <;>lia
theorem Zkm(a7:List Value)(lo hi:Option Int):slicePick a7.toArray lo hi none=((a7.drop (HT.sIx a7.length 0 lo)).take (HT.sIx a7.length a7.length hi-HT.sIx a7.length 0 lo)).toArray:=by
 obtain ⟨h1,h2,h3⟩:=Zmq lo hi a7.toArray.size;unfold slicePick;rw [h1,h2,h3];simp only [sliceRange_one,pick_run,List.size_toArray] <;>rfl
def Yc5(K:Frag):V->Option Int->Option Int->Hp->VK->Prop:=fun x lo hi H Q=>∃a xs,x=.ref a/\SqL K H a xs/\∀p,H p=none->Q (.ref p) (upd H p (.lst (Ze2 xs lo hi)))
theorem Zwt:SlR X (Yc5 X.K):=by
 intro a6 s σ H x v vl vu lo hi sl Q I rx hs pl pu h;obtain ⟨a,xs,rfl,hx,q⟩:=h;cases rx;obtain ⟨a7,r,ht,hz⟩:=I.list hx;have d6:=r.length;refine ⟨"list",_,slot_list_getitem.lookup,ht.isList.typeIs,?_⟩;refine wpAny_getItem_list_slice ht.isList hs pl pu .none (by simp) ?_ (by rw [List.size_toArray] <;>lia);rw [Zkm,<-d6];refine ⟨.ref s.heap.objs.size,_,I.laid (t':=s.toks) (o:=.lst (Ze2 xs lo hi)) (fun b ob q=>Heap.get?_push_of_some _ q) (Nat.le_refl _) ?_,rfl,q _ (I.hok.fresh (Nat.le_refl _))⟩;exact ⟨Nat.le_trans (Zg6 xs lo hi) hz,_,0,(r.drop (HT.sIx xs.length 0 lo)).take (HT.sIx xs.length xs.length hi-HT.sIx xs.length 0 lo),Heap.get?_push_size _ rfl⟩
def Zdz:V->Bool
 | .non=>true
 | .bl _=>true
 | .int _=>true
 | .str _=>true
 | _=>false
def eqV:V->V->Bool
 | .non,.non=>true
 | .bl a,.bl b=>a ==b
 | .bl a,.int b=>(if a then 1 else 0) ==b
 | .int a,.bl b=>a ==(if b then 1 else 0)
 | .int a,.int b=>a ==b
 | .str a,.str b=>a ==b
 | _,_=>false
theorem Ziy{A:Around}{s:Shared}{y x:V}{u v:Value}(ry:Yf y u)(rx:Yf x v)(fy:Zdz y=true)(fx:Zdz x=true):SeqAt.EqAt A s u v (eqV y x):=by
 cases y with
 | non =>
  cases ry;cases x with
  | non=>cases rx;exact SeqAt.EqAt.same _
  | bl b=>cases rx;exact SeqAt.EqAt.none_bool b
  | int b=>obtain ⟨t,rfl⟩:=rx;exact SeqAt.EqAt.none_int b t
  | str b=>obtain ⟨t,rfl⟩:=rx;exact SeqAt.EqAt.none_str b t
  | _=>exact absurd (show false=true from fx) Bool.false_ne_true
 | bl a =>
  cases ry;cases x with
  | non=>cases rx;exact SeqAt.EqAt.bool_none a
  | bl b=>cases rx;exact SeqAt.EqAt.bool_bool a b
  | int b=>obtain ⟨t,rfl⟩:=rx;exact SeqAt.EqAt.bool_int a b t
  | str b=>obtain ⟨t,rfl⟩:=rx;exact SeqAt.EqAt.bool_str a b t
  | _=>exact absurd (show false=true from fx) Bool.false_ne_true
 | int a =>
  obtain ⟨t',rfl⟩:=ry;cases x with
  | non=>cases rx;exact SeqAt.EqAt.int_none a t'
  | bl b=>cases rx;exact SeqAt.EqAt.int_bool a t' b
  | int b=>obtain ⟨t,rfl⟩:=rx;exact SeqAt.EqAt.int_int a t' b t
  | str b=>obtain ⟨t,rfl⟩:=rx;exact SeqAt.EqAt.int_str a t' b t
  | _=>exact absurd (show false=true from fx) Bool.false_ne_true
 | str a =>
  obtain ⟨t',rfl⟩:=ry;cases x with
  | non=>cases rx;exact SeqAt.EqAt.str_none a t'
  | bl b=>cases rx;exact SeqAt.EqAt.str_bool a t' b
  | int b=>obtain ⟨t,rfl⟩:=rx;exact SeqAt.EqAt.str_int a t' b t
  | str b=>obtain ⟨t,rfl⟩:=rx;exact SeqAt.EqAt.str_str a t' b t
  | _=>exact absurd (show false=true from fx) Bool.false_ne_true
 | _=>exact absurd (show false=true from fy) Bool.false_ne_true
def eqU(x:V)(u:Value):Bool:=match u with
 | .none=>eqV .non x
 | .bool b=>eqV (.bl b) x
 | .int i _=>eqV (.int i) x
 | .str z _=>eqV (.str z) x
 | _=>false
theorem Zun{x y:V}{u:Value}(r:Yf y u)(f:Zdz y=true):eqU x u=eqV y x:=by
 cases y with
 | non=>cases r;rfl
 | bl b=>cases r;rfl
 | int i=>obtain ⟨t,rfl⟩:=r;rfl
 | str z=>obtain ⟨t,rfl⟩:=r;rfl
 | _=>exact absurd (show false=true from f) Bool.false_ne_true
theorem Zf1{x:V}:∀{xs:List V} {us:List Value},Ya xs us->xs.all Zdz=true->us.any (eqU x)=xs.any fun y=>eqV y x
 | _,_,.nil,_=>rfl
 | y ::xs,u ::us,.cons r t,f=>by
  rw [List.all_cons,Bool.and_eq_true] at f;rw [List.any_cons,List.any_cons,Zun r f.1,Zf1 t f.2]
theorem Zdr{A:Around}{s:Shared}{x:V}{v:Value}(rx:Yf x v)(fx:Zdz x=true):∀{xs:List V} {us:List Value},Ya xs us->xs.all Zdz=true->∀u∈us,SeqAt.EqAt A s u v (eqU x u)
 | _,_,.nil,_=>fun u hu=>by cases hu
 | y ::xs,u ::us,.cons r t,f=>fun u' hu=>by
  rw [List.all_cons,Bool.and_eq_true] at f;rcases List.mem_cons.mp hu with rfl|hu
  ·rw [Zun r f.1];exact Ziy r rx f.1 fx
  ·exact Zdr rx fx t f.2 u' hu
def inV(x:V)(xs:List V):Bool:=xs.any fun y=>eqV y x
def rIn(K:Frag)(neg:Bool):R2:=fun x y H Q=>∃p xs,y=.ref p/\(SqL K H p xs\/SqT K H p xs)/\Zdz x=true/\xs.all Zdz=true/\Q (.bl (if neg then !inV x xs else inV x xs)) H
theorem Zr0:OpR X (compareOp .In) (rIn X.K false):=by
 intro a6 s σ H x y v u Q I rx ry h;obtain ⟨p,xs,rfl,hq,fx,fs,q⟩:=h;cases ry;rcases hq with hq|hq
 ·obtain ⟨a7,r,pl,hz⟩:=I.list hq;refine SeqAt.in_listAt (eqU x) pl.isList (fun w hw=>Zdr rx fx r fs w (by simpa using hw)) ⟨.bl _,H,I,rfl,?_⟩;rw [show a7.toArray.any (eqU x)=a7.any (eqU x) by simp,Zf1 r fs];exact q
 ·obtain ⟨a7,r,pl,hz⟩:=I.tuple hq;refine SeqAt.in_tupleAt (eqU x) pl (fun w hw=>Zdr rx fx r fs w (by simpa using hw)) ⟨.bl _,H,I,rfl,?_⟩;rw [show a7.toArray.any (eqU x)=a7.any (eqU x) by simp,Zf1 r fs];exact q
theorem Zl9:OpR X (compareOp .NotIn) (rIn X.K true):=by
 intro a6 s σ H x y v u Q I rx ry h;obtain ⟨p,xs,rfl,hq,fx,fs,q⟩:=h;cases ry;rcases hq with hq|hq
 ·obtain ⟨a7,r,pl,hz⟩:=I.list hq;refine SeqAt.notIn_listAt (eqU x) pl.isList (fun w hw=>Zdr rx fx r fs w (by simpa using hw)) ⟨.bl _,H,I,rfl,?_⟩;rw [show a7.toArray.any (eqU x)=a7.any (eqU x) by simp,Zf1 r fs];exact q
 ·obtain ⟨a7,r,pl,hz⟩:=I.tuple hq;refine SeqAt.notIn_tupleAt (eqU x) pl (fun w hw=>Zdr rx fx r fs w (by simpa using hw)) ⟨.bl _,H,I,rfl,?_⟩;rw [show a7.toArray.any (eqU x)=a7.any (eqU x) by simp,Zf1 r fs];exact q
theorem Zmz:Xj X (.builtin "len") (fun xs H Q=>∃p ys,xs=[.ref p]/\(SqL X.K H p ys\/SqT X.K H p ys)/\Q (.int ys.length) H):=by
 intro a6 s σ H xs us Q I r h;obtain ⟨p,ys,rfl,hq,q⟩:=h;obtain ⟨u,rfl,rx⟩:=Zci r;cases rx;have hn:=Zgp;rcases hq with hq|hq
 ·obtain ⟨a7,r',pl,hz⟩:=I.list hq;have d6:=r'.length;exact Calls.call_len_list pl.isList (by simp only [List.size_toArray] <;>lia) ⟨.int ys.length,H,I.tok _,⟨s.toks+1,by rw [List.size_toArray,d6]⟩,q⟩
 ·obtain ⟨a7,r',pl,hz⟩:=I.tuple hq;have d6:=r'.length;exact len_tuple pl (by simp only [List.size_toArray] <;>lia) ⟨.int ys.length,H,I.tok _,⟨s.toks+1,by rw [List.size_toArray,d6]⟩,q⟩
theorem Zmb:Xj X (.builtin "len") (fun xs H Q=>∃z,xs=[.str z]/\z.length<=sizeLine/\Q (.int z.length) H):=by
 intro a6 s σ H xs us Q I r h;obtain ⟨z,rfl,hz,q⟩:=h;obtain ⟨u,rfl,t,rfl⟩:=Zci r;have hn:=Zgp;exact len_str (by lia) ⟨.int z.length,H,I.tok _,⟨_,rfl⟩,q⟩
theorem Xj.or{f:Value}{r r':List V->Hp->VK->Prop}(h:Xj X f r)(h':Xj X f r'):Xj X f (fun xs H Q=>r xs H Q\/r' xs H Q):=by
 intro a6 s σ H xs us Q I rs q;rcases q with q|q
 ·exact h a6 s σ H xs us Q I rs q
 ·exact h' a6 s σ H xs us Q I rs q
theorem Zl0:Xj X (.type "list") (fun xs H Q=>∃p ys,xs=[.ref p]/\(SqL X.K H p ys\/SqT X.K H p ys)/\∀l,H l=none->Q (.ref l) (upd H l (.lst ys))):=by
 intro a6 s σ H xs us Q I r h;obtain ⟨p,ys,rfl,hq,q⟩:=h;obtain ⟨u,rfl,rx⟩:=Zci r;cases rx;have v8:∀(a7:List Value),Ya ys a7->ys.length<=sizeLine->∀(h':Heap) (c':Nat),(∀b o',s.heap.get? b=some o'->h'.get? b=some o') ->
   h'.get? s.heap.objs.size=some { cls:=.type "list",dict:=none,data:=.seq a7.toArray c',slots:=#[] }->EP X a6 σ Q (.ref s.heap.objs.size) { s with heap:=h' }:=fun a7 r' hz h' c' kp e =>
  ⟨.ref s.heap.objs.size,_,I.laid (t':=s.toks) kp (Nat.le_refl _) (show Yi X.prog X.w _ h' _ (.lst ys) from ⟨hz,a7,c',r',e⟩),rfl,q _ (I.hok.fresh (Nat.le_refl _))⟩
 rcases hq with hq|hq
 ·obtain ⟨a7,r',pl,hz⟩:=I.list hq;have d6:=r'.length;obtain ⟨o,ho,hc,n,hd⟩:=pl.isList;exact call_list_seq p (.inl rfl) ho hc hd (fun h' c' kp e=>v8 a7 r' hz h' c' kp e) (by simp only [List.size_toArray] <;>lia)
 ·obtain ⟨a7,r',pl,hz⟩:=I.tuple hq;have d6:=r'.length;obtain ⟨o,ho,hc,n,hd⟩:=pl;exact call_list_seq p (.inr rfl) ho hc hd (fun h' c' kp e=>v8 a7 r' hz h' c' kp e) (by simp only [List.size_toArray] <;>lia)
def tyV(K:Frag)(T:String)(x:V)(H:Hp):Prop:=match x with
 | .str _=>T = "str"
 | .int _=>T = "int"
 | .ref p=>(T = "list" /\∃xs,SqL K H p xs)\/(T = "tuple" /\∃o,K.lookup p=some o/\o.cls=.type "tuple" /\o.dict=none) \/
   (T = "dict" /\((∃kvs,H p=some (.dK kvs))\/∃kvs,H p=some (.dT kvs)))\/(T = "set" /\∃S n,H p=some (.set S n))
 | _=>False
theorem Ztj{a6:List (Addr×Obj)}{σ:St}{H:Hp}{s:Shared}{T:String}{x:V}{v:Value}(I:Inv X a6 σ H s)(r:Yf x v)(ty:tyV X.K T x H) :
  s.TypeIs v T/\∀a,v=.ref a->∃ob,s.heap.get? a=some ob/\ob.dict=none:=by
 cases x with
 | str z =>
  obtain ⟨t,rfl⟩:=r;cases (show T = "str" from ty);exact ⟨typeIs_str s z t,fun _ e=>nomatch e⟩
 | int i =>
  obtain ⟨t,rfl⟩:=r;cases (show T = "int" from ty);exact ⟨typeIs_int s i t,fun _ e=>nomatch e⟩
 | ref p =>
  cases r;rcases ty with ⟨rfl,xs,hq⟩|⟨rfl,o,hk,hc,hd⟩|⟨rfl,hk⟩|⟨rfl,S,n,hk⟩
  ·obtain ⟨a7,_,pl,_⟩:=I.list hq;refine ⟨pl.isList.typeIs,fun a e=>?_⟩;cases e;obtain ⟨o,n,e,c,hd,_⟩:=pl;exact ⟨o,e,hd⟩
  ·refine ⟨⟨o,I.kIn p o hk,hc⟩,fun a e=>?_⟩;cases e;exact ⟨o,I.kIn _ o hk,hd⟩
  ·have z:∃o,s.heap.get? p=some o/\o.ExactDict:=by
    rcases hk with ⟨kvs,hk⟩|⟨kvs,hk⟩
    ·obtain ⟨_,_,_,_,o,_,_,e,ex,_⟩:=I.hok p _ hk;exact ⟨o,e,ex⟩
    ·obtain ⟨_,_,_,_,o,_,_,e,ex,_⟩:=I.hok p _ hk;exact ⟨o,e,ex⟩
   obtain ⟨o,e,ex⟩:=z;refine ⟨⟨o,e,ex.1⟩,fun a e2=>?_⟩;cases e2;exact ⟨o,e,ex.2.1⟩
  ·obtain ⟨o,_,_,_,e,ex,_⟩:=I.hok p _ hk;refine ⟨⟨o,e,ex.1⟩,fun a e2=>?_⟩;cases e2;exact ⟨o,e,ex.2.1⟩
 | _=>exact False.elim ty
def Ycv(K:Frag)(T:String)(r:V->List V->Hp->VK->Prop)(to:TE):TE:=fun σ H Q=>to σ H fun x H1=>tyV K T x H1/\r x [] H1 Q
def tBM(K:Frag)(T:String)(r:V->List V->Hp->VK->Prop)(to:TE)(t:TA):TE:=fun σ H Q=>to σ H fun x H1=>tyV K T x H1/\t σ H1 fun xs H2=>r x xs H2 Q
variable {o e:Expr} {es:List Expr} {to:TE} {t:TA} {name:Str} {i8 i5:Pos} {T id:String} {r:V->List V->Hp->VK->Prop}
theorem Zqb(pa:PlainAttrs T)(slot:Slot T name id) (hty:typeOf (.builtin id)=pure (.type "method_descriptor")) (hm:MtR X id r) (ho:PE X o to)
  (A8:attributeBase o name X.env (eval o X.env)=eval o X.env:=by rfl) (A9:(i8.endLine ==i5.line)=true:=by rfl):PE X (.Call (.Attribute o name i8) [] [] i5) (Ycv X.K T r to):=by
 intro a6 s σ H Q I h;refine wpAny_Call_method0_late A8 A9 (thn (ho a6 s σ H _ I h) fun v s1 ⟨x,H1,I1,r1,ty,q1⟩=>?_);obtain ⟨h1,h2⟩:=Ztj I1 r1 ty;exact ⟨T,id,pa,slot,hty,h1,h2,Calls.callWith_builtin rfl (PySem.evalArgs_none (hm a6 s1 σ H1 x [] v [] Q I1 r1 .nil q1))⟩
theorem Zdc(pa:PlainAttrs T)(slot:Slot T name id) (hty:typeOf (.builtin id)=pure (.type "method_descriptor")) (hm:MtR X id r) (ho:PE X o to) (ha:PA X (e ::es) t)
  (A8:attributeBase o name X.env (eval o X.env)=eval o X.env:=by rfl)
  (S9:((backTo i5 (starEach (e ::es) X.env)).all (fun x=>!x.1) && (backToKw i5 (keywordEach [] X.env)).all (fun x=>x.1.isSome)
   && decide ((e ::es).length+([]:List Keyword).length+(if ([]:List Keyword).isEmpty then 0 else 1)<30))=true:=by rfl)
  (A9:(i8.endLine ==i5.line)=true:=by rfl) (hs:starEach (e ::es) X.env=(false,eval e X.env) ::starEach es X.env:=by rfl) (hplain:(backTo i5 (starEach es X.env)).any (·.1)=false:=by rfl) :
  PE X (.Call (.Attribute o name i8) (e ::es) [] i5) (tBM X.K T r to t):=by
 intro a6 s σ H Q I h;refine wpAny_Call_method_late A8 S9 A9 rfl (thn (ho a6 s σ H _ I h) fun v s1 ⟨x,H1,I1,r1,ty,q1⟩=>?_);obtain ⟨h1,h2⟩:=Ztj I1 r1 ty;refine ⟨T,id,pa,slot,hty,h1,h2,?_⟩;have hA:=ha i5 a6 s1 σ H1 _ I1 q1;rw [hs] at hA ⊢;refine Calls.callWith_builtin (by show (false || (backTo i5 (starEach es X.env)).any (·.1))=false;rw [hplain] <;>rfl) (Calls.evalArgs_plain ?_);exact thn hA fun us s2 ⟨vs,H2,I2,r2,q2⟩=>hm a6 s2 σ H2 x vs v us Q I2 r1 r2 q2
/- xs.append(e),list.index on a module's tuple .. are MtR facts of 06m -/
end
end L2
namespace L2
open PySem PySem.Spec PyProof.Rows
def MtM(X:Cx)(id:String)(r:V->List V->Hp->VK->Prop):Prop :=
 ∀(a6:List (Addr×Obj)) (s:Shared) (σ:St) (H:Hp) (x:V) (xs:List V) (v:Value) (us:List Value) (Q:VK),Inv X a6 σ H s->Yf x v->Ya xs us->r x xs H Q ->
  wpAny (model X.prog X.w) X.A (call (.builtin id) (v ::us)) (EP X a6 σ Q) X.xe s
theorem Ya.one{x:V}{us:List Value}(h:Ya [x] us):∃u,us=[u]/\Yf x u:=by
 cases h with
 | cons r t=>cases t;exact ⟨_,rfl,r⟩
theorem Ya.zero:∀{us:List Value},Ya [] us->us=[]
 | _,.nil=>rfl
theorem Ya.dropLast{xs:List V}{us:List Value}(h:Ya xs us):Ya xs.dropLast us.dropLast:=by
 induction h with
 | nil=>exact .nil
 | cons r t ih =>
  cases t with
  | nil=>exact .nil
  | cons q t'=>exact .cons r ih
theorem Ya.eraseIdx:∀{xs:List V} {us:List Value} (i:Nat),Ya xs us->Ya (xs.eraseIdx i) (us.eraseIdx i)
 | _,_,_,.nil=>.nil
 | _,_,0,.cons _ t=>t
 | _,_,i+1,.cons r t=>.cons r (Ya.eraseIdx i t)
theorem Zov{α:Type}(l:List α):l.eraseIdx (l.length-1)=l.dropLast:=by
 induction l with
 | nil=>rfl
 | cons a r ih =>
  cases r with
  | nil=>rfl
  | cons b r =>
   have e:(a ::b ::r).length-1=((b ::r).length-1)+1:=by
    have h1:(a ::b ::r).length=r.length+2:=rfl;have h2:(b ::r).length=r.length+1:=rfl;lia
   rw [e,List.eraseIdx_cons_succ,ih]
   all_goals rfl
theorem Zku{α:Type}:∀(l:List α) (i:Nat),(l.eraseIdx i).length<=l.length
 | [],_=>Nat.le_refl _
 | _ ::_,0=>Nat.le_succ _
 | _ ::r,i+1=>Nat.succ_le_succ (Zku r i)
section
variable {X:Cx} {a6:List (Addr×Obj)} {σ:St} {H:Hp} {s:Shared} {l b:Addr} {xs ys zs:List V}
theorem Inv.lset{a7 its':List Value}{n:Nat}{f:Array Value->Array Value}{t':Nat}(I:Inv X a6 σ H s)(hH:H l=some (.lst xs))
  (e:s.heap.get? l=some { cls:=.type "list",data:=.seq a7.toArray n }) (hf:f a7.toArray=its'.toArray) (hv:Ya ys its') (hz:ys.length<=sizeLine) :
  Inv X a6 σ (upd H l (.lst ys)) { s with heap:=s.heap.update l (Obj.mapSeq f),toks:=t' }:=by
 have q:=PySem.IsL.update e f;rw [hf] at q;refine I.write (x:=l) (e:=l) (by rw [hH];exact trivial) (.inl rfl) (fun b' u hb hu=>(Heap.get?_update_other s.heap (Obj.mapSeq f) (Ne.symm hb)).trans hu) ⟨_,q⟩ ?_;exact ⟨hz,its',_,hv,q⟩
theorem Inv.lnew{a7:List Value}{t':Nat}(I:Inv X a6 σ H s)(hv:Ya ys a7)(hz:ys.length<=sizeLine) :
  Inv X a6 σ (upd H s.heap.objs.size (.lst ys)) { s with heap:=s.heap.push { cls:=.type "list",data:=.seq a7.toArray },toks:=t' } :=
 I.laid (fun _ _ q=>Heap.get?_push_of_some _ q) (Nat.le_refl _) ⟨hz,a7,0,hv,Heap.get?_push_size _ rfl⟩
theorem Inv.fresh(I:Inv X a6 σ H s):H s.heap.objs.size=none:=I.hok.fresh (Nat.le_refl _)
theorem Inv.lstM(I:Inv X a6 σ H s)(hH:H l=some (.lst xs)):xs.length<=sizeLine/\∃(a7:List Value) (n:Nat),Ya xs a7/\xs.length=a7.length/\s.heap.get? l=some { cls:=.type "list",data:=.seq a7.toArray n }:=by
 obtain ⟨z,a7,n,r,e⟩:=I.hok l _ hH;exact ⟨z,a7,n,r,r.length,e⟩
theorem Zvi{n:Nat}(h:n<=sizeLine):Builtin.List.listTooLong n=false:=by
 unfold Builtin.List.listTooLong;exact decide_eq_false (by lia)
end
section
variable {X:Cx}
def Zwx:V->List V->Hp->VK->Prop:=fun x vs H Q=>∃l xs y,x=.ref l/\vs=[y]/\H l=some (.lst xs)/\xs.length<sizeLine/\Q .non (upd H l (.lst (xs++[y])))
theorem Xf:MtM X "list.append" Zwx:=by
 intro a6 s σ H x vs v us Q I rx rv h;obtain ⟨l,xs,y,rfl,rfl,hH,hz,q⟩:=h;cases rx;obtain ⟨u,rfl,ru⟩:=rv.one;obtain ⟨z,a7,n,r,hl,e⟩:=I.lstM hH;refine call_meets F.slot_list_append ⟨_,e,rfl⟩ F.entry_list_append (F.args_list_append_2 _ _) (PySem.list_append l a7.toArray n u (by rw [List.size_toArray];lia)) ⟨e,?_⟩;refine ⟨.non,_,I.lset (its':=a7++[u]) hH e (by simp) (r.append (.cons ru .nil)) ?_,rfl,q⟩;rw [List.length_append,List.length_singleton];lia
def Zxw:V->List V->Hp->VK->Prop:=fun x vs H Q=>∃l b xs zs,x=.ref l/\vs=[.ref b]/\H l=some (.lst xs)/\H b=some (.lst zs)/\xs.length+zs.length<=sizeLine/\Q .non (upd H l (.lst (xs++zs)))
theorem Ya0:MtM X "list.extend" Zxw:=by
 intro a6 s σ H x vs v us Q I rx rv h;obtain ⟨l,b,xs,zs,rfl,rfl,hH,hB,hz,q⟩:=h;cases rx;obtain ⟨u,rfl,ru⟩:=rv.one;cases ru;obtain ⟨z,a7,n,r,hl,e⟩:=I.lstM hH;obtain ⟨z2,C7,n2,r2,J9,e2⟩:=I.lstM hB;have hsz:a7.toArray.size+C7.toArray.size<=sizeLine:=by rw [List.size_toArray,List.size_toArray];lia
 have hlong:¬(!a7.toArray.isEmpty && Builtin.List.listTooLong (a7.toArray.size+C7.toArray.size))=true:=by
  rw [Zvi hsz,Bool.and_false];exact Bool.false_ne_true
 refine call_meets F.slot_list_extend ⟨_,e,rfl⟩ F.entry_list_extend (F.args_list_extend_2 _ _)
  (AutoSeq1.list_extend_list_list_0 l a7.toArray n b C7.toArray n2 hlong (by rw [List.size_toArray];lia) (by lia)) ⟨e,e2,?_⟩
 refine ⟨.non,_,I.lset (its':=a7++C7) hH e (by simp) (r.append r2) ?_,rfl,q⟩;rw [List.length_append];lia
def Yda:V->List V->Hp->VK->Prop:=fun x vs H Q=>∃l xs y,x=.ref l/\vs=[]/\H l=some (.lst xs)/\xs[xs.length-1]? =some y/\Q y (upd H l (.lst xs.dropLast))
theorem Zv7:MtM X "list.pop" Yda:=by
 intro a6 s σ H x vs v us Q I rx rv h;obtain ⟨l,xs,y,rfl,rfl,hH,hy,q⟩:=h;cases rx;have i4:=rv.zero;subst i4;obtain ⟨z,a7,n,r,hl,e⟩:=I.lstM hH;obtain ⟨u,hu,ru⟩:=r.get hy;have K0:a7.toArray[a7.toArray.size-1]? =some u:=by
  show a7.toArray[a7.length-1]? =some u;rw [<-Array.getElem?_toList,<-hl];exact hu
 refine call_meets F.slot_list_pop ⟨_,e,rfl⟩ F.entry_list_pop (F.args_list_pop_1 _) (MeetsSeq.list_pop_last l a7.toArray n u K0 (by rw [List.size_toArray];lia)) ⟨e,?_⟩;refine ⟨y,_,I.lset (its':=a7.dropLast) hH e ?_ r.dropLast ?_,ru,q⟩
 ·show a7.toArray.eraseIdxIfInBounds (a7.toArray.size-1)=a7.dropLast.toArray;rw [List.size_toArray,List.eraseIdxIfInBounds_toArray,Zov]
 ·rw [List.length_dropLast];lia
def Zz3:V->List V->Hp->VK->Prop:=fun x vs H Q=>∃l xs i k y,x=.ref l/\vs=[.int i]/\H l=some (.lst xs)/\-(2 ^ 63)<=i/\i<2 ^ 63/\seqIndex? i xs.length=some k/\xs[k]? =some y/\Q y (upd H l (.lst (xs.eraseIdx k)))
theorem Zot:MtM X "list.pop" Zz3:=by
 intro a6 s σ H x vs v us Q I rx rv h;obtain ⟨l,xs,i,k,y,rfl,rfl,hH,h1,h2,hk,hy,q⟩:=h;cases rx;obtain ⟨u,rfl,ru⟩:=rv.one;obtain ⟨t,rfl⟩:=ru;obtain ⟨z,a7,n,r,hl,e⟩:=I.lstM hH;obtain ⟨w,hw,D1⟩:=r.get hy;refine call_meets F.slot_list_pop ⟨_,e,rfl⟩ F.entry_list_pop (F.args_list_pop_2 _ _)
  (MeetsSeq.list_pop_at l a7.toArray n i t k w (fitsIndex_both h1 h2) (by rw [List.size_toArray,<-hl];exact hk) (by rw [<-Array.getElem?_toList];exact hw) (by rw [List.size_toArray];lia)) ⟨e,?_⟩
 refine ⟨y,_,I.lset (its':=a7.eraseIdx k) hH e ?_ (r.eraseIdx k) ?_,D1,q⟩
 ·show a7.toArray.eraseIdxIfInBounds k=(a7.eraseIdx k).toArray;rw [List.eraseIdxIfInBounds_toArray]
 ·have:=Zku xs k;lia
def Zz9:V->List V->Hp->VK->Prop:=fun x vs H Q=>∃l xs,x=.ref l/\vs=[]/\H l=some (.lst xs)/\Q .non (upd H l (.lst []))
theorem Zt4:MtM X "list.clear" Zz9:=by
 intro a6 s σ H x vs v us Q I rx rv h;obtain ⟨l,xs,rfl,rfl,hH,q⟩:=h;cases rx;have i4:=rv.zero;subst i4;obtain ⟨z,a7,n,r,hl,e⟩:=I.lstM hH;refine call_meets F.slot_list_clear ⟨_,e,rfl⟩ F.entry_list_clear (F.args_list_clear_1 _) (AutoSeq1.list_clear_list_0 l a7.toArray n (by rw [List.size_toArray];lia)) ⟨e,?_⟩;exact ⟨.non,_,I.lset (its':=[]) (ys:=[]) hH e rfl .nil (Nat.zero_le _),rfl,q⟩
def Ycy:R2:=fun x y H Q=>∃l b xs zs,x=.ref l/\y=.ref b/\H l=some (.lst xs)/\H b=some (.lst zs)/\xs.length+zs.length<=sizeLine/\∀p,H p=none->Q (.ref p) (upd H p (.lst (xs++zs)))
theorem Yaw:OpR X (binaryOp .Add) Ycy:=by
 intro a6 s σ H x y v u Q I rx ry h;obtain ⟨l,b,xs,zs,rfl,rfl,hH,hB,hz,q⟩:=h;cases rx;cases ry;obtain ⟨z,a7,n,r,hl,e⟩:=I.lstM hH;obtain ⟨z2,C7,n2,r2,J9,e2⟩:=I.lstM hB;refine PySem.P.add_list e e2 ?_ (by rw [List.size_toArray,List.size_toArray];lia);have ea:a7.toArray++C7.toArray=(a7++C7).toArray:=by simp
 rw [ea];exact ⟨.ref _,_,I.lnew (t':=s.toks) (r.append r2) (by rw [List.length_append];lia),rfl,q _ I.fresh⟩
end
section
variable {prog:Program} {w:World} {A:Around} {E:Value->Shared->Prop} {s:Shared}
end
section
variable {X:Cx}
end
end L2
namespace L2
open PySem PySem.Spec PyProof.Rows
section
variable {κ:Type} [DecidableEq κ]
def Yv(kvs:List (κ×V))(k:κ):Option V:=(kvs.find? fun kv=>decide (kv.1=k)).map (·.2)
def Ww(kvs:List (κ×V))(k:κ)(v:V):List (κ×V) :=
 if (kvs.any fun kv=>decide (kv.1=k))=true then kvs.map (fun kv=>if kv.1=k then (kv.1,v) else kv) else kvs++[(k,v)]
theorem X2{p:κ×V}{r:List (κ×V)}{k:κ}(e:p.1=k):Yv (p ::r) k=some p.2:=by simp [Yv,List.find?_cons,e]
theorem Yz{p:κ×V}{r:List (κ×V)}{k:κ}(e:¬p.1=k):Yv (p ::r) k=Yv r k:=by simp [Yv,List.find?_cons,e]
theorem Zfm(k:κ):∀kvs:List (κ×V),(kvs.any fun kv=>decide (kv.1=k))=(Yv kvs k).isSome
 | []=>rfl
 | p ::r=>by
  rw [List.any_cons]
  by_cases e:p.1=k
  ·simp only [X2 e,decide_eq_true e,Bool.true_or,Option.isSome_some]
  ·rw [Yz e,decide_eq_false e,Bool.false_or];exact Zfm k r
theorem Zal(kvs:List (κ×V))(k:κ)(v:V):(Ww kvs k v).length<=kvs.length+1:=by
 unfold Ww;split
 ·rw [List.length_map];lia
 ·rw [List.length_append,List.length_cons,List.length_nil];lia
theorem Zds{kvs:List (κ×V)}{k:κ}(v:V)(h:Yv kvs k=none):Ww kvs k v=kvs++[(k,v)]:=by
 unfold Ww;rw [Zfm,h];exact if_neg (by decide)
theorem Zcb.isSome_eq{o:Option V}{u:Option Value}(r:Zcb o u):o.isSome=u.isSome:=by
 cases o with
 | none=>cases u with
  | none=>rfl
  | some _=>exact (show False from r).elim
 | some _=>cases u with
  | none=>exact (show False from r).elim
  | some _=>rfl
theorem Zcb.getD{o:Option V}{u:Option Value}{d:V}{d':Value}(r:Zcb o u)(rd:Yf d d'):Yf (o.getD d) (u.getD d'):=by
 cases o with
 | none=>cases u with
  | none=>exact rd
  | some _=>exact (show False from r).elim
 | some _=>cases u with
  | none=>exact (show False from r).elim
  | some _=>exact r
theorem KV.val{kvs:List (κ×V)}{vs:List (κ×Value)}(r:KV kvs vs)(k:κ):Zcb (Yv kvs k) (valueAt vs k):=by
 unfold KV at r
 induction r with
 | nil=>exact True.intro
 | @cons p q ps qs h t ih =>
  obtain ⟨h1,h2⟩:=h
  by_cases e:p.1=k
  ·have e':q.1=k:=h1.symm.trans e;have b:valueAt (q ::qs) k=some q.2:=by simp [valueAt,List.find?_cons,e']
   rw [X2 e,b];exact h2
  ·have e':¬q.1=k:=fun z=>e (h1.trans z)
   have b:valueAt (q ::qs) k=valueAt qs k:=by simp [valueAt,List.find?_cons,e']
   rw [Yz e,b];exact ih
theorem KV.any{kvs:List (κ×V)}{vs:List (κ×Value)}(r:KV kvs vs)(k:κ):(kvs.any fun kv=>decide (kv.1=k))=vs.any fun kv=>decide (kv.1=k):=by
 unfold KV at r
 induction r with
 | nil=>rfl
 | cons h t ih=>rw [List.any_cons,List.any_cons,ih,h.1]
theorem KV.repl{kvs:List (κ×V)}{vs:List (κ×Value)}(r:KV kvs vs)(k:κ){y:V}{u:Value}(ry:Yf y u) :
  KV (kvs.map fun kv=>if kv.1=k then (kv.1,y) else kv) (vs.map fun kv=>if kv.1=k then (kv.1,u) else kv):=by
 unfold KV at r ⊢
 induction r with
 | nil=>exact .nil
 | @cons p q ps qs h t ih =>
  rw [List.map_cons,List.map_cons];refine .cons ?_ ih;obtain ⟨h1,h2⟩:=h
  by_cases e:p.1=k
  ·rw [if_pos e,if_pos (h1.symm.trans e)];exact ⟨h1,ry⟩
  ·rw [if_neg e,if_neg (fun z=>e (h1.trans z))];exact ⟨h1,h2⟩
theorem KV.put{kvs:List (κ×V)}{vs:List (κ×Value)}(r:KV kvs vs)(k:κ){y:V}{u:Value}(ry:Yf y u):KV (Ww kvs k y) (stored vs k u):=by
 unfold Ww stored;rw [r.any k]
 by_cases e:(vs.any fun kv=>decide (kv.1=k))=true
 ·rw [if_pos e,if_pos e];exact r.repl k ry
 ·rw [if_neg e,if_neg e];exact Paired.snoc r ⟨rfl,ry⟩
theorem KV.length{kvs:List (κ×V)}{vs:List (κ×Value)}(r:KV kvs vs):kvs.length=vs.length:=Paired.length r
end
theorem Zjg{P:Program}{w:World}{k:Key}{u:Value}(r:Yf (kV k) u):(Z9 P w).is k u=true:=by
 cases k with
 | inl i=>obtain ⟨t,e⟩:=(show ∃t,u=Value.int i t from r);subst e;exact Zoo P w i t
 | inr x=>obtain ⟨t,e⟩:=(show ∃t,u=Value.str x t from r);subst e;exact Zoj P w x t
theorem Zgt{P:Program}{w:World}:∀{ks:List Key} {us:List Value},Ya (ks.map kV) us->ItemsAre (Z9 P w) ks us
 | [],_,r=>by rw [List.map_nil] at r;cases r;exact .nil
 | k ::ks,_,r=>by
  rw [List.map_cons] at r;cases r with
  | cons h t=>exact .cons (Zjg h) (Zgt t)
abbrev KT(H:Hp):List (List Key×V)->List (List Key×Addr×Value)->Prop:=Paired fun p q=>p.1=q.1/\H q.2.1=some (.tup (p.1.map kV))/\Yf p.2 q.2.2
theorem KT.val{H:Hp}{kvs:List (List Key×V)}{xs:List (List Key×Addr×Value)}(r:KT H kvs xs)(k:List Key):Zcb (Yv kvs k) ((atKey xs k).map (·.2)):=by
 induction r with
 | nil=>exact True.intro
 | @cons p q ps qs h t ih =>
  obtain ⟨h1,_,h2⟩:=h
  by_cases e:p.1=k
  ·have e':q.1=k:=h1.symm.trans e;have b:atKey (q ::qs) k=some q.2:=by simp [atKey,List.find?_cons,e']
   rw [X2 e,b];exact h2
  ·have e':¬q.1=k:=fun z=>e (h1.trans z)
   have b:atKey (q ::qs) k=atKey qs k:=by simp [atKey,List.find?_cons,e']
   rw [Yz e,b];exact ih
theorem KT.repl{H:Hp}{kvs:List (List Key×V)}{xs:List (List Key×Addr×Value)}(r:KT H kvs xs)(k:List Key){y:V}{u:Value}(ry:Yf y u) :
  KT H (kvs.map fun kv=>if kv.1=k then (kv.1,y) else kv) (xs.map (putAt k u)):=by
 induction r with
 | nil=>exact .nil
 | @cons p q ps qs h t ih =>
  rw [List.map_cons,List.map_cons];refine .cons ?_ ih;obtain ⟨h1,h2,h3⟩:=h;unfold putAt
  by_cases e:p.1=k
  ·rw [if_pos e,if_pos (h1.symm.trans e)];exact ⟨h1,h2,ry⟩
  ·rw [if_neg e,if_neg (fun z=>e (h1.trans z))];exact ⟨h1,h2,h3⟩
theorem KT.put{H:Hp}{kvs:List (List Key×V)}{xs:List (List Key×Addr×Value)}(r:KT H kvs xs)(k:List Key){b:Addr}{y:V}{u:Value}(hb:H b=some (.tup (k.map kV)))(ry:Yf y u) :
  KT H (Ww kvs k y) (storedH xs k b u):=by
 have e:(kvs.any fun kv=>decide (kv.1=k))=(atKey xs k).isSome:=by
  rw [Zfm,(r.val k).isSome_eq,Option.isSome_map]
 unfold Ww storedH;rw [e]
 by_cases q:(atKey xs k).isSome=true
 ·rw [if_pos q,if_pos q];exact r.repl k ry
 ·rw [if_neg q,if_neg q];exact Paired.snoc r ⟨rfl,hb,ry⟩
theorem KT.keeps{H H':Hp}{kvs:List (List Key×V)}{xs:List (List Key×Addr×Value)}(r:KT H kvs xs)(ht:∀b ys,H b=some (.tup ys)->H' b=some (.tup ys)):KT H' kvs xs :=
 Paired.mapP r fun _ _ z=>⟨z.1,ht _ _ z.2.1,z.2.2⟩
section
variable {P:Program} {w:World} {H:Hp} {h:Heap} {a:Addr}
theorem Zyj{u:HO}(ok:HOk P w H h)(e:Rd H a u):Yi P w H h a u:=e.ok ok
theorem Zcf{kvs:List (Key×V)}(ok:HOk P w H h)(e:Rd H a (.dK kvs)):kvs.length<=sizeLine/\(a ==sysModules)=false/\∃vs,KV kvs vs/\h.DictOf (Z9 P w) a vs :=
 show Yi P w H h a (.dK kvs) from Zyj ok e
theorem Zq0{kvs:List (Key×V)}(ok:HOk P w H h)(e:H a=some (.dK kvs)):kvs.length<=sizeLine/\(a ==sysModules)=false/\∃vs,KV kvs vs/\h.DictOf (Z9 P w) a vs:=Zcf ok (.inl e)
theorem Zgv{ks:List Key}(ok:HOk P w H h)(e:H a=some (.tup (ks.map kV))):(tupleKind (Z9 P w)).is h ks a:=by
 obtain ⟨_,a7,r,o,h1,h2,n,h3⟩:=(show Yi P w H h a (.tup (ks.map kV)) from ok a _ e)
 exact ⟨o,a7.toArray,n,h1,h2,h3,by simpa using Zgt r⟩
theorem Zjd{kvs:List (List Key×V)}(ok:HOk P w H h)(e:Rd H a (.dT kvs)):kvs.length<=sizeLine/\(a ==sysModules)=false /\
  ∃xs,KT H kvs xs/\h.DictOfH (tupleKind (Z9 P w)) a xs:=by
 obtain ⟨z,y,xs,r,o,es,ep,h1,h2,h3,h4,h5⟩:=(show Yi P w H h a (.dT kvs) from Zyj ok e)
 refine ⟨z,y,xs,r,o,es,ep,h1,h2,h3,h4,fun x hx=>?_,h5⟩;have all:∀{l:List (List Key×V)} {m:List (List Key×Addr×Value)},KT H l m->∀x∈m,(tupleKind (Z9 P w)).is h x.1 x.2.1:=by
  intro l m q
  induction q with
  | nil=>intro x hx;exact nomatch hx
  | @cons p q ps qs hq t ih =>
   intro x hx;rcases List.mem_cons.mp hx with e|hx
   ·subst e;exact Zgv ok (by rw [<-hq.1];exact hq.2.1)
   ·exact ih x hx
 exact all r x hx
theorem Zyq{kvs:List (List Key×V)}(ok:HOk P w H h)(e:H a=some (.dT kvs)):kvs.length<=sizeLine/\(a ==sysModules)=false /\
  ∃xs,KT H kvs xs/\h.DictOfH (tupleKind (Z9 P w)) a xs:=Zjd ok (.inl e)
end
def Xy(H:Hp)(a:Addr)(y:V)(r:Option V):Prop :=
 (∃kvs k,Rd H a (.dK kvs)/\y=kV k/\r=Yv kvs k)\/∃kvs k b,Rd H a (.dT kvs)/\y=.ref b/\H b=some (.tup (k.map kV))/\r=Yv kvs k
def Zev(H:Hp)(a:Addr)(y v:V)(H':Hp):Prop :=
 (∃kvs k,H a=some (.dK kvs)/\y=kV k/\kvs.length<sizeLine/\H'=upd H a (.dK (Ww kvs k v))) \/
 ∃kvs k b,H a=some (.dT kvs)/\y=.ref b/\H b=some (.tup (k.map kV))/\kvs.length<sizeLine/\H'=upd H a (.dT (Ww kvs k v))
theorem Xy.k{H:Hp}{a:Addr}{kvs:List (Key×V)}{k:Key}(e:H a=some (.dK kvs)):Xy H a (kV k) (Yv kvs k):=.inl ⟨kvs,k,.inl e,rfl,rfl⟩
theorem Xy.t{H:Hp}{a b:Addr}{kvs:List (List Key×V)}{k:List Key}(e:H a=some (.dT kvs))(eb:H b=some (.tup (k.map kV))):Xy H a (.ref b) (Yv kvs k):=.inr ⟨kvs,k,b,.inl e,rfl,eb,rfl⟩
theorem Zev.k{H:Hp}{a:Addr}{kvs:List (Key×V)}{k:Key}{v:V}(e:H a=some (.dK kvs))(hl:kvs.length<sizeLine):Zev H a (kV k) v (upd H a (.dK (Ww kvs k v))):=.inl ⟨kvs,k,e,rfl,hl,rfl⟩
theorem Zev.t{H:Hp}{a b:Addr}{kvs:List (List Key×V)}{k:List Key}{v:V}(e:H a=some (.dT kvs))(eb:H b=some (.tup (k.map kV)))(hl:kvs.length<sizeLine) :
  Zev H a (.ref b) v (upd H a (.dT (Ww kvs k v))):=.inr ⟨kvs,k,b,e,rfl,eb,hl,rfl⟩
section
variable {X:Cx} {a6:List (Addr×Obj)} {σ:St} {H:Hp} {s:Shared} {a:Addr} {y v:V} {u r:Value} {o:Option V} {A:Around} {E:Value->Shared->Prop}
theorem Inv.big(I:Inv X a6 σ H s):sysModules<s.heap.objs.size:=by
 have h:mainGlobals<s.heap.objs.size:=(I.mod.glob.keeps I.bk).lt;exact Nat.lt_trans (by decide) h
theorem Zsb{Q:Value->Shared->Prop}(hu:A.units+1<cLine)(I:Inv X a6 σ H s)(g:Xy H a y (some v))(ry:Yf y u)(h:∀w' s',Inv X a6 σ H s'->Yf v w'->Q w' s') :
  wpAny (model X.prog X.w) A (getItem (.ref a) u) Q E s:=by
 rcases g with ⟨kvs,k,e,ey,l⟩|⟨kvs,k,b,e,ey,eb,l⟩
 ·subst ey;obtain ⟨z,hd,vs,v6,dd⟩:=Zcf I.hok e;obtain ⟨w',hw,D1⟩:=Zcb.some_of (v:=v) (o:=valueAt vs k) (by rw [l];exact v6.val k);exact wpAny_getItem_of (Zjg ry) dd.mapOf hw (h w' _ (I.tok _) D1)
 ·subst ey;cases (show u=Value.ref b from ry);obtain ⟨z,hd,xs,v6,dd⟩:=Zjd I.hok e;obtain ⟨w',hw,D1⟩:=Zcb.some_of (v:=v) (o:=(atKey xs k).map (·.2)) (by rw [l];exact v6.val k);obtain ⟨p,hp,Q4⟩:=Option.map_eq_some_iff.mp hw;refine wpAny_getItem_heap (tupleKind_room_in1 hu) (Zgv I.hok eb) dd hp ?_;rw [Q4];exact h w' _ (I.tok _) D1
theorem Yde{Q:Value->Shared->Prop}(hu:A.units+1<cLine)(I:Inv X a6 σ H s)(g:Xy H a y o)(ry:Yf y u)(h:∀s',Inv X a6 σ H s'->Q (.bool o.isSome) s') :
  wpAny (model X.prog X.w) A (compareOp .In u (.ref a)) Q E s:=by
 rcases g with ⟨kvs,k,e,ey,l⟩|⟨kvs,k,b,e,ey,eb,l⟩
 ·subst ey;obtain ⟨z,hd,vs,v6,dd⟩:=Zcf I.hok e;refine wpAny_in_of (Zjg ry) hd dd.mapOf ?_;rw [<-(v6.val k).isSome_eq,<-l];exact h _ (I.tok _)
 ·subst ey;cases (show u=Value.ref b from ry);obtain ⟨z,hd,xs,v6,dd⟩:=Zjd I.hok e;refine wpAny_in_heap (tupleKind_room_in1 hu) (Zgv I.hok eb) hd dd ?_;have q:=(v6.val k).isSome_eq;rw [Option.isSome_map] at q;rw [<-q,<-l];exact h _ (I.tok _)
theorem Zx5{Q:Value->Shared->Prop}(hu:A.units+1<cLine)(I:Inv X a6 σ H s)(g:Xy H a y o)(ry:Yf y u)(h:∀s',Inv X a6 σ H s'->Q (.bool (!o.isSome)) s') :
  wpAny (model X.prog X.w) A (compareOp .NotIn u (.ref a)) Q E s:=by
 rcases g with ⟨kvs,k,e,ey,l⟩|⟨kvs,k,b,e,ey,eb,l⟩
 ·subst ey;obtain ⟨z,hd,vs,v6,dd⟩:=Zcf I.hok e;refine wpAny_notIn_of (Zjg ry) hd dd.mapOf ?_;rw [<-(v6.val k).isSome_eq,<-l];exact h _ (I.tok _)
 ·subst ey;cases (show u=Value.ref b from ry);obtain ⟨z,hd,xs,v6,dd⟩:=Zjd I.hok e;refine wpAny_notIn_heap (tupleKind_room_in1 hu) (Zgv I.hok eb) hd dd ?_;have q:=(v6.val k).isSome_eq;rw [Option.isSome_map] at q;rw [<-q,<-l];exact h _ (I.tok _)
theorem Zl2{h':Heap}{t':Nat}{ob:HO}(I:Inv X a6 σ H s)(mu:Mut (H a))(hs:Heap.SameBut a s.heap h')(he:∃q,h'.get? a=some q)(new:Yi X.prog X.w (upd H a ob) h' a ob) :
  Inv X a6 σ (upd H a ob) { s with heap:=h',toks:=t' } :=
 I.write (x:=a) (e:=a) mu (.inl rfl) (fun b q hb z=>(hs.2 b hb).trans z) he new
theorem Zuv{P:Program}{w:World}{H':Hp}{h':Heap}{kvs:List (Key×V)}{vs:List (Key×Value)}(z:kvs.length<=sizeLine)(hd:(a ==sysModules)=false)(v6:KV kvs vs)(dd:h'.DictOf (Z9 P w) a vs) :
  Yi P w H' h' a (.dK kvs):=⟨z,hd,vs,v6,dd⟩
theorem Zsa{H':Hp}{Q:Unit->Shared->Prop}(hu:A.units+1<cLine)(I:Inv X a6 σ H s)(g:Zev H a y v H')(ry:Yf y u)(rv:Yf v r)(h:∀s',Inv X a6 σ H' s'->Q () s') :
  wpAny (model X.prog X.w) A (setItem (.ref a) u r) Q E s:=by
 rcases g with ⟨kvs,k,e,ey,l,eH⟩|⟨kvs,k,b,e,ey,eb,l,eH⟩
 ·subst ey eH;obtain ⟨z,hd,vs,v6,dd⟩:=Zq0 I.hok e;have hz:vs.length<=sizeLine:=by rw [<-v6.length];exact z
  have hl:(Ww kvs k v).length<=sizeLine:=by have:=Zal kvs k v;lia
  refine wpAny_setItem_pairs (hsz:=hz) (Zjg ry) dd fun h' dd' hs=>h _ ?_
  have he:∃q,h'.get? a=some q:=let ⟨q,_,_,hq,_⟩:=dd';⟨q,hq⟩;exact Zl2 I (by rw [e];exact True.intro) hs he (Zuv hl hd (v6.put k rv) dd')
 ·subst ey eH;cases (show u=Value.ref b from ry);obtain ⟨z,hd,xs,v6,dd⟩:=Zyq I.hok e;have hz:xs.length<=sizeLine:=by rw [<-Paired.length v6];exact z
  have hl:(Ww kvs k v).length<=sizeLine:=by have:=Zal kvs k v;lia
  refine wpAny_setItem_heap (hsz:=hz) (tupleKind_room_in1 hu) (Zgv I.hok eb) dd fun h' dd' hs=>h _ ?_
  obtain ⟨q,es,ep,hq,h2,h3,h4,_,h5⟩:=dd';refine Zl2 I (by rw [e];exact True.intro) hs ⟨q,hq⟩ ⟨hl,hd,_,(v6.put k eb rv).keeps fun c ys ec=>?_,q,es,ep,hq,h2,h3,h4,h5⟩;rw [Zh (Zyh ec e (fun z=>nomatch z))];exact ec
end
section
variable {X:Cx} {a6:List (Addr×Obj)} {σ:St} {H:Hp} {s:Shared} {a:Addr} {kvs:List (Key×V)} {k:Key} {u:Value} {A:Around} {E:Value->Shared->Prop}
theorem Ybe{Q:Value->Shared->Prop}(I:Inv X a6 σ H s)(e:Rd H a (.dK kvs))(h:∀t s',Inv X a6 σ H s'->Q (.int kvs.length t) s'):wpAny (model X.prog X.w) A (call (.builtin "len") [.ref a]) Q E s:=by
 obtain ⟨z,hd,vs,v6,dd⟩:=Zcf I.hok e;refine call_len_dict hd dd (by rw [<-v6.length];rw [sizeLine_eq] at z;lia) ?_;rw [<-v6.length];exact h _ _ (I.tok _)
end
def Yby(i:Expr):Prop:=∀ov iv,subscripted i false ov iv=operate [ov,iv] (getItem ov iv)
theorem Zxl{prog:Program}{w:World}{A:Around}{E:Value->Shared->Prop}{s:Shared}{env:Env}{value slice:Expr}{pos:Pos}{T id:String}{Q:Value->Shared->Prop}
  (hl:typeLookup (.type T) "__getitem__" =pure (some (.builtin id))) (hs:Yby slice)
  (h:wpAny (model prog w) A (eval value env) (fun o s₁=>wpAny (model prog w) A (eval slice env) (fun i s₂=>s₂.TypeIs o T/\wpAny (model prog w) A (getItem o i) Q E s₂) E s₁) E s) :
  wpAny (model prog w) A (eval (.Subscript value slice pos) env) Q E s:=by
 refine Subscript_ (wpAny_mono h (fun o s₁ h₁=>wpAny_mono h₁ (fun i s₂ h₂=>?_) fun _ _ x=>x) fun _ _ x=>x);obtain ⟨hT,h₂⟩:=h₂;unfold subscriptTail;refine wpAny_bind ?_;rw [getitemInPython_of_ne hT.not_modules];refine wpAny_bind (wpAny_specialOf hT hl ?_);have v8:wpAny (model prog w) A (subscripted slice false o i) (fun r s₃=>wpAny (model prog w) A (letTemporaryGo value o r >>=fun _=>pure r) Q E s₃) E s₂:=by
  rw [hs o i];exact wpAny_operating (wpAny_mono h₂ (fun r s₃ h₃=>wpAny_bind (wpAny_letTemporaryGo (wpAny_pure h₃))) fun _ _ x=>x)
 first
  | exact wpAny_pure (wpAny_bind v8)
  | exact wpAny_bind (wpAny_pure (wpAny_bind v8))
  | exact wpAny_bind v8
theorem Zoq{X:Cx}{a6:List (Addr×Obj)}{σ:St}{H:Hp}{s:Shared}{a:Addr}{y:V}{o:Option V}(I:Inv X a6 σ H s)(g:Xy H a y o):s.TypeIs (.ref a) "dict" :=by
 rcases g with ⟨kvs,k,e,_,_⟩|⟨kvs,k,b,e,_,_,_⟩
 ·obtain ⟨_,_,vs,_,dd⟩:=Zcf I.hok e;exact dd.typeIs
 ·obtain ⟨_,_,xs,_,dd⟩:=Zjd I.hok e;exact dd.typeIs
def Ybc(td ty:TE):TE:=fun σ H Q=>td σ H fun x H1=>ty σ H1 fun y H2=>∃a v,x=.ref a/\Xy H2 a y (some v)/\Q v H2
def Ybz(td ty tv:TE):TS:=fun D σ H=>tv σ H fun v H1=>td σ H1 fun x H2=>ty σ H2 fun y H3=>∃a H4,x=.ref a/\Zev H3 a y v H4/\D.nx σ H4
section
variable {X:Cx} {o i e value:Expr} {pos x6 Q0:Pos} {td ty tv:TE}
theorem Xm(hu:X.A.units+1<cLine)(ho:PE X o td)(hi:PE X i ty)(hs:Yby i):PE X (.Subscript o i pos) (Ybc td ty):=by
 intro a6 s σ H Q I h;refine Zxl PySem.F.slot_dict_getitem.lookup hs (thn (ho a6 s σ H _ I h) fun u s1 ⟨x,H1,I1,rx,q1⟩=>thn (hi a6 s1 σ H1 _ I1 q1) fun iv s2 ⟨y,H2,I2,ry,a,v,ex,g,q2⟩=>?_);subst ex;obtain rfl:u=Value.ref a:=rx;exact ⟨Zoq I2 g,Zsb hu I2 g ry fun w' s3 I3 D1=>⟨v,H2,I3,D1,q2⟩⟩
theorem Za6(hu:X.A.units+1<cLine)(ho:PE X o td)(hi:PE X i ty)(hv:PE X value tv)(hs:swapsWith value (some (.Subscript o i x6)) pos.line X.env=pure false) :
  PS X (.Assign [.Subscript o i x6] value pos) (Ybz td ty tv):=by
 intro a6 s σ H D I h;refine wpAny_Assign_Subscript (thn (hv a6 s σ H _ I h) fun r s1 ⟨v,H1,I1,rv,q1⟩=>thn (ho a6 s1 σ H1 _ I1 q1) fun u s2 ⟨x,H2,I2,rx,q2⟩=>thn (hi a6 s2 σ H2 _ I2 q2) fun iv s3 ⟨y,H3,I3,ry,a,H4,ex,g,q3⟩=>?_) hs;subst ex;obtain rfl:u=Value.ref a:=rx;exact Zsa hu I3 g ry rv fun s4 I4=>⟨σ,H4,I4,q3⟩
end
theorem Znz{P:Program}{w:World}{H:Hp}(h:Heap)(hb:sysModules<h.objs.size):Yi P w H (h.push { cls:=.type "dict",data:=.dict #[] }) h.objs.size (.dK []) :=
 ⟨Nat.zero_le _,beq_eq_false_iff_ne.mpr (Ne.symm (Nat.ne_of_lt hb)),[],.nil,Heap.DictOf.new h⟩
theorem Zub{P:Program}{w:World}{H:Hp}(h:Heap)(hb:sysModules<h.objs.size):Yi P w H (h.push { cls:=.type "dict",data:=.dict #[] }) h.objs.size (.dT []) :=
 ⟨Nat.zero_le _,beq_eq_false_iff_ne.mpr (Ne.symm (Nat.ne_of_lt hb)),[],.nil,_,#[],0,Heap.get?_push_size _ rfl,⟨rfl,rfl,rfl⟩,rfl,rfl,List.nodup_nil⟩
def Zy5:TE:=fun _ H Q=>∀p,H p=none->Q (.ref p) (upd H p (.dK []))
def Zzp:TE:=fun _ H Q=>∀p,H p=none->Q (.ref p) (upd H p (.dT []))
section
variable {X:Cx} {pos:Pos}
theorem Zvp:PE X (.Dict [] [] pos) Zy5:=fun a6 s σ H Q I h =>
 wpAny_Dict_empty ⟨.ref s.heap.objs.size,_,I.laid (a:=s.heap.objs.size) (o:=.dK []) (t':=s.toks) (fun _ _ q=>Heap.get?_push_of_some _ q) (Nat.le_refl _) (Znz s.heap I.big),rfl,h _ (I.hok.fresh (Nat.le_refl _))⟩
theorem Zum:PE X (.Dict [] [] pos) Zzp:=fun a6 s σ H Q I h =>
 wpAny_Dict_empty ⟨.ref s.heap.objs.size,_,I.laid (a:=s.heap.objs.size) (o:=.dT []) (t':=s.toks) (fun _ _ q=>Heap.get?_push_of_some _ q) (Nat.le_refl _) (Zub s.heap I.big),rfl,h _ (I.hok.fresh (Nat.le_refl _))⟩
end
def Zo1:List (TE×TE)->St->Hp->(List (V×V)->Hp->Prop)->Prop
 | [],_,H,Q=>Q [] H
 | (tk,tv) ::r,σ,H,Q=>tk σ H fun x H1=>tv σ H1 fun y H2=>Zo1 r σ H2 fun ps H3=>Q ((x,y) ::ps) H3
abbrev VV:List (V×V)->List (Value×Value)->Prop:=Paired fun p q=>Yf p.1 q.1/\Yf p.2 q.2
def PPs(X:Cx)(pos:Pos)(D9:List (Option Expr))(B0:List Expr)(U9:List (TE×TE)):Prop :=
 ∀(a6:List (Addr×Obj)) (s:Shared) (σ:St) (H:Hp) (Q:List (V×V)->Hp->Prop),Inv X a6 σ H s->Zo1 U9 σ H Q ->
  wpAny (model X.prog X.w) X.A (evalPairs (pairTrees D9 B0 X.env pos)) (fun vs s'=>∃ps H',Inv X a6 σ H' s'/\VV ps vs/\Q ps H') X.xe s
theorem Zra{X:Cx}{pos:Pos}:PPs X pos [] [] []:=fun a6 s σ H Q I h=>pairTrees_nil_walk ⟨[],H,I,.nil,h⟩
theorem Zbn{X:Cx}{pos:Pos}{k v:Expr}{ks:List (Option Expr)}{vs:List Expr}{tk tv:TE}{U9:List (TE×TE)}(hk:PE X k tk)(hv:PE X v tv)(hr:PPs X pos ks vs U9) :
  PPs X pos (some k ::ks) (v ::vs) ((tk,tv) ::U9):=fun a6 s σ H Q I h =>
 pairTrees_cons_walk (thn (hk a6 s σ H _ I h) fun u s1 ⟨x,H1,I1,rx,q1⟩=>thn (hv a6 s1 σ H1 _ I1 q1) fun w2 s2 ⟨y,H2,I2,ry,q2⟩ =>
  thn (hr a6 s2 σ H2 _ I2 q2) fun ws s3 ⟨ps,H3,I3,v6,q3⟩=>⟨(x,y) ::ps,H3,I3,.cons ⟨rx,ry⟩ v6,q3⟩)
def Zcw(kvs more:List (Key×V)):List (Key×V):=more.foldl (fun K8 kv=>Ww K8 kv.1 kv.2) kvs
theorem KV.merge:∀{more:List (Key×V)} {rs:List (Key×Value)} {kvs:List (Key×V)} {vs:List (Key×Value)},KV more rs->KV kvs vs->KV (Zcw kvs more) (merged vs rs):=by
 intro more rs kvs vs r;unfold KV at r
 induction r generalizing kvs vs with
 | nil=>intro q;exact q
 | @cons p q ps qs h t ih =>
  intro r0;have e:KV (Ww kvs p.1 p.2) (stored vs q.1 q.2):=by
   have:=r0.put p.1 h.2;rw [<-h.1];exact this
  exact ih e
theorem Zen:∀(more kvs:List (Key×V)),(Zcw kvs more).length<=kvs.length+more.length
 | [],kvs=>by show kvs.length<=kvs.length+0;lia
 | p ::r,kvs=>by
  have h1:=Zen r (Ww kvs p.1 p.2);have h2:=Zal kvs p.1 p.2;show (Zcw (Ww kvs p.1 p.2) r).length<=_;rw [List.length_cons];lia
theorem Zit{P:Program}{w:World}:∀{kvs:List (Key×V)} {ws:List (Value×Value)},VV (kvs.map fun kv=>(kV kv.1,kv.2)) ws->∃rs,Carries (Z9 P w) ws rs/\KV kvs rs
 | [],_,r=>by rw [List.map_nil] at r;cases r;exact ⟨[],True.intro,.nil⟩
 | p ::kvs,_,r=>by
  rw [List.map_cons] at r;cases r with
  | @cons a b as bs h t =>
   obtain ⟨rs,c,q⟩:=Zit (P:=P) (w:=w) t;obtain ⟨b1,b2⟩:=b;exact ⟨(p.1,b2) ::rs,⟨Zjg h.1,rfl,c⟩,.cons ⟨rfl,h.2⟩ q⟩
def Ya2(U9:List (TE×TE)):TE:=fun σ H Q=>∀p,H p=none->Zo1 U9 σ (upd H p (.dK [])) fun ps H2=>H2 p=some (.dK [])/\∃kvs:List (Key×V),ps=kvs.map (fun kv=>(kV kv.1,kv.2))/\kvs.length<=15/\Q (.ref p) (upd H2 p (.dK (Zcw [] kvs)))
theorem Zq8{X:Cx}{pos:Pos}{D9:List (Option Expr)}{B0:List Expr}{U9:List (TE×TE)}(h:PPs X pos D9 B0 U9)(A7:D9.all (·.isSome)=true)(hl:D9.length=B0.length)(h0:D9≠[])
  (h15:D9.length<=15):PE X (.Dict D9 B0 pos) (Ya2 U9):=by
 intro a6 s σ H Q I q;have hn:=I.hok.fresh (Nat.le_refl s.heap.objs.size);have I1:=I.laid (a:=s.heap.objs.size) (o:=.dK []) (h':=s.heap.push { cls:=.type "dict",data:=.dict #[] }) (t':=s.toks) (fun _ _ q=>Heap.get?_push_of_some _ q) (Nat.le_refl _) (Znz s.heap I.big);refine wpAny_Dict_walk (knd:=Z9 X.prog X.w) A7 hl h0 h15 (thn (h a6 _ σ _ _ I1 (q _ hn)) fun ws s2 ⟨ps,H2,I2,v6,e,kvs,ep,lk,q2⟩=>?_);subst ep;obtain ⟨rs,c,rk⟩:=Zit (P:=X.prog) (w:=X.w) v6;obtain ⟨z,hd,vs0,r0,dd⟩:=Zq0 I2.hok e;cases r0;refine ⟨rs,c,dd,fun h' dd' hs=>⟨.ref s.heap.objs.size,_,?_,rfl,q2⟩⟩;have hz:(Zcw [] kvs).length<=sizeLine:=by
  have h1:=Zen kvs [];rw [List.length_nil] at h1;rw [sizeLine_eq];lia
 have he:∃q,h'.get? s.heap.objs.size=some q:=let ⟨q,_,_,hq,_⟩:=dd';⟨q,hq⟩;exact Zl2 I2 (by rw [e];exact True.intro) hs he (Zuv hz hd (rk.merge .nil) dd')
structure M1(X:Cx)(o:Expr)(m:Str)(i8:Pos)(e:Expr)(i5:Pos):Prop where
 base:attributeBase o m X.env (eval o X.env)=eval o X.env
 few:((backTo i5 (starEach [e] X.env)).all (fun x=>!x.1) && (backToKw i5 (keywordEach [] X.env)).all (fun x=>x.1.isSome)
  && decide (([e]:List Expr).length+([]:List Keyword).length+(if ([]:List Keyword).isEmpty then 0 else 1)<30))=true
 line:(i8.endLine ==i5.line)=true
 trees:backTo i5 (starEach [e] X.env)=[(false,eval e X.env)]
def IsD(H:Hp)(a:Addr):Prop:=(∃kvs,Rd H a (.dK kvs))\/∃kvs,Rd H a (.dT kvs)
theorem Zz7{X:Cx}{a6:List (Addr×Obj)}{σ:St}{H:Hp}{s:Shared}{a:Addr}(I:Inv X a6 σ H s)(d:IsD H a) :
  s.TypeIs (.ref a) "dict" /\(∀b,Value.ref a=.ref b->∃ob,s.heap.get? b=some ob/\ob.dict=none)/\(a ==sysModules)=false:=by
 rcases d with ⟨kvs,e⟩|⟨kvs,e⟩
 ·obtain ⟨_,hd,vs,_,dd⟩:=Zcf I.hok e;refine ⟨dd.typeIs,fun b q=>?_,hd⟩;cases q;obtain ⟨ob,_,_,h1,h2,_⟩:=dd;exact ⟨ob,h1,h2.2.1⟩
 ·obtain ⟨_,hd,xs,_,dd⟩:=Zjd I.hok e;refine ⟨dd.typeIs,fun b q=>?_,hd⟩;cases q;obtain ⟨ob,_,_,h1,h2,_⟩:=dd;exact ⟨ob,h1,h2.2.1⟩
section
variable {X:Cx} {a6:List (Addr×Obj)} {σ:St} {H:Hp} {s:Shared} {a:Addr} {y d:V} {u r:Value} {o:Option V} {A:Around} {E:Value->Shared->Prop}
theorem Yae{Q:Value->Shared->Prop}(hu:A.units+1<cLine)(I:Inv X a6 σ H s)(g:Xy H a y o)(ry:Yf y u)(h:∀w' s',Inv X a6 σ H s'->Yf (o.getD .non) w'->Q w' s') :
  wpAny (model X.prog X.w) A (call (.builtin "dict.get") [.ref a,u]) Q E s:=by
 rcases g with ⟨kvs,k,e,ey,l⟩|⟨kvs,k,b,e,ey,eb,l⟩
 ·subst ey;obtain ⟨z,hd,vs,v6,dd⟩:=Zcf I.hok e;refine call_meetsIn PySem.F.slot_dict_get dd.typeIs PySem.F.entry_dict_get (PySem.F.args_dict_get_2 _ _) (meets_dict_get (Z9 X.prog X.w) a (Zjg ry) hd) ⟨_,dd.mapOf,h _ _ (I.tok _) ?_⟩;rw [l];exact (v6.val k).getD rfl
 ·subst ey;cases (show u=Value.ref b from ry);obtain ⟨z,hd,xs,v6,dd⟩:=Zjd I.hok e;refine call_meetsIn PySem.F.slot_dict_get dd.typeIs PySem.F.entry_dict_get (PySem.F.args_dict_get_2 _ _) (meetsH_dict_get (tupleKind (Z9 X.prog X.w)) a b hd) ⟨tupleKind_room_in1 hu,k,xs,Zgv I.hok eb,dd,h _ _ (I.tok _) ?_⟩;rw [l];exact (v6.val k).getD rfl
end
def Zzl(td ty:TE):TE:=fun σ H Q=>td σ H fun x H1=>∃a,x=.ref a/\IsD H1 a/\ty σ H1 fun y H2=>∃o,Xy H2 a y o/\Q (o.getD .non) H2
section
variable {X:Cx} {o e f:Expr} {i8 i5:Pos} {td ty tx:TE}
theorem Zvd(hu:X.A.units+1<cLine)(ho:PE X o td)(he:PE X e ty) (m:M1 X o "get" i8 e i5):PE X (.Call (.Attribute o "get" i8) [e] [] i5) (Zzl td ty):=by
 intro a6 s σ H Q I h;refine wpAny_Call_method m.base m.few m.line PySem.F.plainAttrs_dict PySem.F.slot_dict_get PySem.F.type_dict_get (thn (ho a6 s σ H _ I h) fun u s1 ⟨x,H1,I1,rx,a,ex,d,q1⟩=>?_);subst ex;obtain rfl:u=Value.ref a:=rx;obtain ⟨t1,t2,_⟩:=Zz7 I1 d;refine ⟨t1,t2,?_⟩;rw [m.trees];refine Calls.callWith_builtin rfl (Calls.evalArgs_plain (Calls.spliced_cons (thn (he a6 s1 σ H1 _ I1 q1) fun iv s2 ⟨y,H2,I2,ry,ov,g,q2⟩=>Calls.spliced_nil ?_)));exact Yae hu I2 g ry fun w' s3 I3 D1=>⟨_,H2,I3,D1,q2⟩
end
section
variable {X:Cx} {a6:List (Addr×Obj)} {σ:St} {H:Hp} {s:Shared} {a:Addr} {kvs:List (Key×V)} {A:Around} {E:Value->Shared->Prop}
end
section
variable {X:Cx} {a6:List (Addr×Obj)} {σ:St} {H:Hp} {s:Shared} {a:Addr} {y:V} {u:Value} {A:Around} {E:Value->Shared->Prop}
end
end L2
namespace Att
open PySem PySem.W PySem.Calls PyProof.Rows
theorem Zhi{P:Params}{h:Heap}:∀(ns:List Int) (vs:List Value),WellAll P h vs (ns.map WData.int)->IntsAre vs ns:=by
 intro ns
 induction ns with
 | nil =>
  intro vs w;rw [List.map_nil] at w;cases w;exact .nil
 | cons n ns ih =>
  intro vs w;rw [List.map_cons] at w;cases w with
  | cons a b =>
   cases a;exact .cons _ _ (ih _ b)
theorem Zsx{l:OpenLaw}{n:Nat}(hn:l.most=some n){P:Params}{h:Heap}{args:List WData}{vals:List Value}
  (S2:l.row.toRowW.claim.pre args=true) (hwl:WellAll P h vals args) :
  ∃a vs ns,vals=[Value.ref a]/\args=[WData.list (ns.map WData.int)]/\h.get? a=some { cls:=.type "list",data:=.seq vs.toArray }/\IntsAre vs ns/\ns.length<=n:=by
 have hsh:WShape.hasAll [] args [.list .int]=true:=(pre_splitW S2).1;have hc:l.pre.holds [] { args:=args }=true:=(pre_splitW S2).2;obtain ⟨d,r,rfl,h1,h2⟩:=hasAllW_cons hsh;obtain rfl:=hasAllW_nil h2;obtain ⟨xs,rfl,h3⟩:=hasW_list h1;obtain ⟨ns,rfl⟩:=items_int h3;have d6:ns.length<=n:=by
  unfold OpenLaw.pre at hc;have h4:(WTm.not (.lt (.lit (.int (n:Int))) (.len (.arg 0)))).holds [] { args:=[.list (ns.map .int)] }=true:=by
   have h4:=(holds_andW hc).1;rw [hn] at h4;exact h4
  have h5:=condW_of h4 (w_not (w_lt w_lit (w_len_list (w_arg rfl))));rw [List.length_map] at h5;refine Nat.le_of_not_lt fun q=>?_
  have q':(n:Int)<((ns.length:Nat):Int):=by lia
  first
   | (rw [decide_eq_true q'] at h5;exact absurd h5 (by decide))
   | (simp at h5;lia)
 cases hwl with
 | cons w1 w2 =>
  cases w2;cases w1 with
  | list ho A7=>exact ⟨_,_,ns,rfl,rfl,ho,Zhi ns _ A7,d6⟩
theorem Zsv(l:OpenLaw)(args:List WData):l.row.toRowW.claim.post args (.bool true) args=true :=
 postW_of (r:=l.row.toRowW) (X:=(true ==true))
  (show WShape.has [] (.bool true) .bool=true by first | rfl | decide | simp [WShape.has,WShape.arms,WShape.armsAll])
  (show (WTm.eq .res (.lit (.bool true))).value [] { args:=args,res:=some (.bool true),after:=args }=some (.bool (true ==true)) from w_eq_bool (w_res rfl) w_lit) rfl
theorem attach_call{l:OpenLaw}{n:Nat}{q:Program}{C5:List Str}{XP:(Str->Option Value)->Heap->Prop}{YP:World->Heap->Prop}{d:DefRec}
  (hn:l.most=some n) (hdf:d.params.defaults=[])
  (call:∀(w:World) (s₀ s₁:Shared) (mg mb:Str->Option Value) (fa:Addr) (o:Obj) (pm cd u8:Value) (a:Addr) (vs:List Value) (ns:List Int),
   Ground q C5 [] XP w s₀ mg mb s₁.heap->YP w s₁.heap ->
   s₁.heap.get? fa=some o->o.data=.func (docDef d.name d.params d.body d.scope pm cd u8)->s₁.heap.CodeRec cd d.name->mg d.name=some (.ref fa) ->
   s₁.heap.get? a=some { cls:=.type "list",data:=.seq vs.toArray }->IntsAre vs ns->ns.length<=n->s₁.gens=#[] ->
   codeAny (model l.prog w) callerA (.call (.ref fa) ⟨[.ref a],[]⟩) (fun r s'=>r=.ok (.ret (.bool true))/\OldK s₁.heap s'.heap/\s'.os=s₁.os/\AllBare s'.gens) s₁) :
  WalkO q C5 XP YP l.row.toRowW d [] (fun f vs=>PySem.call f vs):=by
 intro w s₀ s₁ mg mb G Y fa o pm cd u8 dV kV ho hd E7 hD hmg hg args vals as S2 hlay hrd hwl hlo;obtain rfl:dV=.none:=Dflts.none hD hdf;obtain rfl:kV=.none:=Dflts.noKw hD;obtain ⟨a,vs,ns,rfl,rfl,hobj,N2,d6⟩:=Zsx hn S2 hwl;refine enter_call (codeAny_mono (call w s₀ s₁ mg mb fa o pm cd u8 a vs ns G Y ho (fd_plain hd) E7 hmg hobj N2 d6 hg) fun r s' hq=>?_);obtain ⟨rfl,h2,h3,h4⟩:=hq;exact ⟨.inl ⟨.bool true,.bool true,[],rfl,fun _=>rfl,.bool true,Zsv l _,fun _=>⟨List.Pairwise.nil,fun _ hm=>(nomatch hm)⟩⟩,h2,h3,h4⟩
section
variable {prog:Program} {w:World} {A:Around} {E:Value->Shared->Prop} {s:Shared} {K:Frag}
def Ydd(h:Heap)(L d:Addr):List (Addr×Obj):=(List.range h.objs.size).filterMap fun a=>if a=L\/a=d then none else (h.get? a).map fun o=>(a,o)
end
end Att
namespace L2
open PySem PySem.Spec PyProof.Rows
theorem Zlr:∀{vs:List Value} {ns:List Int},IntsAre vs ns->Ya (ns.map V.int) vs
 | _,_,.nil=>.nil
 | _,_,.cons n t h=>.cons ⟨t,rfl⟩ (Zlr h)
def Zzo(H:Hp):Prop:=∀b,H b=none\/∃o xs,H b=some (.frz o (.lst xs))
theorem Ztp{P:Program}{w:World}{K:Frag}{mg mb:Str->Option Value}{CX:CXT}{k:Nat}{fa a:Addr}{fd:FuncData}{x:Str}{sp:Sp}{s₁:Shared}{vs:List Value}{ns:List Int}
  (KX:K.In s₁.heap) (hns:s₁.heap.Ns mainGlobals mg) (hb:s₁.heap.Ns builtinsNs mb) (hbb:∀x:Str,x ≠ "__name__" ->mb x=bootBuiltins x) (hlim:s₁.heap.NoLimit) (hbm:Zyw mg s₁.heap) (hg:s₁.gens=#[])
  (ha:s₁.heap.get? a=some { cls:=.type "list",data:=.seq vs.toArray }) (hi:IntsAre vs ns) (hl:ns.length<=sizeLine) (hr:X0 k callerA)
  (F:∀base:Heap,K.In base->base.Ns mainGlobals mg->Zy P w K mg base CX k fa fd [x] sp) (hbind:∀(s:Shared) (u:Value),BindsTo s fd ⟨[u],[]⟩ [(x,u)])
  (M4:∀H:Hp,Zzo H->SqL K H a (ns.map V.int)->sp [.ref a] H (fun v _=>v=.bl true) fun _ _ _=>False)
  (hCX:∀H e s',CX [] H s₁ (fun _ _ _=>False) e s'->False) :
  codeAny (model P w) callerA (.call (.ref fa) ⟨[.ref a],[]⟩) (fun r s'=>r=.ok (.ret (.bool true))/\OldK s₁.heap s'.heap/\s'.os=s₁.os/\AllBare s'.gens) s₁:=by
 have rv:=Zlr hi;have lenV:=hi.length;have core:∀H:Hp,Zzo H->SqL K H a (ns.map V.int)->HOk P w H s₁.heap->(∀b,H b≠none->b=a)->(H a≠none->K.lookup a=none) ->
   codeAny (model P w) callerA (.call (.ref fa) ⟨[.ref a],[]⟩) (fun r s'=>r=.ok (.ret (.bool true))/\OldK s₁.heap s'.heap/\s'.os=s₁.os/\AllBare s'.gens) s₁:=by
  intro H hO hS hok hA hK;have C8:∀{b:Addr} {o:Obj},s₁.heap.get? b=some o->H b=none->(Zly s₁.heap H).get? b=some o:=fun e n=>Zu3 e n
  have noA:∀{b:Addr} {o:Obj} {es:Array DictEntry} {ep:Nat},s₁.heap.get? b=some o->o.data=.dict es ep->H b=none:=fun {b o es ep} e d=>by
   cases q:H b with
   | none=>rfl
   | some u =>
    have e':b=a:=hA b (by rw [q];simp);subst e';rw [ha] at e;cases e;have d':Data.seq vs.toArray _=Data.dict es ep:=d;cases d'
  have nsK:∀{b:Addr} {m:Str->Option Value},s₁.heap.Ns b m->(Zly s₁.heap H).Ns b m:=fun {b m} ⟨o,es,ep,e,d,r⟩=>⟨o,es,ep,C8 e (noA e d),d,r⟩
  have hKb:K.In (Zly s₁.heap H):=fun b o e=>C8 (KX b o e) (by
   cases q:H b with
   | none=>rfl
   | some u =>
    have e':b=a:=hA b (by rw [q];simp);subst e';rw [hK (by rw [q];simp)] at e;cases e)
  have hM:Mod K mg (Zly s₁.heap H):=⟨hKb,nsK hns,⟨mb,nsK hb,hbb⟩,let ⟨mc,h1,h2⟩:=hlim;⟨mc,nsK h1,h2⟩,by
   obtain ⟨bm,ob,b1,b2,b3,b4,b5,b6⟩:=hbm;refine ⟨bm,ob,b1,b2,C8 b3 ?_,b4,b5,b6⟩;cases q:H bm with
   | none=>rfl
   | some u =>
    have e':bm=a:=hA bm (by rw [q];simp);subst e';rw [ha] at b3;cases b3;cases b6⟩
  have e0:Zox P w K mg (Zly s₁.heap H) callerA [] s₁ H:=⟨rfl,hM,fun b o e=>Zw4 e,Nat.le_of_eq (Zs7 _ _),trivial,fun b hb=>absurd (show b∈([]:List Addr) from hb) (by simp),hok,.of_eq hg⟩
  refine codeAny_mono ((F _ hKb (nsK hns)).run callerA [] s₁ H ⟨[.ref a],[]⟩ [.ref a] [.ref a] _ _ hr e0 (hbind s₁ (.ref a)) (.cons rfl .nil) (M4 H hO hS)) fun r s' h=>?_
  cases r with
  | error e=>exact (hCX H e s' h).elim
  | ok fl =>
   cases fl with
   | next=>exact False.elim h
   | brk=>exact False.elim h
   | cont=>exact False.elim h
   | ret u =>
    obtain ⟨v,H',os,bare,un,F0,r',q⟩:=h;have q':v=.bl true:=q;subst q';obtain rfl:u=Value.bool true:=r';refine ⟨rfl,OldK.of_keep fun b o e=>?_,os,bare⟩;cases q:H b with
    | none=>exact un.keep b o e q (by intro z;exact absurd (show b∈([]:List Addr) from z) (by simp)) (by simp)
    | some u =>
     rcases hO b with z|⟨ob,xs,z⟩
     ·rw [q] at z;cases z
     ·have z2:=un.frzs b ob _ z;obtain ⟨e1,_⟩:=hok b _ z;obtain ⟨e2,_⟩:=F0 b _ z2;rw [e] at e1;cases e1;exact e2
 cases hk:K.lookup a with
 | some o =>
  have e:=KX a o hk;rw [ha] at e;cases e;refine core (fun _=>none) (fun _=>.inl rfl) (.inr ⟨_,vs.toArray,_,hk,rfl,rfl,rfl,by rw [List.size_toArray,lenV];exact hl,by simpa using rv⟩) (fun b u z=>by have z':(none:Option HO)=some u:=z;cases z') (fun b z=>absurd rfl z) fun z=>absurd rfl z
 | none =>
  refine core (fun b=>if b=a then some (.frz { cls:=.type "list",data:=.seq vs.toArray } (.lst (ns.map V.int))) else none) (fun b=>?_) (.inl (.inr ⟨{ cls:=.type "list",data:=.seq vs.toArray },if_pos rfl⟩)) (fun b u z=>?_) (fun b z=>?_) fun _=>hk
  ·by_cases hb:b=a
   ·exact .inr ⟨_,_,if_pos hb⟩
   ·exact .inl (if_neg hb)
  ·by_cases hb:b=a
   ·have z':=(if_pos hb).symm.trans z;cases z';subst hb;exact ⟨ha,by rw [List.length_map];exact hl,vs,_,rv,ha⟩
   ·have z':=(if_neg hb).symm.trans z;cases z'
  ·by_cases hb:b=a
   ·exact hb
   ·exact absurd (if_neg hb) z
end L2
namespace L2
open PySem PySem.Spec PyProof.Rows
theorem walk_of{l:PySem.W.OpenLaw}{n k:Nat}{q:Program}{C5:List Str}{XP:(Str->Option Value)->Heap->Prop}{YP:World->Heap->Prop}{d:DefRec}{K:Params->Frag}{CX:World->CXT}{sp:World->Sp}{x:Str}
  (hn:l.most=some n) (hn2:n<=sizeLine) (hdf:d.params.defaults=[]) (hr:X0 k callerA)
  (hY:∀(w:World) (h:Heap),YP w h->(K w.params).In h)
  (F:∀(w:World) (mg:Str->Option Value) (fa:Addr) (h:Heap),(K w.params).In h->h.Ns mainGlobals mg->mg d.name=some (.ref fa) ->
   ∃fd:FuncData,(∀(s:Shared) (u:Value),BindsTo s fd ⟨[u],[]⟩ [(x,u)]) /\
    ∀base:Heap,(K w.params).In base->base.Ns mainGlobals mg->Zy l.prog w (K w.params) mg base (CX w) k fa fd [x] (sp w))
  (M4:∀(w:World) (H:Hp) (a:Addr) (ns:List Int),ns.length<=n->Zzo H->SqL (K w.params) H a (ns.map V.int)->sp w [.ref a] H (fun v _=>v=.bl true) fun _ _ _=>False)
  (hCX:∀(w:World) (H:Hp) (s:Shared) (e:Value) (s':Shared),CX w [] H s (fun _ _ _=>False) e s'->False) :
  PySem.W.WalkO q C5 XP YP l.row.toRowW d [] (fun f vs=>PySem.call f vs):=by
 refine Att.attach_call hn hdf fun w s₀ s₁ mg mb fa o pm cd u8 a vs ns G Y ho hd E7 hmg hobj N2 d6 hg=>?_
 have KX:=hY w _ Y;obtain ⟨fd,hb,hF⟩:=F w mg fa _ KX G.T.g hmg;exact Ztp KX G.T.g G.T.b G.T.builtins G.T.nolimit G.T.bmain hg hobj N2 (Nat.le_trans d6 hn2) hr hF hb (fun H hO hS=>M4 w H a ns d6 hO hS) fun H e s'=>hCX w H s₁ e s'
end L2
/- THE LAST THEOREM (shape;LID,My.* are yours):
   My.Adr:a structure of the addresses that your layer names (classes,functions);My.Txt K t:a structure (Prop) of the equations over K;
   My.txt_mk:{K} {implicit addresses ..} (e1:nsIn K mainGlobals "law" =some (some (.ref f))) (e2:K.lookup f=some ⟨oc,od,.func (fnOf "law" "law" params body scope dV kV u8 pm an b7 ct),sl⟩) (e3:codeIn K b7 "law" =true) .. :∃t,My.Txt K t
(the tactic k_is has no namespace:write k_is) -/
namespace L2
open PySem PySem.Spec PyProof.Rows
def Yx(s:Stmt)(j:Nat):Stmt:=match s with
 | .ClassDef _ _ _ body _ _ _ _ _ _ _=>body.getD j (.Pass ⟨0,0,0,0⟩)
 | _=>.Pass ⟨0,0,0,0⟩
def Xh(s:Stmt):Arguments:=match s with
 | .FunctionDef _ a _ _ _ _ _ _ _ _=>a
 | _=>{ posonlyargs:=[],args:=[],vararg:=none,kwonlyargs:=[],kw_defaults:=[],kwarg:=none,defaults:=[] }
def Yw(s:Stmt):List Stmt:=match s with
 | .FunctionDef _ _ b _ _ _ _ _ _ _=>b
 | _=>[]
def Zg(s:Stmt):Scope:=match s with
 | .FunctionDef _ _ _ _ _ _ sc _ _ _=>sc
 | _=>{ kind:=.function,names:=[],isGenerator:=false,isCoroutine:=false }
abbrev CX0:CXT:=fun _ _ _ _ _ _=>False
abbrev E0:XK:=fun _ _ _=>False
theorem Z2{X:Cx}:Zbo CX0 X E0:=fun _ _ _ _ _ _ _ h=>h.elim
structure Fun(K:Frag)(x a8:Str)(st:Stmt)(f:Addr)(fd:FuncData):Prop where
 ex:∃(oc:Value) (od:Option Addr) (kV u8 pm:Value) (an:Option Addr) (b7 ct:Value) (F1:Array (Option Value)),
  fd=fnOf x a8 (Xh st) (Yw st) (Zg st) .none kV u8 pm an b7 ct/\K.lookup f=some ⟨oc,od,.func fd,F1⟩/\codeIn K b7 a8=true
 kp:keepIn K (.ref f)=true
section
variable {P:Program} {w:World} {K:Frag} {mg:Str->Option Value} {base:Heap}
theorem Fun.ok{x a8:Str}{st:Stmt}{f:Addr}{fd:FuncData}{N ps:List Str}{k:Nat}{sp:Sp}(F:Fun K x a8 st f fd)(S:Zo N ps (Zg st))(len:∀vs H Q E,sp vs H Q E->vs.length=ps.length)
  (u9:∀(b7:Value) (A:Around) (outer:List Env) (s:Shared) (H:Hp) (vs:List V) (Q:VK) (E:XK),X0 k (A.deeper (envOfC a8 (Zg st) s.heap.objs.size f b7))->sp vs H Q E ->
   ∃t,PSs (Zea CX0 P w K mg base N a8 (Zg st) f b7 A outer s H E).nox (Yw st) t/\t { nx:=fun _ H'=>Q .non H',rt:=Q } (start N vs) H):Zy P w K mg base CX0 (k+1) f fd ps sp:=by
 obtain ⟨oc,od,kV,u8,pm,an,b7,ct,F1,rfl,lk,E7⟩:=F.ex;refine Zua lk E7 S len fun A outer s H vs Q E hr M4=>?_
 obtain ⟨t,h,q⟩:=u9 b7 A outer s H vs Q E hr M4;exact ⟨t,h.nox,q⟩
theorem Fun.binds{x a8:Str}{st:Stmt}{f:Addr}{fd:FuncData}{ps:List Str}(F:Fun K x a8 st f fd)
  (h:∀(kV u8 pm:Value) (an:Option Addr) (b7 ct:Value) (us:List Value),us.length=ps.length->bindArgs (fnOf x a8 (Xh st) (Yw st) (Zg st) .none kV u8 pm an b7 ct) ⟨us,[]⟩=pure (ps.zip us)):Za1 K fd ps []:=by
 obtain ⟨oc,od,kV,u8,pm,an,b7,ct,F1,rfl,lk,E7⟩:=F.ex;exact .all (h kV u8 pm an b7 ct)
theorem Zpr{x a8:Str}{st:Stmt}{f:Addr}{oc:Value}{od an:Option Addr}{F1:Array (Option Value)}{kV u8 pm b7 ct:Value}(l:K.lookup f=some ⟨oc,od,.func (fnOf x a8 (Xh st) (Yw st) (Zg st) .none kV u8 pm an b7 ct),F1⟩)
  (c:codeIn K b7 a8=true) (k:keepIn K (.ref f)=true):Fun K x a8 st f (fnOf x a8 (Xh st) (Yw st) (Zg st) .none kV u8 pm an b7 ct):=⟨⟨oc,od,kV,u8,pm,an,b7,ct,F1,rfl,l,c⟩,k⟩
end
theorem Xi{A:Around}{k:Nat}(hr:X0 k A):A.units+1<cLine:=Nat.lt_of_le_of_lt (Nat.add_le_add_left (by decide:1<=64) _) hr.units
theorem Zw{n:Nat}(h:n<=1000):n<sizeLine:=Nat.lt_of_le_of_lt h (by decide)
section
variable {X:Cx}
theorem pv(i:Nat){x:Str}{pos:Pos}(hN:X.N[i]? =some x:=by rfl)(hv:Vis X.env.scope x:=by first | exact Or.inl rfl | exact Or.inr (Or.inl rfl) | exact Or.inr (Or.inr rfl)) (hd:(x ==("__debug__" :Str))=false:=by decide)
  (E7:(x ==("__classdict__" :Str))=false:=by decide):PE X (.Name x pos) (Zkh i):=Yao hN hv hd E7
theorem Zsd:Xj X (.builtin "len") (fun xs H Q=>∃a kvs,xs=[V.ref a]/\H a=some (.dK kvs)/\Q (.int kvs.length) H):=by
 intro a6 s σ H xs us Q I r h;obtain ⟨a,kvs,rfl,ha,q⟩:=h;obtain ⟨u,rfl,ru⟩:=Zci r;cases ru;exact Ybe I (.inl ha) fun t s' I'=>⟨.int kvs.length,H,I',⟨t,rfl⟩,q⟩
end
theorem Zp0{A B:Prop}(h:B):if false=true then A else B:=by
 rw [if_neg Bool.false_ne_true];exact h
theorem Zhy{A B:Prop}(h:A):if true=true then A else B:=by
 rw [if_pos rfl];exact h
theorem Ye{c A B:Prop}[Decidable c](h1:c->A)(h2:¬c->B):if c then A else B:=by
 by_cases h:c
 ·rw [if_pos h];exact h1 h
 ·rw [if_neg h];exact h2 h
def Same(H H':Hp):Prop:=∀b o,H b=some o->H' b=some o
theorem Same.refl(H:Hp):Same H H:=fun _ _ h=>h
theorem Same.trans{H H1 H2:Hp}(a:Same H H1)(b:Same H1 H2):Same H H2:=fun c o h=>b c o (a c o h)
theorem Same.free{H H':Hp}(e:Same H H'){l:Addr}(h:H' l=Option.none):H l=Option.none:=by
 cases q:H l with
 | none=>rfl
 | some o =>
  rw [e l o q] at h;cases h
theorem Same.seq{K:Frag}{H H':Hp}{a:Addr}{xs:List V}(e:Same H H')(h:SqL K H a xs):SqL K H' a xs:=by
 rcases h with (h|⟨o,h⟩)|h
 ·exact .inl (.inl (e _ _ h))
 ·exact .inl (.inr ⟨o,e _ _ h⟩)
 ·exact .inr h
section
variable {κ:Type} [DecidableEq κ]
theorem Zxv{kvs:List (κ×V)}{k:κ}{v:V}(h:Yv kvs k=some v):k∈kvs.map (·.1):=by
 have q:(kvs.any fun kv=>decide (kv.1=k))=true:=by
  rw [Zfm,h]
  all_goals rfl
 obtain ⟨p,hp,e⟩:=List.any_eq_true.mp q;exact List.mem_map.mpr ⟨p,hp,of_decide_eq_true e⟩
end
end L2
section
namespace L2
open PySem PySem.Spec PyProof.Rows
section
variable {prog:Program} {w:World} {A:Around} {R:Result->Shared->Prop} {s:Shared}
theorem Zap{L8 x5 k8:Expr}{F2:List Expr}{scope:Scope}{pos:Pos}{it K8:Value}{env:Env}(I:Nat->Shared->Prop)
  (turn:∀n s,I n s->wpAny (model prog w) A (pyNext it) (fun r s₁=>match r with
   | none=>R (.ok .next) s₁
   | some v=>wpAny (model prog w) A (letOwnedTupleGo x5 it v) (fun _ s₁'=>wpAny (model prog w) A (assign x5 env v) (fun _ s₂ =>
     wpAny (model prog w) A (forIn F2 true fun c r=>if r=true then do let ok <-isTrue c env (eval c env);pure (ForInStep.yield ok) else pure (ForInStep.yield r)) (fun ok s₃ =>
      if ok=true then wpAny (model prog w) A (eval L8 env) (fun x s₄ =>
       wpAny (model prog w) A (call (.builtin "list.append") [K8,x]) (fun _ s₅=>∃m,m<n/\I m s₅) (fun _ _=>False) s₄) (fun _ _=>False) s₃
      else ∃m,m<n/\I m s₃) (fun _ _=>False) s₂) (fun _ _=>False) s₁') (fun _ _=>False) s₁) (fun _ _=>False) s)
  (n:Nat) (h:I n s) :
  codeAny (model prog w) A (.compLoop (.ListComp L8 [⟨x5,k8,F2,0⟩] scope pos) 0 it K8 env) R s:=by
 refine codeAny_loop rfl I (fun n s hI=>?_) n h;show wpAny _ A ((compTurn (.ListComp L8 [⟨x5,k8,F2,0⟩] scope pos) 0 it K8 env).onRaise (fun x=>do noteFrame x env;theTreesLotGoes x)) _ _ s;refine wpAny_noted ?_;rw [compTurn_list];refine wpAny_bind (wpAny_standAt (wpAny_bind (wpAny_mono (turn n s hI) (fun r s₁ h₁=>?_) fun _ _ h'=>h'.elim)));cases r with
 | none=>exact wpAny_pure h₁
 | some v =>
  refine wpAny_bind (wpAny_mono h₁ (fun _ s₁' h₁'=>?_) fun _ _ h'=>h'.elim);refine wpAny_bind (wpAny_mono h₁' (fun _ s₂ h₂=>wpAny_bind (wpAny_mono h₂ (fun ok s₃ h₃=>?_) fun _ _ h'=>h'.elim)) fun _ _ h'=>h'.elim);cases ok with
  | false=>exact wpAny_pure ⟨rfl,h₃⟩
  | true =>
   exact wpAny_bind (wpAny_bind (wpAny_mono h₃ (fun x s₄ h₄=>wpAny_bind (wpAny_mono h₄ (fun _ s₅ h₅=>wpAny_pure (wpAny_pure ⟨rfl,h₅⟩)) fun _ _ h'=>h'.elim)) fun _ _ h'=>h'.elim))
end
def Y3(X:Cx)(scope:Scope)(cl:List (Str×Addr))(N':List Str)(s:Shared)(H:Hp)(C:Addr)(ex:List Addr):Cx where
 prog:=X.prog
 w:=X.w
 K:=X.K
 mg:=X.mg
 base:=X.base
 A:=X.A
 N:=N'
 s₀:=s
 H₀:=H
 env:=compEnvC scope cl C X.env
 outer:=X.stack
 stack:=X.stack
 ex:=ex
 fn:=fun _=>false
 calm:=X.calm
 pn:=[]
 xe:=fun _ _=>False
structure Z5(X:Cx)(scope:Scope)(cl:List (Str×Addr))(N':List Str)(fr:St->St):Prop where
 kind:scope.kind=.function
 cell:∀y∈scope.names,y.2 ≠ .cell
 names:∀y∈scope.names,y.2=.local->scope.names.lookup y.1=some .local
 clos:closureFor scope X.env=pure cl
 sub:∀x c,cl.lookup x=some c->X.env.cells.lookup x=some c
 has:∀x,((relabel scope X.env).names.lookup x=some .cell\/(relabel scope X.env).names.lookup x=some .free)->∃c,cl.lookup x=some c
 len:∀σ:St,σ.length=X.N.length->(fr σ).length=N'.length
 fr:∀(σ:St) (i:Nat) (x:Str) (v:V),N'[i]? =some x->(fr σ)[i]? =some (some v)->Vis (relabel scope X.env) x ->
  ((relabel scope X.env).names.lookup x=some .cell\/(relabel scope X.env).names.lookup x=some .free) /\
  (X.env.kindOf x=some .cell\/X.env.kindOf x=some .free)/\∃j:Nat,X.N[j]? =some x/\σ[j]? =some (some v)
def X5(a b:St):Prop:=∀(i:Nat) (v:V),a[i]? =some (some v)->b[i]? =some (some v)
theorem X5.set{a:St}{i:Nat}{v:V}(h:a[i]? =some none):X5 a (a.set i (some v)):=fun j u e=>by
 by_cases hj:i=j
 ·subst hj;rw [h] at e;cases e
 ·rw [List.getElem?_set_ne hj];exact e
theorem X5.trans{a b c:St}(h:X5 a b)(k:X5 b c):X5 a c:=fun i v e=>k i v (h i v e)
def PF(X:Cx)(F2:List Expr)(t:TT):Prop :=
 ∀(a6:List (Addr×Obj)) (s:Shared) (σ:St) (H:Hp) (Q:Bool->Hp->Prop),Inv X a6 σ H s->t σ H Q ->
  wpAny (model X.prog X.w) X.A (forIn F2 true fun c r=>if r=true then do let ok <-isTrue c X.env (eval c X.env);pure (ForInStep.yield ok) else pure (ForInStep.yield r)) (TP X a6 σ Q) X.xe s
def Zxz:TT:=fun _ H Q=>Q true H
theorem Wl{X:Cx}:PF X [] Zxz:=fun _ _ _ H _ I h=>wpAny_tests_nil ⟨H,I,h⟩
theorem Ze8{X:Cx}{c:Expr}{t:TT}(h:PT X c t):PF X [c] t:=fun a6 s σ H Q I hq=>wpAny_tests_one (h a6 s σ H Q I hq)
def Zdp(J:It)(fr:St->St)(g:TG)(tf:TT)(te:TE)(Q:VK)(σ:St)(H1:Hp)(D:Addr):Prop :=
 ∃W:Nat->Nat->List V->Hp->Prop,(∃m,W 0 m [] (upd H1 D (.lst [])))/\∀i m ys H,W i m ys H ->
  (J.stop i H/\Q (.ref D) H)\/(J.go i H/\∃N:List V->Hp->Prop,(∀C6 H',N C6 H'->∃m',m'<m/\W (i+1) m' C6 H') /\
   ∀x H',J.yld i H x H'->g x (fr σ) H' fun σ2 H2=>X5 (fr σ) σ2/\tf σ2 H2 fun b H3 =>
    if b=true then te σ2 H3 fun y H4=>H4 D=some (.lst ys)/\ys.length<sizeLine/\N (ys++[y]) (upd H4 D (.lst (ys++[y]))) else N ys H3)
def Zyv(wi:TI)(fr:St->St)(g:TG)(tf:TT)(te:TE):TE:=fun σ H Q=>wi σ H fun J H1=>∀D,H1 D=none->Zdp J fr g tf te Q σ H1 D
section
variable {X:Cx} {a6:List (Addr×Obj)} {σ:St} {H:Hp} {s:Shared} {scope:Scope} {cl:List (Str×Addr)} {N':List Str} {fr:St->St} {C:Addr} {fp:List Addr}
theorem Zxi(I:Inv X a6 σ H s)(S:Z5 X scope cl N' fr)(hC:s.heap.objs.size<=C)(hf:∀b∈fp,Zhu X a6 H b)(ho:∀b∈fp,∃o,s.heap.get? b=some o):(Y3 X scope cl N' s H C fp).Ok where
 mod:=I.ok.mod
 kind:=S.kind
 glob:=I.ok.glob
 blt:=I.ok.blt
 above:=hC
 inj:=fun x y c h1 h2=>I.ok.inj x y c (S.sub x c h1) (S.sub y c h2)
 has:=fun x h=>S.has x h
 cab:=fun x c h=>absurd (show false=true from h) Bool.false_ne_true
 hd:=I.ok.hd
 frames:=I.ok.frames
 stk:=.inl rfl
 exf:=fun b hb=>by
  obtain ⟨o,e⟩:=ho b hb;refine ⟨Nat.ne_of_lt (Nat.lt_of_lt_of_le (Heap.lt_size e) hC),fun x c h=>(hf b hb).2.2.2.2.1 x c (S.sub x c h)⟩
 bs:=I.bs
 bsz:=Nat.le_trans I.ok.bsz I.sz
 noex:=fun b o e hb=>by
  rcases (hf b hb).2.2.2.1 with z|z
  ·exact I.ok.noex b o e z
  ·exact absurd (Nat.lt_of_lt_of_le (Heap.lt_size e) (Nat.le_trans I.ok.bsz z)) (Nat.lt_irrefl _)
 exfs:=fun b hb z=>by
  rcases List.mem_cons.mp (I.stkSub b z) with q|q
  ·exact (hf b hb).2.1 q
  ·exact (hf b hb).2.2.1 q
 funs:=I.stack
 frf:=I.stkFree
theorem Zjq{h₁:Heap}{m₁:Str->Option Value}{tk:Nat}{D:Addr}(I:Inv X a6 σ H s)(S:Z5 X scope cl N' fr)(hC:s.heap.objs.size<C)(hD:D=s.heap.objs.size)(hf:∀b∈fp,Zhu X a6 H b)(ho:∀b∈fp,∃o,s.heap.get? b=some o)
  (y3:∀b o,s.heap.get? b=some o->h₁.get? b=some o) (hl:h₁.get? D=some { cls:=.type "list",data:=.seq ([]:List Value).toArray 0 }) (hn:h₁.Ns C m₁) (hCz:h₁.objs.size<=C+1) :
  Inv (Y3 X scope cl N' s H C fp) [] (fr σ) (upd H D (.lst [])) { s with heap:=h₁,toks:=tk }:=by
 have fD:H D=none:=I.hok.fresh (Nat.le_of_eq hD.symm);have fC:H C=none:=I.hok.fresh (Nat.le_of_lt hC);have hDC:D≠C:=by rw [hD];exact Nat.ne_of_lt hC
 refine ⟨Zxi I S (Nat.le_of_lt hC) hf ho,rfl,I.bare,Un.laid y3 (Nat.le_of_eq hD.symm) fD,⟨m₁,hn,fun i x v e1 e2 e3=>?_⟩,fun x c e=>?_,?_,fun x c e=>?_,fun p hp=>absurd (show p∈([]:List (Addr×Obj)) from hp) (by simp),?_,S.len σ I.len⟩
 ·obtain ⟨k1,k2,j,j1,j2⟩:=S.fr σ i x v e1 e2 e3;obtain ⟨c,hc⟩:=S.has x k1;have hc':=S.sub x c hc;obtain ⟨m,_,hl'⟩:=I.loc;obtain ⟨u,r,l⟩:=hl' j x v j1 j2 (by rcases k2 with k|k;exact .inr (.inl k);exact .inr (.inr k));refine ⟨u,r,.inr ⟨k1,c,hc,?_⟩⟩;rcases l with ⟨k,_⟩|⟨_,c2,L7,o,z,d⟩
  ·rcases k2 with q|q <;>(rw [k] at q;cases q)
  ·rw [hc'] at L7;cases L7;exact ⟨o,y3 _ _ z,d⟩
 ·obtain ⟨v,o,z,d⟩:=I.cell x c (S.sub x c e);exact ⟨v,o,y3 _ _ z,d⟩
 ·show upd H D (.lst []) C=none;rw [Zh hDC.symm];exact fC
 ·show upd H D (.lst []) c=none;rw [Zh (fun z=>?_)]
  ·exact I.freeC x c (S.sub x c e)
  ·obtain ⟨v,o,q,d⟩:=I.cell x c (S.sub x c e);have:=Heap.lt_size q;rw [z,hD] at this;exact Nat.lt_irrefl _ this
 ·exact I.hok.laid y3 (Nat.le_of_eq hD.symm) ⟨Nat.zero_le _,[],0,.nil,hl⟩
theorem Znq{H':Hp}{s2:Shared}{h':Heap}(I:Inv X a6 σ H s)(hC:s.heap.objs.size<C)(hf:∀b∈fp,Zhu X a6 H b)(J:Inv (Y3 X scope cl N' s H C fp) [] (fr σ) H' s2)(hs:Heap.SameBut C s2.heap h') :
  Inv X a6 σ H' { s2 with heap:=h' }:=by
 have fC:H' C=none:=J.free;have u:Un (frs X.stack) fp H H' s.heap s2.heap:=J.base;have ne:∀b o,s.heap.get? b=some o->b≠C:=fun b o e=>Nat.ne_of_lt (Nat.lt_trans (Heap.lt_size e) hC)
 have u2:Un (frs X.stack) fp H H' s.heap h':=by
  refine ⟨fun b o e n hb hx=>?_,fun b o e n hb hx=>?_,u.free,fun b o e hx=>?_,u.tups,u.frzs,u.tbls⟩
  ·rw [hs.2 b (ne b o e)];exact u.keep b o e n hb hx
  ·obtain ⟨sl,q⟩:=u.slot b o e n hb hx;exact ⟨sl,by rw [hs.2 b (ne b o e)];exact q⟩
  ·obtain ⟨o',q⟩:=u.there b o e hx;exact ⟨o',by rw [hs.2 b (ne b o e)];exact q⟩
 have hok:HOk X.prog X.w H' h':=fun b o e=>by
  refine (J.hok b o e).stay (fun c v hc q=>?_) (fun _ q=>q) fun _ _ q=>q
  have nc:c≠C:=by
   rintro rfl;rcases hc with z|z
   ·rw [<-z,fC] at e;cases e
   ·rw [fC] at z;cases z
  rw [hs.2 c nc];exact q
 refine I.call' (s':={ s2 with heap:=h' }) (ch:=fp) J.os u2 hok J.bare fun b hb=>?_
 obtain ⟨_,f1,f2,f3,f4,f5⟩:=hf b hb;exact ⟨f3,f1,f4,f5⟩
end
theorem Xu{X:Cx}{L8 tg k8:Expr}{F2:List Expr}{scope:Scope}{pos:Pos}{cl:List (Str×Addr)}{N':List Str}{fr:St->St}{wi:TI}{g:TG}{tf:TT}{te:TE}
  (hc:X.calm=true) (S:Z5 X scope cl N' fr) (hi:PI X tg k8 wi) (hg:∀s H C ex,PG (Y3 X scope cl N' s H C ex) tg g) (hf:∀s H C ex,PF (Y3 X scope cl N' s H C ex) F2 tf)
  (he:∀s H C ex,PE (Y3 X scope cl N' s H C ex) L8 te) (hs:∀x,foldedSetIterable k8 X.env x=pure x:=by intro _;rfl):PE X (.ListComp L8 [⟨tg,k8,F2,0⟩] scope pos) (Zyv wi fr g tf te):=by
 intro a6 s σ H Q I h;rw [eval_ListComp];refine wpAny_comprehension_free (use:=none) rfl hs S.clos S.kind S.names (thn (hi a6 s σ H _ I h) fun v s1 h1=>thn h1 fun itv s2 h2=>?_);obtain ⟨it,fp,tn,J,H2,e,I2,T,a9,f2,q⟩:=h2;subst e;refine wpAny_newObj_type (wpAny_newFunctionEnv S.cell (by intro y hy;simp at hy) (fun h₁ E8 A3=>?_) S.kind);dsimp only at E8 A3 ⊢;generalize hP:s2.heap.push { cls:=.type "list",dict:=none,data:=.seq ([]:List Value).toArray }=P at E8 A3 ⊢;have hPz:P.objs.size=s2.heap.objs.size+1:=by rw [<-hP,Heap.size_push]
 have Q8:s2.heap.objs.size<P.objs.size:=by rw [hPz];exact Nat.lt_succ_self _
 have J7:∀b∈fp,∃o,s2.heap.get? b=some o:=fun b hb=>let ⟨o,e,_⟩:=T.obj _ _ a9 b hb;⟨o,e⟩
 have D8:∀b,b<s2.heap.objs.size->b≠P.objs.size:=fun b hb=>Nat.ne_of_lt (Nat.lt_trans hb Q8)
 have y3:∀b o,s2.heap.get? b=some o->h₁.get? b=some o:=fun b o e=>A3.extBut b o (D8 b (Heap.lt_size e)) (Heap.get?_push_of_some _ (hP ▸ Heap.get?_push_of_some _ e))
 have L3:h₁.get? s2.heap.objs.size=some { cls:=.type "list",data:=.seq ([]:List Value).toArray 0 }:=A3.extBut _ _ (Nat.ne_of_lt Q8) (Heap.get?_push_of_some _ (hP ▸ Heap.get?_push_size _ rfl));have fD:H2 s2.heap.objs.size=none:=I2.hok.fresh (Nat.le_refl _);obtain ⟨W,⟨m0,w0⟩,turn⟩:=q s2.heap.objs.size fD;have hz:h₁.objs.size<=P.objs.size+1:=by
  have e:=A3.1;rw [Heap.size_push] at e;exact Nat.le_of_eq e
 have M5:tn 0 h₁:=T.keep _ _ _ a9 fun b hb o e=>y3 b o e
 have A5:∀{j5:List (Addr×Obj)} {H':Hp},(∀p∈j5,p.1∉fp)->(∀b∈fp,H' b=none)->∀b∈fp,Zhu (Y3 X scope cl N' s2 H2 P.objs.size fp) j5 H' b:=fun {j5 H'} hp hn b hb=>by
  obtain ⟨o,e⟩:=J7 b hb;obtain ⟨_,f1,f2',f3,f4,f5⟩:=f2 b hb;refine ⟨hn b hb,D8 b (Heap.lt_size e),fun z=>?_,.inl hb,fun x c h=>f4 x c (S.sub x c h),fun p hp' z=>?_⟩
  ·rcases List.mem_cons.mp (I2.stkSub b z) with q|q
   ·exact f1 q
   ·exact f2' q
  ·have Q4:p∈j5:=by simpa [Y3] using hp'
   exact hp p Q4 (by rw [z];exact hb)
 have loop:∀s3:Shared,s3={ s2 with heap:=h₁,toks:=s2.toks+([]:List (Str×Value)).length } ->
   codeAny (model X.prog X.w) X.A (.compLoop (.ListComp L8 [⟨tg,k8,F2,0⟩] scope pos) 0 (.ref it) (.ref s2.heap.objs.size) (compEnvC scope cl P.objs.size X.env)) (compPost (model X.prog X.w) X.A X.xe none (EP X a6 σ Q) (.ref s2.heap.objs.size) P.objs.size) s3:=by
  rintro s3 rfl;have I3:Inv (Y3 X scope cl N' s2 H2 P.objs.size fp) [] (fr σ) (upd H2 s2.heap.objs.size (.lst [])) { s2 with heap:=h₁,toks:=s2.toks+([]:List (Str×Value)).length }:=Zjq I2 S Q8 rfl f2 J7 y3 L3 E8 hz;refine Zap (fun n s'=>∃i ys H',Inv (Y3 X scope cl N' s2 H2 P.objs.size fp) [] (fr σ) H' s'/\tn i s'.heap/\(∀b∈fp,H' b=none)/\W i n ys H') ?_ m0 ⟨0,[],_,I3,M5,fun b hb=>?_,w0⟩
  ·rintro n s3 ⟨i,ys,H3,I3,i3,fr3,w3⟩;rcases turn i n ys H3 w3 with ⟨stop,qn⟩|⟨go,N,hN,step⟩
   ·refine thn (T.done (Y3 X scope cl N' s2 H2 P.objs.size fp) rfl rfl rfl hc i [] s3 (fr σ) H3 _ I3 (A5 (by simp) fr3) i3 stop) fun r s4 ⟨hr,I4⟩=>?_
    subst hr;obtain ⟨m4,hn4,_⟩:=I4.loc;exact ⟨m4,hn4,fun h' K9=>⟨.ref s2.heap.objs.size,H3,Znq I2 Q8 f2 I4 K9,rfl,qn⟩⟩
   ·refine thn (T.item (Y3 X scope cl N' s2 H2 P.objs.size fp) rfl rfl rfl hc i [] s3 (fr σ) H3 _ I3 (A5 (by simp) fr3) i3 go) fun r s4 ⟨u,hr,h4⟩=>?_
    subst hr;refine thn h4 fun _ s5 ⟨x,H5,I5,r5,y5,u6,fr5⟩=>?_
    have I5':=I5.pinned (A5 (by simp) fr5) (T.obj _ _ u6);refine thn (hg s2 H2 P.objs.size fp _ s5 (fr σ) H5 x u _ I5' r5 (step x H5 y5)) fun _ s6 ⟨σ6,H6,I6,kp,q6⟩=>?_
    refine thn (hf s2 H2 P.objs.size fp _ s6 σ6 H6 _ I6 q6) fun ok s7 ⟨H7,I7,q7⟩=>?_
    have x9:∀{σ8:St} {H8:Hp} {s8:Shared} {V0:List V},X5 (fr σ) σ8->Inv (Y3 X scope cl N' s2 H2 P.objs.size fp) ([]++Zgy fp s5.heap) σ8 H8 s8->N V0 H8 ->
      ∃m,m<n/\∃i ys H',Inv (Y3 X scope cl N' s2 H2 P.objs.size fp) [] (fr σ) H' s8/\tn i s8.heap/\(∀b∈fp,H' b=none)/\W i m ys H':=fun {σ8 H8 s8 V0} kp8 I8 n8=>by
     obtain ⟨m',hm,w8⟩:=hN V0 H8 n8;refine ⟨m',hm,i+1,V0,H8,(I8.unpinned).weak (by rw [I8.len];exact S.len σ I2.len) kp8,T.keep _ _ _ u6 fun b hb o e=>(I8.pin (b,o) (List.mem_append_right _ (List.mem_append_right _ (Zad hb e)))).1,fun b hb=>?_,w8⟩;obtain ⟨o,e,d⟩:=T.obj _ _ u6 b hb;exact (I8.pin (b,o) (List.mem_append_right _ (List.mem_append_right _ (Zad hb e)))).2.1
    cases ok with
    | false=>exact x9 kp I7 q7
    | true =>
     refine thn (he s2 H2 P.objs.size fp _ s7 σ6 H7 _ I7 q7) fun uy s8 ⟨y,H8,I8,r8,L0,hz8,q8⟩=>?_
     exact thn (Xf _ s8 σ6 H8 (.ref s2.heap.objs.size) [y] (.ref s2.heap.objs.size) [uy] (fun _ H9=>N (ys++[y]) H9) I8 rfl (.cons r8 .nil) ⟨_,ys,y,rfl,rfl,L0,hz8,q8⟩) fun _ s9 ⟨v9,H9,I9,_,q9⟩=>x9 kp I9 q9
  ·show upd H2 s2.heap.objs.size (.lst []) b=none;obtain ⟨o,e⟩:=J7 b hb;rw [Zh (Nat.ne_of_lt (Heap.lt_size e))];exact (f2 b hb).1
 exact codeAny_compStart_list (loop _ rfl) (T.self X.A 0 _ _ _ M5 (loop _ rfl))
section
variable {K:Frag} {a:Addr} {fr:St->St} {g:TG} {tf:TT} {te:TE} {Q:VK} {σ:St} {H1:Hp} {D:Addr}
def Zcj(fr:St->St)(g:TG)(tf:TT)(te:TE)(σ:St)(D:Addr)(x:V)(ys:List V)(H:Hp)(N:List V->Hp->Prop):Prop :=
 g x (fr σ) H fun σ2 H2=>X5 (fr σ) σ2/\tf σ2 H2 fun b H3=>if b=true then te σ2 H3 fun y H4=>H4 D=some (.lst ys)/\ys.length<sizeLine/\N (ys++[y]) (upd H4 D (.lst (ys++[y]))) else N ys H3
theorem Xr{xs:List V}(Pv:Nat->List V->Hp->Prop)(h0:Pv 0 [] (upd H1 D (.lst [])))(hl:∀i ys H,i<=xs.length->Pv i ys H->SqL K H a xs)
  (hs:∀i x ys H,xs[i]? =some x->Pv i ys H->Zcj fr g tf te σ D x ys H (Pv (i+1))) (hd:∀ys H,Pv xs.length ys H->Q (.ref D) H):Zdp (Itl K a) fr g tf te Q σ H1 D:=by
 refine ⟨fun i m ys H=>m=xs.length-i/\i<=xs.length/\Pv i ys H,⟨xs.length,by simp,Nat.zero_le _,h0⟩,?_⟩;rintro i m ys H ⟨rfl,hi,p⟩;have q:=hl i ys H hi p
 by_cases c8:i<xs.length
 ·refine .inr ⟨⟨xs,xs[i],q,by simp [c8]⟩,Pv (i+1),fun C6 H' p'=>⟨xs.length-(i+1),by lia,rfl,c8,p'⟩,fun x H' y=>?_⟩;obtain ⟨e,y⟩:=y;subst e;exact hs i x ys _ (y xs q) p
 ·have e:i=xs.length:=by lia
  subst e;exact .inl ⟨⟨xs,q,Nat.le_refl _⟩,hd ys H p⟩
theorem Ziq{xs:List V}(Pv:Nat->List V->Hp->Prop)(h0:Pv 0 [] (upd H1 D (.lst [])))(hl:∀i ys H,i<=xs.length->Pv i ys H->SqT K H a xs)
  (hs:∀i x ys H,xs[i]? =some x->Pv i ys H->Zcj fr g tf te σ D x ys H (Pv (i+1))) (hd:∀ys H,Pv xs.length ys H->Q (.ref D) H):Zdp (Itt K a) fr g tf te Q σ H1 D:=by
 refine ⟨fun i m ys H=>m=xs.length-i/\i<=xs.length/\Pv i ys H,⟨xs.length,by simp,Nat.zero_le _,h0⟩,?_⟩;rintro i m ys H ⟨rfl,hi,p⟩;have q:=hl i ys H hi p
 by_cases c8:i<xs.length
 ·refine .inr ⟨⟨xs,xs[i],q,by simp [c8]⟩,Pv (i+1),fun C6 H' p'=>⟨xs.length-(i+1),by lia,rfl,c8,p'⟩,fun x H' y=>?_⟩;obtain ⟨e,y⟩:=y;subst e;exact hs i x ys _ (y xs q) p
 ·have e:i=xs.length:=by lia
  subst e;exact .inl ⟨⟨xs,q,Nat.le_refl _⟩,hd ys H p⟩
theorem Zfb{lo:Int}{n:Nat}(Pv:Nat->List V->Hp->Prop)(h0:Pv 0 [] (upd H1 D (.lst [])))
  (hs:∀i ys H,i<n->Pv i ys H->Zcj fr g tf te σ D (.int (lo+i)) ys H (Pv (i+1))) (hd:∀ys H,Pv n ys H->Q (.ref D) H):Zdp (Itr lo n) fr g tf te Q σ H1 D:=by
 refine ⟨fun i m ys H=>m=n-i/\i<=n/\Pv i ys H,⟨n,by simp,Nat.zero_le _,h0⟩,?_⟩;rintro i m ys H ⟨rfl,hi,p⟩
 by_cases c8:i<n
 ·refine .inr ⟨c8,Pv (i+1),fun C6 H' p'=>⟨n-(i+1),by lia,rfl,c8,p'⟩,fun x H' y=>?_⟩;obtain ⟨e,y⟩:=y;subst e y;exact hs i ys _ c8 p
 ·have e:i=n:=by lia
  subst e;exact .inl ⟨Nat.le_refl _,hd ys H p⟩
def Its(x:Str):It:=⟨fun i _=>i<x.cps.size,fun i H v H'=>H'=H/\∃c,x.cps[i]? =some c/\v=.str ⟨#[c]⟩,fun i _=>x.cps.size<=i⟩
theorem Zuj{x:Str}(Pv:Nat->List V->Hp->Prop)(h0:Pv 0 [] (upd H1 D (.lst [])))
  (hs:∀i c ys H,x.cps[i]? =some c->Pv i ys H->Zcj fr g tf te σ D (.str ⟨#[c]⟩) ys H (Pv (i+1))) (hd:∀ys H,Pv x.cps.size ys H->Q (.ref D) H):Zdp (Its x) fr g tf te Q σ H1 D:=by
 refine ⟨fun i m ys H=>m=x.cps.size-i/\i<=x.cps.size/\Pv i ys H,⟨x.cps.size,by simp,Nat.zero_le _,h0⟩,?_⟩;rintro i m ys H ⟨rfl,hi,p⟩
 by_cases c8:i<x.cps.size
 ·refine .inr ⟨c8,Pv (i+1),fun C6 H' p'=>⟨x.cps.size-(i+1),by lia,rfl,c8,p'⟩,fun v H' y=>?_⟩;obtain ⟨e,c,hc,ev⟩:=y;subst e ev;exact hs i c ys _ hc p
 ·have e:i=x.cps.size:=by lia
  subst e;exact .inl ⟨Nat.le_refl _,hd ys H p⟩
end
theorem Zpa{P:Program}{w:World}{K:Frag}{tg:Expr}(it:Addr)(x:Str)(t:Tok):Zok P w K tg (Its x) [it] it (fun i h=>h.IsStrIter it "str_ascii_iterator" x t i) where
 mem:=by simp
 obj:=fun i h st b hb=>by
  have e:b=it:=by simpa using hb
  subst e;obtain ⟨o,e,c,d⟩:=st;exact ⟨o,e,fun v z=>by rw [d] at z;cases z⟩
 keep:=fun i h h' st k=>by
  obtain ⟨o,e,r⟩:=st;exact ⟨o,k it (by simp) o e,r⟩
 item:=by
  intro X hP hw hK hc i a6 s σ H E I hf st hg;subst hP hw hK;obtain ⟨f0,f1,f2,f3,f4,f5⟩:=hf it (by simp);have c8:i<x.cps.size:=hg;refine wpAny_pyNext_ascii_item st (c:=x.cps[i]) (by simp [c8]) fun h' r6 sb=>?_
  have I1:Inv X a6 σ H { s with heap:=h',toks:=s.toks+1 }:=I.turned (fun b o hb e=>(sb.2 b hb).trans e) f0 f1 f3 f4 f5;obtain ⟨o,e,c,d⟩:=id r6;exact ⟨_,rfl,Zm9 (s:={ s with heap:=h',toks:=s.toks+1 }) e c d (by decide) ⟨.str ⟨#[x.cps[i]]⟩,H,I1,⟨_,rfl⟩,⟨rfl,_,by simp [c8],rfl⟩,r6,fun b hb=>(hf b hb).1⟩⟩
 done:=by
  intro X hP hw hK hc i a6 s σ H E I hf st hg;subst hP hw hK;obtain ⟨f0,f1,f2,f3,f4,f5⟩:=hf it (by simp);have F3:x.cps.size<=i:=hg;exact wpAny_pyNext_ascii_end (I.ok.hd hc) st (by simp [F3]) fun h' eb=>⟨rfl,I.turned (t':=s.toks) (fun b o hb e=>eb b o hb e) f0 f1 f3 f4 f5⟩
 self:=fun _ _ _ _ _ st h=>wpAny_pyIter_striter_ascii st h
def Yc4(tl:TE):TI:=fun σ H R=>tl σ H fun v H1=>∃x,v=.str x/\x.cps.all (· < 128)=true/\R (Its x) H1
theorem Zzb{X:Cx}{tg l:Expr}{tl:TE}(hl:PE X l tl):PI X tg l (Yc4 tl):=by
 intro a6 s σ H R I h;refine thn (hl a6 s σ H _ I h) fun v s1 ⟨y,H1,I1,r1,q1⟩=>?_
 obtain ⟨x,e,ha,q⟩:=q1;subst e;obtain ⟨t,rfl⟩:=r1;refine wpAny_pyIter_ascii ha ?_;refine ⟨s1.heap.objs.size,[s1.heap.objs.size],_,_,H1,rfl,I1.kept (t':=s1.toks) fun b o e=>Heap.get?_push_of_some _ e,Zpa _ x t,⟨_,Heap.get?_push_size _ rfl,rfl,rfl⟩,fun b hb=>?_,q⟩;have e:b=s1.heap.objs.size:=by simpa using hb
 subst e;exact I1.fpOk (Nat.le_refl _) (I1.hok.fresh (Nat.le_refl _))
theorem Ya.at_bool:∀{bs:List Bool} {us:List Value} {i:Nat} {u:Value},Ya (bs.map V.bl) us->us[i]? =some u->∃b,bs[i]? =some b/\u=.bool b
 | [],_,_,_,.nil,e=>by simp at e
 | b ::bs,_,0,u,.cons r _,e=>by
  simp at e;subst e;exact ⟨b,rfl,r⟩
 | b ::bs,_,i+1,u,.cons _ t,e=>by
  obtain ⟨c,h1,h2⟩:=Ya.at_bool (i:=i) t (by simpa using e);exact ⟨c,by simpa using h1,h2⟩
theorem Zsu(bs:List Bool):(List.range bs.length).all (fun i=>bs.getD i false)=bs.all id:=by
 have e:(List.range bs.length).map (fun i=>bs.getD i false)=bs:=by
  apply List.ext_getElem
  ·simp
  ·intro i h1 h2;simp at h1;simp [h1]
 calc (List.range bs.length).all (fun i=>bs.getD i false)=((List.range bs.length).map (fun i=>bs.getD i false)).all id:=by rw [List.all_map];rfl
  _=bs.all id:=by rw [e]
theorem Zis{X:Cx}(hc:X.calm=true):Xj X (.builtin "all") (fun xs H Q=>∃(p:Addr) (bs:List Bool),xs=[.ref p]/\SqL X.K H p (bs.map V.bl)/\Q (.bl (bs.all id)) H):=by
 intro a6 s σ H xs us Q I r h;obtain ⟨p,bs,rfl,hq,q⟩:=h;obtain ⟨u,rfl,ru⟩:=Zci r;cases ru;obtain ⟨a7,rv,pl,hz⟩:=I.list hq;have c8:p<s.heap.objs.size:=by obtain ⟨_,_,e,_⟩:=pl;exact Heap.lt_size e
 refine call_all_walk (wpAny_pyIter_list pl.isList ?_);refine ⟨s.heap.objs.size,_,_,a7.toArray.size,_,_,fun i=>bs.getD i false,rfl,Walks.list (A:=X.A.in1) (show X.A.in1.handled=none from I.ok.hd hc) s.heap.objs.size p (Nat.ne_of_lt c8) a7.toArray,⟨⟨_,Heap.get?_push_size _ rfl,rfl,rfl⟩,pl.isList.push _⟩,?_,fun h' tk k=>?_⟩
 ·intro i v s' Q' E' hv hQ;obtain ⟨b,hb,rfl⟩:=Ya.at_bool (i:=i) rv (by simpa using hv);refine wpAny_truthy_bool ?_;have e:bs.getD i false=b:=by rw [List.getD_eq_getElem?_getD,hb];rfl
  have hQ':Q' (bs.getD i false) s':=hQ;rw [e] at hQ';exact hQ'
 ·have hl:=rv.length;rw [List.length_map] at hl;refine ⟨.bl (bs.all id),H,?_,?_,q⟩
  ·refine I.kept (t':=tk) fun b o e=>k b o ?_ (Heap.get?_push_of_some _ e)
   have:=Heap.lt_size e;intro z;have z':b=s.heap.objs.size:=by simpa using z
   rw [z'] at this;exact Nat.lt_irrefl _ this
  ·show Value.bool ((List.range a7.toArray.size).all fun i=>bs.getD i false)=Value.bool (bs.all id);rw [List.size_toArray,<-hl,Zsu]
theorem Zn2{X:Cx}:Xj X (.builtin "isinstance") (fun xs H Q=>∃x c b t,xs=[x,c]/\W6 X.K H x t/\((∃n,c=.ty n/\kitOne X.K t (.type n)=some b)\/∃a,c=.ref a/\kitOne X.K t (.ref a)=some b)/\Q (.bl b) H):=by
 intro a6 s σ H xs us Q I r h;obtain ⟨x,c,b,t,rfl,ty,k,q⟩:=h;obtain ⟨u,w',rfl,rx,D1⟩:=Zqh r;rcases k with ⟨n,rfl,k⟩|⟨a,rfl,k⟩
 ·cases D1;exact Zlf I rx ty k fun tk=>⟨.bl b,H,I.tok tk,rfl,q⟩
 ·cases D1;exact Zlf I rx ty k fun tk=>⟨.bl b,H,I.tok tk,rfl,q⟩
def Ycm:V->Option Int->Option Int->Hp->VK->Prop:=fun x lo hi H Q=>∃z,x=.str z/\z.length<=sizeLine/\Q (.str (Txt.slice z lo hi)) H
theorem Zzn{X:Cx}:SlR X Ycm:=by
 intro a6 s σ H x v vl vu lo hi sl Q I rx hs pl pu h;obtain ⟨z,rfl,hz,q⟩:=h;obtain ⟨t,rfl⟩:=rx;refine ⟨"str",_,F.slot_str_getitem.lookup,typeIs_str _ _ _,?_⟩;obtain ⟨o,ho,hc,hd⟩:=hs;cases pl with
 | none =>
  cases pu with
  | none=>exact wpAny_getItem_str_slice (l:=none) (u:=none) (st:=none) ⟨o,ho,hc,hd⟩ rfl (post_val_or_str ⟨Nat.le_trans (Txt.slice_le z none none) hz,fun t' k=>⟨.str (Txt.slice z none none),H,I.tok k,⟨t',rfl⟩,q⟩⟩)
  | int j tj=>exact wpAny_getItem_str_slice (l:=none) (u:=some (j,tj)) (st:=none) ⟨o,ho,hc,hd⟩ rfl (post_val_or_str ⟨Nat.le_trans (Txt.slice_le z none (some j)) hz,fun t' k=>⟨.str (Txt.slice z none (some j)),H,I.tok k,⟨t',rfl⟩,q⟩⟩)
 | int i ti =>
  cases pu with
  | none=>exact wpAny_getItem_str_slice (l:=some (i,ti)) (u:=none) (st:=none) ⟨o,ho,hc,hd⟩ rfl (post_val_or_str ⟨Nat.le_trans (Txt.slice_le z (some i) none) hz,fun t' k=>⟨.str (Txt.slice z (some i) none),H,I.tok k,⟨t',rfl⟩,q⟩⟩)
  | int j tj=>exact wpAny_getItem_str_slice (l:=some (i,ti)) (u:=some (j,tj)) (st:=none) ⟨o,ho,hc,hd⟩ rfl (post_val_or_str ⟨Nat.le_trans (Txt.slice_le z (some i) (some j)) hz,fun t' k=>⟨.str (Txt.slice z (some i) (some j)),H,I.tok k,⟨t',rfl⟩,q⟩⟩)
end L2
namespace L2
open PySem PySem.Spec PyProof.Rows
def Ycd(M:St->Hp->St->Hp->Prop)(t:TS):TS:=fun D σ H=>t { D with nx:=M σ H } σ H/\∀σ' H',M σ H σ' H'->D.nx σ' H'
theorem Zzx{X:Cx}{st:Stmt}{t:TS}(M:St->Hp->St->Hp->Prop)(h:PS X st t):PS X st (Ycd M t):=by
 intro a6 s σ H D I hq;refine thn (h a6 s σ H { D with nx:=M σ H } I hq.1) fun f s' q=>?_
 cases f with
 | next=>obtain ⟨σ',H',I',m⟩:=q;exact ⟨σ',H',I',hq.2 σ' H' m⟩
 | brk=>exact q
 | cont=>exact q
 | ret u=>exact q
end L2
namespace L2
open PySem PySem.Spec PyProof.Rows
def Ztn:Expr->Bool
 | .Starred .. =>false
 | _=>true
theorem Zsh{e:Expr}{es:List Expr}{env:Env}(h:Ztn e=true):starEach (e ::es) env=(false,eval e env) ::starEach es env:=by
 cases e <;>first
  | rfl
  | exact absurd h Bool.false_ne_true
theorem Zb{X:Cx}{e:Expr}{es:List Expr}{te:TE}{t:TA}(ha:PE X e te)(hr:PA X es t)(h:Ztn e=true:=by rfl):PA X (e ::es) (Zlc te t):=Zxy ha hr (Zsh h)
end L2
namespace L2
open PySem PySem.Spec PyProof.Rows
structure WSs(X:Cx)(b:List Stmt)(D:Zet)(σ:St)(H:Hp):Prop where
 run:∀(a6:List (Addr×Obj)) (s:Shared),Inv X a6 σ H s->wpAny (model X.prog X.w) X.A (execs b X.env) (SP X a6 D) X.xe s
structure WS(X:Cx)(st:Stmt)(D:Zet)(σ:St)(H:Hp):Prop where
 run:∀(a6:List (Addr×Obj)) (s:Shared),Inv X a6 σ H s->wpAny (model X.prog X.w) X.A (exec st X.env) (SP X a6 D) X.xe s
structure WE(X:Cx)(e:Expr)(σ:St)(H:Hp)(Q:VK):Prop where
 run:∀(a6:List (Addr×Obj)) (s:Shared),Inv X a6 σ H s->wpAny (model X.prog X.w) X.A (eval e X.env) (EP X a6 σ Q) X.xe s
section
variable {X:Cx} {b Zx:List Stmt} {st:Stmt} {e:Expr} {D:Zet} {σ:St} {H:Hp} {t:TS} {te:TE} {Q:VK}
theorem Zv:PSs X b (WSs X b):=fun a6 s _ _ _ I h=>h.run a6 s I
theorem Ydh:PS X st (WS X st):=fun a6 s _ _ _ I h=>h.run a6 s I
theorem Zto:PE X e (WE X e):=fun a6 s _ _ _ I h=>h.run a6 s I
theorem WSs.of(h:PSs X b t)(q:t D σ H):WSs X b D σ H:=⟨fun a6 s I=>h a6 s σ H D I q⟩
theorem WS.of(h:PS X st t)(q:t D σ H):WS X st D σ H:=⟨fun a6 s I=>h a6 s σ H D I q⟩
theorem WE.of(h:PE X e te)(q:te σ H Q):WE X e σ H Q:=⟨fun a6 s I=>h a6 s σ H Q I q⟩
theorem WSs.step(h:PS X st t)(q:t { D with nx:=WSs X Zx D } σ H):WSs X (st ::Zx) D σ H:=WSs.of (Zvh h Zv) q
theorem WSs.last(h:PS X st t)(q:t D σ H):WSs X [st] D σ H:=WSs.of (Zxg h) q
theorem WSs.cut(M:St->Hp->Prop)(h:WS X st { D with nx:=M } σ H)(k:∀σ' H',M σ' H'->WSs X Zx D σ' H'):WSs X (st ::Zx) D σ H:=by
 refine WSs.step (t:=Ycd (fun _ _=>M) (WS X st)) (Zzx (fun _ _=>M) Ydh) ⟨h,fun σ' H' m=>k σ' H' m⟩
end
end L2
namespace L2
open PySem PySem.Spec PyProof.Rows
end L2
namespace L2
open PySem PySem.Spec PyProof.Rows
end L2
end
section
namespace L2
open PySem PySem.Spec PyProof.Rows
def Zny{α:Type}(P:α->Prop):List α->Prop
 | []=>True
 | a ::l=>P a/\Zny P l
theorem Zny.mem{α:Type}{P:α->Prop}:∀{l:List α} {a:α},Zny P l->a∈l->P a
 | _ ::_,a,h,m=>by
  rcases List.mem_cons.mp m with rfl|m
  ·exact h.1
  ·exact Zny.mem h.2 m
theorem Za0{env:Env}:∀{names:List (Str×NameKind)} {x:Str},names.lookup x=some .free ->
  (names.map fun (n,k)=>if (k ==NameKind.free && env.scope.kind ==.function && env.kindOf n ==some .cell) then (n,NameKind.cell) else (n,k)).lookup x=some .cell \/
  (names.map fun (n,k)=>if (k ==NameKind.free && env.scope.kind ==.function && env.kindOf n ==some .cell) then (n,NameKind.cell) else (n,k)).lookup x=some .free
 | [],_,h=>by simp at h
 | (n,k) ::r,x,h=>by
  have ih:=@Za0 env r x
  by_cases hx:x ==n
  ·have hk:k=.free:=by
    rw [List.lookup_cons,hx] at h;exact Option.some.inj h
   subst hk
   by_cases hc:(NameKind.free ==NameKind.free && env.scope.kind ==.function && env.kindOf n ==some .cell)=true
   ·left
    rw [List.map_cons];show List.lookup x ((if _ then (n,NameKind.cell) else (n,NameKind.free)) ::_)=_;rw [if_pos hc,List.lookup_cons,hx]
   ·right
    rw [List.map_cons];show List.lookup x ((if _ then (n,NameKind.cell) else (n,NameKind.free)) ::_)=_;rw [if_neg hc,List.lookup_cons,hx]
  ·have hx:(x ==n)=false:=by simpa using hx
   rw [List.lookup_cons,hx] at h;have q:=ih h;rw [List.map_cons];have e:∀(b:Bool) (l:List (Str×NameKind)),List.lookup x ((if b=true then (n,NameKind.cell) else (n,k)) ::l)=l.lookup x:=fun b l=>by
    cases b <;>simp [List.lookup_cons,hx]
   rcases q with q|q
   ·exact .inl ((e _ _).trans q)
   ·exact .inr ((e _ _).trans q)
theorem Zbi{env:Env}:∀{names:List (Str×NameKind)} {x:Str},
    ((names.map fun (n,k)=>if (k ==NameKind.free && env.scope.kind ==.function && env.kindOf n ==some .cell) then (n,NameKind.cell) else (n,k)).lookup x=some .cell \/
     (names.map fun (n,k)=>if (k ==NameKind.free && env.scope.kind ==.function && env.kindOf n ==some .cell) then (n,NameKind.cell) else (n,k)).lookup x=some .free) ->
    names.lookup x=some .cell\/names.lookup x=some .free
  | [],_,h=>by simp at h
  | (n,k) ::r,x,h=>by
    have ih:=@Zbi env r x;rw [List.map_cons] at h
    by_cases hx:x ==n
    · rw [List.lookup_cons,hx];have e:∀(c:Prop) [Decidable c] (l:List (Str×NameKind)),List.lookup x ((if c then (n,NameKind.cell) else (n,k)) ::l)=some (if c then .cell else k):=fun c _ l=>by
        split <;>rw [List.lookup_cons,hx]
      rcases h with h|h
      · have h:=(e _ _).symm.trans h;have h:=Option.some.inj h;split at h
        · rename_i c
          right
          have:k=.free:=by
            rw [Bool.and_eq_true,Bool.and_eq_true] at c;simpa using c.1.1
          rw [this]
        · left;rw [h]
      · have h:=(e _ _).symm.trans h;have h:=Option.some.inj h;split at h
        · cases h
        · right;rw [h]
    · have hx:(x ==n)=false:=by simpa using hx
      have e:∀(c:Prop) [Decidable c] (l:List (Str×NameKind)),List.lookup x ((if c then (n,NameKind.cell) else (n,k)) ::l)=l.lookup x:=fun c _ l=>by
        split <;>rw [List.lookup_cons,hx]
      rw [List.lookup_cons,hx];exact ih (h.imp (fun z=>(e _ _).symm.trans z) fun z=>(e _ _).symm.trans z)
theorem Z5.std{X:Cx}{scope:Scope}{cl:List (Str×Addr)}{N':List Str}(n:Nat)(js:List Nat)(kind:scope.kind=.function)(cell:∀y∈scope.names,y.2 ≠ .cell)
  (names:∀y∈scope.names,y.2=.local->scope.names.lookup y.1=some .local) (clos:closureFor scope X.env=pure cl) (B3:Zny (fun p=>X.env.cells.lookup p.1=some p.2) cl)
  (D7:(scope.names.all fun y=>y.2 !=.free || ((cl.lookup y.1).isSome && (X.env.kindOf y.1 ==some .cell || X.env.kindOf y.1 ==some .free)))=true)
  (hN:N'.length=n+js.length) (hj:Zny (fun p:Nat×Nat=>∃x,N'[n+p.1]? =some x/\X.N[p.2]? =some x/\scope.names.lookup x=some .free) ((List.range js.length).zip js)) :
  Z5 X scope cl N' (fun σ=>List.replicate n none++js.map fun j=>(σ[j]?).join) where
 kind:=kind
 cell:=cell
 names:=names
 clos:=clos
 sub:=fun x c h=>Zny.mem (P:=fun p=>X.env.cells.lookup p.1=some p.2) (a:=(x,c)) B3 (PySem.mem_of_lookup h)
 has:=fun x h=>by
  rcases Zbi (env:=X.env) h with h|h
  ·exact absurd rfl (cell _ (PySem.mem_of_lookup h))
  ·have q:=List.all_eq_true.mp D7 _ (PySem.mem_of_lookup h);simp only [bne_self_eq_false,Bool.false_or,Bool.and_eq_true] at q;exact Option.isSome_iff_exists.mp q.1
 len:=fun σ _=>by simp [hN]
 fr:=fun σ i x v h1 h2 _=>by
  have hi:n<=i:=by
   rcases Nat.lt_or_ge i n with c8|hge
   ·rw [List.getElem?_append_left (by simpa using c8),List.getElem?_replicate,if_pos c8] at h2;cases h2
   ·exact hge
  rw [List.getElem?_append_right (by simpa using hi),List.length_replicate,List.getElem?_map] at h2;cases hjs:js[i-n]? with
  | none=>rw [hjs] at h2;cases h2
  | some j =>
   rw [hjs] at h2;have h2:(σ[j]?).join=some v:=Option.some.inj h2;have c8:i-n<js.length:=by
    rcases Nat.lt_or_ge (i-n) js.length with z|z
    ·exact z
    ·rw [List.getElem?_eq_none z] at hjs;cases hjs
   have hm:(i-n,j)∈(List.range js.length).zip js:=by
    rw [List.mem_iff_getElem?];refine ⟨i-n,?_⟩;rw [List.getElem?_zip_eq_some];exact ⟨by simp [c8],hjs⟩
   obtain ⟨x',e1,e2,e3⟩:=Zny.mem hj hm;have e:n+(i-n)=i:=by lia
   simp only [e] at e1;rw [h1] at e1;cases e1;have q:=List.all_eq_true.mp D7 _ (PySem.mem_of_lookup e3);simp only [bne_self_eq_false,Bool.false_or,Bool.and_eq_true,Bool.or_eq_true,beq_iff_eq] at q;refine ⟨Za0 e3,q.2,j,e2,?_⟩;cases hs:σ[j]? with
   | none=>rw [hs] at h2;cases h2
   | some o=>rw [hs] at h2;exact congrArg some h2
end L2
namespace L2
open PySem PySem.Spec PyProof.Rows
inductive Tr where
 | non | int (i:Int) | str (x:Str) | tup (ts:List Tr) | lst (ts:List Tr)
noncomputable instance:DecidableEq Tr:=fun _ _=>Classical.propDecidable _
mutual
inductive Im(K:Frag)(H:Hp):Nat->Tr->V->Prop where
 | non {n:Nat}:Im K H n .non .non
 | int {n:Nat} (i:Int):Im K H n (.int i) (.int i)
 | str {n:Nat} (x:Str):Im K H n (.str x) (.str x)
 | tupI {n:Nat} {a:Addr} {xs:List V} {ts:List Tr}:SqT K H a xs->Ims K H n ts xs->Im K H (n+1) (.tup ts) (.ref a)
 | lstI {n:Nat} {a:Addr} {xs:List V} {ts:List Tr}:SqL K H a xs->Ims K H n ts xs->Im K H (n+1) (.lst ts) (.ref a)
inductive Ims(K:Frag)(H:Hp):Nat->List Tr->List V->Prop where
 | nil {n:Nat}:Ims K H n [] []
 | cons {n:Nat} {t:Tr} {v:V} {ts:List Tr} {vs:List V}:Im K H n t v->Ims K H n ts vs->Ims K H n (t ::ts) (v ::vs)
end
theorem Ims.toP{K:Frag}{H:Hp}{n:Nat}:∀{ts:List Tr} {xs:List V},Ims K H n ts xs->Paired (Im K H n) ts xs
 | [],_,h=>by cases h;exact .nil
 | _ ::_,_,h=>by
  cases h with
  | cons r t=>exact .cons r t.toP
theorem Ims.ofP{K:Frag}{H:Hp}{n:Nat}:∀{ts:List Tr} {xs:List V},Paired (Im K H n) ts xs->Ims K H n ts xs
 | _,_,.nil=>.nil
 | _,_,.cons r t=>.cons r (Ims.ofP t)
theorem Im.tup{K:Frag}{H:Hp}{n:Nat}{a:Addr}{xs:List V}{ts:List Tr}(sq:SqT K H a xs)(ps:Paired (Im K H n) ts xs):Im K H (n+1) (.tup ts) (.ref a):=.tupI sq (.ofP ps)
theorem Im.lst{K:Frag}{H:Hp}{n:Nat}{a:Addr}{xs:List V}{ts:List Tr}(sq:SqL K H a xs)(ps:Paired (Im K H n) ts xs):Im K H (n+1) (.lst ts) (.ref a):=.lstI sq (.ofP ps)
theorem Paired.get{α β:Type}{R:α->β->Prop}:∀{l₁:List α} {l₂:List β} {i:Nat} {a:α},Paired R l₁ l₂->l₁[i]? =some a->∃b,l₂[i]? =some b/\R a b
 | _,_,_,_,.nil,e=>by simp at e
 | _,_,0,_,.cons r _,e=>by simp at e;subst e;exact ⟨_,rfl,r⟩
 | _,_,i+1,a,.cons _ t,e=>by
  obtain ⟨u,h1,h2⟩:=Paired.get (i:=i) (a:=a) t (by simpa using e);exact ⟨u,by simpa using h1,h2⟩
theorem Paired.get'{α β:Type}{R:α->β->Prop}:∀{l₁:List α} {l₂:List β} {i:Nat} {b:β},Paired R l₁ l₂->l₂[i]? =some b->∃a,l₁[i]? =some a/\R a b
 | _,_,_,_,.nil,e=>by simp at e
 | _,_,0,_,.cons r _,e=>by simp at e;subst e;exact ⟨_,rfl,r⟩
 | _,_,i+1,a,.cons _ t,e=>by
  obtain ⟨u,h1,h2⟩:=Paired.get' (i:=i) (b:=a) t (by simpa using e);exact ⟨u,by simpa using h1,h2⟩
theorem Paired.append{α β:Type}{R:α->β->Prop}{a₁:List α}{b₁:List β}{a₂:List α}{b₂:List β}(h:Paired R a₁ b₁)(s:Paired R a₂ b₂):Paired R (a₁++a₂) (b₁++b₂):=by
 induction h with
 | nil=>exact s
 | cons r t ih=>exact .cons r ih
theorem Paired.strs{K:Frag}{H:Hp}{n:Nat}:∀xs:List Str,Paired (Im K H n) (xs.map Tr.str) (xs.map V.str)
 | []=>.nil
 | x ::xs=>.cons (.str x) (Paired.strs (K:=K) (H:=H) (n:=n) xs)
theorem Same.at{H H':Hp}{b:Addr}{o:HO}(e:Same H H')(h:H b=some o):H' b=some o:=e b o h
theorem Same.new{H:Hp}{p:Addr}{o:HO}(h:H p=none):Same H (upd H p o):=fun b u e=>by rw [Zh (Zj e h)];exact e
theorem Same.sqT{K:Frag}{H H':Hp}{a:Addr}{xs:List V}(e:Same H H')(h:SqT K H a xs):SqT K H' a xs:=by
 rcases h with (h|⟨o,h⟩)|h
 ·exact .inl (.inl (e _ _ h))
 ·exact .inl (.inr ⟨o,e _ _ h⟩)
 ·exact .inr h
theorem Im.mono{K:Frag}{H H':Hp}(e:Same H H'):∀{n:Nat} {t:Tr} {v:V},Im K H n t v->Im K H' n t v:=by
 intro n
 induction n with
 | zero=>intro t v h;cases h <;>constructor
 | succ n ih =>
  intro t v h;cases h with
  | non=>exact .non
  | int i=>exact .int i
  | str x=>exact .str x
  | tupI sq ps=>exact .tup (e.sqT sq) (Paired.mapP ps.toP fun _ _ z=>ih z)
  | lstI sq ps=>exact .lst (e.seq sq) (Paired.mapP ps.toP fun _ _ z=>ih z)
theorem Paired.uniq{α β:Type}{R:α->β->Prop}(f:∀a a' b,R a b->R a' b->a=a'){l l':List α}{m:List β}(h:Paired R l m)(h':Paired R l' m):l=l':=by
 induction h generalizing l' with
 | nil=>cases h';rfl
 | cons r t ih=>cases h' with
  | cons r' t'=>rw [f _ _ _ r r',ih t']
section
variable {X:Cx} {a6:List (Addr×Obj)} {σ:St} {H:Hp} {s:Shared}
theorem Inv.lt_excl(I:Inv X a6 σ H s){a:Addr}{xs ys:List V}(h:SqL X.K H a xs)(h':SqT X.K H a ys):False:=by
 obtain ⟨a7,_,pl,_⟩:=I.list h;obtain ⟨its',_,tp,_⟩:=I.tuple h';exact SeqAt.ne_of_list_tuple pl.isList (show s.heap.IsTuple a its'.toArray from tp) rfl
theorem Im.inj(I:Inv X a6 σ H s):∀{n:Nat} {t u:Tr} {v:V},Im X.K H n t v->Im X.K H n u v->t=u:=by
 intro n
 induction n with
 | zero=>intro t u v h h';cases h <;>cases h' <;>rfl
 | succ n ih =>
  intro t u v h h';cases h with
  | non=>cases h';rfl
  | int i=>cases h';rfl
  | str x=>cases h';rfl
  | tupI sq pm =>
   cases h' with
   | tupI m7 pm' =>
    have e:=I.tuple_inj sq m7;subst e;rw [Paired.uniq (R:=Im X.K H n) (fun _ _ _ z z'=>ih z z') pm.toP pm'.toP]
   | lstI m7 pm'=>exact (I.lt_excl m7 sq).elim
  | lstI sq pm =>
   cases h' with
   | tupI m7 pm'=>exact (I.lt_excl sq m7).elim
   | lstI m7 pm' =>
    have e:=I.list_inj sq m7;subst e;rw [Paired.uniq (R:=Im X.K H n) (fun _ _ _ z z'=>ih z z') pm.toP pm'.toP]
theorem Yb{A:Around}{s:Shared}{u v:Value}{b b':Bool}(h:SeqAt.EqAt A s u v b)(e:b=b'):SeqAt.EqAt A s u v b':=e ▸ h
theorem Zhd(ts us:List Tr):(((List.range (min ts.length us.length)).all fun j=>decide (ts[j]? =us[j]?)) && ts.length ==us.length)=decide (ts=us):=by
 rw [Bool.eq_iff_iff];simp only [Bool.and_eq_true,List.all_eq_true,List.mem_range,decide_eq_true_eq,beq_iff_eq]
 constructor
 ·rintro ⟨h,e⟩;refine List.ext_getElem? fun i=>?_
  by_cases hi:i<ts.length
  ·exact h i (by lia)
  ·rw [List.getElem?_eq_none (by lia),List.getElem?_eq_none (by lia)]
 ·rintro rfl;exact ⟨fun _ _=>rfl,rfl⟩
theorem Zmc{ts us:List Tr}(h:ts.length=us.length):((List.range ts.length).all fun j=>decide (ts[j]? =us[j]?))=decide (ts=us):=by
 have q:=Zhd ts us;rw [h,Nat.min_self,beq_self_eq_true,Bool.and_true] at q;rw [h];exact q
theorem Y7(A:Around):A.in1.units=A.units+1:=rfl
theorem Zcr{n:Nat}{A:Around}{ts us:List Tr}{xs ys:List V}{a7 its':List Value}
  (ih:∀{t u:Tr} {x y:V} {vx vy:Value},Im X.K H n t x->Im X.K H n u y->Yf x vx->Yf y vy->SeqAt.EqAt A s vx vy (decide (t=u)))
  (ps:Paired (Im X.K H n) ts xs) (B8:Paired (Im X.K H n) us ys) (rv:Ya xs a7) (M7:Ya ys its') :
  ∀j (h1:j<a7.toArray.size) (h2:j<its'.toArray.size),SeqAt.EqAt A s a7.toArray[j] its'.toArray[j] (decide (ts[j]? =us[j]?)):=by
 intro j h1 h2;have l1:=rv.length;have l2:=M7.length;have h1':j<xs.length:=by simpa [l1] using h1
 have h2':j<ys.length:=by simpa [l2] using h2
 obtain ⟨t,e1,r1⟩:=Paired.get' ps (i:=j) (b:=xs[j]) (by simp [h1']);obtain ⟨u,e2,r2⟩:=Paired.get' B8 (i:=j) (b:=ys[j]) (by simp [h2']);obtain ⟨v1,f1,g1⟩:=rv.get (i:=j) (x:=xs[j]) (by simp [h1']);obtain ⟨v2,f2,g2⟩:=M7.get (i:=j) (x:=ys[j]) (by simp [h2']);have k1:a7.toArray[j]=v1:=by
  have:a7[j]? =some a7.toArray[j]:=by simp [show j<a7.length by simpa using h1]
  rw [f1] at this;exact (Option.some.inj this).symm
 have k2:its'.toArray[j]=v2:=by
  have:its'[j]? =some its'.toArray[j]:=by simp [show j<its'.length by simpa using h2]
  rw [f2] at this;exact (Option.some.inj this).symm
 rw [k1,k2,e1,e2];refine Yb (ih r1 r2 g1 g2) ?_;rw [Bool.eq_iff_iff];simp
theorem Im.tuple_rc(I:Inv X a6 σ H s){n:Nat}{A:Around}{a b:Addr}{ts us:List Tr}{xs ys:List V}
  (ih:∀{t u:Tr} {x y:V} {vx vy:Value},Im X.K H n t x->Im X.K H n u y->Yf x vx->Yf y vy->SeqAt.EqAt A.in1 s vx vy (decide (t=u))) (hu:A.units<cLine)
  (sq:SqT X.K H a xs) (ps:Paired (Im X.K H n) ts xs) (m7:SqT X.K H b ys) (B8:Paired (Im X.K H n) us ys) :
  SeqAt.RcAt A s (.ref a) (.ref b) (decide (Tr.tup ts=Tr.tup us))/\SeqAt.RcNeAt A s (.ref a) (.ref b) (!decide (Tr.tup ts=Tr.tup us)):=by
 obtain ⟨a7,rv,tp,_⟩:=I.tuple sq;obtain ⟨its',M7,A6,_⟩:=I.tuple m7;have l1:=rv.length;have l2:=M7.length;have m1:=Paired.length ps;have m2:=Paired.length B8;have e:((List.range (min a7.toArray.size its'.toArray.size)).all (fun j=>decide (ts[j]? =us[j]?)) && a7.toArray.size ==its'.toArray.size)=decide (Tr.tup ts=Tr.tup us):=by
  rw [List.size_toArray,List.size_toArray,<-l1,<-l2,<-m1,<-m2,Zhd,Bool.eq_iff_iff];simp
 constructor
 ·rw [<-e];exact SeqAt.RcAt.tuples (show s.heap.IsTuple a a7.toArray from tp) (show s.heap.IsTuple b its'.toArray from A6) hu (Zcr ih ps B8 rv M7)
 ·rw [<-e];exact SeqAt.RcNeAt.tuples (show s.heap.IsTuple a a7.toArray from tp) (show s.heap.IsTuple b its'.toArray from A6) hu (Zcr ih ps B8 rv M7)
theorem Im.list_rc(I:Inv X a6 σ H s){n:Nat}{A:Around}{a b:Addr}{ts us:List Tr}{xs ys:List V}
  (ih:∀{t u:Tr} {x y:V} {vx vy:Value},Im X.K H n t x->Im X.K H n u y->Yf x vx->Yf y vy->SeqAt.EqAt A.in1 s vx vy (decide (t=u))) (hu:A.units<cLine)
  (sq:SqL X.K H a xs) (ps:Paired (Im X.K H n) ts xs) (m7:SqL X.K H b ys) (B8:Paired (Im X.K H n) us ys) :
  SeqAt.RcAt A s (.ref a) (.ref b) (decide (Tr.lst ts=Tr.lst us))/\SeqAt.RcNeAt A s (.ref a) (.ref b) (!decide (Tr.lst ts=Tr.lst us)):=by
 obtain ⟨a7,rv,tp,_⟩:=I.list sq;obtain ⟨its',M7,A6,_⟩:=I.list m7;have l1:=rv.length;have l2:=M7.length;have m1:=Paired.length ps;have m2:=Paired.length B8
 by_cases hl:ts.length=us.length
 ·have e:((List.range a7.toArray.size).all fun j=>decide (ts[j]? =us[j]?))=decide (Tr.lst ts=Tr.lst us):=by
   rw [List.size_toArray,<-l1,<-m1,Zmc hl,Bool.eq_iff_iff];simp
  have hs:a7.toArray.size=its'.toArray.size:=by rw [List.size_toArray,List.size_toArray];lia
  constructor
  ·rw [<-e];exact SeqAt.RcAt.lists tp.isList A6.isList hs hu (Zcr ih ps B8 rv M7)
  ·rw [<-e];exact SeqAt.RcNeAt.lists tp.isList A6.isList hs hu (Zcr ih ps B8 rv M7)
 ·have e:decide (Tr.lst ts=Tr.lst us)=false:=decide_eq_false fun z=>hl (by injection z with z;rw [z])
  have hs:(a7.toArray.size !=its'.toArray.size)=true:=by rw [List.size_toArray,List.size_toArray];simp;lia
  rw [e];exact ⟨SeqAt.RcAt.lists_lengths tp.isList A6.isList hs hu,SeqAt.RcNeAt.lists_lengths tp.isList A6.isList hs hu⟩
theorem Im.eqAt(I:Inv X a6 σ H s):∀(n:Nat) (A:Around) {t u:Tr} {x y:V} {vx vy:Value},Im X.K H n t x->Im X.K H n u y->Yf x vx->Yf y vy->A.units+n<cLine->SeqAt.EqAt A s vx vy (decide (t=u)):=by
 intro n
 induction n with
 | zero =>
  intro A t u x y vx vy h h' rx ry hu;cases h <;>cases h' <;>exact Yb (Ziy rx ry rfl rfl) (by rw [Bool.eq_iff_iff];simp [eqV])
 | succ n ih =>
  intro A t u x y vx vy h h' rx ry hu;have E4:A.units<cLine:=by lia
  have hu1:A.in1.units+n<cLine:=by rw [Y7];lia
  have ih1:∀{t u:Tr} {x y:V} {vx vy:Value},Im X.K H n t x->Im X.K H n u y->Yf x vx->Yf y vy->SeqAt.EqAt A.in1 s vx vy (decide (t=u)):=fun z z' r r'=>ih A.in1 z z' r r' hu1
  cases h with
  | @tupI _ a xs ts sq pm =>
   cases rx;obtain ⟨a7,rv,tp,_⟩:=I.tuple sq;cases h' with
   | non=>cases ry;exact Yb (SeqAt.EqAt.tuple_none (show s.heap.IsTuple _ a7.toArray from tp) E4) (decide_eq_false fun z=>nomatch z).symm
   | int i=>obtain ⟨t',rfl⟩:=ry;exact Yb (SeqAt.EqAt.tuple_int i t' (show s.heap.IsTuple _ a7.toArray from tp) E4) (decide_eq_false fun z=>nomatch z).symm
   | str i=>obtain ⟨t',rfl⟩:=ry;exact Yb (SeqAt.EqAt.tuple_str i t' (show s.heap.IsTuple _ a7.toArray from tp) E4) (decide_eq_false fun z=>nomatch z).symm
   | @tupI _ b ys us m7 pm' =>
    cases ry
    by_cases N9:a=b
    ·subst N9;rw [Im.inj I (Im.tupI sq pm) (Im.tupI m7 pm'),decide_eq_true rfl];exact SeqAt.EqAt.same _
    ·exact SeqAt.EqAt.of_refs N9 (Im.tuple_rc I ih1 E4 sq pm.toP m7 pm'.toP).1
   | lstI m7 pm' =>
    cases ry;obtain ⟨its',M7,A6,_⟩:=I.list m7;exact Yb (SeqAt.EqAt.tuple_list (show s.heap.IsTuple _ a7.toArray from tp) A6.isList E4) (decide_eq_false fun z=>nomatch z).symm
  | @lstI _ a xs ts sq pm =>
   cases rx;obtain ⟨a7,rv,tp,_⟩:=I.list sq;cases h' with
   | non=>cases ry;exact Yb (SeqAt.EqAt.list_none tp.isList E4) (decide_eq_false fun z=>nomatch z).symm
   | int i=>obtain ⟨t',rfl⟩:=ry;exact Yb (SeqAt.EqAt.list_int i t' tp.isList E4) (decide_eq_false fun z=>nomatch z).symm
   | str i=>obtain ⟨t',rfl⟩:=ry;exact Yb (SeqAt.EqAt.list_str i t' tp.isList E4) (decide_eq_false fun z=>nomatch z).symm
   | tupI m7 pm' =>
    cases ry;obtain ⟨its',M7,A6,_⟩:=I.tuple m7;exact Yb (SeqAt.EqAt.list_tuple tp.isList (show s.heap.IsTuple _ its'.toArray from A6) E4) (decide_eq_false fun z=>nomatch z).symm
   | @lstI _ b ys us m7 pm' =>
    cases ry
    by_cases N9:a=b
    ·subst N9;rw [Im.inj I (Im.lstI sq pm) (Im.lstI m7 pm'),decide_eq_true rfl];exact SeqAt.EqAt.same _
    ·exact SeqAt.EqAt.of_refs N9 (Im.list_rc I ih1 E4 sq pm.toP m7 pm'.toP).1
  | non =>
   cases rx;cases h' with
   | non=>cases ry;exact Yb (SeqAt.EqAt.same _) (decide_eq_true rfl).symm
   | int i=>obtain ⟨t',rfl⟩:=ry;exact Yb (SeqAt.EqAt.none_int i t') (decide_eq_false fun z=>nomatch z).symm
   | str i=>obtain ⟨t',rfl⟩:=ry;exact Yb (SeqAt.EqAt.none_str i t') (decide_eq_false fun z=>nomatch z).symm
   | tupI m7 pm'=>cases ry;obtain ⟨its',_,A6,_⟩:=I.tuple m7;exact Yb (SeqAt.EqAt.none_tuple (show s.heap.IsTuple _ its'.toArray from A6) E4) (decide_eq_false fun z=>nomatch z).symm
   | lstI m7 pm'=>cases ry;obtain ⟨its',_,A6,_⟩:=I.list m7;exact Yb (SeqAt.EqAt.none_list A6.isList E4) (decide_eq_false fun z=>nomatch z).symm
  | int j =>
   cases h' with
   | tupI m7 pm'=>obtain ⟨t',rfl⟩:=rx;cases ry;obtain ⟨its',_,A6,_⟩:=I.tuple m7;exact Yb (SeqAt.EqAt.int_tuple j t' (show s.heap.IsTuple _ its'.toArray from A6) E4) (decide_eq_false fun z=>nomatch z).symm
   | lstI m7 pm'=>obtain ⟨t',rfl⟩:=rx;cases ry;obtain ⟨its',_,A6,_⟩:=I.list m7;exact Yb (SeqAt.EqAt.int_list j t' A6.isList E4) (decide_eq_false fun z=>nomatch z).symm
   | _=>exact Yb (Ziy rx ry rfl rfl) (by rw [Bool.eq_iff_iff];simp [eqV])
  | str j =>
   cases h' with
   | tupI m7 pm'=>obtain ⟨t',rfl⟩:=rx;cases ry;obtain ⟨its',_,A6,_⟩:=I.tuple m7;exact Yb (SeqAt.EqAt.str_tuple j t' (show s.heap.IsTuple _ its'.toArray from A6) E4) (decide_eq_false fun z=>nomatch z).symm
   | lstI m7 pm'=>obtain ⟨t',rfl⟩:=rx;cases ry;obtain ⟨its',_,A6,_⟩:=I.list m7;exact Yb (SeqAt.EqAt.str_list j t' A6.isList E4) (decide_eq_false fun z=>nomatch z).symm
   | _=>exact Yb (Ziy rx ry rfl rfl) (by rw [Bool.eq_iff_iff];simp [eqV])
end
def Zwv(K:Frag)(neg:Bool):R2:=fun x y H Q=>∃n t u,n<=60/\((∃ts us,t=Tr.tup ts/\u=Tr.tup us)\/∃ts us,t=Tr.lst ts/\u=Tr.lst us)/\Im K H n t x/\Im K H n u y/\Q (.bl (if neg then !decide (t=u) else decide (t=u))) H
theorem Yat{X:Cx}(hu:X.A.units+64<cLine):OpR X (compareOp .Eq) (Zwv X.K false):=by
 intro a6 s σ H x y v u Q I rx ry h;obtain ⟨n,t,t',hn,hk,h1,h2,q⟩:=h;rcases hk with ⟨ts,us,rfl,rfl⟩|⟨ts,us,rfl,rfl⟩
 ·cases h1 with
  | tupI sq pm =>
   cases h2 with
   | tupI m7 pm' =>
    cases rx;cases ry;exact (Im.tuple_rc (A:=X.A) I (fun z z' r r'=>Im.eqAt I _ _ z z' r r' (by rw [Y7];lia)) (by lia) sq pm.toP m7 pm'.toP).1 _ _ _ _ ⟨.bl _,H,I,rfl,q⟩
 ·cases h1 with
  | lstI sq pm =>
   cases h2 with
   | lstI m7 pm' =>
    cases rx;cases ry;exact (Im.list_rc (A:=X.A) I (fun z z' r r'=>Im.eqAt I _ _ z z' r r' (by rw [Y7];lia)) (by lia) sq pm.toP m7 pm'.toP).1 _ _ _ _ ⟨.bl _,H,I,rfl,q⟩
theorem Zz2{X:Cx}(hu:X.A.units+64<cLine):OpR X (compareOp .NotEq) (Zwv X.K true):=by
 intro a6 s σ H x y v u Q I rx ry h;obtain ⟨n,t,t',hn,hk,h1,h2,q⟩:=h;rcases hk with ⟨ts,us,rfl,rfl⟩|⟨ts,us,rfl,rfl⟩
 ·cases h1 with
  | tupI sq pm =>
   cases h2 with
   | tupI m7 pm' =>
    cases rx;cases ry;exact (Im.tuple_rc (A:=X.A) I (fun z z' r r'=>Im.eqAt I _ _ z z' r r' (by rw [Y7];lia)) (by lia) sq pm.toP m7 pm'.toP).2 _ _ _ _ ⟨.bl _,H,I,rfl,q⟩
 ·cases h1 with
  | lstI sq pm =>
   cases h2 with
   | lstI m7 pm' =>
    cases rx;cases ry;exact (Im.list_rc (A:=X.A) I (fun z z' r r'=>Im.eqAt I _ _ z z' r r' (by rw [Y7];lia)) (by lia) sq pm.toP m7 pm'.toP).2 _ _ _ _ ⟨.bl _,H,I,rfl,q⟩
def Zvt(t:TA):TE:=fun σ H Q=>t σ H fun xs H1=>xs.length<=sizeLine/\∀p H',Same H1 H'->H1 p=none->H' p=some (.tup xs)->Q (.ref p) H'
def Ycc(t:TA):TE:=fun σ H Q=>t σ H fun xs H1=>xs.length<=sizeLine/\∀p H',Same H1 H'->H1 p=none->H' p=some (.lst xs)->Q (.ref p) H'
theorem Zi{X:Cx}{es:List Expr}{t:TA}{pos:Pos}{x1}(h:PA X es t):PE X (.Tuple es x1 pos) (Zvt t):=by
 intro a6 s σ H Q I hq;refine wpAny_Tuple_spliced (thn (h pos a6 s σ H _ I hq) fun us s1 ⟨xs,H1,I1,r,z,q⟩=>⟨by rw [<-r.length];exact z,?_⟩);have hf:H1 s1.heap.objs.size=none:=I1.hok.fresh (Nat.le_refl _);refine ⟨.ref s1.heap.objs.size,upd H1 s1.heap.objs.size (.tup xs),I1.laid (t':=s1.toks) (fun b u e=>Heap.get?_push_of_some _ e) (Nat.le_refl _) ?_,rfl,q _ _ (Same.new hf) hf Zf⟩;exact ⟨z,us,r,⟨_,Heap.get?_push_size _ rfl,rfl,_,rfl⟩⟩
theorem Zk{X:Cx}{es:List Expr}{t:TA}{pos:Pos}(h:PA X es t):PE X (.List es pos) (Ycc t):=by
 intro a6 s σ H Q I hq;refine wpAny_List_spliced (thn (h pos a6 s σ H _ I hq) fun us s1 ⟨xs,H1,I1,r,z,q⟩=>⟨by rw [<-r.length];exact z,?_⟩);have hf:H1 s1.heap.objs.size=none:=I1.hok.fresh (Nat.le_refl _);refine ⟨.ref s1.heap.objs.size,upd H1 s1.heap.objs.size (.lst xs),I1.laid (t':=s1.toks) (fun b u e=>Heap.get?_push_of_some _ e) (Nat.le_refl _) ?_,rfl,q _ _ (Same.new hf) hf Zf⟩;exact ⟨z,us,0,r,Heap.get?_push_size _ rfl⟩
theorem OpR.imp{X:Cx}{f:Value->Value->Sem Value}{r r':R2}(h:OpR X f r)(g:∀x y H Q,r' x y H Q->r x y H Q):OpR X f r':=fun a6 s σ H x y v u Q I rx ry q=>h a6 s σ H x y v u Q I rx ry (g _ _ _ _ q)
theorem SlR.imp{X:Cx}{r r':V->Option Int->Option Int->Hp->VK->Prop}(h:SlR X r)(g:∀x l u H Q,r' x l u H Q->r x l u H Q):SlR X r':=fun a6 s σ H x v vl vu lo hi sl Q I rx hs pl pu q=>h a6 s σ H x v vl vu lo hi sl Q I rx hs pl pu (g _ _ _ _ _ q)
theorem Xj.imp{X:Cx}{f:Value}{r r':List V->Hp->VK->Prop}(h:Xj X f r)(g:∀xs H Q,r' xs H Q->r xs H Q):Xj X f r':=fun a6 s σ H xs us Q I rs q=>h a6 s σ H xs us Q I rs (g _ _ _ q)
def New(H:Hp)(o:HO)(Q:VK):Prop:=∀p H',Same H H'->H p=none->H' p=some o->Q (.ref p) H'
theorem New.at{H:Hp}{o:HO}{Q:VK}(h:New H o Q)(p:Addr)(hp:H p=none):Q (.ref p) (upd H p o):=h p _ (Same.new hp) hp Zf
def Zyk:R2:=fun x y H Q=>∃l b xs zs,x=.ref l/\y=.ref b/\H l=some (.lst xs)/\H b=some (.lst zs)/\xs.length+zs.length<=sizeLine/\New H (.lst (xs++zs)) Q
theorem Zwc{X:Cx}:OpR X (binaryOp .Add) Zyk:=Yaw.imp fun x y H Q ⟨l,b,xs,zs,h1,h2,h3,h4,h5,h6⟩=>⟨l,b,xs,zs,h1,h2,h3,h4,h5,fun p hp=>h6.at p hp⟩
def Zyc(K:Frag):V->Option Int->Option Int->Hp->VK->Prop:=fun x lo hi H Q=>∃a xs,x=.ref a/\SqT K H a xs/\¬(HT.sIx xs.length 0 lo=0/\HT.sIx xs.length xs.length hi=xs.length)/\New H (.tup (Ze2 xs lo hi)) Q
theorem Zwh{X:Cx}:SlR X (Zyc X.K):=Yag.imp fun x l u H Q ⟨a,xs,h1,h2,h3,h4⟩=>⟨a,xs,h1,h2,h3,fun p hp=>h4.at p hp⟩
def Zyb(K:Frag):V->Option Int->Option Int->Hp->VK->Prop:=fun x lo hi H Q=>∃a xs,x=.ref a/\SqL K H a xs/\New H (.lst (Ze2 xs lo hi)) Q
theorem Ztt{X:Cx}:SlR X (Zyb X.K):=Zwt.imp fun x l u H Q ⟨a,xs,h1,h2,h4⟩=>⟨a,xs,h1,h2,fun p hp=>h4.at p hp⟩
theorem Zbg{X:Cx}{CX:CXT}{k:Nat}{f C:Addr}{fd:FuncData}{ps:List Str}{sp:Sp}{C4:List V}{ds:List Value}{E:XK}{x:Str}{p pos:Pos}{e:Expr}{es:List Expr}{t:TA}(mr:List V->Hp->VK->Prop)(M:Mk X.K C f)
  (F:Zy X.prog X.w X.K X.mg X.base CX k f fd ps sp) (hr:X0 (k+1) X.A) (hg:Gl X x) (hm:X.mg x=some (.ref C)) (hb:Za1 X.K fd ps ds) (hd:Ya C4 ds) (hx:Zbo CX X E)
  (hmr:∀vs H Q,mr vs H Q->∀x dx,H x=none->H dx=none->dx≠x->sp (.ref x ::(vs++C4)) (upd (upd H dx (.own x)) x (.ins C dx [])) (fun v H2=>v=.non/\Q (.ref x) H2) E)
  (ha:PA X (e ::es) t) (N7:(x ==("__debug__" :Str))=false:=by decide) (he:starEach (e ::es) X.env=(false,eval e X.env) ::starEach es X.env:=by rfl) (j0:(backTo pos (starEach es X.env)).any (·.1)=false:=by rfl) :
  PE X (.Call (.Name x p) (e ::es) [] pos) (tCB mr t):=by
 intro a6 s σ H Q I h;refine wpAny_Call_Name_kw (Zfk I hg hm ?_ N7);refine PySem.W.callWith_K (h₀:=X.base) I.ok.mod.kin M.kp (thn (ha pos a6 s σ H _ I h) fun us s1 ⟨vs,H1,I1,r,q⟩=>⟨I1.kIn,?_⟩) he j0;exact Zu5 M F hr hb hd hx I1 r (hmr vs H1 Q q)
section
variable {X:Cx} {k:Nat}
theorem Zy6(hu:X.A.units+1<cLine):OpR X (compareOp .In) (fun y x H Q=>∃a o,x=.ref a/\Xy H a y o/\Q (.bl o.isSome) H):=by
 intro a6 s σ H y x v u Q I ry rx h;obtain ⟨a,ov,rfl,g,q⟩:=h;cases rx;exact Yde hu I g ry fun s3 I3=>⟨.bl ov.isSome,H,I3,rfl,q⟩
theorem Zrx(hu:X.A.units+1<cLine):OpR X (compareOp .NotIn) (fun y x H Q=>∃a o,x=.ref a/\Xy H a y o/\Q (.bl (!o.isSome)) H):=by
 intro a6 s σ H y x v u Q I ry rx h;obtain ⟨a,ov,rfl,g,q⟩:=h;cases rx;exact Zx5 hu I g ry fun s3 I3=>⟨.bl (!ov.isSome),H,I3,rfl,q⟩
theorem Wp:OpR X (binaryOp .Add) (fun x y H Q=>rI0 (fun i j=>.int (i+j)) x y H Q\/(∃i j,x=.str i/\y=.str j/\i.length+j.length<=sizeLine/\Q (.str (i++j)) H)\/Zyk x y H Q):=Zzd.or (Zpz.or Zwc)
end
theorem sz{n:Nat}(h:n<=1000):n<=sizeLine:=Nat.le_of_lt (Zw h)
structure Zo8(K:Frag)(x a8:Str)(st:Stmt)(dV:Value)(f:Addr)(fd:FuncData):Prop where
 ex:∃(oc:Value) (od:Option Addr) (kV u8 pm:Value) (an:Option Addr) (b7 ct:Value) (F1:Array (Option Value)),
  fd=fnOf x a8 (Xh st) (Yw st) (Zg st) dV kV u8 pm an b7 ct/\K.lookup f=some ⟨oc,od,.func fd,F1⟩/\codeIn K b7 a8=true
 kp:keepIn K (.ref f)=true
section
variable {P:Program} {w:World} {K:Frag} {mg:Str->Option Value} {base:Heap}
theorem Zo8.ok{x a8:Str}{st:Stmt}{dV:Value}{f:Addr}{fd:FuncData}{N ps:List Str}{k:Nat}{sp:Sp}(F:Zo8 K x a8 st dV f fd)(S:Zo N ps (Zg st))(len:∀vs H Q E,sp vs H Q E->vs.length=ps.length)
  (u9:∀(b7:Value) (A:Around) (outer:List Env) (s:Shared) (H:Hp) (vs:List V) (Q:VK) (E:XK),X0 k (A.deeper (envOfC a8 (Zg st) s.heap.objs.size f b7))->sp vs H Q E ->
   WSs (Zea CX0 P w K mg base N a8 (Zg st) f b7 A outer s H E).nox (Yw st) { nx:=fun _ H'=>Q .non H',rt:=Q } (start N vs) H):Zy P w K mg base CX0 (k+1) f fd ps sp:=by
 obtain ⟨oc,od,kV,u8,pm,an,b7,ct,F1,rfl,lk,E7⟩:=F.ex;refine Zua lk E7 S len fun A outer s H vs Q E hr M4=>?_
 exact ⟨_,PSs.nox Zv,u9 b7 A outer s H vs Q E hr M4⟩
theorem Fun.okW{x a8:Str}{st:Stmt}{f:Addr}{fd:FuncData}{N ps:List Str}{k:Nat}{sp:Sp}(F:Fun K x a8 st f fd)(S:Zo N ps (Zg st))
  (u9:∀(b7:Value) (A:Around) (outer:List Env) (s:Shared) (H:Hp) (vs:List V) (Q:VK) (E:XK),X0 k (A.deeper (envOfC a8 (Zg st) s.heap.objs.size f b7))->sp vs H Q E ->
   let X:=(Zea CX0 P w K mg base N a8 (Zg st) f b7 A outer s H E).nox;WSs X (Yw st) { nx:=fun _ H'=>Q .non H',rt:=Q } (start N vs) H) (len:∀vs H Q E,sp vs H Q E->vs.length=ps.length:=by rintro _ _ _ _ h;repeat (first|(obtain ⟨e,_⟩:=h;subst e;rfl)|obtain ⟨_,h⟩:=h)):Zy P w K mg base CX0 (k+1) f fd ps sp :=
 F.ok S len fun b7 A outer s H vs Q E hr h=>⟨_,Zv,u9 b7 A outer s H vs Q E hr h⟩
theorem Zrs{x a8:Str}{st:Stmt}{f:Addr}{oc dV:Value}{od an:Option Addr}{F1:Array (Option Value)}{kV u8 pm b7 ct:Value}(l:K.lookup f=some ⟨oc,od,.func (fnOf x a8 (Xh st) (Yw st) (Zg st) dV kV u8 pm an b7 ct),F1⟩)
  (c:codeIn K b7 a8=true) (k:keepIn K (.ref f)=true):Zo8 K x a8 st dV f (fnOf x a8 (Xh st) (Yw st) (Zg st) dV kV u8 pm an b7 ct):=⟨⟨oc,od,kV,u8,pm,an,b7,ct,F1,rfl,l,c⟩,k⟩
end
structure Dn(K:Frag)(x a8:Str)(st:Stmt)(ps:List Str) where
 f:Addr
 fd:FuncData
 F:Fun K x a8 st f fd
 b:Za1 K fd ps []
theorem Zjc{α:Type}{l:List α}{i:Nat}{a:α}(h:l[i]? =some a):l.drop i=a ::l.drop (i+1):=by
 have hi:i<l.length:=by
  rcases Nat.lt_or_ge i l.length with z|z
  ·exact z
  ·rw [List.getElem?_eq_none z] at h;cases h
 rw [List.drop_eq_getElem_cons hi];rw [List.getElem?_eq_getElem hi] at h;rw [Option.some.inj h]
theorem Wt:∀l:List Str,(l.map V.str).all Zdz=true
 | []=>rfl
 | _ ::l=>by rw [List.map_cons,List.all_cons,Wt l];rfl
theorem Zaq(x:Str):∀l:List Str,inV (.str x) (l.map V.str)=decide (x∈l)
 | []=>by simp [inV]
 | y ::l=>by
  have ih:=Zaq x l;unfold inV at ih ⊢;rw [List.map_cons,List.any_cons,ih,Bool.eq_iff_iff];simp only [eqV,Bool.or_eq_true,beq_iff_eq,decide_eq_true_eq,List.mem_cons]
  constructor
  ·rintro (h|h)
   ·exact .inl h.symm
   ·exact .inr h
  ·rintro (h|h)
   ·exact .inl h.symm
   ·exact .inr h
end L2
end
section
namespace NM
def tA:List Int:=[0,1035609595,1591546621,1776858963,1869515134,207121919,1962171305,454727606,934757567,592286321,1177302783,484597899,2054827476,1896763824,227363803,784868522,1541120607,2082079291,1369884984,958709409,1662393215,867403751,1316040773,418501921,1027413738,1329914572,948381912,913256656,1187423725,1664836201,392434261,1903795744,1844302127,161532633,2114781469,949938980,684942492,1304871617,1553096528,632254608,1904938431,1177567069,1507443699,923030587,1731762210,977450723,1282992784,1986753328,513706869,985311221,664957286,2125682195,474190956,1235096585,456628328,1385409768,1667453686,319569803,1906159924,17552705,1269958954,1073116705,951897872,1004962466]
def tB:List Int:=[0,1073741815,1610612722,1789569691,805306361,214748363,1968526660,766958439,1476394995,2028178983,1181115996,1268967599,984263330,412977621,1457221034,787410664,1811939312,1831677213,2087831306,1412818177,590557998,255652813,1708225614,1820692642,492131665,1331439850,1280230625,676059661,728610517,1369946453,393705332,381005160,905969656,1138817076,1989580421,1871378591,1043915653,1421982403,1780150903,137659207,295278999,1126119464,1201568221,1173624774,854112807,1694125974,910346321,525448122,1319807647,1029915618,665719925,610559071,1713857127,1600483082,1411771645,1971780423,1438047073,1902595145,1758715041,1401324063,196852666,1637016209,190502580,1516873357]
end NM
namespace NM
open PySem L2
def Zfx:List Nat:=[97,98,99,100,101,102,103,104,105,106,107,108,109,110,111,112,113,114,115,116,117,118,119,120,121,122]
theorem Zm2:("abcdefghijklmnopqrstuvwxyz" :Str).cps.toList=Zfx:=by trivial
theorem Zh3:("abcdefghijklmnopqrstuvwxyz" :Str).length=26:=by trivial
def uniq(f:Nat->Str):Nat->List Str
 | 0=>[]
 | n+1=>if f n∈uniq f n then uniq f n else uniq f n++[f n]
end NM
end
section
namespace L2
open PySem PySem.Spec PyProof.Rows
def Ya8:HO->Bool
 | .dK _=>true
 | .dT _=>true
 | _=>false
section
variable {X:Cx} {a6:List (Addr×Obj)} {σ:St} {H:Hp} {s:Shared} {d:Addr} {o:Obj} {u:HO}
theorem HOk.retold{P:Program}{w:World}{h:Heap}{v v':HO}(x:HOk P w H h)(hd:H d=some v)(no:∀y,v ≠ .own y)(nt:∀xs,v ≠ .tup xs)(nz:∀o y,v ≠ .frz o (.own y))(new:Yi P w (upd H d v') h d v'):HOk P w (upd H d v') h:=fun b q e=>by
 by_cases hb:b=d
 ·subst hb;rw [Zf] at e;cases e;exact new
 ·rw [Zh hb] at e;refine (x b q e).stay (fun _ _ _ z=>z) (fun c z=>?_) (fun c xs z=>?_) (fun c ob z=>?_)
  ·rw [Zh (fun y=>by subst y;rw [hd] at z;exact no _ (Option.some.inj z))];exact z
  ·rw [Zh (fun y=>by subst y;rw [hd] at z;exact nt _ (Option.some.inj z))];exact z
  ·rw [Zh (fun y=>by subst y;rw [hd] at z;exact nz _ _ (Option.some.inj z))];exact z
theorem Zfp{P:Program}{w:World}{h:Heap}{v v' u:HO}(hd:H d=some v)(no:∀y,v ≠ .own y)(nt:∀xs,v ≠ .tup xs)(nz:∀o y,v ≠ .frz o (.own y))(x:Yi P w H h d u):Yi P w (upd H d v') h d u :=
 x.stay (fun _ _ _ z=>z) (fun c z=>by rw [Zh (fun y=>by subst y;rw [hd] at z;exact no _ (Option.some.inj z))];exact z) (fun c xs z=>by rw [Zh (fun y=>by subst y;rw [hd] at z;exact nt _ (Option.some.inj z))];exact z) (fun c ob z=>by rw [Zh (fun y=>by subst y;rw [hd] at z;exact nz _ _ (Option.some.inj z))];exact z)
theorem Inv.retell{v':HO}{v:HO}(I:Inv X a6 σ H s)(hd:H d=some v)(no:∀y,v ≠ .own y)(nt:∀xs,v ≠ .tup xs)(nz:∀o y,v ≠ .frz o (.own y))(nb:∀ps,v ≠ .tbl ps)(nf:∀o u,X.H₀ d≠some (.frz o u))(new:Yi X.prog X.w (upd H d v') s.heap d v') :
  Inv X a6 σ (upd H d v') s:=by
 have nd:∀b,H b=none->b≠d:=fun b n z=>by subst z;rw [n] at hd;cases hd
 refine ⟨I.ok,I.os,I.bare,?_,I.loc,I.cell,?_,fun x c e=>?_,fun p hp=>?_,I.hok.retold hd no nt nz new,I.len⟩
 ·have b:=I.base;refine ⟨b.keep,b.slot,fun c q e n hx=>?_,b.there,fun c xs e=>?_,fun c ob q e=>?_,fun c ps e=>?_⟩
  ·have z:=b.free c q e n hx;rw [Zh (nd c z)];exact z
  ·have z:=b.tups c xs e;rw [Zh (fun y=>by subst y;rw [hd] at z;exact nt _ (Option.some.inj z))];exact z
  ·have z:=b.frzs c ob q e;rw [Zh (fun y=>by subst y;exact nf _ _ e)];exact z
  ·obtain ⟨m,z⟩:=b.tbls c ps e;exact ⟨m,by rw [Zh (fun y=>by subst y;rw [hd] at z;exact nb _ (Option.some.inj z))];exact z⟩
 ·rw [Zh (nd _ I.free)];exact I.free
 ·rw [Zh (nd _ (I.freeC x c e))];exact I.freeC x c e
 ·obtain ⟨p1,p2,p3⟩:=I.pin p hp;exact ⟨p1,by rw [Zh (nd _ p2)];exact p2,p3⟩
theorem Inv.notFrz(I:Inv X a6 σ H s){v:HO}(hd:H d=some v)(n:∀o u,v ≠ .frz o u):∀o u,X.H₀ d≠some (.frz o u):=fun o u z=>by
 have:=I.base.frzs d o u z;rw [hd] at this;exact n _ _ (Option.some.inj this)
theorem Inv.freeze(I:Inv X a6 σ H s)(hd:H d=some u)(hu:Ya8 u=true)(ho:s.heap.get? d=some o):Inv X a6 σ (upd H d (.frz o u)) s:=by
 have n1:∀y,u ≠ .own y:=fun y z=>by subst z;cases hu
 have n2:∀xs,u ≠ .tup xs:=fun y z=>by subst z;cases hu
 have n3:∀o y,u ≠ .frz o (.own y):=fun o y z=>by subst z;cases hu
 refine I.retell hd n1 n2 n3 (fun y z=>by subst z;cases hu) (I.notFrz hd fun _ _ z=>by subst z;cases hu) ⟨ho,Zfp hd n1 n2 n3 (I.hok d u hd)⟩
theorem Inv.thaw(I:Inv X a6 σ H s)(hd:H d=some (.frz o u))(nf:∀o u,X.H₀ d≠some (.frz o u))(nu:∀y,u ≠ .own y:=by exact fun _ z=>nomatch z):Inv X a6 σ (upd H d u) s:=by
 obtain ⟨_,q⟩:=I.hok d _ hd;have n3:∀o' y,HO.frz o u ≠ .frz o' (.own y):=fun o' y z=>nu y (HO.frz.inj z).2
 exact I.retell hd (fun _ z=>nomatch z) (fun _ z=>nomatch z) n3 (fun _ z=>nomatch z) nf (Zfp hd (fun _ z=>nomatch z) (fun _ z=>nomatch z) n3 q)
end
theorem Same.thaw{H H':Hp}{d:Addr}{o:Obj}{u:HO}(hd:H d=some u)(h:Same (upd H d (.frz o u)) H'):Same H (upd H' d u):=fun b q e=>by
 by_cases hb:b=d
 ·subst hb;rw [hd] at e;cases e;exact Zf
 ·rw [Zh hb];exact h b q (by rw [Zh hb];exact e)
def Itd(d:Addr)(o:Obj)(kvs:List (Key×V)):It :=
 ⟨fun i H=>H d=some (.frz o (.dK kvs))/\i<kvs.length,fun i H x H'=>H'=H/\∃kv,kvs[i]? =some kv/\x=kV kv.1,fun i H=>H d=some (.frz o (.dK kvs))/\kvs.length<=i⟩
theorem Zyf{P:Program}{w:World}{k:Key}{u:Value}(h:(Z9 P w).is k u=true):Yf (kV k) u:=by
 rcases Y5 (show Zig k u=true from h) with ⟨i,t,rfl,rfl⟩|⟨x,t,rfl,rfl⟩
 ·exact ⟨t,rfl⟩
 ·exact ⟨t,rfl⟩
theorem KV.get{kvs:List (Key×V)}{vs:List (Key×Value)}{i:Nat}{kv:Key×V}(r:KV kvs vs)(h:kvs[i]? =some kv):∃u,vs[i]? =some (kv.1,u)/\Yf kv.2 u:=by
 obtain ⟨q,h1,h2,h3⟩:=Paired.get r h;exact ⟨q.2,by rw [h1,h2],h3⟩
theorem Zst{P:Program}{w:World}{K:Frag}{tg:Expr}{d:Addr}{o:Obj}{kvs:List (Key×V)}{vs:List (Key×Value)}{ep:Nat}(it:Addr)(hk:KV kvs vs)
  (hD:∀h:Heap,h.get? d=some o->h.DictAt (Z9 P w) d vs ep):Zok P w K tg (Itd d o kvs) [it] it (fun i h=>h.IsKeyIter it d i vs.length ep) where
 mem:=by simp
 obj:=fun i h st b hb=>by
  have e:b=it:=by simpa using hb
  subst e;obtain ⟨ob,e,c,dd⟩:=st;exact ⟨ob,e,fun v z=>by rw [dd] at z;cases z⟩
 keep:=fun i h h' st k=>st.at fun ob e=>k it (by simp) ob e
 item:=by
  intro X hP hw hK hc i a6 s σ H E I hf st hg;subst hP hw hK;obtain ⟨hq,c8⟩:=hg;obtain ⟨f0,f1,f2,f3,f4,f5⟩:=hf it (by simp);have hdo:s.heap.get? d=some o:=(I.hok d _ hq).1;obtain ⟨u,hu,_⟩:=hk.get (i:=i) (kv:=kvs[i]) (by simp [c8]);refine wpAny_pyNext_dict_item (knd:=Z9 X.prog X.w) st (hD _ hdo) hu fun key h' B5 r6 sb=>?_
  have I1:Inv X a6 σ H { s with heap:=h' }:=I.turned (t':=s.toks) (fun b o hb e=>(sb.2 b hb).trans e) f0 f1 f3 f4 f5;obtain ⟨ob,e,c,dd⟩:=id r6;exact ⟨key,rfl,Zm9 (s:={ s with heap:=h' }) e c dd (by decide) ⟨kV kvs[i].1,H,I1,Zyf B5,⟨rfl,kvs[i],by simp [c8],rfl⟩,r6,fun b hb=>(hf b hb).1⟩⟩
 done:=by
  intro X hP hw hK hc i a6 s σ H E I hf st hg;subst hP hw hK;obtain ⟨hq,F3⟩:=hg;obtain ⟨f0,f1,f2,f3,f4,f5⟩:=hf it (by simp);have hdo:s.heap.get? d=some o:=(I.hok d _ hq).1;have hl:=KV.length hk;exact wpAny_pyNext_dict_end (knd:=Z9 X.prog X.w) (I.ok.hd hc) st (hD _ hdo) (List.getElem?_eq_none (by lia)) fun h' eb=>⟨rfl,I.turned (t':=s.toks) (fun b o hb e=>eb b o hb e) f0 f1 f3 f4 f5⟩
 self:=fun _ _ _ _ _ st h=>wpAny_pyIter_keyiter st h
def NF(X:Cx)(d:Addr)(u:HO):Prop:=(∀o u,X.H₀ d≠some (.frz o u))/\∀y,u ≠ .own y
def Ze5(X:Cx)(Q:Hp->Prop)(H:Hp):Prop:=∃d o u,H d=some (.frz o u)/\NF X d u/\Q (upd H d u)
theorem Ze5.run{X:Cx}{a6:List (Addr×Obj)}{σ:St}{H:Hp}{s:Shared}{Q:Hp->Prop}(I:Inv X a6 σ H s)(h:Ze5 X Q H):∃H',Inv X a6 σ H' s/\Q H':=by
 obtain ⟨d,o,u,hd,nf,q⟩:=h;exact ⟨_,I.thaw hd nf.1 nf.2,q⟩
def Ya6(X:Cx)(tl:TE):TI:=fun σ H R=>tl σ H fun x H1=>∃d kvs,x=.ref d/\H1 d=some (.dK kvs)/\∀o,NF X d (.dK kvs)->R (Itd d o kvs) (upd H1 d (.frz o (.dK kvs)))
theorem Zgj{P:Program}{w:World}{h:Heap}{d:Addr}{o:Obj}{vs:List (Key×Value)}(x:h.DictOf (Z9 P w) d vs)(ho:h.get? d=some o):∃ep,∀h':Heap,h'.get? d=some o->h'.DictAt (Z9 P w) d vs ep:=by
 obtain ⟨o',es,ep,e,r⟩:=x;rw [ho] at e;cases e;exact ⟨ep,fun h' e'=>⟨o,es,e',r⟩⟩
theorem Yct{X:Cx}{tg l:Expr}{tl:TE}(hl:PE X l tl):PI X tg l (Ya6 X tl):=by
 intro a6 s σ H R I h;refine thn (hl a6 s σ H _ I h) fun v s1 ⟨y,H1,I1,r1,q1⟩=>?_
 obtain ⟨d,kvs,rfl,hd,q⟩:=q1;cases r1;obtain ⟨hz,hs,vs,kv,dd⟩:=Zq0 I1.hok hd;obtain ⟨o,_,_,ho,_⟩:=id dd;obtain ⟨ep,hD⟩:=Zgj dd ho;have I2:=I1.freeze hd rfl ho;refine wpAny_pyIter_dict (knd:=Z9 X.prog X.w) hs (hD _ ho) ?_;have I3:Inv X a6 σ (upd H1 d (.frz o (.dK kvs))) { s1 with heap:=s1.heap.push { cls:=.type "dict_keyiterator",data:=.fields #[.ref d,.int 0 0,.int vs.length 0,.int ep 0] } }:=I2.kept (t':=s1.toks) fun b o e=>Heap.get?_push_of_some _ e
 refine ⟨s1.heap.objs.size,[s1.heap.objs.size],_,_,_,rfl,I3,Zst _ kv hD,⟨_,Heap.get?_push_size _ rfl,rfl,rfl⟩,fun b hb=>?_,q o ⟨I1.notFrz hd (fun _ _ z=>nomatch z),fun _ z=>nomatch z⟩⟩;have e:b=s1.heap.objs.size:=by simpa using hb
 subst e;exact I2.fpOk (Nat.le_refl _) (I2.hok.fresh (Nat.le_refl _))
def Ycp(X:Cx)(t:TS):TS:=fun D σ H=>t { nx:=fun σ'=>Ze5 X (D.nx σ'),rt:=fun v=>Ze5 X (D.rt v),bk:=fun σ'=>Ze5 X (D.bk σ'),ct:=fun σ'=>Ze5 X (D.ct σ') } σ H
theorem Zxc{X:Cx}{st:Stmt}{t:TS}(h:PS X st t):PS X st (Ycp X t):=by
 intro a6 s σ H D I hq;refine thn (h a6 s σ H _ I hq) fun f s' z=>?_
 cases f with
 | next=>obtain ⟨σ',H',I',q⟩:=z;obtain ⟨H2,I2,q2⟩:=q.run I';exact ⟨σ',H2,I2,q2⟩
 | brk=>obtain ⟨σ',H',I',q⟩:=z;obtain ⟨H2,I2,q2⟩:=q.run I';exact ⟨σ',H2,I2,q2⟩
 | cont=>obtain ⟨σ',H',I',q⟩:=z;obtain ⟨H2,I2,q2⟩:=q.run I';exact ⟨σ',H2,I2,q2⟩
 | ret u=>obtain ⟨v,σ',H',I',r,q⟩:=z;obtain ⟨H2,I2,q2⟩:=q.run I';exact ⟨v,σ',H2,I2,r,q2⟩
def Zy8(X:Cx)(t:TE):TE:=fun σ H Q=>t σ H fun v=>Ze5 X (Q v)
theorem Zqr{X:Cx}{e:Expr}{t:TE}(h:PE X e t):PE X e (Zy8 X t):=by
 intro a6 s σ H Q I hq;refine thn (h a6 s σ H _ I hq) fun u s' ⟨v,H',I',r,q⟩=>?_
 obtain ⟨H2,I2,q2⟩:=q.run I';exact ⟨v,H2,I2,r,q2⟩
theorem Ya5{d:Addr}{o:Obj}{kvs:List (Key×V)}{g:TG}{tb:TS}{D:Zet}{σ:St}{H:Hp}(Pv:Nat->St->Hp->Prop)(h0:Pv 0 σ H)(hl:∀i σ H,i<=kvs.length->Pv i σ H->H d=some (.frz o (.dK kvs)))
  (hs:∀i kv σ H,kvs[i]? =some kv->Pv i σ H->g (kV kv.1) σ H fun σ2 H2=>tb { D with nx:=Pv (i+1),ct:=Pv (i+1),bk:=D.nx } σ2 H2) (hd:∀σ H,Pv kvs.length σ H->D.nx σ H) :
  ∃W:Nat->Nat->St->Hp->Prop,(∃m,W 0 m σ H)/\∀i m σ H,W i m σ H ->
   ((Itd d o kvs).stop i H/\D.nx σ H)\/((Itd d o kvs).go i H/\∃N:St->Hp->Prop,(∀σ' H',N σ' H'->∃m',m'<m/\W (i+1) m' σ' H')/\∀x H',(Itd d o kvs).yld i H x H'->g x σ H' fun σ2 H2=>tb { D with nx:=N,ct:=N,bk:=D.nx } σ2 H2):=by
 refine ⟨fun i m σ H=>m=kvs.length-i/\i<=kvs.length/\Pv i σ H,⟨kvs.length,by simp,Nat.zero_le _,h0⟩,?_⟩;rintro i m σ H ⟨rfl,hi,p⟩;have q:=hl i σ H hi p
 by_cases c8:i<kvs.length
 ·refine .inr ⟨⟨q,c8⟩,Pv (i+1),fun σ' H' p'=>⟨kvs.length-(i+1),by lia,rfl,c8,p'⟩,fun x H' y=>?_⟩;obtain ⟨e,kv,L1,ex⟩:=y;subst e ex;exact hs i kv σ _ L1 p
 ·have e:i=kvs.length:=by lia
  subst e;exact .inl ⟨⟨q,Nat.le_refl _⟩,hd σ H p⟩
section
variable {X:Cx} {a6:List (Addr×Obj)} {σ:St} {H:Hp} {s:Shared}
theorem Inv.turnedNew{ch:List Addr}{o:HO}{h':Heap}{t':Nat}(I:Inv X a6 σ H s)(hf:∀b∈ch,Zhu X a6 H b)(k:∀b u,b∉ch->s.heap.get? b=some u->h'.get? b=some u)
  (new:Yi X.prog X.w (upd H s.heap.objs.size o) h' s.heap.objs.size o):Inv X a6 σ (upd H s.heap.objs.size o) { s with heap:=h',toks:=t' }:=by
 have hn:H s.heap.objs.size=none:=I.fresh;have y3:∀b u,s.heap.get? b=some u->b≠s.heap.objs.size:=fun b u e=>Nat.ne_of_lt (Heap.lt_size e)
 have trk:∀b u,H b=some u->b∉ch:=fun b u e z=>by rw [(hf b z).1] at e;cases e
 refine I.step (g':=s.gens) (d':=s.drawn) (ch:=ch) (fun b hb=>?_) (fun b o _ _ hc e _=>k b o hc e) (fun b o _ _ hc e _=>⟨o.slots,k b o hc e⟩) (fun b o _ e n=>by rw [Zh (y3 b o e)];exact n)
  (fun b o hc e=>⟨o,k b o hc e⟩) (fun b xs e=>by rw [Zh (Zj e hn)];exact e) (fun b ob u e=>by rw [Zh (Zj e hn)];exact e) (fun b ps e=>⟨#[],by rw [Zh (Zj e hn),e];simp⟩) (fun m hm=>?_) (fun b u e=>?_) I.bare
 ·obtain ⟨f0,f1,f2,f3,f4,f5⟩:=hf b hb;exact ⟨f3,f1,f4,f5⟩
 ·obtain ⟨ob,es,ep,ho,r⟩:=hm;exact ⟨ob,es,ep,k _ ob (fun z=>(hf _ z).2.1 rfl) ho,r⟩
 ·by_cases hb:b=s.heap.objs.size
  ·subst hb;rw [Zf] at e;cases e;exact new
  ·rw [Zh hb] at e;refine (I.hok b u e).stay (fun c v hc q=>k c v ?_ q) (fun c q=>by rw [Zh (Zj q hn)];exact q) fun c xs q=>by rw [Zh (Zj q hn)];exact q
   rcases hc with z|z
   ·rw [z];exact trk b u e
   ·exact trk c _ z
end
def Ite(K:Frag)(l:Addr):It :=
 ⟨fun i H=>∃xs x,SqL K H l xs/\xs[i]? =some x,fun i H x H'=>∃p y,x=.ref p/\H p=none/\H'=upd H p (.tup [.int (i:Nat),y])/\∀xs,SqL K H l xs->xs[i]? =some y,fun i H=>∃xs,SqL K H l xs/\xs.length<=i⟩
theorem Zsy{P:Program}{w:World}{K:Frag}{F8:List Expr}{x1:Nat}{pos:Pos}{l:Addr}(e it:Addr)(z8:e≠it) :
  Zok P w K (.Tuple F8 x1 pos) (Ite K l) [e,it] e (fun i h=>(∃y3,IsEnum h e it (i:Nat) y3)/\h.IsListIter it l i) where
 mem:=by simp
 obj:=fun i h st b hb=>by
  obtain ⟨⟨y3,he⟩,hi⟩:=st;rcases List.mem_cons.mp hb with rfl|hb
  ·exact ⟨_,he,fun v z=>nomatch z⟩
  ·have q:b=it:=by simpa using hb
   subst q;obtain ⟨o,e,c,d⟩:=hi;exact ⟨o,e,fun v z=>by rw [d] at z;cases z⟩
 keep:=fun i h h' st k=>by
  obtain ⟨⟨y3,he⟩,hi⟩:=st;exact ⟨⟨y3,k e (by simp) _ he⟩,hi.at fun o q=>k it (by simp) o q⟩
 item:=by
  intro X hP hw hK hc i a6 s σ H E I hf st hg;subst hP hw hK;obtain ⟨⟨y3,he⟩,hi⟩:=st;obtain ⟨xs,x,hq,hx⟩:=hg;obtain ⟨a7,rv,p,hz⟩:=I.list hq;obtain ⟨u,hu,ru⟩:=rv.get hx;refine wpAny_pyNext_enum_item he hi p.isList (x:=u) (by simpa using hu) z8 fun h' ho E3 ht hsz kk=>?_
  refine ⟨_,rfl,wpAny_letOwnedTupleGo_enum ho fun h2 he2 sb=>?_⟩;have hel:e<s.heap.objs.size:=Heap.lt_size he;have E5:it<s.heap.objs.size:=let ⟨o,q,_⟩:=hi;Heap.lt_size q;have k2:∀b v,b∉[e,it]->s.heap.get? b=some v->h2.get? b=some v:=fun b v hb q=>by
   have b1:b≠e:=fun z=>hb (by simp [z])
   have b2:b≠it:=fun z=>hb (by simp [z])
   exact (sb.2 b b1).trans (kk b v b1 b2 q)
  have htup:h2.get? s.heap.objs.size=some { cls:=.type "tuple",data:=.seq #[.int i s.toks,u] }:=(sb.2 _ (Nat.ne_of_gt hel)).trans ht;have new:Yi X.prog X.w (upd H s.heap.objs.size (.tup [.int (i:Nat),x])) h2 s.heap.objs.size (.tup [.int (i:Nat),x]) :=
   ⟨sz (by simp),[.int i s.toks,u],.cons ⟨_,rfl⟩ (.cons ru .nil),⟨_,htup,rfl,_,rfl⟩⟩
  refine ⟨.ref s.heap.objs.size,_,I.turnedNew (t':=s.toks+1) hf k2 new,rfl,⟨_,x,rfl,I.fresh,rfl,fun ys hy=>by rw [I.list_inj hy hq];exact hx⟩,⟨⟨_,he2⟩,?_⟩,fun b hb=>?_⟩
  ·exact E3.at fun o q=>(sb.2 it z8.symm).trans q
  ·rw [Zh ?_]
   ·exact (hf b hb).1
   ·rcases List.mem_cons.mp hb with rfl|hb
    ·exact Nat.ne_of_lt hel
    ·have q:b=it:=by simpa using hb
     subst q;exact Nat.ne_of_lt E5
 done:=by
  intro X hP hw hK hc i a6 s σ H E I hf st hg;subst hP hw hK;obtain ⟨⟨y3,he⟩,hi⟩:=st;obtain ⟨xs,hq,hx⟩:=hg;obtain ⟨a7,rv,p,hz⟩:=I.list hq;obtain ⟨f0,f1,f2,f3,f4,f5⟩:=hf it (by simp);have hl:=rv.length;exact wpAny_pyNext_enum_end (I.ok.hd hc) he hi p.isList (by simp;lia) fun h' eb=>⟨rfl,I.turned (t':=s.toks) (fun b o hb e=>eb b o hb e) f0 f1 f3 f4 f5⟩
 self:=fun _ _ _ _ _ st h=>by
  obtain ⟨⟨y3,he⟩,_⟩:=st;exact wpAny_pyIter_enum he h
def Ybi(K:Frag)(ta:TA):TI:=fun σ H R=>ta σ H fun vs H1=>∃l,vs=[.ref l]/\(∃xs,SqL K H1 l xs)/\R (Ite K l) H1
theorem Zh8{X:Cx}{F8:List Expr}{x1:Nat}{Q0:Pos}{a:Expr}{ta:TA}{p pos:Pos} (hg:Gl X "enumerate") (hm:X.mg "enumerate" =none) (ha:PA X [a] ta) (hs:starEach [a] X.env=[(false,eval a X.env)]:=by rfl) :
  PI X (.Tuple F8 x1 Q0) (.Call (.Name "enumerate" p) [a] [] pos) (Ybi X.K ta):=by
 intro a6 s σ H R I h;refine Call_ (Ze3 I hg hm boot_enumerate (PyProof.Rows.callWith_type1 (thn (ha pos a6 s σ H _ I h) fun us s1 ⟨vs,H1,I1,r1,q1⟩=>?_) hs rfl));obtain ⟨l,e,⟨xs,hq⟩,q⟩:=q1;subst e;obtain ⟨u,rfl,ru⟩:=Zci r1;cases ru;obtain ⟨a7,rv,pl,hz⟩:=I1.list hq;refine call_enumerate_list pl.isList fun h' he hi hsz kk=>wpAny_pyIter_enum he ?_
 have I2:Inv X a6 σ H1 { s1 with heap:=h' }:=I1.kept (t':=s1.toks) kk;refine ⟨s1.heap.objs.size+1,[s1.heap.objs.size+1,s1.heap.objs.size],_,_,H1,rfl,I2,Zsy _ _ (Nat.succ_ne_self _),⟨⟨_,he⟩,hi⟩,fun b hb=>?_,q⟩;rcases List.mem_cons.mp hb with rfl|hb
 ·exact I1.fpOk (Nat.le_succ _) (I1.hok.fresh (Nat.le_succ _))
 ·have e:b=s1.heap.objs.size:=by simpa using hb
  subst e;exact I1.fpOk (Nat.le_refl _) (I1.hok.fresh (Nat.le_refl _))
theorem Zfh{K:Frag}{l:Addr}{xs:List V}{g:TG}{tb:TS}{D:Zet}{σ:St}{H:Hp}(Pv:Nat->St->Hp->Prop)(h0:Pv 0 σ H)(hl:∀i σ H,i<=xs.length->Pv i σ H->SqL K H l xs)
  (hs:∀i x σ H,xs[i]? =some x->Pv i σ H->∀p H1,Same H H1->H p=none->H1 p=some (.tup [.int (i:Nat),x])->g (.ref p) σ H1 fun σ2 H2=>tb { D with nx:=Pv (i+1),ct:=Pv (i+1),bk:=D.nx } σ2 H2) (hd:∀σ H,Pv xs.length σ H->D.nx σ H) :
  ∃W:Nat->Nat->St->Hp->Prop,(∃m,W 0 m σ H)/\∀i m σ H,W i m σ H ->
   ((Ite K l).stop i H/\D.nx σ H)\/((Ite K l).go i H/\∃N:St->Hp->Prop,(∀σ' H',N σ' H'->∃m',m'<m/\W (i+1) m' σ' H')/\∀x H',(Ite K l).yld i H x H'->g x σ H' fun σ2 H2=>tb { D with nx:=N,ct:=N,bk:=D.nx } σ2 H2):=by
 refine ⟨fun i m σ H=>m=xs.length-i/\i<=xs.length/\Pv i σ H,⟨xs.length,by simp,Nat.zero_le _,h0⟩,?_⟩;rintro i m σ H ⟨rfl,hi,p⟩;have q:=hl i σ H hi p
 by_cases c8:i<xs.length
 ·refine .inr ⟨⟨xs,xs[i],q,by simp [c8]⟩,Pv (i+1),fun σ' H' p'=>⟨xs.length-(i+1),by lia,rfl,c8,p'⟩,fun x H' y=>?_⟩;obtain ⟨a,y,e,hn,e2,hy⟩:=y;subst e e2;exact hs i y σ H (hy xs q) p a _ (Same.new hn) hn Zf
 ·have e:i=xs.length:=by lia
  subst e;exact .inl ⟨⟨xs,q,Nat.le_refl _⟩,hd σ H p⟩
def Iti(d:Addr)(o:Obj)(kvs:List (Key×V)):It :=
 ⟨fun i H=>H d=some (.frz o (.dK kvs))/\i<kvs.length,fun i H x H'=>∃p kv,x=.ref p/\H p=none/\kvs[i]? =some kv/\H'=upd H p (.tup [kV kv.1,kv.2]),fun i H=>H d=some (.frz o (.dK kvs))/\kvs.length<=i⟩
theorem Zp6{P:Program}{w:World}{K:Frag}{F8:List Expr}{x1:Nat}{pos:Pos}{d:Addr}{o:Obj}{kvs:List (Key×V)}{vs:List (Key×Value)}{ep:Nat}(it:Addr)(hk:KV kvs vs)
  (hD:∀h:Heap,h.get? d=some o->h.DictAt (Z9 P w) d vs ep):Zok P w K (.Tuple F8 x1 pos) (Iti d o kvs) [it] it (fun i h=>∃ok ov,IsItemIter h it d i vs.length ep ok ov) where
 mem:=by simp
 obj:=fun i h st b hb=>by
  have e:b=it:=by simpa using hb
  subst e;obtain ⟨ok,ov,e⟩:=st;exact ⟨_,e,fun v z=>nomatch z⟩
 keep:=fun i h h' st k=>by
  obtain ⟨ok,ov,e⟩:=st;exact ⟨ok,ov,k it (by simp) _ e⟩
 item:=by
  intro X hP hw hK hc i a6 s σ H E I hf st hg;subst hP hw hK;obtain ⟨ok,ov,hi⟩:=st;obtain ⟨hq,c8⟩:=hg;have hdo:s.heap.get? d=some o:=(I.hok d _ hq).1;obtain ⟨u,hu,ru⟩:=hk.get (i:=i) (kv:=kvs[i]) (by simp [c8]);refine wpAny_pyNext_items_item (knd:=Z9 X.prog X.w) hi (hD _ hdo) hu fun key h' B5 ho ht hsz kk=>?_
  refine ⟨_,rfl,wpAny_letOwnedTupleGo_items ho fun h2 he2 sb=>?_⟩;have hel:it<s.heap.objs.size:=Heap.lt_size hi;have k2:∀b v,b∉[it]->s.heap.get? b=some v->h2.get? b=some v:=fun b v hb q=>by
   have b1:b≠it:=fun z=>hb (by simp [z])
   exact (sb.2 b b1).trans (kk b v b1 q)
  have htup:h2.get? s.heap.objs.size=some { cls:=.type "tuple",data:=.seq #[key,u] }:=(sb.2 _ (Nat.ne_of_gt hel)).trans ht;have new:Yi X.prog X.w (upd H s.heap.objs.size (.tup [kV kvs[i].1,kvs[i].2])) h2 s.heap.objs.size (.tup [kV kvs[i].1,kvs[i].2]) :=
   ⟨sz (by simp),[key,u],.cons (Zyf B5) (.cons ru .nil),⟨_,htup,rfl,_,rfl⟩⟩
  refine ⟨.ref s.heap.objs.size,_,I.turnedNew (t':=s.toks) hf k2 new,rfl,⟨_,kvs[i],rfl,I.fresh,by simp [c8],rfl⟩,⟨_,_,he2⟩,fun b hb=>?_⟩;have e:b=it:=by simpa using hb
  subst e;rw [Zh (Nat.ne_of_lt hel)];exact (hf _ hb).1
 done:=by
  intro X hP hw hK hc i a6 s σ H E I hf st hg;subst hP hw hK;obtain ⟨ok,ov,hi⟩:=st;obtain ⟨hq,F3⟩:=hg;obtain ⟨f0,f1,f2,f3,f4,f5⟩:=hf it (by simp);have hdo:s.heap.get? d=some o:=(I.hok d _ hq).1;have hl:=KV.length hk;exact wpAny_pyNext_items_end (knd:=Z9 X.prog X.w) (I.ok.hd hc) hi (hD _ hdo) (List.getElem?_eq_none (by lia)) fun h' eb=>⟨rfl,I.turned (t':=s.toks) (fun b o hb e=>eb b o hb e) f0 f1 f3 f4 f5⟩
 self:=fun _ _ _ _ _ st h=>by
  obtain ⟨ok,ov,hi⟩:=st;exact PySem.W.kcp_self hi h
def Yaq(X:Cx)(tl:TE):TI:=fun σ H R=>tl σ H fun x H1=>∃d kvs,x=.ref d/\H1 d=some (.dK kvs)/\∀o,NF X d (.dK kvs)->R (Iti d o kvs) (upd H1 d (.frz o (.dK kvs)))
theorem Zjx{X:Cx}{F8:List Expr}{x1:Nat}{Q0 i8 i5:Pos}{o:Expr}{to:TE}(ho:PE X o to) (A8:attributeBase o "items" X.env (eval o X.env)=eval o X.env:=by rfl) (A9:(i8.endLine ==i5.line)=true:=by rfl) :
  PI X (.Tuple F8 x1 Q0) (.Call (.Attribute o "items" i8) [] [] i5) (Yaq X to):=by
 intro a6 s σ H R I h;refine wpAny_Call_method0_late A8 A9 (thn (ho a6 s σ H _ I h) fun v s1 ⟨y,H1,I1,r1,q1⟩=>?_);obtain ⟨d,kvs,rfl,hd,q⟩:=q1;cases r1;obtain ⟨hz,hs,vs,kv,dd⟩:=Zq0 I1.hok hd;obtain ⟨ob,_,_,E6,hex,_⟩:=id dd;obtain ⟨ep,hD⟩:=Zgj dd E6;refine ⟨"dict", "dict.items",PySem.F.plainAttrs_dict,PySem.F.slot_dict_items,PySem.F.type_dict_items,dd.typeIs,fun a e=>?_,Calls.callWith_builtin rfl (PySem.evalArgs_none ?_)⟩
 ·cases e;exact ⟨ob,E6,hex.2.1⟩
 refine call_meetsIn PySem.F.slot_dict_items dd.typeIs PySem.F.entry_dict_items (PySem.F.args_dict_items_1 _) (meets_dict_items (Z9 X.prog X.w) d hs) ⟨⟨vs,dd⟩,?_⟩;have I2:=I1.freeze hd rfl E6;have I3:Inv X a6 σ (upd H1 d (.frz ob (.dK kvs))) { s1 with heap:=s1.heap.push { cls:=.type "dict_items",data:=.fields #[.ref d] } }:=I2.kept (t':=s1.toks) fun b o e=>Heap.get?_push_of_some _ e
 refine wpAny_pyIter_items (knd:=Z9 X.prog X.w) (d:=d) ⟨_,Heap.get?_push_size _ rfl,rfl,rfl⟩ (hD _ (Heap.get?_push_of_some _ E6)) ?_;refine ⟨_,[_],_,_,_,rfl,I3.kept (t':=s1.toks) fun b o e=>Heap.get?_push_of_some _ e,Zp6 _ kv hD,⟨_,_,Heap.get?_push_size _ rfl⟩,fun b hb=>?_,q ob ⟨I1.notFrz hd (fun _ _ z=>nomatch z),fun _ z=>nomatch z⟩⟩;have e:=List.mem_singleton.mp hb;subst e;exact I3.fpOk (Nat.le_refl _) (I3.hok.fresh (Nat.le_refl _))
theorem Zsl{d:Addr}{o:Obj}{kvs:List (Key×V)}{g:TG}{tb:TS}{D:Zet}{σ:St}{H:Hp}(Pv:Nat->St->Hp->Prop)(h0:Pv 0 σ H)(hl:∀i σ H,i<=kvs.length->Pv i σ H->H d=some (.frz o (.dK kvs)))
  (hs:∀i kv σ H,kvs[i]? =some kv->Pv i σ H->∀p H1,Same H H1->H p=none->H1 p=some (.tup [kV kv.1,kv.2])->g (.ref p) σ H1 fun σ2 H2=>tb { D with nx:=Pv (i+1),ct:=Pv (i+1),bk:=D.nx } σ2 H2) (hd:∀σ H,Pv kvs.length σ H->D.nx σ H) :
  ∃W:Nat->Nat->St->Hp->Prop,(∃m,W 0 m σ H)/\∀i m σ H,W i m σ H ->
   ((Iti d o kvs).stop i H/\D.nx σ H)\/((Iti d o kvs).go i H/\∃N:St->Hp->Prop,(∀σ' H',N σ' H'->∃m',m'<m/\W (i+1) m' σ' H')/\∀x H',(Iti d o kvs).yld i H x H'->g x σ H' fun σ2 H2=>tb { D with nx:=N,ct:=N,bk:=D.nx } σ2 H2):=by
 refine ⟨fun i m σ H=>m=kvs.length-i/\i<=kvs.length/\Pv i σ H,⟨kvs.length,by simp,Nat.zero_le _,h0⟩,?_⟩;rintro i m σ H ⟨rfl,hi,p⟩;have q:=hl i σ H hi p
 by_cases c8:i<kvs.length
 ·refine .inr ⟨⟨q,c8⟩,Pv (i+1),fun σ' H' p'=>⟨kvs.length-(i+1),by lia,rfl,c8,p'⟩,fun x H' y=>?_⟩;obtain ⟨a,kv,e,hn,L1,e2⟩:=y;subst e e2;exact hs i kv σ H L1 p a _ (Same.new hn) hn Zf
 ·have e:i=kvs.length:=by lia
  subst e;exact .inl ⟨⟨q,Nat.le_refl _⟩,hd σ H p⟩
def Zky(K:Frag)(H:Hp)(x y:V):Prop:=(Zdz x=true/\Zdz y=true/\eqV x y=true)\/∃n t,n<=60/\Im K H n t x/\Im K H n t y
theorem Zky.eqAt{X:Cx}{a6:List (Addr×Obj)}{σ:St}{H:Hp}{s:Shared}{A:Around}{x y:V}{u v:Value}(I:Inv X a6 σ H s)(h:Zky X.K H x y)(rx:Yf x u)(ry:Yf y v)(hu:A.units+60<cLine):SeqAt.EqAt A s u v true:=by
 rcases h with ⟨f1,f2,e⟩|⟨n,t,hn,i1,i2⟩
 ·exact Yb (Ziy rx ry f1 f2) e
 ·exact Yb (Im.eqAt I n A i1 i2 rx ry (by lia)) (decide_eq_true rfl)
def Yba(K:Frag):R2:=fun x y H Q=>∃a b ka kb,x=.ref a/\y=.ref b/\Rd H a (.dK ka)/\Rd H b (.dK kb)/\ka.length=kb.length/\(∀kv∈ka,∃v,Yv kb kv.1=some v/\Zky K H kv.2 v)/\Q (.bl true) H
theorem Zzi{X:Cx}(hu:X.A.units+64<cLine):OpR X (compareOp .Eq) (Yba X.K):=by
 intro a6 s σ H x y v u Q I rx ry h;obtain ⟨a,b,ka,kb,rfl,rfl,ha,hb,hl,A7,q⟩:=h;cases rx;cases ry;obtain ⟨_,sa,va,ra,da⟩:=Zcf I.hok ha;obtain ⟨_,sb,vb,rb,db⟩:=Zcf I.hok hb;have la:=KV.length ra;have lb:=KV.length rb;have x0:∀{ka':List (Key×V)} {va':List (Key×Value)},KV ka' va'->(∀kv∈ka',∃v,Yv kb kv.1=some v/\Zky X.K H kv.2 v)->PySem.W.KeqHits X.A.in1 s vb va' true:=by
  intro ka' va' r
  induction r with
  | nil=>intro _;exact .nil
  | cons r t ih =>
   rename_i p q l m;intro hv;obtain ⟨e1,r2⟩:=r;obtain ⟨v,hv1,hv2⟩:=hv p List.mem_cons_self;have N5:=KV.val rb p.1;rw [hv1] at N5;obtain ⟨y,hy,ry⟩:=Zcb.some_of N5;rw [e1] at hy;have:=PySem.W.KeqHits.hit (k:=q.1) (v:=q.2) hy (hv2.eqAt (A:=X.A.in1) I r2 ry (by rw [Y7];lia)) (ih fun kv L1=>hv kv (List.mem_cons_of_mem _ L1));simpa using this
 refine PySem.W.keq_eq (knd:=Z9 X.prog X.w) sa sb da db (by lia) (fun _=>x0 ra A7) ⟨.bl true,H,I,?_,q⟩;rw [show (va.length ==vb.length)=true by rw [<-la,<-lb,hl];simp]
 rfl
def Wo(K:Frag):R2:=fun x y H Q=>rEq x y H Q\/Zwv K false x y H Q\/Yba K x y H Q
def Xk(K:Frag):List V->Hp->VK->Prop:=fun xs H Q=>(∃p ys,xs=[.ref p]/\(SqL K H p ys\/SqT K H p ys)/\Q (.int ys.length) H)\/(∃z,xs=[.str z]/\z.length<=sizeLine/\Q (.int z.length) H)\/∃a kvs,xs=[V.ref a]/\H a=some (.dK kvs)/\Q (.int kvs.length) H
def Zf9(K:Frag):V->Option Int->Option Int->Hp->VK->Prop:=fun x lo hi H Q=>Zyc K x lo hi H Q\/Zyb K x lo hi H Q\/Ycm x lo hi H Q
section
variable {X:Cx} {k:Nat}
theorem Wv(hr:X0 k X.A):OpR X (compareOp .Eq) (Wo X.K):=Ybf.or ((Yat hr.units).or (Zzi hr.units))
theorem Xo:Xj X (.builtin "len") (Xk X.K):=Zmz.or (Zmb.or Zsd)
theorem Zht:SlR X (Zf9 X.K):=Zwh.or (Ztt.or Zzn)
def Zyt(K:Frag):List V->Hp->VK->Prop:=fun xs H Q=>∃p ys,xs=[.ref p]/\(SqL K H p ys\/SqT K H p ys)/\New H (.lst ys) Q
theorem Zoy:Xj X (.type "list") (Zyt X.K):=Zl0.imp fun xs H Q ⟨p,ys,h1,h2,h3⟩=>⟨p,ys,h1,h2,fun l hl=>h3.at l hl⟩
def Zx4:TE:=fun _ H Q=>New H (.dK []) Q
theorem Zgl{pos:Pos}:PE X (.Dict [] [] pos) Zx4:=fun a6 s σ H Q I h=>Zvp a6 s σ H Q I fun p hp=>h.at p hp
def Zxs:TE:=fun _ H Q=>New H (.dT []) Q
theorem Zd2{pos:Pos}:PE X (.Dict [] [] pos) Zxs:=fun a6 s σ H Q I h=>Zum a6 s σ H Q I fun p hp=>h.at p hp
def Ybd(K:Frag):List V->Hp->VK->Prop:=fun xs H Q=>∃(p:Addr) (bs:List Bool),xs=[.ref p]/\SqL K H p (bs.map V.bl)/\Q (.bl (bs.all id)) H
theorem Zsk(hc:X.calm=true):Xj X (.builtin "all") (Ybd X.K):=Zis hc
def Zkg(K:Frag):List V->Hp->VK->Prop:=fun xs H Q=>∃x c b t,xs=[x,c]/\W6 K H x t/\((∃n,c=.ty n/\kitOne K t (.type n)=some b)\/∃a,c=.ref a/\kitOne K t (.ref a)=some b)/\Q (.bl b) H
theorem X6:Xj X (.builtin "isinstance") (Zkg X.K):=Zn2
end
theorem Wq{X:Cx}{i:Nat}{y:Str}{py spos:Pos}{L8 tg k8:Expr}{F2:List Expr}{scope:Scope}{pos:Pos}{cl:List (Str×Addr)}{N':List Str}{fr:St->St}{wi:TI}{g:TG}{tf:TT}{te:TE}
  (hN:X.N.Nodup) (E3:X.N[i]? =some y) (hy:Loc X.env.scope y) (hc:X.calm=true) (S:Z5 X scope cl N' fr) (hi:PI X tg k8 wi) (hg:∀s H C ex,PG (Y3 X scope cl N' s H C ex) tg g) (hf:∀s H C ex,PF (Y3 X scope cl N' s H C ex) F2 tf)
  (he:∀s H C ex,PE (Y3 X scope cl N' s H C ex) L8 te) (hs:∀x,foldedSetIterable k8 X.env x=pure x:=by intro _;rfl)
  (hsw:swapsWith (.ListComp L8 [⟨tg,k8,F2,0⟩] scope pos) (some (.Name y py)) spos.line X.env=pure true:=by rfl) (hfn:X.fn y=true\/X.env.scope.names.lookup y=some .local:=by first | exact .inl rfl | exact .inr rfl | assumption) :
  PS X (.Assign [.Name y py] (.ListComp L8 [⟨tg,k8,F2,0⟩] scope pos) spos) (Zw9 (Zyv wi fr g tf te) (Zdm i)):=by
 intro a6 s σ H D I h;rw [exec_Assign_Name_used _ _ _ _ hsw];refine wpAny_bind (wpAny_standAt (wpAny_bind ?_));show wpAny _ X.A (do let _ <-comprehension (.ListComp L8 [⟨tg,k8,F2,0⟩] scope pos) scope X.env _ (newList []) false (eval k8 X.env) (some (assign (.Name y py) X.env))) _ _ s;refine wpAny_bind (wpAny_mono (wpAny_comprehension_free (use:=some (assign (.Name y py) X.env)) (Q:=fun _ s'=>∃σ' H',Inv X a6 σ' H' s'/\D.nx σ' H') rfl hs S.clos S.kind S.names (thn (hi a6 s σ H _ I h) fun v s1 h1=>thn h1 fun itv s2 h2=>?_)) (fun _ s' hq=>wpAny_pure (wpAny_pure hq)) fun _ _ e=>e);obtain ⟨it,fp,tn,J,H2,e,I2,T,a9,f2,q⟩:=h2;subst e;refine wpAny_newObj_type (wpAny_newFunctionEnv S.cell (by intro y hy;simp at hy) (fun h₁ E8 A3=>?_) S.kind);dsimp only at E8 A3 ⊢;generalize hP:s2.heap.push { cls:=.type "list",dict:=none,data:=.seq ([]:List Value).toArray }=P at E8 A3 ⊢;have hPz:P.objs.size=s2.heap.objs.size+1:=by rw [<-hP,Heap.size_push]
 have Q8:s2.heap.objs.size<P.objs.size:=by rw [hPz];exact Nat.lt_succ_self _
 have J7:∀b∈fp,∃o,s2.heap.get? b=some o:=fun b hb=>let ⟨o,e,_⟩:=T.obj _ _ a9 b hb;⟨o,e⟩
 have D8:∀b,b<s2.heap.objs.size->b≠P.objs.size:=fun b hb=>Nat.ne_of_lt (Nat.lt_trans hb Q8)
 have y3:∀b o,s2.heap.get? b=some o->h₁.get? b=some o:=fun b o e=>A3.extBut b o (D8 b (Heap.lt_size e)) (Heap.get?_push_of_some _ (hP ▸ Heap.get?_push_of_some _ e))
 have L3:h₁.get? s2.heap.objs.size=some { cls:=.type "list",data:=.seq ([]:List Value).toArray 0 }:=A3.extBut _ _ (Nat.ne_of_lt Q8) (Heap.get?_push_of_some _ (hP ▸ Heap.get?_push_size _ rfl));have fD:H2 s2.heap.objs.size=none:=I2.hok.fresh (Nat.le_refl _);obtain ⟨W,⟨m0,w0⟩,turn⟩:=q s2.heap.objs.size fD;have hz:h₁.objs.size<=P.objs.size+1:=by
  have e:=A3.1;rw [Heap.size_push] at e;exact Nat.le_of_eq e
 have M5:tn 0 h₁:=T.keep _ _ _ a9 fun b hb o e=>y3 b o e
 have A5:∀{j5:List (Addr×Obj)} {H':Hp},(∀p∈j5,p.1∉fp)->(∀b∈fp,H' b=none)->∀b∈fp,Zhu (Y3 X scope cl N' s2 H2 P.objs.size fp) j5 H' b:=fun {j5 H'} hp hn b hb=>by
  obtain ⟨o,e⟩:=J7 b hb;obtain ⟨_,f1,f2',f3,f4,f5⟩:=f2 b hb;refine ⟨hn b hb,D8 b (Heap.lt_size e),fun z=>?_,.inl hb,fun x c h=>f4 x c (S.sub x c h),fun p hp' z=>?_⟩
  ·rcases List.mem_cons.mp (I2.stkSub b z) with q|q
   ·exact f1 q
   ·exact f2' q
  ·have Q4:p∈j5:=by simpa [Y3] using hp'
   exact hp p Q4 (by rw [z];exact hb)
 have loop:∀s3:Shared,s3={ s2 with heap:=h₁,toks:=s2.toks+([]:List (Str×Value)).length } ->
   codeAny (model X.prog X.w) X.A (.compLoop (.ListComp L8 [⟨tg,k8,F2,0⟩] scope pos) 0 (.ref it) (.ref s2.heap.objs.size) (compEnvC scope cl P.objs.size X.env)) (compPost (model X.prog X.w) X.A X.xe (some (assign (.Name y py) X.env)) (fun _ s'=>∃σ' H',Inv X a6 σ' H' s'/\D.nx σ' H') (.ref s2.heap.objs.size) P.objs.size) s3:=by
  rintro s3 rfl;have I3:Inv (Y3 X scope cl N' s2 H2 P.objs.size fp) [] (fr σ) (upd H2 s2.heap.objs.size (.lst [])) { s2 with heap:=h₁,toks:=s2.toks+([]:List (Str×Value)).length }:=Zjq I2 S Q8 rfl f2 J7 y3 L3 E8 hz;refine Zap (fun n s'=>∃i ys H',Inv (Y3 X scope cl N' s2 H2 P.objs.size fp) [] (fr σ) H' s'/\tn i s'.heap/\(∀b∈fp,H' b=none)/\W i n ys H') ?_ m0 ⟨0,[],_,I3,M5,fun b hb=>?_,w0⟩
  ·rintro n s3 ⟨i,ys,H3,I3,i3,fr3,w3⟩;rcases turn i n ys H3 w3 with ⟨stop,qn⟩|⟨go,N,hN,step⟩
   ·refine thn (T.done (Y3 X scope cl N' s2 H2 P.objs.size fp) rfl rfl rfl hc i [] s3 (fr σ) H3 _ I3 (A5 (by simp) fr3) i3 stop) fun r s4 ⟨hr,I4⟩=>?_
    subst hr;obtain ⟨m4,hn4,_⟩:=I4.loc;obtain ⟨oC,esC,epC,hoC,hrC⟩:=id hn4;have J0:Inv X a6 σ H3 s4:=Znq I2 Q8 f2 I4 (h':=s4.heap) ⟨rfl,fun _ _=>rfl⟩;have big:s2.heap.objs.size<=P.objs.size:=Nat.le_of_lt Q8;have fC:H3 P.objs.size=none:=I4.free;have okC:=I2.fpOk big fC;have J1:Inv X (a6++[(P.objs.size,oC)]) σ H3 s4:=J0.pins_of fun p hp=>by
     rcases List.mem_append.mp hp with hp|hp
     ·exact J0.pin p (List.mem_append_right _ hp)
     ·have e:p=(P.objs.size,oC):=by simpa using hp
      subst e;exact ⟨hoC,fC,okC.2.1,okC.2.2.1,fun v z=>by rw [hrC.1] at z;cases z⟩
    refine thn (Zlx hN E3 hy hfn (X:=X) (pos:=py) _ s4 σ H3 (.ref s2.heap.objs.size) (.ref s2.heap.objs.size) _ J1 rfl qn) fun _ s5 ⟨σ5,H5,I5,q5⟩=>?_
    obtain ⟨p1,p2,p3,p4,p5⟩:=I5.pin (P.objs.size,oC) (List.mem_append_right _ (List.mem_append_right _ (by simp)));exact ⟨m4,⟨oC,esC,epC,p1,hrC⟩,fun h' K9=>⟨σ5,H5,(I5.unpinned).turned (t':=s5.toks) (it:=P.objs.size) (fun b o hb e=>(K9.2 b hb).trans e) p2 p3 okC.2.2.2.1 okC.2.2.2.2.1 okC.2.2.2.2.2,q5⟩⟩
   ·refine thn (T.item (Y3 X scope cl N' s2 H2 P.objs.size fp) rfl rfl rfl hc i [] s3 (fr σ) H3 _ I3 (A5 (by simp) fr3) i3 go) fun r s4 ⟨u,hr,h4⟩=>?_
    subst hr;refine thn h4 fun _ s5 ⟨x,H5,I5,r5,y5,u6,fr5⟩=>?_
    have I5':=I5.pinned (A5 (by simp) fr5) (T.obj _ _ u6);refine thn (hg s2 H2 P.objs.size fp _ s5 (fr σ) H5 x u _ I5' r5 (step x H5 y5)) fun _ s6 ⟨σ6,H6,I6,kp,q6⟩=>?_
    refine thn (hf s2 H2 P.objs.size fp _ s6 σ6 H6 _ I6 q6) fun ok s7 ⟨H7,I7,q7⟩=>?_
    have x9:∀{σ8:St} {H8:Hp} {s8:Shared} {V0:List V},X5 (fr σ) σ8->Inv (Y3 X scope cl N' s2 H2 P.objs.size fp) ([]++Zgy fp s5.heap) σ8 H8 s8->N V0 H8 ->
      ∃m,m<n/\∃i ys H',Inv (Y3 X scope cl N' s2 H2 P.objs.size fp) [] (fr σ) H' s8/\tn i s8.heap/\(∀b∈fp,H' b=none)/\W i m ys H':=fun {σ8 H8 s8 V0} kp8 I8 n8=>by
     obtain ⟨m',hm,w8⟩:=hN V0 H8 n8;refine ⟨m',hm,i+1,V0,H8,(I8.unpinned).weak (by rw [I8.len];exact S.len σ I2.len) kp8,T.keep _ _ _ u6 fun b hb o e=>(I8.pin (b,o) (List.mem_append_right _ (List.mem_append_right _ (Zad hb e)))).1,fun b hb=>?_,w8⟩;obtain ⟨o,e,d⟩:=T.obj _ _ u6 b hb;exact (I8.pin (b,o) (List.mem_append_right _ (List.mem_append_right _ (Zad hb e)))).2.1
    cases ok with
    | false=>exact x9 kp I7 q7
    | true =>
     refine thn (he s2 H2 P.objs.size fp _ s7 σ6 H7 _ I7 q7) fun uy s8 ⟨y,H8,I8,r8,L0,hz8,q8⟩=>?_
     exact thn (Xf _ s8 σ6 H8 (.ref s2.heap.objs.size) [y] (.ref s2.heap.objs.size) [uy] (fun _ H9=>N (ys++[y]) H9) I8 rfl (.cons r8 .nil) ⟨_,ys,y,rfl,rfl,L0,hz8,q8⟩) fun _ s9 ⟨v9,H9,I9,_,q9⟩=>x9 kp I9 q9
  ·show upd H2 s2.heap.objs.size (.lst []) b=none;obtain ⟨o,e⟩:=J7 b hb;rw [Zh (Nat.ne_of_lt (Heap.lt_size e))];exact (f2 b hb).1
 exact codeAny_compStart_list (loop _ rfl) (T.self X.A 0 _ _ _ M5 (loop _ rfl))
theorem Zh9{X:Cx}{K:Frag}{es:List Expr}{k:Nat}{pos:Pos}{t:TGs}{n:Nat}(hK:X.K=K)(hc:X.calm=true)(h:PGs X es t)
  (hn:(assignEach es X.env).length=n:=by rfl) (C3:(assignEach es X.env).findIdx? (·.1)=none:=by rfl):PG X (.Tuple es k pos) (Ycb K n t):=hK ▸ Zaz hc h hn C3
end L2
end
section
namespace L2
open PySem PySem.Spec PyProof.Rows
def Yb1(K:Frag):R2:=fun x y H Q=>∃a b ka kb,x=.ref a/\y=.ref b/\Rd H a (.dK ka)/\Rd H b (.dK kb)/\ka.length=kb.length/\(∀kv∈ka,∃v,Yv kb kv.1=some v/\Zky K H kv.2 v)/\Q (.bl false) H
theorem Yaf{X:Cx}(hu:X.A.units+64<cLine):OpR X (compareOp .NotEq) (Yb1 X.K):=by
 intro a6 s σ H x y v u Q I rx ry h;obtain ⟨a,b,ka,kb,rfl,rfl,ha,hb,hl,A7,q⟩:=h;cases rx;cases ry;obtain ⟨_,sa,va,ra,da⟩:=Zcf I.hok ha;obtain ⟨_,sb,vb,rb,db⟩:=Zcf I.hok hb;have la:=KV.length ra;have lb:=KV.length rb;have x0:∀{ka':List (Key×V)} {va':List (Key×Value)},KV ka' va'->(∀kv∈ka',∃v,Yv kb kv.1=some v/\Zky X.K H kv.2 v)->PySem.W.KeqHits X.A.in1 s vb va' true:=by
  intro ka' va' r
  induction r with
  | nil=>intro _;exact .nil
  | cons r t ih =>
   rename_i p q l m;intro hv;obtain ⟨e1,r2⟩:=r;obtain ⟨v,hv1,hv2⟩:=hv p List.mem_cons_self;have N5:=KV.val rb p.1;rw [hv1] at N5;obtain ⟨y,hy,ry⟩:=Zcb.some_of N5;rw [e1] at hy;have:=PySem.W.KeqHits.hit (k:=q.1) (v:=q.2) hy (hv2.eqAt (A:=X.A.in1) I r2 ry (by rw [Y7];lia)) (ih fun kv L1=>hv kv (List.mem_cons_of_mem _ L1));simpa using this
 refine PySem.W.keq_ne (knd:=Z9 X.prog X.w) sa sb da db (by lia) (fun _=>x0 ra A7) ⟨.bl false,H,I,?_,q⟩;rw [show (va.length ==vb.length)=true by rw [<-la,<-lb,hl];simp]
 rfl
def Zxh(K:Frag)(neg:Bool):R2:=fun x y H Q=>∃(p:Addr) (n:Nat) (t:Tr) (ts:List Tr) (as:List Addr),y=.ref p/\SqL K H p (as.map V.ref)/\n<=60/\Im K H n t x/\Paired (Im K H n) ts (as.map V.ref)/\Q (.bl (if neg then !decide (t∈ts) else decide (t∈ts))) H
noncomputable def Zj6 (K:Frag) (H:Hp) (n:Nat) (t:Tr) (u:Value):Bool:=match u with
 | .ref a=>@decide (Im K H n t (.ref a)) (Classical.propDecidable _)
 | _=>false
theorem Zir{X:Cx}{a6:List (Addr×Obj)}{σ:St}{H:Hp}{s:Shared}(I:Inv X a6 σ H s){n:Nat}{t:Tr}:∀{ts:List Tr} {as:List Addr} {us:List Value},Paired (Im X.K H n) ts (as.map V.ref)->Ya (as.map V.ref) us->us.any (Zj6 X.K H n t)=decide (t∈ts)
 | [],[],_,_,v=>by rw [List.map_nil] at v;cases v;simp
 | [],a ::as,_,p,_=>by rw [List.map_cons] at p;cases p
 | t' ::ts,[],_,p,_=>by rw [List.map_nil] at p;cases p
 | t' ::ts,a ::as,us,p,v=>by
  rw [List.map_cons] at p v;cases p with
  | cons i p =>
   cases v with
   | cons r v =>
    cases r;rw [List.any_cons,Zir I p v,Bool.eq_iff_iff,Bool.or_eq_true];simp only [Zj6,decide_eq_true_eq,List.mem_cons]
    constructor
    ·rintro (z|z)
     ·exact .inl (Im.inj I z i)
     ·exact .inr z
    ·rintro (z|z)
     ·exact .inl (z ▸ i)
     ·exact .inr z
theorem Zi0{X:Cx}{a6:List (Addr×Obj)}{σ:St}{H:Hp}{s:Shared}(I:Inv X a6 σ H s){n:Nat}{A:Around}(hu:A.units+n<cLine){t:Tr}{x:V}{vx:Value}(hx:Im X.K H n t x)(rx:Yf x vx) :
  ∀{ts:List Tr} {as:List Addr} {us:List Value},Paired (Im X.K H n) ts (as.map V.ref)->Ya (as.map V.ref) us->∀u∈us,SeqAt.EqAt A s u vx (Zj6 X.K H n t u)
 | [],[],_,_,v=>by rw [List.map_nil] at v;cases v;simp
 | [],a ::as,_,p,_=>by rw [List.map_cons] at p;cases p
 | t' ::ts,[],_,p,_=>by rw [List.map_nil] at p;cases p
 | t' ::ts,a ::as,us,p,v=>by
  rw [List.map_cons] at p v;cases p with
  | cons i p =>
   cases v with
   | cons r v =>
    cases r;intro u hm;rcases List.mem_cons.mp hm with e|e
    ·subst e;refine Yb (Im.eqAt I n A i hx rfl rx hu) ?_;simp only [Zj6,decide_eq_decide];exact ⟨fun z=>z ▸ i,fun z=>(Im.inj I z i).symm⟩
    ·exact Zi0 I hu hx rx p v u e
theorem Yab{X:Cx}(hu:X.A.units+64<cLine):OpR X (compareOp .In) (Zxh X.K false):=by
 intro a6 s σ H x y v u Q I rx ry h;obtain ⟨p,n,t,ts,as,rfl,hq,hn,hx,hp,q⟩:=h;cases ry;obtain ⟨a7,r,pl,hz⟩:=I.list hq;refine SeqAt.in_listAt (Zj6 X.K H n t) pl.isList (fun w hw=>Zi0 I (by rw [Y7];lia) hx rx hp r w (by simpa using hw)) ⟨.bl _,H,I,rfl,?_⟩;rw [show a7.toArray.any (Zj6 X.K H n t)=a7.any (Zj6 X.K H n t) by simp,Zir I hp r];exact q
theorem Zs2{X:Cx}(hu:X.A.units+64<cLine):OpR X (compareOp .NotIn) (Zxh X.K true):=by
 intro a6 s σ H x y v u Q I rx ry h;obtain ⟨p,n,t,ts,as,rfl,hq,hn,hx,hp,q⟩:=h;cases ry;obtain ⟨a7,r,pl,hz⟩:=I.list hq;refine SeqAt.notIn_listAt (Zj6 X.K H n t) pl.isList (fun w hw=>Zi0 I (by rw [Y7];lia) hx rx hp r w (by simpa using hw)) ⟨.bl _,H,I,rfl,?_⟩;rw [show a7.toArray.any (Zj6 X.K H n t)=a7.any (Zj6 X.K H n t) by simp,Zir I hp r];exact q
section
variable {X:Cx} {k:Nat}
def Zfg(K:Frag):R2:=fun x y H Q=>rNe x y H Q\/Zwv K true x y H Q\/Yb1 K x y H Q
theorem Zhf(hr:X0 k X.A):OpR X (compareOp .NotEq) (Zfg X.K):=Ybm.or ((Zz2 hr.units).or (Yaf hr.units))
def Zhp(K:Frag):R2:=fun x y H Q=>rIn K false x y H Q\/(∃a o,y=.ref a/\Xy H a x o/\Q (.bl o.isSome) H)\/(∃i j,x=.str i/\y=.str j/\Q (.bl (!(Builtin.Str.occurrences j i 0 j.length 1).isEmpty)) H)\/Zxh K false x y H Q
theorem Zj0(hr:X0 k X.A):OpR X (compareOp .In) (Zhp X.K):=Zr0.or ((Zy6 (Xi hr)).or (Zsc.or (Yab hr.units)))
def Zai(K:Frag):R2:=fun x y H Q=>rIn K true x y H Q\/(∃a o,y=.ref a/\Xy H a x o/\Q (.bl (!o.isSome)) H)\/Zxh K true x y H Q
theorem Za3(hr:X0 k X.A):OpR X (compareOp .NotIn) (Zai X.K):=Zl9.or ((Zrx (Xi hr)).or (Zs2 hr.units))
end
end L2
end
section
namespace L2
open PySem
def TrX(h base:Heap)(e:Addr)(cls a0:Value)(dx:Option Addr)(fl:Value):Prop :=
 ∃oe vs T oT ts,h.get? e=some oe/\oe.cls=cls/\oe.dict=dx/\oe.data=.fields vs/\(vs[0]? =some a0/\vs[2]? =some .none)/\vs[1]? =some (.ref T)/\base.get? T=none/\T≠e/\h.get? T=some oT/\oT.data=.fields ts/\ts[3]? =some fl
def Zcv(base:Heap)(l:List Env)(e:Addr)(cls a0:Value)(dx:Option Addr)(fl:Value)(h:Heap):Prop:=base.StaysIn h/\base.get? e=none/\h.FunFrames base l/\TrX h base e cls a0 dx fl
theorem Zs0(f:Array Value->Array Value)(o:Obj):(Obj.mapFields f o).dict=o.dict:=by
 obtain ⟨c,d,dt,sl⟩:=o;cases dt <;>rfl
theorem Zcv.there{base h:Heap}{l:List Env}{e:Addr}{cls a0 fl:Value}{dx:Option Addr}(x:Zcv base l e cls a0 dx fl h):∃ob,h.get? e=some ob/\ob.cls=cls/\ob.dict=dx/\∃vs,ob.data=.fields vs:=by
 obtain ⟨_,_,_,oe,vs,_,_,_,he,hc,hx,hd,_⟩:=x;exact ⟨oe,he,hc,hx,vs,hd⟩
section
variable {M:Model} {A:Around} {E:Value->Shared->Prop} {s:Shared} {base:Heap} {env:Env} {outer l:List Env} {L e:Addr} {oe:Obj} {vs:Array Value} {head a0 cls fl:Value} {dx:Option Addr} {Q:Unit->Shared->Prop}
theorem Ybn{V1:Bool}(B6:A.frames=some (env ::outer))(hl:s.heap.FunFrames base (env ::outer))(hf:env.frame=some L)(he:s.heap.get? e=some oe)(S3:base.StaysIn s.heap)(B4:base.get? e=none)(hd:oe.data=.fields vs)(hsz:1<vs.size)
  (h0:vs[0]? =some a0/\vs[2]? =some .none) (h:∀h',Zcv base (env ::outer) e oe.cls a0 oe.dict (rawInt L) h'->s.heap.UpToSlots h'->Q () { s with heap:=h' }) :
  wpAny M A (do let a <-frameOf env;let pl <-entryPlaceOf L V1;let b <-EntryCells.newEntry head a .none (rawInt L) .none pl;setField (.ref e) 1 b) Q E s:=by
 have off:e∉(env ::outer).filterMap (·.frame):=fun z=>by
  obtain ⟨_,o,q,nf⟩:=hl.mem z;rw [he] at q;cases q;exact nf vs hd
 refine wpAny_bind (wpAny_frameOf_fun B6 hl hf fun g so=>wpAny_bind (wpAny_entryPlaceOf fun pl j0=>?_));unfold EntryCells.newEntry newFields;refine wpAny_bind (wpAny_newObj_type ?_ (j0.sizeOk5 _ _ _ _ _));have e1:g.get? e=some oe:=by rw [so.2.1 e off];exact he
 have k1:base.StaysIn g:=fun b o q=>by
  rw [so.2.1 b fun z=>by rw [(hl.mem z).1] at q;cases q];exact S3 b o q
 generalize hT:({ cls:=.type "traceback",dict:=none,data:=.fields ([head,.ref L,.none,rawInt L,.none]++(if pl.isEmpty then List.replicate 6 Value.none else pl)).toArray }:Obj)=oT;have e2:(g.push oT).get? e=some oe:=Heap.get?_push_of_some _ e1;have nT:g.objs.size≠e:=Nat.ne_of_gt (Heap.lt_size e1);have t2:(g.push oT).get? g.objs.size=some oT:=Heap.get?_push_size g (by rw [<-hT];rfl);refine wpAny_setField e2 hd hsz (h _ ?_ ?_)
 ·have d3:=Obj.data_mapFields hd (·.setIfInBounds 1 (Value.ref g.objs.size));have e3:=Heap.get?_update_self (Obj.mapFields (·.setIfInBounds 1 (Value.ref g.objs.size))) e2 (Obj.isFreed_of_fields d3);have t3:((g.push oT).update e (Obj.mapFields (·.setIfInBounds 1 (Value.ref g.objs.size)))).get? g.objs.size=some oT:=by rw [Heap.get?_update_other _ _ nT.symm];exact t2
  have y3:∀b o,b≠e->g.get? b=some o->((g.push oT).update e (Obj.mapFields (·.setIfInBounds 1 (Value.ref g.objs.size)))).get? b=some o:=fun b o nb q=>by
   rw [Heap.get?_update_other _ _ nb.symm];exact Heap.get?_push_of_some _ q
  refine ⟨fun b o q=>y3 b o (fun z=>by rw [z,B4] at q;cases q) (k1 b o q),B4,hl.of_keeps fun b o q nf=>?_,?_⟩
  ·obtain ⟨sl,z⟩:=so.2.2 b o q;refine ⟨_,y3 b _ (fun y=>?_) z,rfl⟩;rw [y,he] at q;cases q;exact nf vs hd
  ·refine ⟨_,_,g.objs.size,oT,_,e3,Obj.cls_mapFields _ _,Zs0 _ _,d3,?_,by simp [hsz],k1.fresh,nT,t3,by rw [<-hT],?_⟩
   ·exact ⟨by rw [Array.getElem?_setIfInBounds_ne (by decide)];exact h0.1,by rw [Array.getElem?_setIfInBounds_ne (by decide)];exact h0.2⟩
   ·rcases j0 with rfl|⟨_,_,_,_,_,_,_,rfl⟩ <;>simp
 ·intro b o q nf;obtain ⟨sl,z⟩:=so.2.2 b o q;refine ⟨sl,?_⟩;show ((g.push oT).update e (Obj.mapFields (·.setIfInBounds 1 (Value.ref g.objs.size)))).get? b=_;rw [Heap.get?_update_other _ _ fun y=>by rw [<-y,he] at q;cases q;exact nf vs hd];exact Heap.get?_push_of_some _ z
theorem Znv(B6:A.frames=some (env ::outer))(hl:s.heap.FunFrames base (env ::outer))(hf:env.frame=some L)(he:s.heap.get? e=some oe)(S3:base.StaysIn s.heap)(B4:base.get? e=none)(hd:oe.data=.fields vs)
  (h1:vs[1]? =some .none) (h0:vs[0]? =some a0/\vs[2]? =some .none) (h:∀h',Zcv base (env ::outer) e oe.cls a0 oe.dict (rawInt L) h'->s.heap.UpToSlots h'->Q () { s with heap:=h' }):wpAny M A (noteFrame (.ref e) env) Q E s:=by
 unfold noteFrame;simp only [hf];refine wpAny_bind (wpAny_field he hd h1 ?_);rw [if_neg (by decide)];exact Ybn B6 hl hf he S3 B4 hd (Array.getElem?_eq_some_iff.mp h1).1 h0 h
theorem Zju(B6:A.frames=some (env ::outer))(hf:env.frame=some L)(x:Zcv base (env ::outer) e cls a0 dx .none s.heap)
  (h:∀h',Zcv base (env ::outer) e cls a0 dx (rawInt L) h'->s.heap.UpToSlots h'->Q () { s with heap:=h' }):wpAny M A (noteFrame (.ref e) env) Q E s:=by
 obtain ⟨S3,B4,hl,oe,vs,T,oT,ts,he,hc,hx,hd,h0,h1,nT,Te,hT,dT,h3⟩:=x;subst hc hx;unfold noteFrame;simp only [hf];refine wpAny_bind (wpAny_field he hd h1 ?_);rw [if_pos (by simp)];refine wpAny_bind (wpAny_field hT dT h3 ?_);rw [if_neg (by simp [rawInt])];refine wpAny_bind (wpAny_setField hT dT (Array.getElem?_eq_some_iff.mp h3).1 ?_);have S5:∀b,b≠T->(s.heap.update T (Obj.mapFields (·.setIfInBounds 3 Value.none))).get? b=s.heap.get? b:=fun b nb=>Heap.get?_update_other _ _ nb.symm
 have nr:∀b o,s.heap.get? b=some o->(∀vs,o.data ≠ .fields vs)->b≠T:=fun b o q nf z=>by
  rw [z,hT] at q;cases q;exact nf ts dT
 refine Ybn B6 (hl.of_keeps fun b o q nf=>⟨o,by rw [S5 b (nr b o q nf)];exact q,rfl⟩) hf (by rw [S5 e Te.symm];exact he) (fun b o q=>?_) B4 hd (Array.getElem?_eq_some_iff.mp h1).1 h0 fun h' f' u'=>h h' f' fun b o q nf=>u' b o (by
  show (s.heap.update T _).get? b=_;rw [S5 b (nr b o q nf)];exact q) nf
 show (s.heap.update T _).get? b=_;rw [S5 b fun z=>by rw [z,nT] at q;cases q];exact S3 b o q
theorem Zrk(x:Zcv base l e cls a0 dx fl s.heap)(h:∀h',Zcv base l e cls a0 dx .none h'->s.heap.UpToSlots h'->Q () { s with heap:=h' }):wpAny M A (setFlight (.ref e) none) Q E s:=by
 obtain ⟨S3,B4,hl,oe,vs,T,oT,ts,he,hc,hx,hd,h0,h1,nT,Te,hT,dT,h3⟩:=x;have h3':3<ts.size:=(Array.getElem?_eq_some_iff.mp h3).1;have S5:∀b,b≠T->(s.heap.update T (Obj.mapFields (·.setIfInBounds 3 ((none:Option Addr).elim Value.none fun f=>rawInt f)))).get? b=s.heap.get? b:=fun b nb=>Heap.get?_update_other _ _ nb.symm
 have nr:∀b o,s.heap.get? b=some o->(∀vs,o.data ≠ .fields vs)->b≠T:=fun b o q nf z=>by
  rw [z,hT] at q;cases q;exact nf ts dT
 unfold setFlight;refine wpAny_bind (wpAny_field he hd h1 ?_);rw [if_pos (by simp)];refine wpAny_setField hT dT h3' (h _ ⟨fun b o q=>?_,B4,hl.of_keeps fun b o q nf=>⟨o,?_,rfl⟩,oe,vs,T,_,_,?_,hc,hx,hd,h0,h1,nT,Te,Heap.get?_update_self _ hT (Obj.isFreed_of_fields (Obj.data_mapFields dT _)),Obj.data_mapFields dT _,by simp [h3']⟩ fun b o q nf=>⟨o.slots,?_⟩)
 ·rw [S5 b fun z=>by rw [z,nT] at q;cases q];exact S3 b o q
 ·rw [S5 b (nr b o q nf)];exact q
 ·rw [S5 e Te.symm];exact he
 ·show (s.heap.update T _).get? b=_;rw [S5 b (nr b o q nf)];exact q
theorem Zcv.out(x:Zcv base (env ::outer) e cls a0 dx fl s.heap):Zcv base outer e cls a0 dx fl s.heap:=by
 obtain ⟨a,b,⟨_,_,c⟩,d⟩:=x;exact ⟨a,b,c,d⟩
theorem Zy2(B6:A.frames=some (env ::outer))(hf:env.frame=some L)(x:Zcv base (env ::outer) e cls a0 dx .none s.heap)(h:∀h',Zcv base outer e cls a0 dx .none h'->s.heap.UpToSlots h'->Q () { s with heap:=h' }) :
  wpAny M A (leaving env (.ref e)) Q E s:=by
 unfold leaving;refine wpAny_bind (Zju B6 hf x fun h1 x1 u1=>Zrk (s:={ s with heap:=h1 }) x1 fun h2 x2 u2=>h h2 ?_ (u1.trans u2));exact Zcv.out (s:={ s with heap:=h2 }) x2
theorem Zm4(B6:A.frames=some (env ::outer))(hl:s.heap.FunFrames base (env ::outer))(hf:env.frame=some L)(he:s.heap.get? e=some oe)(S3:base.StaysIn s.heap)(B4:base.get? e=none)(hd:oe.data=.fields vs)
  (h1:vs[1]? =some .none) (h0:vs[0]? =some a0/\vs[2]? =some .none) (h:∀h',Zcv base outer e oe.cls a0 oe.dict .none h'->s.heap.UpToSlots h'->Q () { s with heap:=h' }):wpAny M A (leaving env (.ref e)) Q E s:=by
 unfold leaving;refine wpAny_bind (Znv B6 hl hf he S3 B4 hd h1 h0 fun h1 x1 u1=>Zrk (s:={ s with heap:=h1 }) x1 fun h2 x2 u2=>h h2 ?_ (u1.trans u2));exact Zcv.out (s:={ s with heap:=h2 }) x2
end
end L2
end
section
namespace L2
open PySem PySem.Spec PyProof.Rows
def Znd(K:Frag)(mg:Str->Option Value)(x:Str)(C:Addr)(bm:List Value)(j7:String):Prop:=∀h:Heap,K.In h->OwnCls x C bm j7 mg h
theorem Zn9{K:Frag}{mg:Str->Option Value}{x:Str}{C:Addr}{bmB:List Value}{j7:String}(m:mg x=some (.ref C))(q:PySem.W.excIn K C bmB j7=true):Znd K mg x C bmB j7:=by
 intro h X;refine ⟨m,?_⟩;unfold PySem.W.excIn at q;split at q
 case h_2=>cases q
 case h_1 dd cd sl ho =>
  split at q
  case h_2=>cases q
  case h_1 C' tl k0 k1 k2 k3 n k5 hm hs =>
   rw [Bool.and_eq_true,Bool.and_eq_true,Bool.and_eq_true,Bool.and_eq_true,Bool.and_eq_true] at q;obtain ⟨⟨⟨⟨⟨q1,q2⟩,q3⟩,q4⟩,q5⟩,q6⟩:=q;have e1:C'=C:=beq_iff_eq.mp q1;have e2:n=j7:=beq_iff_eq.mp q2;have e6:nsIn K cd.ns "__init__" =some none:=beq_iff_eq.mp q6;have e3:cd.hasDel=false:=by simpa using q3
   subst e1 e2;have F4:sl=#[k0,k1,k2,k3,some (.builtin n),k5]:=Array.toList_inj.mp hs;obtain ⟨nm,bs,mro,ns,qn,hdct,sn,sub,ab,col,del⟩:=cd;dsimp only at hm e3 q5 e6;subst hm e3 F4;exact ⟨tl,ns,nm,qn,bs,hdct,sn,sub,ab,col,dd,k0,k1,k2,k3,k5,_,X _ _ ho,.of_isNs (PySem.W.isNs_of_in X q5),PySem.W.nsMap_none_of_in X q5 e6,PySem.W.tail_of_in X q4⟩
def Fly(outer:List Env)(cls:Value)(dx:Option Addr)(H':Hp)(g:Heap)(ea:Addr)(h:Heap):Prop :=
 ∃a0 B,Zcv B outer ea cls a0 dx .none h/\∀b o,h.get? b=some o->((∃o',g.get? b=some o')\/H' b≠none)->b∉frs outer->B.get? b=some o
def CXF(P:Program)(w:World):CXT:=fun outer H s E e s'=>∃ea cls dx H',e=.ref ea/\s'.os=s.os/\AllBare s'.gens/\Un (frs outer) [] H H' s.heap s'.heap/\HOk P w H' s'.heap/\Fly outer cls dx H' s.heap ea s'.heap/\E cls dx H'
theorem Yi.there{P:Program}{w:World}{H:Hp}{h:Heap}{a:Addr}{o:HO}(x:Yi P w H h a o):∃ob,h.get? a=some ob:=by
 cases o with
 | lst xs=>obtain ⟨_,_,_,_,e⟩:=x;exact ⟨_,e⟩
 | tup xs=>obtain ⟨_,_,_,_,e,_⟩:=x;exact ⟨_,e⟩
 | dK kvs=>obtain ⟨_,_,_,_,o,_,_,e,_⟩:=x;exact ⟨_,e⟩
 | dT kvs=>obtain ⟨_,_,_,_,o,_,_,e,_⟩:=x;exact ⟨_,e⟩
 | set S n=>obtain ⟨o,_,_,_,e,_⟩:=x;exact ⟨_,e⟩
 | ins C dx fs=>obtain ⟨_,_,_,e,_⟩:=x;exact ⟨_,e⟩
 | own y=>obtain ⟨_,e⟩:=x;exact ⟨_,e⟩
 | xd fs=>obtain ⟨_,⟨_,_,_,e,_⟩,_⟩:=x;exact ⟨_,e⟩
 | rng lo hi=>obtain ⟨_,_,_,e⟩:=x;exact ⟨_,e⟩
 | frz ob u=>obtain ⟨e,_⟩:=x;exact ⟨_,e⟩
 | tbl ps =>
  obtain ⟨_,_,_,_,_,_,_,e | ⟨_,_,_,_,_,_,_,e⟩⟩:=x
  ·exact ⟨_,e⟩
  ·exact ⟨_,e⟩
 | met f y=>exact ⟨_,show h.get? a=some _ from x⟩
 | ext φ=>obtain ⟨_,⟨_,e⟩,_⟩:=x;exact ⟨_,e⟩
section
variable {P:Program} {w:World} {K:Frag} {mg:Str->Option Value} {base:Heap} {N:List Str} {a8:Str} {scope:Scope} {f:Addr} {cd:Value} {A:Around} {outer:List Env} {s₀:Shared} {H₀:Hp} {E:XK}
theorem Zq7{CX:CXT}{a6:List (Addr×Obj)}{σ:St}{H':Hp}{s1:Shared}{h' B:Heap}{ea:Addr}{cls a0:Value}{dx:Option Addr}(I:Inv (Zea CX P w K mg base N a8 scope f cd A outer s₀ H₀ E) a6 σ H' s1)
  (fl:Zcv B outer ea cls a0 dx .none h') (up:s1.heap.UpToSlots h') (pB:∀b o,s1.heap.get? b=some o->((∃o',s₀.heap.get? b=some o')\/H' b≠none)->b∉frs (envOfC a8 scope s₀.heap.objs.size f cd ::outer)->B.get? b=some o)
  (hE:E cls dx H'):CXF P w outer H₀ s₀ E (.ref ea) { s1 with heap:=h' }:=by
 have stay:∀b o,s1.heap.get? b=some o->((∃o',s₀.heap.get? b=some o')\/H' b≠none)->b∉frs (envOfC a8 scope s₀.heap.objs.size f cd ::outer)->h'.get? b=some o:=fun b o h1 h2 h3=>fl.1 b o (pB b o h1 h2 h3)
 have frL:frs (envOfC a8 scope s₀.heap.objs.size f cd ::outer)=s₀.heap.objs.size ::frs outer:=rfl;have S6:∀b,((∃o',s₀.heap.get? b=some o')\/H' b≠none)->b∉frs outer->b∉frs (envOfC a8 scope s₀.heap.objs.size f cd ::outer):=fun b h1 h2 h3=>by
  rw [frL] at h3;rcases List.mem_cons.mp h3 with e|e
  ·rcases h1 with h1|h1
   ·obtain ⟨o',h1⟩:=h1;rw [e] at h1;exact absurd (Heap.lt_size h1) (Nat.lt_irrefl _)
   ·have:H' s₀.heap.objs.size=none:=I.free;rw [e] at h1;exact h1 this
  ·exact h2 e
 have trk:∀b,H' b≠none->b∉frs outer:=fun b h1 h2=>h1 (I.stkFree b (by show b∈frs (envOfC a8 scope s₀.heap.objs.size f cd ::outer);rw [frL];exact List.mem_cons_of_mem _ h2))
 have fr1:∀b,b∈frs outer->∃o,s1.heap.get? b=some o/\∀vs,o.data ≠ .fields vs:=fun b hb=>by
  have h1:s1.heap.FunFrames base (envOfC a8 scope s₀.heap.objs.size f cd ::outer):=I.stack;exact (h1.mem (List.mem_filterMap.mpr (by
   obtain ⟨env,he,hf⟩:=List.mem_filterMap.mp hb;exact ⟨env,List.mem_cons_of_mem _ he,hf⟩))).2
 have N4:Un (frs outer) [] H₀ H' s₀.heap s1.heap:=I.base;refine ⟨ea,cls,dx,H',rfl,I.os,I.bare,⟨fun b o h1 h2 h3 h4=>?_,fun b o h1 h2 h3 h4=>?_,N4.free,fun b o h1 h4=>?_,N4.tups,N4.frzs,N4.tbls⟩,fun a o ha=>?_,⟨a0,B,fl,fun b o h1 h2 h3=>?_⟩,hE⟩
 ·exact stay b o (N4.keep b o h1 h2 h3 h4) (.inl ⟨_,h1⟩) (S6 b (.inl ⟨_,h1⟩) h3)
 ·obtain ⟨sl,h5⟩:=N4.slot b o h1 h2 h3 h4;obtain ⟨o1,h6,h7⟩:=fr1 b h3;rw [h5] at h6;cases h6;obtain ⟨sl',h8⟩:=up b _ h5 h7;exact ⟨sl',h8⟩
 ·obtain ⟨o1,h5⟩:=N4.there b o h1 h4
  by_cases hb:b∈frs outer
  ·obtain ⟨o2,h6,h7⟩:=fr1 b hb;obtain ⟨sl',h8⟩:=up b _ h6 h7;exact ⟨_,h8⟩
  ·exact ⟨o1,stay b o1 h5 (.inl ⟨_,h1⟩) (S6 b (.inl ⟨_,h1⟩) hb)⟩
 ·refine (I.hok a o ha).stay (fun b u hb h1=>?_) (fun _ z=>z) (fun _ _ z=>z);have ht:H' b≠none:=by
   rcases hb with e|e
   ·rw [e,ha];exact Option.some_ne_none _
   ·rw [e];exact Option.some_ne_none _
  exact stay b u h1 (.inr ht) (S6 b (.inr ht) (trk b ht))
 ·have hs:∃o1,s1.heap.get? b=some o1:=by
   rcases h2 with ⟨o',h2⟩|h2
   ·exact N4.there b o' h2 (by simp)
   ·cases hq:H' b with
    | none=>exact absurd hq h2
    | some u=>exact (I.hok b u hq).there
  obtain ⟨o1,h4⟩:=hs;have h5:=pB b o1 h4 h2 (S6 b h2 h3);have h6:=fl.1 b o1 h5;have h7:h'.get? b=some o:=h1;rw [h6] at h7;cases h7;exact h5
theorem Zfc:Zbo (CXF P w) (Zea (CXF P w) P w K mg base N a8 scope f cd A outer s₀ H₀ E) E:=by
 intro a6 σ H s e s' I h;obtain ⟨ea,cls,dx,H',rfl,os,bare,un,hok,⟨a0,B,fl,pB⟩,hE⟩:=h;have I':=I.call' os un hok bare (fun b z=>absurd z (by simp));show wpAny _ _ (leaving _ (.ref ea)) _ _ s';refine Zy2 I'.ok.frames rfl fl fun h' fl' up=>?_
 exact Zq7 I' fl' up (fun b o h1 h2 h3=>pB b o h1 (h2.imp_left fun ⟨o',z⟩=>I.base.there b o' z (by show b∉([]:List Addr);simp)) h3) hE
def Zzs(C:Addr)(E:XK)(t:TA):TS:=fun _ σ H=>t σ H fun vs H1=>vs.length<=sizeLine/\E (.ref C) none H1
theorem Znr{x:Str}{C:Addr}{bm:List Value}{Bn j7 Q2:String}{np i5 pos:Pos}{e₀:Expr}{Zx:List Expr}{t:TA}(OI:Znd K mg x C bm j7)(FB:ExcBaseFacts Bn j7 Q2 bm)
  (hg:Gl (Zea (CXF P w) P w K mg base N a8 scope f cd A outer s₀ H₀ E) x) (ha:PA (Zea (CXF P w) P w K mg base N a8 scope f cd A outer s₀ H₀ E) (e₀ ::Zx) t)
  (he:starEach (e₀ ::Zx) (envOfC a8 scope s₀.heap.objs.size f cd)=(false,eval e₀ (envOfC a8 scope s₀.heap.objs.size f cd)) ::starEach Zx (envOfC a8 scope s₀.heap.objs.size f cd):=by rfl)
  (j0:(backTo i5 (starEach Zx (envOfC a8 scope s₀.heap.objs.size f cd))).any (·.1)=false:=by rfl) (hd:(x ==("__debug__" :Str))=false:=by decide) :
  PS (Zea (CXF P w) P w K mg base N a8 scope f cd A outer s₀ H₀ E) (.Raise (some (.Call (.Name x np) (e₀ ::Zx) [] i5)) none pos) (Zzs C E t):=by
 intro a6 s σ H D I h;have O:OwnCls x C bm j7 mg base:=OI base I.ok.mod.kin;obtain ⟨tl,N',nm,q,bs,hdct,sn,sub,ab,col,dd,k0,k1,k2,k3,k5,mN,hC,hN,hni,T⟩:=O.obj;refine wpAny_Raise_call_subT (C:=C) (nm:=nm) (q:=q) (N:=N') (bs:=bs) (bm:=tl) (hdct:=hdct) (sn:=sn) (sub:=sub) (ab:=ab) (col:=col) (dd:=dd) (k0:=k0) (k1:=k1) (k2:=k2) (k3:=k3) (k5:=k5)
  FB (mN:=mN) (T.hasType FB.hasBase) (I.ok.hd rfl) (by show (backTo i5 (starEach (e₀ ::Zx) (envOfC a8 scope s₀.heap.objs.size f cd))).any (·.1)=false;rw [he];show (false || (backTo i5 (starEach Zx (envOfC a8 scope s₀.heap.objs.size f cd))).any (·.1))=false;rw [j0];rfl) hni (Zfk I hg O.bound ⟨rfl,?_⟩ hd)
 have hA:=ha i5 a6 s σ H _ I h;have V6:starEach (e₀ ::Zx) (Zea (CXF P w) P w K mg base N a8 scope f cd A outer s₀ H₀ E).env=(false,eval e₀ (envOfC a8 scope s₀.heap.objs.size f cd)) ::starEach Zx (envOfC a8 scope s₀.heap.objs.size f cd):=he;rw [V6] at hA ⊢;refine Calls.evalArgs_plain (thn hA fun us s2 ⟨vs,H2,I2,r2,hl,hE⟩=>?_);have keep:∀b o,base.get? b=some o->s2.heap.get? b=some o:=fun b o e=>(I2.bs b o e).1
 refine ⟨rfl,by rw [<-r2.length];exact hl,keep _ _ hC,hN.keeps keep,T.keeps keep,fun h' e hm=>?_⟩;show wpAny _ _ (leaving _ (.ref e)) _ _ _;obtain ⟨t,he3,_,_⟩:=hm.there;have hin:∀env∈(envOfC a8 scope s₀.heap.objs.size f cd ::outer),∀b,env.frame=some b->b∈frs (envOfC a8 scope s₀.heap.objs.size f cd ::outer):=fun env he b hb=>List.mem_filterMap.mpr ⟨env,he,hb⟩
 refine Zm4 (base:=PySem.W.hideAll s2.heap (frs (envOfC a8 scope s₀.heap.objs.size f cd ::outer))) I2.ok.frames ((PySem.W.funFrames_hide I2.stack hin).of_keeps fun b o q _=>⟨o,hm.keeps b o q,rfl⟩) rfl he3 (fun b o q=>hm.keeps b o (PySem.W.of_hideAll _ q)) ?_ rfl rfl ⟨rfl,rfl⟩ fun h'' fl up=>?_
 ·cases q:(PySem.W.hideAll s2.heap (frs (envOfC a8 scope s₀.heap.objs.size f cd ::outer))).get? e with
  | none=>rfl
  | some o=>exact absurd (PySem.W.of_hideAll _ q) (by rw [hm.new];exact fun z=>nomatch z)
 ·have R:=Zq7 I2 fl ((Heap.UpToSlots.of_keeps hm.keeps).trans up) (fun b o h1 _ h3=>PySem.W.hideAll_get _ h1 h3) hE;exact R
end
theorem Yas{P:Program}{w:World}{fs:List Addr}{H H':Hp}{g h h' B:Heap}(un:Un fs [] H H' g h)(hok:HOk P w H' h)(fr:∀b∈fs,H' b=none/\∃o,h.get? b=some o/\∀vs,o.data ≠ .fields vs)(st:B.StaysIn h')(up:h.UpToSlots h')
  (pB:∀b o,h.get? b=some o->((∃o',g.get? b=some o')\/H' b≠none)->b∉fs->B.get? b=some o):Un fs [] H H' g h'/\HOk P w H' h':=by
 have stay:∀b o,h.get? b=some o->((∃o',g.get? b=some o')\/H' b≠none)->b∉fs->h'.get? b=some o:=fun b o h1 h2 h3=>st b o (pB b o h1 h2 h3)
 refine ⟨⟨fun b o h1 h2 h3 h4=>stay b o (un.keep b o h1 h2 h3 h4) (.inl ⟨_,h1⟩) h3,fun b o h1 h2 h3 h4=>?_,un.free,fun b o h1 h4=>?_,un.tups,un.frzs,un.tbls⟩,fun a o ha=>?_⟩
 ·obtain ⟨sl,h5⟩:=un.slot b o h1 h2 h3 h4;obtain ⟨_,o1,h6,h7⟩:=fr b h3;rw [h5] at h6;cases h6;obtain ⟨sl',h8⟩:=up b _ h5 h7;exact ⟨sl',h8⟩
 ·obtain ⟨o1,h5⟩:=un.there b o h1 h4
  by_cases hb:b∈fs
  ·obtain ⟨_,o2,h6,h7⟩:=fr b hb;obtain ⟨sl',h8⟩:=up b _ h6 h7;exact ⟨_,h8⟩
  ·exact ⟨o1,stay b o1 h5 (.inl ⟨_,h1⟩) hb⟩
 ·refine (hok a o ha).stay (fun b u hb h1=>?_) (fun _ z=>z) (fun _ _ z=>z);have ht:H' b≠none:=by
   rcases hb with e|e
   ·rw [e,ha];exact Option.some_ne_none _
   ·rw [e];exact Option.some_ne_none _
  exact stay b u h1 (.inr ht) fun z=>ht (fr b z).1
abbrev Cx.tried(X:Cx)(pn:List (Addr×Obj))(E:Value->Shared->Prop):Cx:={ X with pn:=pn,xe:=E }
abbrev Cx.caught(X:Cx)(ea:Addr):Cx:={ X with A:=X.A.mark (some (.ref ea)),calm:=false,xe:=fun _ _=>False }
section
variable {X:Cx} {a6 j5:List (Addr×Obj)} {σ:St} {H:Hp} {s:Shared} {E:Value->Shared->Prop}
theorem Inv.tryIn(I:Inv X a6 σ H s)(E:Value->Shared->Prop):Inv (X.tried (X.pn++a6) E) [] σ H s :=
 ⟨⟨I.ok.mod,I.ok.kind,I.ok.glob,I.ok.blt,I.ok.above,I.ok.inj,I.ok.has,I.ok.cab,I.ok.hd,I.ok.frames,I.ok.stk,I.ok.exf,I.ok.bs,I.ok.bsz,I.ok.noex,I.ok.exfs,I.ok.funs,I.ok.frf⟩,I.os,I.bare,I.base,I.loc,I.cell,I.free,I.freeC,fun p hp=>I.pin p (by simpa using hp),I.hok,I.len⟩
theorem Inv.tryOut(I:Inv (X.tried (X.pn++a6) E) j5 σ H s):Inv X a6 σ H s :=
 ⟨⟨I.ok.mod,I.ok.kind,I.ok.glob,I.ok.blt,I.ok.above,I.ok.inj,I.ok.has,I.ok.cab,I.ok.hd,I.ok.frames,I.ok.stk,I.ok.exf,I.ok.bs,I.ok.bsz,I.ok.noex,I.ok.exfs,I.ok.funs,I.ok.frf⟩,I.os,I.bare,I.base,I.loc,I.cell,I.free,I.freeC,fun p hp=>I.pin p (List.mem_append_left _ hp),I.hok,I.len⟩
theorem Inv.catch(I:Inv X a6 σ H s)(ea:Addr):Inv (X.caught ea) a6 σ H s :=
 ⟨⟨I.ok.mod,I.ok.kind,I.ok.glob,I.ok.blt,I.ok.above,I.ok.inj,I.ok.has,I.ok.cab,fun z=>absurd z Bool.false_ne_true,I.ok.frames,I.ok.stk,I.ok.exf,I.ok.bs,I.ok.bsz,I.ok.noex,I.ok.exfs,I.ok.funs,I.ok.frf⟩,I.os,I.bare,I.base,I.loc,I.cell,I.free,I.freeC,I.pin,I.hok,I.len⟩
theorem Inv.uncatch{ea:Addr}(hX:X.A.handled=none)(I:Inv (X.caught ea) a6 σ H s):Inv X a6 σ H s :=
 ⟨⟨I.ok.mod,I.ok.kind,I.ok.glob,I.ok.blt,I.ok.above,I.ok.inj,I.ok.has,I.ok.cab,fun _=>hX,I.ok.frames,I.ok.stk,I.ok.exf,I.ok.bs,I.ok.bsz,I.ok.noex,I.ok.exfs,I.ok.funs,I.ok.frf⟩,I.os,I.bare,I.base,I.loc,I.cell,I.free,I.freeC,I.pin,I.hok,I.len⟩
theorem WS.try{x:Str}{C:Addr}{bm:List Value}{j7:String}{np hpos pos:Pos}{body Q3:List Stmt}{b₀:Stmt}{D:Zet}{Ex:XK}{R:Hp->Prop}(OI:Znd X.K X.mg x C bm j7) (hbm:bm.contains (.type "BaseException")=true) (hg:Gl X x)
  (C3:X.stack=X.env ::X.outer) (hfm:X.env.frame=some X.env.locals) (hcm:X.calm=true) (hE:∀cls dx H',Ex cls dx H'->cls=.ref C/\R H')
  (hb:∀pn xe,Zbo (CXF X.prog X.w) (X.tried pn xe) Ex->WSs (X.tried pn xe) body D σ H) (hh:∀ea σ' H',R H'->WSs (X.caught ea) (b₀ ::Q3) D σ' H') (hd:(x ==("__debug__" :Str))=false:=by decide) :
  WS X (.Try body [.ExceptHandler (some (.Name x np)) none (b₀ ::Q3) hpos] [] [] pos) D σ H:=by
 refine ⟨fun a6 s I=>?_⟩;have O:OwnCls x C bm j7 X.mg X.base:=OI X.base I.ok.mod.kin;refine wpAny_Try_except ?_;have pass:Zbo (CXF X.prog X.w) (X.tried (X.pn++a6) fun e s₁=>wpAny (model X.prog X.w) X.A (noteFrame e X.env) (fun _ s₂=>wpAny (model X.prog X.w) X.A (setFlight e none) (fun _ s₃=>wpAny (model X.prog X.w) X.A (handleBy e X.env [.ExceptHandler (some (.Name x np)) none (b₀ ::Q3) hpos]) (SP X a6 D) X.xe s₃) X.xe s₂) X.xe s₁) Ex:=by
  intro j5 σ' H1 s1 e s2 I1 hc;obtain ⟨ea,cls,dx,H2,rfl,os,bare,un,hok,⟨a0,B,fl,pB⟩,hEx⟩:=hc;obtain ⟨rfl,hR⟩:=hE _ _ _ hEx;have IX:Inv X a6 σ' H1 s1:=I1.tryOut;have I2:Inv X a6 σ' H2 s2:=IX.call' os un hok bare (fun b z=>absurd z (by simp));have fr:∀b∈frs X.stack,H2 b=none/\∃o,s2.heap.get? b=some o/\∀vs,o.data ≠ .fields vs:=fun b hb=>⟨I2.stkFree b hb,(I2.stack.mem hb).2⟩
  have step:∀h',B.StaysIn h'->s2.heap.UpToSlots h'->Inv X a6 σ' H2 { s2 with heap:=h' }:=fun h' st up =>
   let ⟨u,k⟩:=Yas un hok fr st up pB
   IX.call' (s':={ s2 with heap:=h' }) os u k bare (fun b z=>absurd z (by simp))
  have fl:Zcv B (X.env ::X.outer) ea (.ref C) a0 dx .none s2.heap:=by rw [<-C3];exact fl
  have B6:X.A.frames=some (X.env ::X.outer):=by rw [<-C3];exact I2.ok.frames
  show wpAny (model X.prog X.w) X.A (noteFrame (.ref ea) X.env) _ _ s2;refine Zju B6 hfm fl fun h₄ held₄ sm₄=>Zrk (s:={ s2 with heap:=h₄ }) held₄ fun h₅ fl₅ sm₅=>?_
  have sm25:s2.heap.UpToSlots h₅:=sm₄.trans sm₅;have I5:=(step h₅ fl₅.1 sm25).catch ea;refine wpAny_handleBy_cons (codeAny_handlers_test (Zfk I5 hg O.bound ?_ hd)) (by intro q;cases q);obtain ⟨tl,N',nm,q,bs,hdct,sn,sub,ab,col,dd,k0,k1,k2,k3,k5,mN,hC,hN,hni,T⟩:=(O.keeps fun b o e=>(I5.bs b o e).1).obj;obtain ⟨ob,E6,hobc,_⟩:=fl₅.there;refine wpAny_excMatches_sub_self hC E6 hobc (T.hasType hbm) (codeAny_handlers_suite ?_);refine Zrk (s:={ s2 with heap:=h₅ }) fl₅ fun h₆ fl₆ sm₆=>?_
  have I6:=(step h₆ fl₆.1 (sm25.trans sm₆)).catch ea;refine wpAny_mono ((hh ea σ' H2 hR).run a6 _ I6) (fun f s₃ q=>?_) fun _ _ z=>False.elim z
  have hX:=I.ok.hd hcm;cases f with
  | next=>obtain ⟨σ'',H'',J,q⟩:=q;exact ⟨σ'',H'',J.uncatch hX,q⟩
  | brk=>obtain ⟨σ'',H'',J,q⟩:=q;exact ⟨σ'',H'',J.uncatch hX,q⟩
  | cont=>obtain ⟨σ'',H'',J,q⟩:=q;exact ⟨σ'',H'',J.uncatch hX,q⟩
  | ret u=>obtain ⟨v,σ'',H'',J,r,q⟩:=q;exact ⟨v,σ'',H'',J.uncatch hX,r,q⟩
 refine wpAny_mono ((hb _ _ pass).run [] s (I.tryIn _)) (fun f s₁ q=>?_) fun e s₁ z=>z
 cases f with
 | next =>
  obtain ⟨σ',H',J,q⟩:=q;exact wpAny_execs_nil ⟨σ',H',J.tryOut,q⟩
 | brk=>obtain ⟨σ',H',J,q⟩:=q;exact ⟨σ',H',J.tryOut,q⟩
 | cont=>obtain ⟨σ',H',J,q⟩:=q;exact ⟨σ',H',J.tryOut,q⟩
 | ret u=>obtain ⟨v,σ',H',J,r,q⟩:=q;exact ⟨v,σ',H',J.tryOut,r,q⟩
end
section
variable {P:Program} {w:World} {K:Frag} {mg:Str->Option Value} {base:Heap}
theorem Fun.okX{x a8:Str}{st:Stmt}{f:Addr}{fd:FuncData}{N ps:List Str}{k:Nat}{sp:Sp}(F:Fun K x a8 st f fd)(S:Zo N ps (Zg st))(len:∀vs H Q E,sp vs H Q E->vs.length=ps.length)
  (u9:∀(b7:Value) (A:Around) (outer:List Env) (s:Shared) (H:Hp) (vs:List V) (Q:VK) (E:XK),X0 k (A.deeper (envOfC a8 (Zg st) s.heap.objs.size f b7))->sp vs H Q E ->
   WSs (Zea (CXF P w) P w K mg base N a8 (Zg st) f b7 A outer s H E) (Yw st) { nx:=fun _ H'=>Q .non H',rt:=Q } (start N vs) H):Zy P w K mg base (CXF P w) (k+1) f fd ps sp:=by
 obtain ⟨oc,od,kV,u8,pm,an,b7,ct,F1,rfl,lk,E7⟩:=F.ex;exact Zua lk E7 S len fun A outer s H vs Q E hr M4=>⟨_,Zv,u9 b7 A outer s H vs Q E hr M4⟩
end
end L2
end
section
namespace L2
open PySem PySem.Spec PyProof.Rows
theorem Zf4:∀{ss:List Str} {us:List Value},Ya (ss.map V.str) us->StrsAre us ss
 | [],_,r=>by rw [List.map_nil] at r;cases r;exact .nil
 | x ::ss,_,r=>by
  rw [List.map_cons] at r;cases r with
  | cons r t =>
   obtain ⟨tk,rfl⟩:=r;exact .cons _ _ (Zf4 t)
theorem Inv.laidAt{X:Cx}{a6:List (Addr×Obj)}{σ:St}{H:Hp}{s:Shared}{h':Heap}{t':Nat}{a:Addr}{o:HO}(I:Inv X a6 σ H s)(k:∀b u,s.heap.get? b=some u->h'.get? b=some u)(hn:s.heap.get? a=none)(new:Yi X.prog X.w (upd H a o) h' a o) :
  H a=none/\Inv X a6 σ (upd H a o) { s with heap:=h',toks:=t' }:=by
 have hH:H a=none:=by
  cases e:H a with
  | none=>rfl
  | some u =>
   obtain ⟨ob,z⟩:=(I.hok a u e).there;rw [hn] at z;cases z
 have ne:∀b u,s.heap.get? b=some u->b≠a:=fun b u e z=>by rw [z,hn] at e;cases e
 refine ⟨hH,I.call' (s':={ s with heap:=h',toks:=t' }) rfl ⟨fun b u e _ _ _=>k b u e,fun b u e _ _ _=>⟨u.slots,k b u e⟩,fun b u e n _=>by rw [Zh (ne b u e)];exact n,fun b u e _=>⟨u,k b u e⟩,fun b xs e=>?_,fun b q u e=>?_,fun b ps e=>⟨#[],?_⟩⟩ (fun b u e=>?_) I.bare (fun b z=>absurd z List.not_mem_nil)⟩
 ·rw [Zh (Zj e hH)];exact e
 ·rw [Zh (Zj e hH)];exact e
 ·rw [Zh (Zj e hH)];simpa using e
 ·by_cases z:b=a
  ·rw [z,Zf] at e;cases e;rw [z];exact new
  ·rw [Zh z] at e;exact (I.hok b u e).stay (fun c v _ h=>k c v h) (fun c h=>by rw [Zh (Zj h hH)];exact h) (fun c ys h=>by rw [Zh (Zj h hH)];exact h)
def Zsn(tl:TE):TE:=fun σ H Q=>tl σ H fun x H1=>∃d kvs,x=.ref d/\Rd H1 d (.dK kvs)/\New H1 (.lst (kvs.map fun kv=>kv.2)) Q
theorem Zs5{kvs:List (Key×V)}{va:List (Key×Value)}(h:KV kvs va):Ya (kvs.map fun kv=>kv.2) (va.map fun kv=>kv.2):=by
 induction h with
 | nil=>exact .nil
 | cons r t ih=>exact .cons r.2 ih
theorem Zod{X:Cx}{i8 i5 p' x6:Pos}{o:Expr}{to:TE}(hc:X.calm=true) (hgl:Gl X "list") (hml:X.mg "list" =none) (ho:PE X o to) (A8:attributeBase o "values" X.env (eval o X.env)=eval o X.env:=by rfl) (A9:(i8.endLine ==i5.line)=true:=by rfl) :
  PE X (.Call (.Name "list" p') [.Call (.Attribute o "values" i8) [] [] i5] [] x6) (Zsn to):=by
 intro a6 s σ H Q I h;refine wpAny_Call_Name_kw (Ze3 I hgl hml PyProof.Rows.boot_list ?_);refine PyProof.Rows.callWith_type1 ?_ rfl rfl;refine Calls.spliced_cons ?_;refine wpAny_Call_method0_late A8 A9 (thn (ho a6 s σ H _ I h) fun v s1 ⟨y,H1,I1,r1,q1⟩=>?_);obtain ⟨d,kvs,rfl,hd,q⟩:=q1;cases r1;obtain ⟨hz,hs,vs,kv,dd⟩:=Zcf I1.hok hd;obtain ⟨ob,_,_,E6,hex,_⟩:=id dd;obtain ⟨ep,hD⟩:=Zgj dd E6;refine ⟨"dict", "dict.values",PySem.F.plainAttrs_dict,PySem.F.slot_dict_values,PySem.F.type_dict_values,dd.typeIs,fun a e=>?_,Calls.callWith_builtin rfl (PySem.evalArgs_none ?_)⟩
 ·cases e;exact ⟨ob,E6,hex.2.1⟩
 refine call_meetsIn PySem.F.slot_dict_values dd.typeIs PySem.F.entry_dict_values (PySem.F.args_dict_values_1 _) (meets_dict_values (Z9 X.prog X.w) d hs) ⟨⟨vs,dd⟩,?_⟩;refine Calls.spliced_nil ?_;have I2:Inv X a6 σ H1 { s1 with heap:=s1.heap.push { cls:=.type "dict_values",data:=.fields #[.ref d] } }:=I1.kept (t':=s1.toks) fun b o e=>Heap.get?_push_of_some _ e
 have hl:=KV.length kv;refine PySem.W.kdl_call (PySem.W.kdl_values (knd:=Z9 X.prog X.w) (r:=s1.heap.objs.size) (d:=d) (kvs:=vs) (ep:=ep)) (I2.ok.hd hc) ⟨⟨_,Heap.get?_push_size _ rfl,rfl,rfl⟩,hD _ (Heap.get?_push_of_some _ E6)⟩ (by lia) fun h' tk R7 c' hk A4 L3=>?_
 have e1:R7.toList=vs.map (·.2):=PySem.W.kdl_vals_eq R7.toList (by rw [Array.length_toList];exact L3.1) fun j v e=>L3.2 j v (by rw [<-Array.getElem?_toList];exact e)
 have hv:Ya (kvs.map fun kv=>kv.2) R7.toList:=by rw [e1];exact Zs5 kv
 exact ⟨.ref _,_,I2.laid (o:=.lst _) (t':=tk) hk (Nat.le_refl _) (show Yi X.prog X.w _ h' _ (.lst _) from ⟨by rw [List.length_map];exact hz,R7.toList,c',hv,by rw [A4]⟩),rfl,q.at _ (I2.hok.fresh (Nat.le_refl _))⟩
end L2
end
section
namespace L2
open PySem PySem.Spec PyProof.Rows Builtin Builtin.ObjectAttr
section
variable {P:Program} {w:World} {H:Hp} {h:Heap} {e C t:Addr} {dx:Option Addr}
end
section
variable {X:Cx} {a6:List (Addr×Obj)} {σ:St} {H:Hp} {s:Shared}
end
section
variable {X:Cx} {a6:List (Addr×Obj)} {σ:St} {H:Hp} {s:Shared} {e C Y t:Addr} {f:Str} {A:Around} {E:Value->Shared->Prop}
end
section
variable {prog:Program} {w:World} {A:Around} {E:Value->Shared->Prop} {s:Shared} {K:Frag} {x C:Addr} {ox:Obj} {od:Option Obj} {name:Str} {tk:Tok}
end
section
variable {X:Cx} {f:Str}
end
end L2
end
section
namespace L2
open PySem PySem.Spec PyProof.Rows
section
variable {prog:Program} {w:World} {A:Around} {E:Value->Shared->Prop} {h:Heap} {g:Array GenState} {d:Drawn} {tk:Nat} {os:OsState} {nm qn:Str} {C N:Addr} {bs bm bmB:List Value} {hdct:Bool} {sn:List Str} {sub:List Value} {ab:Bool} {col:Option Bool} {dd:Option Addr} {k0 k1 k2 k3 k5:Option Value} {B j7 Q2:String}
 {Zx:List Value} {fI:Addr} {oI:Obj}
end
section
variable {M:Model} {A:Around} {E:Value->Shared->Prop} {s:Shared} {env:Env} {nm qn:Str} {C N:Addr} {bs bm:List Value} {hdct:Bool} {sn:List Str} {sub:List Value} {ab:Bool} {col:Option Bool} {dd:Option Addr} {k0 k1 k2 k3 k5:Option Value} {j7:String}
end
section
variable {P:Program} {w:World} {K:Frag} {mg:Str->Option Value} {base:Heap} {N:List Str} {a8:Str} {scope:Scope} {f:Addr} {cd:Value} {A:Around} {outer:List Env} {s₀:Shared} {H₀:Hp} {E:XK}
end
section
variable {K:Frag} {M:Model} {A:Around} {E:Value->Shared->Prop} {s:Shared} {e C B:Addr} {o:Obj} {r:Bool}
end
section
variable {X:Cx} {σ:St} {H:Hp}
end
theorem Zc1:∀{cs:List Addr} {a7:List Value},Ya (cs.map V.ref) a7->a7=cs.map Value.ref
 | [],_,.nil=>rfl
 | c ::cs,_,.cons r t=>by
  rw [Zc1 t];cases r
  rfl
end L2
end
section
namespace L2
open PySem PySem.Spec PyProof.Rows
theorem Zmt:typeLookup (.type "list") "keys" =pure none:=by rw [typeLookup_type,builtinLookup_eq_fast];kernel_rfl
theorem Zho:typeLookup (.type "list") "__getattr__" =pure none:=by rw [typeLookup_type,builtinLookup_eq_fast];kernel_rfl
theorem Zpw:isSubtype (.type "AttributeError") (.type "AttributeError")=pure true:=by rw [isSubtype_type];kernel_rfl
section
variable {prog:Program} {w:World} {A:Around} {E:Value->Shared->Prop} {h:Heap} {g:Array GenState} {d:Drawn} {t:Nat} {os:OsState} {a:Addr} {vs:Array Value} {n:Nat}
theorem Zx0{β:Type}{msg:Str}{Q:β->Shared->Prop}(hh:A.handled=none)(hm:msg.length<=sizeLine)
  (hq:∀h' e D3,(∀b u,h.get? b=some u->h'.get? b=some u)->(∃oe,h'.get? e=some oe/\oe.cls=.type "AttributeError")->E (.ref e) ⟨h',g,d,D3,os⟩) :
  wpAny (model prog w) A (raiseAttrError (.ref a) "keys" msg:Sem β) Q E ⟨h,g,d,t,os⟩:=by
 have f5:=Zpw;have hm':¬msg.length >sizeLine:=by lia
 unfold raiseAttrError newExc
 repeat (any_goals (first | assumption | rw [if_neg hm'] | wp_step))
 generalize hoX:({ cls:=Value.type "AttributeError",data:=Data.fields (#[Value.ref h.objs.size,Value.none,Value.none,Value.none,Value.bool false,if ((Manifest.find? "AttributeError").elim false fun t=>t.mro.contains "StopIteration" || t.mro.contains "SystemExit")=true then [Value.str msg t].headD Value.none else Value.none]++ownMembersOf (Value.type "AttributeError") [Value.str msg t]) }:Obj)=oX;have hcX:oX.cls=.type "AttributeError" :=by rw [<-hoX]
 have hdX:∃ws,oX.data=.fields ws:=⟨_,by rw [<-hoX]⟩
 obtain ⟨ws,hdX⟩:=hdX;have hX:((h.push { cls:=Value.type "tuple",data:=Data.seq #[Value.str msg t] }).push oX).get? (h.push { cls:=Value.type "tuple",data:=Data.seq #[Value.str msg t] }).objs.size=some oX:=Heap.get?_push_size _ (Obj.isFreed_of_fields hdX);refine wpAny_raiseNew_none hh (hq _ _ _ (fun b u hb=>?_) ⟨_,Heap.get?_update_self _ hX (Obj.isFreed_of_fields (Obj.data_mapFields hdX _)),by rw [Obj.cls_mapFields];exact hcX⟩);rw [Heap.get?_update_other _ _ (by rw [Heap.size_push];exact Nat.ne_of_gt (Nat.lt_succ_of_lt (Heap.lt_size hb)))];exact Heap.get?_push_of_some _ (Heap.get?_push_of_some _ hb)
theorem Zoz{tk:Tok}{Q:Fin->Shared->Prop}(hh:A.handled=none) (hx:h.get? a=some { cls:=.type "list",data:=.seq vs n })
  (hq:∀h' e D3,(∀b u,h.get? b=some u->h'.get? b=some u)->(∃oe,h'.get? e=some oe/\oe.cls=.type "AttributeError")->E (.ref e) ⟨h',g,d,D3,os⟩) :
  wpAny (model prog w) A (Builtin.«object.__getattribute__» ⟨[.ref a,.str "keys" tk],[]⟩) Q E ⟨h,g,d,t,os⟩:=by
 have hT:(⟨h,g,d,t,os⟩:Shared).TypeIs (.ref a) "list" :=⟨_,hx,rfl⟩
 have f4:=Zmt;have f5:=Zpw
 repeat (any_goals (first | assumption | wp_step))
 exact Zx0 hh (by trivial) hq
theorem Zs1{Q:Option Value->Shared->Prop}(hh:A.handled=none) (hx:h.get? a=some { cls:=.type "list",data:=.seq vs n })
  (hq:∀h' D3,(∀b u,h.get? b=some u->h'.get? b=some u)->Q none ⟨h',g,d,D3,os⟩):wpAny (model prog w) A (getAttr? (.ref a) "keys") Q E ⟨h,g,d,t,os⟩:=by
 have hT:(⟨h,g,d,t,os⟩:Shared).TypeIs (.ref a) "list" :=⟨_,hx,rfl⟩
 have f2:=F.slot_list_getattribute.lookup;have f3:=F.slot_list_getattribute.bind (.ref a);have f5:=Zpw;have f6:=Zho;unfold getAttr? getAttrBy?
 repeat (any_goals (first | assumption | wp_step))
 refine codeAny_call_builtin F.slot_list_getattribute.plain F.entry_list_ga (F.slot_list_getattribute.check _ _ _ _ _ _ _ _ (show (⟨h,g,d,t+1,os⟩:Shared).TypeIs (.ref a) "list" from ⟨_,hx,rfl⟩) (F.args_list_getattribute_2 _ _) (Zoz hh hx fun h' e D3 kp ⟨oe,he,hc⟩=>?_));have hTe:(⟨h',g,d,D3,os⟩:Shared).TypeIs (.ref e) "AttributeError" :=⟨_,he,hc⟩
 have hq':=hq h' D3 kp;unfold getattributeRaised
 repeat (any_goals (first | assumption | wp_step))
 all_goals trace_state
end
theorem Zk9:entryFor table "dict.update.loop" =some Builtin.«dict.update.loop» :=entryFor_of_tree (by kernel_rfl)
section
variable {prog:Program} {w:World} {KT:Type} [DecidableEq KT] {knd:KeyKind prog w KT} {A:Around} {R:Result->Shared->Prop} {l d it:Addr} {tps:List Addr} {prs D0:List (KT×Value)} {h₀:Heap}
end
end L2
namespace L2
open PySem PySem.Spec PyProof.Rows
theorem Zi7{d:Addr}{o:Obj}{kvs:List (Key×V)}{fr:St->St}{g:TG}{tf:TT}{te:TE}{Q:VK}{σ:St}{H1:Hp}{D:Addr}(Pv:Nat->List V->Hp->Prop)(h0:Pv 0 [] (upd H1 D (.lst [])))(hl:∀i ys H,i<=kvs.length->Pv i ys H->H d=some (.frz o (.dK kvs)))
  (hs:∀i kv ys H,kvs[i]? =some kv->Pv i ys H->∀p H2,Same H H2->H p=none->H2 p=some (.tup [kV kv.1,kv.2])->Zcj fr g tf te σ D (.ref p) ys H2 (Pv (i+1))) (hd:∀ys H,Pv kvs.length ys H->Q (.ref D) H):Zdp (Iti d o kvs) fr g tf te Q σ H1 D:=by
 refine ⟨fun i m ys H=>m=kvs.length-i/\i<=kvs.length/\Pv i ys H,⟨kvs.length,by simp,Nat.zero_le _,h0⟩,?_⟩;rintro i m ys H ⟨rfl,hi,p⟩;have q:=hl i ys H hi p
 by_cases c8:i<kvs.length
 ·refine .inr ⟨⟨q,c8⟩,Pv (i+1),fun C6 H' p'=>⟨kvs.length-(i+1),by lia,rfl,c8,p'⟩,fun x H' y=>?_⟩;obtain ⟨a,kv,e,hn,L1,e2⟩:=y;subst e e2;exact hs i kv ys H L1 p a _ (Same.new hn) hn Zf
 ·have e:i=kvs.length:=by lia
  subst e;exact .inl ⟨⟨q,Nat.le_refl _⟩,hd ys H p⟩
end L2
end
section
namespace L2
open PySem
end L2
end
section
namespace L2
open PySem PySem.Spec PyProof.Rows
section
variable {prog:Program} {w:World} {KT:Type} [DecidableEq KT] {knd:KeyKind prog w KT} {A:Around} {l d:Addr} {tps:List Addr} {prs D0:List (KT×Value)} {s:Shared} {Q:Value->Shared->Prop} {E:Value->Shared->Prop} {n:Nat}
end
section
variable {X:Cx} {o e:Expr} {i8 i5:Pos} {td ty:TE}
end
end L2
namespace L2
open PySem PySem.Spec PyProof.Rows
section
variable {X:Cx} {a6:List (Addr×Obj)} {σ:St} {H:Hp} {s:Shared} {Q:Value->Shared->Prop} {la:Arguments} {lb:Expr} {ls:Scope} {lp:Pos} {c Pt:Addr} {clos:List (Str×Addr)}
end
section
variable {X:Cx} {a6:List (Addr×Obj)} {σ:St} {H:Hp} {s:Shared} {Q:VK}
end
section
variable {P:Program} {w:World} {K:Frag} {mg:Str->Option Value} {base:Heap}
end
def offL(H:Hp)(cells:List (Str×Addr)):Hp:=fun b=>if b∈cells.map Prod.snd then none else H b
section
variable {P:Program} {w:World} {K:Frag} {mg:Str->Option Value} {base:Heap}
end
end L2
namespace L2
open PySem PySem.Spec PyProof.Rows
end L2
end
section
namespace L2
open PySem PySem.Spec PyProof.Rows
section
variable {X:Cx} {a6:List (Addr×Obj)} {σ:St} {H:Hp} {s:Shared}
end
end L2
end
section
namespace L2
open PySem PySem.Spec PyProof.Rows
end L2
end
section
namespace L2
open PySem PySem.Spec PyProof.Rows
section
variable {X:Cx} {σ:St} {H:Hp}
end
theorem Zjw{X:Cx}{x v:Str}{pos:Pos}(hg:Gl X x)(h:∃tk,X.mg x=some (.str v tk)) (hd:(x ==("__debug__" :Str))=false:=by decide):PE X (.Name x pos) (tC (.str v)):=by
 obtain ⟨tk,h⟩:=h;exact Zfl hg h ⟨tk,rfl⟩ hd
def Zrn(K:Frag):R2:=fun x y H Q=>∃(p l:Addr) (xs:List V) (ss:List Str),x=.ref l/\y=.ref p/\SqL K H p (ss.map V.str)/\SqL K H l xs/\Q (.bl true) H
theorem Zrw{X:Cx}(hu:X.A.units+64<cLine):OpR X (compareOp .NotIn) (Zrn X.K):=by
 intro a6 s σ H x y v u Q I rx ry h;obtain ⟨p,l,xs,ss,rfl,rfl,hq,hl,q⟩:=h;cases ry;cases rx;obtain ⟨a7,r,pl,hz⟩:=I.list hq;obtain ⟨its',r',pl',hz'⟩:=I.list hl;have hS:=Zf4 r;refine SeqAt.notIn_listAt (fun _=>false) pl.isList (fun w hw=>?_) ⟨.bl _,H,I,rfl,?_⟩
 ·have hw:w∈a7:=by simpa using hw
  have all:∀{ss:List Str} {a7:List Value},StrsAre a7 ss->∀w∈a7,∃x t,w=.str x t:=fun h=>by
   induction h with
   | nil=>intro w hw;cases hw
   | cons x t _ ih =>
    intro w hw;rcases List.mem_cons.mp hw with z|z
    ·exact ⟨_,_,z⟩
    ·exact ih w z
  obtain ⟨x,t,rfl⟩:=all hS w hw;exact SeqAt.EqAt.str_list x t pl'.isList (by rw [Y7];lia)
 ·rw [show a7.toArray.any (fun _=>false)=false by simp];exact q
def Zrg(K:Frag):R2:=fun x y H Q=>Zai K x y H Q\/Zrn K x y H Q
theorem Zxk{X:Cx}{k:Nat}(hr:X0 k X.A):OpR X (compareOp .NotIn) (Zrg X.K):=(Za3 hr).or (Zrw hr.units)
end L2
end
section
namespace L2
open PySem PyProof.Rows
theorem Zkx{P:Program}{w:World}{A:Around}{E:Value->Shared->Prop}{it l:Addr}{a7:Array Value}(hh:A.handled=none)(z8:l≠it):∀(n i:Nat) (s:Shared) (Q:List Value->Shared->Prop),(s.heap.IsListIter it l i/\s.heap.IsList l a7)->i+n<=a7.size ->
  (∀h' tk,(h'.IsListIter it l (i+n)/\h'.IsList l a7)->(∀b o,b∉[it]->s.heap.get? b=some o->h'.get? b=some o)->Q ((a7.toList.drop i).take n) { s with heap:=h',toks:=tk })->wpAny (model P w) A (draw (.ref it) n) Q E s
 | 0,i,s,Q,C3,_,hQ=>by
  show wpAny _ _ (pure []) Q E s;exact wpAny_pure (by simpa using hQ s.heap s.toks C3 fun _ _ _ e=>e)
 | n+1,i,s,Q,C3,F3,hQ=>by
  have c8:i<a7.size:=by lia
  show wpAny _ _ (pyNext (.ref it) >>=_) Q E s;refine wpAny_bind ((Walks.list (prog:=P) (w:=w) hh it l z8 a7).item i s _ _ c8 C3 fun v h1 tk1 hv R8 hk1=>?_);refine wpAny_bind (wpAny_holding (Zkx hh z8 n (i+1) _ _ R8 (by lia) fun h2 tk2 hst2 N3=>wpAny_pure ?_));have hd:a7.toList.drop i=a7[i] ::a7.toList.drop (i+1):=by simp [List.drop_eq_getElem_cons,c8]
  have ev:v=a7[i]:=by rw [Array.getElem?_eq_getElem c8] at hv;exact (Option.some.inj hv).symm
  have:=hQ h2 tk2 (by rw [show i+(n+1)=i+1+n by lia];exact hst2) fun b o hb e=>N3 b o hb (hk1 b o hb e)
  rw [hd,List.take_succ_cons,<-ev] at this;exact this
theorem Znu{P:Program}{w:World}{A:Around}{E:Value->Shared->Prop}{s:Shared}{l:Addr}{a7:Array Value}{A2:List (Bool×(Value->Sem Unit))}{Q:Unit->Shared->Prop}(hh:A.handled=none)(hl:s.heap.IsList l a7)
  (hn:A2.length=a7.size) (hstar:A2.findIdx? (·.1)=none)
  (h:∀h' tk,(∀b o,s.heap.get? b=some o->h'.get? b=some o)->wpAny (model P w) A (assignInOrder (A2.map (·.2)) a7.toList) Q E { s with heap:=h',toks:=tk }) :
  wpAny (model P w) A (unpack (.ref l) A2) Q E s:=by
 have c8:l<s.heap.objs.size:=by obtain ⟨o,ho,_⟩:=hl;exact Heap.lt_size ho
 have ty:s.TypeIs (.ref l) "list" :=by obtain ⟨o,ho,hc,_⟩:=hl;exact ⟨o,ho,hc⟩
 unfold unpack;rw [hn,hstar];refine wpAny_bind (wpAny_holding ?_);unfold unpackItems;refine wpAny_bind ?_;unfold notIterableAtAll;refine wpAny_bind (wpAny_specialOf ty F.slot_list_iter.lookup ?_);refine wpAny_pure ?_;simp only [Bool.false_eq_true,if_false];refine wpAny_bind (wpAny_holding (wpAny_pyIter_list hl ?_));have z8:l≠s.heap.objs.size:=Nat.ne_of_lt c8;refine wpAny_bind (wpAny_holding (Zkx hh z8 a7.size 0 _ _ ⟨⟨_,Heap.get?_push_size _ rfl,rfl,rfl⟩,hl.push _⟩ (by lia) fun h1 tk1 R8 hk1=>?_));have A7:List.take a7.size (List.drop 0 a7.toList)=a7.toList:=by
  rw [List.drop_zero];exact List.take_of_length_le (by simp)
 rw [A7];rw [if_neg (by simp)];rw [Nat.zero_add] at R8;refine wpAny_bind (wpAny_holding ((Walks.list (prog:=P) (w:=w) hh s.heap.objs.size l z8 a7).done _ _ _ R8 fun h2 tk2 N3=>?_));simp only [Option.isSome_none,Bool.false_eq_true,if_false];refine wpAny_pure (h h2 tk2 fun b o e=>?_);have hb:b∉[s.heap.objs.size]:=fun z=>by
  have z':b=s.heap.objs.size:=by simpa using z
  rw [z'] at e;exact Nat.lt_irrefl _ (Heap.lt_size e)
 exact N3 b o hb (hk1 b o hb (Heap.get?_push_of_some _ e))
def Ydc(K:Frag)(n:Nat)(t:TGs):TG:=fun v σ H Q=>∃a xs,v=.ref a/\SqL K H a xs/\xs.length=n/\t xs σ H Q
theorem Zzj{X:Cx}{pos:Pos}{es:List Expr}{k:Nat}{t:TGs}{n:Nat}(hc:X.calm=true)(h:PGs X es t)
  (hn:(assignEach es X.env).length=n:=by rfl) (C3:(assignEach es X.env).findIdx? (·.1)=none:=by rfl):PG X (.Tuple es k pos) (Ydc X.K n t):=by
 intro a6 s σ H v u Q I r hw;obtain ⟨a,xs,e1,hq,hl,hw⟩:=hw;subst e1;cases r;obtain ⟨a7,rv,ht,hz⟩:=I.list hq;rw [assign_Tuple];refine wpAny_bind (wpAny_standAt (Znu (I.ok.hd hc) ht.isList (by simp [hn,<-hl,rv.length]) C3 fun h' tk hx=>?_));have I1:Inv X a6 σ H { s with heap:=h',toks:=tk }:=I.kept (t':=tk) fun b o e=>hx b o e
 exact h a6 _ σ H xs _ Q I1 (by simpa using rv) hw
def Zva(ns:List Int):Int:=ns.foldl (· + ·) 0
theorem Zg5(ns:List Int):∀j,preSum (fun i=>ns.getD i 0) j=Zva (ns.take j)\/ns.length<j
 | 0=>.inl rfl
 | j+1=>by
  by_cases h:ns.length<j+1
  ·exact .inr h
  ·refine .inl ?_;rcases Zg5 ns j with e|e
   ·have hj:j<ns.length:=by lia
    rw [preSum,e,List.take_add_one,List.getElem?_eq_getElem hj];unfold Zva;rw [List.foldl_append,List.getD_eq_getElem?_getD,List.getElem?_eq_getElem hj]
    rfl
   ·lia
theorem Zuo{X:Cx}(hc:X.calm=true):Xj X (.builtin "sum") (fun xs H Q=>∃(p:Addr) (ns:List Int),xs=[.ref p]/\SqL X.K H p (ns.map V.int)/\Q (.int (Zva ns)) H):=by
 intro a6 s σ H xs us Q I r h;obtain ⟨p,ns,rfl,hq,q⟩:=h;obtain ⟨u,rfl,ru⟩:=Zci r;cases ru;obtain ⟨a7,rv,pl,hz⟩:=I.list hq;have c8:p<s.heap.objs.size:=by obtain ⟨_,_,e,_⟩:=pl;exact Heap.lt_size e
 refine call_sum_walkG (wpAny_pyIter_list pl.isList ?_);refine ⟨s.heap.objs.size,_,_,a7.toArray.size,_,_,fun i=>ns.getD i 0,rfl,Walks.list (A:=X.A.in1) (show X.A.in1.handled=none from I.ok.hd hc) s.heap.objs.size p (Nat.ne_of_lt c8) a7.toArray,⟨⟨_,Heap.get?_push_size _ rfl,rfl,rfl⟩,pl.isList.push _⟩,?_,?_,fun h' tk t' k=>?_⟩
 ·intro b hb;have:=Heap.size_push s.heap { cls:=.type "list_iterator",data:=.fields #[.ref p,.int 0 0] };have hb':b=s.heap.objs.size\/b=p:=by simpa using hb
  show b<(s.heap.push _).objs.size;rw [this];rcases hb' with rfl|rfl
  ·exact Nat.lt_succ_self _
  ·exact Nat.lt_succ_of_lt c8
 ·intro i v hv;obtain ⟨x,hx,rx⟩:=Paired.get' rv (i:=i) (b:=v) (by simpa using hv);rw [List.getElem?_map] at hx;obtain ⟨n,hn,rfl⟩:=Option.map_eq_some_iff.mp hx;obtain ⟨t,rfl⟩:=rx;exact ⟨t,by show Value.int n t=Value.int (ns.getD i 0) t;rw [List.getD_eq_getElem?_getD,hn];rfl⟩
 ·have hl:=rv.length;rw [List.length_map] at hl;refine ⟨.int (Zva ns),H,?_,?_,q⟩
  ·refine I.kept (t':=tk) fun b o e=>k b o ?_ (Heap.get?_push_of_some _ e)
   have:=Heap.lt_size e;intro z;have z':b=s.heap.objs.size:=by simpa using z
   rw [z'] at this;exact Nat.lt_irrefl _ this
  ·refine ⟨t',?_⟩;rw [List.size_toArray,<-hl];rcases Zg5 ns ns.length with e|e
   ·rw [e,List.take_length]
   ·lia
def Zgf(x:Str)(n:Nat):Str:=⟨(List.replicate n x.cps).foldl (· ++ ·) #[]⟩
def Ybh:R2:=fun x y H Q=>∃(z:Str) (n:Nat),x=.str z/\y=.int n/\z.length * n<=1000/\n<=1000/\Q (.str (Zgf z n)) H
theorem Zxr{X:Cx}:OpR X (binaryOp .Mult) Ybh:=by
 intro a6 s σ H x y v u Q I rx ry h;obtain ⟨z,n,rfl,rfl,hz,hn,q⟩:=h;obtain ⟨t,rfl⟩:=rx;obtain ⟨t',rfl⟩:=ry;refine PySem.P.mul_str ?_ ?_ ?_ ?_
 ·rw [decide_eq_false (by lia),decide_eq_false (by lia)];rfl
 ·intro h1 h2 h3;have:((2:Int) ^ 63-1) / (n:Int) ≥ 1000:=by
   rw [ge_iff_le,Int.le_ediv_iff_mul_le (by lia)];lia
  have hz1:z.length<=z.length * n:=Nat.le_mul_of_pos_right _ (by lia);lia
 ·intro h1 h2;show decide (z.length * (n:Int).toNat >sizeLine)=false;rw [decide_eq_false];have:=sz (n:=z.length * n) hz;rw [Int.toNat_natCast];lia
 ·by_cases h0:n=0
  ·subst h0;rw [if_pos (by decide)];exact ⟨by decide,.str (Zgf z 0),H,I.kept fun b o e=>e,⟨_,rfl⟩,q⟩
  ·rw [if_neg (by lia)]
   by_cases h1:((n:Int) ==1 || z.length ==0)=true
   ·rw [if_pos h1];refine ⟨.str (Zgf z n),H,I,⟨t,?_⟩,q⟩;have:Zgf z n=z:=by
     rw [Bool.or_eq_true,beq_iff_eq,beq_iff_eq] at h1;rcases h1 with e|e
     ·have e:n=1:=by lia
      subst e;unfold Zgf;simp
     ·have e:z.cps=#[]:=Array.eq_empty_of_size_eq_zero e;have:∀m,(List.replicate m (#[]:Array Nat)).foldl (· ++ ·) #[]=#[]:=fun m=>by
       induction m with
       | zero=>rfl
       | succ m ih=>rw [List.replicate_succ,List.foldl_cons];simpa using ih
      unfold Zgf;rw [e,this n];cases z;simp at e;rw [e]
    rw [this]
   ·rw [if_neg h1,Int.toNat_natCast];refine ⟨?_,.str (Zgf z n),H,I.kept fun b o e=>e,⟨_,rfl⟩,q⟩;exact fits_reps (by show decide (_ >sizeLine)=false;rw [decide_eq_false];have:=sz (n:=z.length * n) hz;lia)
def Ydb(K:Frag)(te:TE)(ts:TO):TE:=fun σ H Q=>te σ H fun x H1=>ts σ H1 fun k H2=>∃a xs,k=some (-1)/\x=.ref a/\SqL K H2 a xs/\New H2 (.lst xs.reverse) Q
theorem Ya.rev{xs:List V}{us:List Value}(h:Ya xs us):Ya xs.reverse us.reverse:=by
 induction h with
 | nil=>exact .nil
 | cons r _ ih=>rw [List.reverse_cons,List.reverse_cons];exact Paired.append ih (.cons r .nil)
theorem Zzz{X:Cx}{e st:Expr}{te:TE}{ts:TO}{p2 pos:Pos}{ops:Value->Value->List Value}(he:PE X e te)(C3:PO X (some st) ts)(hs:∀l r,subscripted (.Slice none none (some st) p2) false l r=operate (ops l r) (getItem l r)):PE X (.Subscript e (.Slice none none (some st) p2) pos) (Ydb X.K te ts):=by
 intro a6 s σ H Q I h;refine Subscript_ (thn (he a6 s σ H _ I h) fun v s1 ⟨x,H1,I1,r1,q1⟩=>?_);refine wpAny_Slice ?_;rw [evalPart_none];refine wpAny_pure ?_;refine wpAny_pure ?_;refine thn (C3 a6 s1 σ H1 _ I1 q1) fun vk s3 ⟨k,H3,I3,pk,a,xs,hk,hx,hq,q⟩=>?_
 subst hk hx;cases r1;have I4:Inv X a6 σ H3 { s3 with heap:=s3.heap.push { cls:=.type "slice",data:=.fields #[.none,.none,vk] } }:=I3.kept (t':=s3.toks) fun b ob q=>Heap.get?_push_of_some _ q
 obtain ⟨a7,r,ht,hz⟩:=I4.list hq;show wpAny (model X.prog X.w) X.A (subscriptTail e (.Slice none none (some st) p2) (.ref a) (.ref s3.heap.objs.size)) (EP X a6 σ Q) X.xe { s3 with heap:=s3.heap.push { cls:=.type "slice",data:=.fields #[.none,.none,vk] } };refine tail_any (ops:=ops (.ref a) (.ref s3.heap.objs.size)) ht.isList.typeIs slot_list_getitem.lookup ?_ (hs _ _);refine wpAny_getItem_list_slice ht.isList (Heap.IsSliceOf.new ..) .none .none pk (by simp) ?_ (by rw [List.size_toArray,<-r.length];exact hz);rw [PySem.W.krv_pick];refine ⟨.ref _,_,I4.laid (t':=s3.toks) (o:=.lst xs.reverse) (fun b ob q=>Heap.get?_push_of_some _ q) (Nat.le_refl _) ?_,rfl,q.at _ (I4.hok.fresh (Nat.le_refl _))⟩;exact ⟨by rw [List.length_reverse];exact hz,_,0,Ya.rev r,Heap.get?_push_size _ rfl⟩
end L2
end
section
namespace L2
open PySem PySem.Spec PyProof.Rows
structure DnD(K:Frag)(x a8:Str)(st:Stmt)(ps:List Str)(v:V) where
 f:Addr
 fd:FuncData
 dV:Value
 F:Zo8 K x a8 st dV f fd
 b:Za1 K fd ps []
 u:Value
 r:Yf v u
 b1:Za1 K fd ps [u]
theorem Zo8.okW{P:Program}{w:World}{K:Frag}{mg:Str->Option Value}{base:Heap}{x a8:Str}{st:Stmt}{dV:Value}{f:Addr}{fd:FuncData}{N ps:List Str}{k:Nat}{sp:Sp}(F:Zo8 K x a8 st dV f fd)(S:Zo N ps (Zg st))
  (u9:∀(b7:Value) (A:Around) (outer:List Env) (s:Shared) (H:Hp) (vs:List V) (Q:VK) (E:XK),X0 k (A.deeper (envOfC a8 (Zg st) s.heap.objs.size f b7))->sp vs H Q E ->
   let X:=(Zea CX0 P w K mg base N a8 (Zg st) f b7 A outer s H E).nox;WSs X (Yw st) { nx:=fun _ H'=>Q .non H',rt:=Q } (start N vs) H) (len:∀vs H Q E,sp vs H Q E->vs.length=ps.length:=by rintro _ _ _ _ h;repeat (first|(obtain ⟨e,_⟩:=h;subst e;rfl)|obtain ⟨_,h⟩:=h)):Zy P w K mg base CX0 (k+1) f fd ps sp:=Zo8.ok F S len u9
theorem Zch{X:Cx}{x:Str}{v:Int}{pos:Pos}(hg:Gl X x)(h:∃tk,X.mg x=some (.int v tk)) (hd:(x ==("__debug__" :Str))=false:=by decide):PE X (.Name x pos) (tC (.int v)):=by
 obtain ⟨tk,h⟩:=h;exact Zfl hg h ⟨tk,rfl⟩ hd
theorem Zd7{α:Type}{l:List α}{i:Nat}{a:α}(nd:l.Nodup)(h:l[i]? =some a):a∉l.take i:=fun m=>by
 have e:l=l.take i++(a ::l.drop (i+1)):=by rw [<-Zjc h,List.take_append_drop]
 rw [e,List.nodup_append] at nd;exact nd.2.2 a m a List.mem_cons_self rfl
section
variable {prog:Program} {w:World} {KT:Type} [DecidableEq KT] {knd:HeapKind prog w KT} {A:Around} {E:Value->Shared->Prop} {s:Shared}
theorem Zpp(c:Addr)(hc:(c ==sysModules)=false):MeetsIn prog w (Builtin.«dict.__len__» ⟨[.ref c],[]⟩) (fun _ R s=>∃ys,s.heap.DictOfH knd c ys/\R (.ok (.ret (.int ys.length s.toks))) { s with toks:=s.toks+1 }) :=
 .of_wp fun A R s ⟨ys,hm,h⟩=>by
  obtain ⟨ob,es,ep,E6,_,hda,B4,_,_⟩:=hm;show wpAny _ _ (dictSize c >>=_) _ _ s;unfold dictSize;refine wpAny_bind (wpAny_bind (wpAny_dictEntries E6 hda (wpAny_pure ?_)));show wpAny _ _ (Builtin.Dict.pendingCount c >>=_) _ _ s;refine wpAny_bind (wpAny_pendingCount_other hc (wpAny_ret_mkInt ?_));rw [Nat.add_zero,size_of_entries B4];exact h
theorem Zrz{c:Addr}{ys:List (KT×Addr×Value)}{Q:Value->Shared->Prop}(hc:(c ==sysModules)=false)(hm:s.heap.DictOfH knd c ys)(hf:(ys.length:Int)<2 ^ 63)
  (h:Q (.int ys.length (s.toks+1)) { s with toks:=s.toks+1+1 }):wpAny (model prog w) A (call (.builtin "len") [.ref c]) Q E s:=by
 refine Calls.call_function_entry kind_len plain_len entry_len (args_len1 _) ?_;unfold Builtin.«len»;refine wpAny_bind (m:=oneArg "len" _) (wpAny_pure (wpAny_bind (m:=callSpecial? (.ref c) (Str.ofString "__len__")) ?_));refine wpAny_callSpecial?_slot (name:=Str.ofString "__len__") hm.typeIs F.slot_dict_len (call_meetsIn F.slot_dict_len hm.typeIs F.entry_dict_len (F.args_dict_len_1 _) (Zpp (knd:=knd) c hc) ⟨ys,hm,?_⟩);show wpAny _ _ _ _ _ { s with toks:=s.toks+1 };refine wpAny_bind (wpAny_holding (wpAny_pure (wpAny_bind (wpAny_letGo ?_))));show wpAny _ _ (if ((ys.length:Nat):Int)<0 then _ else _) _ _ _;rw [if_neg (by lia)];show wpAny _ _ (if ((ys.length:Nat):Int) ≥ 2 ^ 63 then _ else _) _ _ _;rw [if_neg (by lia)];exact wpAny_bind (wpAny_mkInt (wpAny_pure ⟨_,rfl,h⟩))
end
def Zul:List V->Hp->VK->Prop:=fun xs H Q=>∃a kvs,xs=[V.ref a]/\H a=some (.dT kvs)/\Q (.int kvs.length) H
theorem Zk1{X:Cx}:Xj X (.builtin "len") Zul:=by
 intro a6 s σ H xs us Q I r h;obtain ⟨a,kvs,rfl,ha,q⟩:=h;obtain ⟨u,rfl,ru⟩:=Zci r;cases ru;obtain ⟨z,hd,ys,v6,dd⟩:=Zyq I.hok ha;have hl:kvs.length=ys.length:=Paired.length v6;refine Zrz hd dd (by rw [<-hl];rw [sizeLine_eq] at z;lia) ?_;rw [<-hl];exact ⟨.int _,H,I.tok _,⟨_,rfl⟩,q⟩
section
variable {prog:Program} {w:World} {KT:Type} [DecidableEq KT] {knd:HeapKind prog w KT} {A:Around} {R:Result->Shared->Prop} {l d it:Addr} {tps:List Addr} {qs:List (KT×Addr×Value)} {h₀:Heap}
def Zcl(knd:HeapKind prog w KT)(h:Heap)(tps:List Addr)(qs:List (KT×Addr×Value)):Prop :=
 Paired (fun p (q:KT×Addr×Value)=>(∃o n,h.get? p=some o/\o.cls=.type "tuple" /\o.data=.seq #[.ref q.2.1,q.2.2] n)/\∃ok,h.get? q.2.1=some ok/\∀h':Heap,h'.get? q.2.1=some ok->knd.is h' q.1 q.2.1) tps qs
theorem Zcl.key{h:Heap}(hp:Zcl knd h tps qs):∀q∈qs,∃ok,h.get? q.2.1=some ok/\∀h':Heap,h'.get? q.2.1=some ok->knd.is h' q.1 q.2.1:=by
 unfold Zcl at hp
 induction hp with
 | nil=>intro q z;cases z
 | cons r _ ih =>
  intro q z;rcases List.mem_cons.mp z with rfl|z
  ·exact r.2
  ·exact ih q z
theorem Zjo{h h':Heap}{ys:List (KT×Addr×Value)}(hD:h.DictOfH knd d ys)(hd:∀o,h.get? d=some o->h'.get? d=some o)(hk:∀y∈ys,knd.is h' y.1 y.2.1):h'.DictOfH knd d ys:=by
 obtain ⟨o,es,ep,ho,r1,r2,r3,_,r5⟩:=hD;exact ⟨o,es,ep,hd o ho,r1,r2,r3,hk,r5⟩
theorem Zno(hh:A.handled=none)(hu:knd.room A.in1)(hdi:d≠it)(hl:h₀.IsList l (tps.map Value.ref).toArray)(hld:l≠d)(hli:l≠it)(hp:Zcl knd h₀ tps qs)(N6:(qs.map (·.1)).Nodup)(hsz:qs.length<=sizeLine)
  (hpd:∀p∈tps,p≠d/\p≠it) (hqd:∀q∈qs,q.2.1≠d/\q.2.1≠it) :
  ∀(n i:Nat) (s:Shared) (j:Int) (tk:Tok),i+n=qs.length->s.heap.IsListIter it l i->s.heap.DictOfH knd d (qs.take i)->(∀b o,b≠d->b≠it->h₀.get? b=some o->s.heap.get? b=some o) ->
   (∀h' D3,h'.DictOfH knd d qs->(∀b o,b≠d->b≠it->h₀.get? b=some o->h'.get? b=some o)->R (.ok (.ret .none)) { s with heap:=h',toks:=D3 }) ->
   codeAny (model prog w) A (.builtin "dict.update.loop" ⟨[.ref d,.ref it,.int j tk,.none],[]⟩) R s:=by
 have d6:tps.length=qs.length:=Paired.length hp;have B5:=hp.key;have hu':∀args:Args,knd.room (A.under (.builtin "dict.update.loop" args)):=fun args=>by rw [Around.under_plainId (by trivial)];exact hu
 have is_:∀h':Heap,(∀b o,b≠d->b≠it->h₀.get? b=some o->h'.get? b=some o)->∀q∈qs,knd.is h' q.1 q.2.1:=fun h' kp q hq=>by
  obtain ⟨ok,h1,h2⟩:=B5 q hq;exact h2 h' (kp _ _ (hqd q hq).1 (hqd q hq).2 h1)
 intro n
 induction n with
 | zero =>
  intro i s j tk hi hit hD keep hq;have hl':s.heap.IsList l (tps.map Value.ref).toArray:=by
   obtain ⟨o,ho,r⟩:=hl;exact ⟨o,keep _ _ hld hli ho,r⟩
  refine codeAny_builtin Zk9 ?_;unfold Builtin.«dict.update.loop»;dsimp only;refine wpAny_bind (wpAny_pyNext_list_end hh hit hl' (by rw [List.getElem?_toArray,List.getElem?_map,List.getElem?_eq_none (by lia)];rfl) fun h' eb=>?_);dsimp only;refine wpAny_bind (wpAny_pure (wpAny_pure ?_));have kp:∀b o,b≠d->b≠it->h₀.get? b=some o->h'.get? b=some o:=fun b o h1 h2 h3=>eb b o h2 (keep b o h1 h2 h3)
  refine hq h' s.toks ?_ kp;rw [show qs.take i=qs from List.take_of_length_le (by lia)] at hD;exact Zjo hD (fun o ho=>eb d o hdi ho) (is_ h' kp)
 | succ n ih =>
  intro i s j tk hi hit hD keep hq;have hl':s.heap.IsList l (tps.map Value.ref).toArray:=by
   obtain ⟨o,ho,r⟩:=hl;exact ⟨o,keep _ _ hld hli ho,r⟩
  have hit':i<tps.length:=by lia
  obtain ⟨q,hqi,⟨ot,nt,hpt,hct,hdt⟩,_⟩:=Paired.get hp (i:=i) (a:=tps[i]) (List.getElem?_eq_getElem hit');obtain ⟨nd,ni⟩:=hpd tps[i] (List.getElem_mem hit');have hqm:q∈qs:=List.mem_of_getElem? hqi;refine codeAny_builtin Zk9 ?_;unfold Builtin.«dict.update.loop»;dsimp only;refine wpAny_bind (wpAny_pyNext_list_item hit hl' (x:=.ref tps[i]) (by rw [List.getElem?_toArray,List.getElem?_map,List.getElem?_eq_getElem hit'];rfl) fun h1 it1 sb1=>?_);have hpt1:h1.get? tps[i]=some ot:=by rw [sb1.2 _ ni];exact keep _ _ nd ni hpt
  have hT:({ s with heap:=h1 }:Shared).TypeIs (.ref tps[i]) "tuple" :=⟨_,hpt1,hct⟩
  have kp1:∀b o,b≠d->b≠it->h₀.get? b=some o->h1.get? b=some o:=fun b o z1 z2 z3=>by rw [sb1.2 _ z2];exact keep b o z1 z2 z3
  have B7:h1.DictOfH knd d (qs.take i):=Zjo hD (fun o ho=>by rw [sb1.2 _ hdi];exact ho) fun y hy=>is_ h1 kp1 y (List.mem_of_mem_take hy)
  refine wpAny_bind (wpAny_holding (wpAny_bind (wpAny_tryCatch ?_)));unfold Builtin.Dict.pairItems;refine wpAny_bind (wpAny_typeOf hT ?_);rw [if_pos (by decide)];refine wpAny_bind (wpAny_seqItems (s:={ s with heap:=h1 }) hpt1 hdt (wpAny_pure ?_));refine wpAny_holding (wpAny_dictSet_heap (s:={ s with heap:=h1 }) (hu' _) (is_ h1 kp1 q hqm) B7 (fun h2 p7 sb2=>?_) ?_)
  ·refine wpAny_pure ⟨Code.quiet_builtin _ (by trivial),?_⟩;have hno:atKey (qs.take i) q.1=none:=by
    cases e:atKey (qs.take i) q.1 with
    | none=>rfl
    | some z =>
     unfold atKey at e;obtain ⟨y,hy,_⟩:=Option.map_eq_some_iff.mp e;have y0:=List.find?_some hy;have y1:y.1=q.1:=of_decide_eq_true y0;have m1:y.1∈(qs.map (·.1)).take i:=by rw [<-List.map_take];exact List.mem_map.mpr ⟨y,List.mem_of_find?_eq_some hy,rfl⟩
     rw [y1] at m1;exact absurd m1 (Zd7 N6 (by rw [List.getElem?_map,hqi];rfl))
   have C3:storedH (qs.take i) q.1 q.2.1 q.2.2=qs.take (i+1):=by rw [storedH_new hno,List.take_add_one,hqi];rfl
   rw [C3] at p7;refine ih (i+1) { s with heap:=h2,toks:=_ } (j+1) _ (by lia) ?_ p7 (fun b o n1 n2 z=>?_) fun h' D3=>hq h' D3
   ·exact it1.at fun o z=>by rw [sb2.2 _ hdi.symm];exact z
   ·rw [sb2.2 _ n1];exact kp1 b o n1 n2 z
  ·rw [List.length_take];lia
theorem Zgs{n:Nat}{s:Shared}{Q:Value->Shared->Prop}{E:Value->Shared->Prop}(hh:A.handled=none)(hu:knd.room A.in1.in1) (hx:s.heap.get? l=some { cls:=.type "list",data:=.seq (tps.map Value.ref).toArray n }) (hp:Zcl knd s.heap tps qs) (N6:(qs.map (·.1)).Nodup) (hsz:qs.length<=sizeLine)
  (h:∀h' D3 dd,h'.DictOfH knd dd qs->dd=s.heap.objs.size->s.heap.get? dd=none->(∀b o,s.heap.get? b=some o->h'.get? b=some o)->Q (.ref dd) { s with heap:=h',toks:=D3 }) :
  wpAny (model prog w) A (call (.type "dict") [.ref l]) Q E s:=by
 refine callType_codes (Q₁:=fun obj s₁=>obj=.ref s.heap.objs.size/\s₁={ s with heap:=s.heap.push { cls:=.type "dict",data:=.dict #[] } }) F.kt_called_dict (F.kt_typeCall_dict_1 _) F.entry_dict_init (kt_code_dict_new _ ⟨rfl,rfl⟩) ?_;rintro obj s₁ ⟨rfl,rfl⟩;have y8:(s.heap.push { cls:=.type "dict",data:=.dict #[] }).DictOfH knd s.heap.objs.size []:=Heap.DictOfH.new s.heap;have hx1:(s.heap.push { cls:=.type "dict",data:=.dict #[] }).get? l=some { cls:=.type "list",data:=.seq (tps.map Value.ref).toArray n }:=Heap.get?_push_of_some _ hx;refine ⟨y8.typeIs,F.args_dict_init_2 _ _,?_⟩;unfold Builtin.«dict.__init__»;refine wpAny_bind ?_;unfold Builtin.Dict.selfAndRest;refine wpAny_bind (wpAny_notOrdered_dict y8.typeIs ?_);show wpAny _ _ (pure (s.heap.objs.size,[Value.ref l])) _ _ _;refine wpAny_pure ?_;show wpAny _ _ (Builtin.Dict.updateFrom "dict.__init__" s.heap.objs.size (.ref l) [] .none) _ _ _;unfold Builtin.Dict.updateFrom;refine wpAny_bind (wpAny_typeOf (T := "list") ⟨_,hx1,rfl⟩ ?_);rw [if_pos (by decide)];obtain ⟨h0,g0,d0,t0,os0⟩:=s;dsimp only at *;refine wpAny_bind (Zs1 hh hx1 fun h1 tk1 k1=>?_);simp only [Option.isNone_none,if_true];have S7:=k1 _ _ hx1;have J9:h1.IsList l (tps.map Value.ref).toArray:=⟨_,S7,rfl,n,rfl⟩
 refine wpAny_bind (wpAny_rule (wpAny_bind (wpAny_pyIter_list (s:=⟨h1,g0,d0,tk1,os0⟩) J9 (wpAny_pure ⟨Code.quiet_builtin _ (by trivial),?_⟩))));have k2:∀b o,h0.get? b=some o->(h1.push { cls:=.type "list_iterator",data:=.fields #[.ref l,.int 0 0] }).get? b=some o:=fun b o z=>Heap.get?_push_of_some _ (k1 _ _ (Heap.get?_push_of_some _ z))
 have hd1:h1.get? h0.objs.size=some { cls:=.type "dict",data:=.dict #[] }:=k1 _ _ (Heap.get?_push_size h0 rfl);have lt1:h0.objs.size<h1.objs.size:=Heap.lt_size hd1;have hll:l<h0.objs.size:=Heap.lt_size hx;have S8:∀c o,h0.get? c=some o->c≠h0.objs.size/\c≠h1.objs.size:=fun c o z=>by
  have:=Heap.lt_size z;exact ⟨Nat.ne_of_lt this,Nat.ne_of_lt (Nat.lt_trans this lt1)⟩
 refine Zno (A:=A.in1) (knd:=knd) (h₀:=h1.push { cls:=.type "list_iterator",data:=.fields #[.ref l,.int 0 0] }) (l:=l) (tps:=tps) (qs:=qs) hh hu (Nat.ne_of_lt lt1) ?_ (Nat.ne_of_lt hll) (Nat.ne_of_lt (Nat.lt_trans hll lt1)) ?_ N6 hsz (fun p z=>?_) (fun q z=>?_) qs.length 0 ⟨h1.push { cls:=.type "list_iterator",data:=.fields #[.ref l,.int 0 0] },g0,d0,tk1,os0⟩ 0 0 (by lia) ?_ ?_ (fun _ _ _ _ z=>z) fun h' D3 hD kp=>?_
 ·exact ⟨_,k2 _ _ hx,rfl,n,rfl⟩
 ·exact Paired.mapP hp fun p q ⟨⟨o,m,z2,z3⟩,ok,z4,z5⟩=>⟨⟨o,m,k2 _ _ z2,z3⟩,ok,k2 _ _ z4,z5⟩
 ·obtain ⟨i,hi,rfl⟩:=List.getElem_of_mem z;obtain ⟨q,_,⟨o,m,z2,_⟩,_⟩:=Paired.get hp (i:=i) (a:=tps[i]) (List.getElem?_eq_getElem hi);exact S8 _ _ z2
 ·obtain ⟨ok,z4,_⟩:=hp.key q z;exact S8 _ _ z4
 ·exact ⟨_,Heap.get?_push_size h1 rfl,rfl,rfl⟩
 ·exact Zjo y8 (fun o ho=>Heap.get?_push_of_some _ (k1 _ _ ho)) fun y hy=>by cases hy
 ·refine ⟨rfl,h h' D3 h0.objs.size hD rfl (Heap.get?_none_of_le (Nat.le_refl _)) fun b o z=>kp b o ?_ ?_ (k2 b o z)⟩
  ·exact (S8 _ _ z).1
  ·exact (S8 _ _ z).2
end
def Zve:List V->Hp->VK->Prop:=fun xs H Q=>∃(l:Addr) (tps:List Addr) (kvs:List (List Key×V)),xs=[.ref l]/\H l=some (.lst (tps.map V.ref)) /\
 Paired (fun t (q:List Key×V)=>∃a,H t=some (.tup [.ref a,q.2])/\H a=some (.tup (q.1.map kV))) tps kvs/\(kvs.map Prod.fst).Nodup/\New H (.dT kvs) Q
theorem Zp1{X:Cx}(hc:X.calm=true)(hu:X.A.units+64<cLine):Xj X (.type "dict") Zve:=by
 intro a6 s σ H xs us Q I r h;obtain ⟨l,tps,kvs,rfl,hl,hp,hn,q⟩:=h;obtain ⟨u,rfl,ru⟩:=Zci r;cases ru;obtain ⟨hz,a7,n,rv,hg⟩:=(show Yi X.prog X.w H s.heap l (.lst (tps.map V.ref)) from I.hok l _ hl)
 rw [Zc1 rv] at hg;have key:∀{tps:List Addr} {kvs:List (List Key×V)},Paired (fun t (q:List Key×V)=>∃a,H t=some (.tup [.ref a,q.2])/\H a=some (.tup (q.1.map kV))) tps kvs->∃qs,KT H kvs qs/\Zcl (tupleKind (Z9 X.prog X.w)) s.heap tps qs:=by
  intro tps kvs hp
  induction hp with
  | nil=>exact ⟨[],.nil,.nil⟩
  | cons r t ih =>
   rename_i p q _ _;obtain ⟨qs,h1,h2⟩:=ih;obtain ⟨a,ra,rk⟩:=r;obtain ⟨_,a7,rv,o,ho,B3,m,hd⟩:=(show Yi X.prog X.w H s.heap p (.tup [.ref a,q.2]) from I.hok p _ ra)
   obtain ⟨k,v,rfl,rk1,rv2⟩:=Zqh rv;cases (show k=Value.ref a from rk1);obtain ⟨_,C7,r2,o2,J7,hcl2,m2,hd2⟩:=(show Yi X.prog X.w H s.heap a (.tup (q.1.map kV)) from I.hok a _ rk)
   exact ⟨(q.1,a,v) ::qs,.cons ⟨rfl,rk,rv2⟩ h1,.cons ⟨⟨o,m,ho,B3,hd⟩,o2,J7,fun h' e=>⟨o2,_,m2,e,hcl2,hd2,by simpa using Zgt r2⟩⟩ h2⟩
 obtain ⟨qs,L1,hpi⟩:=key hp;have hql:kvs.length=qs.length:=Paired.length L1;have F3:kvs.length<=sizeLine:=by
  have:=Paired.length hp;rw [List.length_map] at hz;lia
 have N6:(qs.map (·.1)).Nodup:=by
  have:∀{kvs:List (List Key×V)} {qs:List (List Key×Addr×Value)},KT H kvs qs->qs.map (·.1)=kvs.map Prod.fst:=by
   intro kvs qs z
   induction z with
   | nil=>rfl
   | cons r t ih=>rw [List.map_cons,List.map_cons,ih,r.1]
  rw [this L1];exact hn
 refine Zgs (knd:=tupleKind (Z9 X.prog X.w)) (I.ok.hd hc) (tupleKind_room_in1 (A:=X.A.in1) (by show X.A.units+1+1<cLine;lia)) hg hpi N6 (by rw [<-hql];exact F3) fun h' D3 dd hD hdd hn' k=>?_
 have hsm:dd≠sysModules:=fun z=>by
  have hb:=I.big;rw [<-hdd,z] at hb;exact Nat.lt_irrefl _ hb
 have hH0:H dd=none:=by
  cases e:H dd with
  | none=>rfl
  | some u =>
   obtain ⟨ob,z⟩:=(I.hok dd u e).there;rw [hn'] at z;cases z
 obtain ⟨o,es,ep,e1,e2,e3,e4,_,e5⟩:=hD;obtain ⟨hH,J⟩:=I.laidAt (t':=D3) (o:=.dT kvs) k hn' (show Yi X.prog X.w (upd H dd (.dT kvs)) h' dd (.dT kvs) from ⟨F3,beq_eq_false_iff_ne.mpr hsm,qs,L1.keeps fun b ys e=>by rw [Zh (Zj e hH0)];exact e,o,es,ep,e1,e2,e3,e4,e5⟩);exact ⟨.ref dd,_,J,rfl,q.at dd hH⟩
end L2
end
section
namespace L2
open PySem PySem.Spec PyProof.Rows
section
variable {prog:Program} {w:World} {A:Around} {E:Value->Shared->Prop} {s:Shared}
theorem Zkv{a b:Str}{t u:Tok}{Q:Bool->Shared->Prop}(h:Q (decide (a.cps.toList<b.cps.toList)) s):wpAny (model prog w) A (oneLt' false (.str a t) (.str b u)) Q E s:=by
 rw [oneLt'_eq];simp only [Bool.false_eq_true,if_false];refine wpAny_bind (wpAny_richCompare_same (op:=.Lt) (typeIs_str s a t) (typeIs_str s b u) slot_str_lt (call_str_lt ⟨(fun z=>nomatch z),?_⟩));exact wpAny_truthy_bool h
theorem Zps{x y:Addr}{ox oy:Obj}{n e p q p' q':Str}{t1 t2 t3 t4 u1 u2 u3 u4:Tok}{m1 m2:Nat}{Q:Bool->Shared->Prop}(hx:s.heap.get? x=some ox)(dx:ox.data=.seq #[.str n t1,.str e t2,.str p t3,.str q t4] m1)
  (hy:s.heap.get? y=some oy) (dy:oy.data=.seq #[.str n u1,.str e u2,.str p' u3,.str q' u4] m2) (ne:p≠p') (h:Q (decide (p.cps.toList<p'.cps.toList)) s):wpAny (model prog w) A (keyLt' (tuples' true) (.ref x) (.ref y)) Q E s:=by
 show wpAny _ _ (Builtin.List.listItems (.ref x) >>=fun xs=>_) Q E s;refine wpAny_bind (listItems_at hx dx ?_);show wpAny _ _ (Builtin.List.listItems (.ref y) >>=fun ys=>_) Q E s;refine wpAny_bind (listItems_at hy dy ?_);have hz:(#[Value.str n t1,.str e t2,.str p t3,.str q t4].toList.zip #[Value.str n u1,.str e u2,.str p' u3,.str q' u4].toList).zipIdx=[((.str n t1,.str n u1),0),((.str e t2,.str e u2),1),((.str p t3,.str p' u3),2),((.str q t4,.str q' u4),3)]:=rfl;rw [hz,List.forIn_cons];refine wpAny_bind (wpAny_bind (wpAny_bind (wpAny_eqBool_str ?_)));rw [decide_eq_true rfl];refine wpAny_pure ?_;show wpAny _ _ (forIn _ _ _) _ _ _;rw [List.forIn_cons];refine wpAny_bind (wpAny_bind (wpAny_eqBool_str ?_));rw [decide_eq_true rfl];refine wpAny_pure ?_;show wpAny _ _ (forIn _ _ _) _ _ _;rw [List.forIn_cons];refine wpAny_bind (wpAny_bind (wpAny_eqBool_str ?_));rw [decide_eq_false ne];refine wpAny_bind (Zkv ?_);exact wpAny_pure (wpAny_pure (wpAny_pure h))
theorem Zla{x:Addr}{ox:Obj}{v:Value}{xs:List Value}{m:Nat}{Q:Option Value->Shared->Prop}(hx:s.heap.get? x=some ox) (cx:ox.cls=.type "tuple") (dx:ox.data=.seq (v ::xs).toArray m) (h:Q (some v) s):wpAny (model prog w) A (firstOfTuple' (.ref x)) Q E s:=by
 show wpAny _ _ (typeOf (.ref x) >>=fun ty=>_) Q E s;refine wpAny_bind (wpAny_typeOf (T := "tuple") ⟨_,hx,cx⟩ ?_);simp only [bne_self_eq_false,Bool.false_eq_true,if_false];exact wpAny_bind (listItems_at hx dx (wpAny_pure h))
theorem Zmn{x y:Addr}{ox oy:Obj}{n n':Str}{xs ys:List Value}{t u:Tok}{m1 m2:Nat}{Q:SortKind->Shared->Prop}(hx:s.heap.get? x=some ox) (cx:ox.cls=.type "tuple") (dx:ox.data=.seq (.str n t ::xs).toArray m1)
  (hy:s.heap.get? y=some oy) (cy:oy.cls=.type "tuple") (dy:oy.data=.seq (.str n' u ::ys).toArray m2) (h:Q (tuples' true) s):wpAny (model prog w) A (keyKind' #[.ref x,.ref y]) Q E s:=by
 have tx:s.TypeIs (.ref x) "tuple" :=⟨_,hx,cx⟩
 have ty:s.TypeIs (.ref y) "tuple" :=⟨_,hy,cy⟩
 rw [keyKind'_eq,show (#[Value.ref x,.ref y]:Array Value)=[Value.ref x,.ref y].toArray from rfl,List.mapM_toArray,List.mapM_cons,List.mapM_cons,List.mapM_nil];simp only [map_bind,map_pure,bind_assoc,pure_bind];refine wpAny_bind (Zla hx cx dx (wpAny_bind (Zla hy cy dy ?_)));rw [if_pos (by simp)];refine wpAny_bind (wpAny_rule ?_);rw [show Array.filterMap id #[some (Value.str n t),some (.str n' u)]=[Value.str n t,.str n' u].toArray from rfl,oneTypeOnly'_eq,List.mapM_toArray,List.mapM_cons,List.mapM_cons,List.mapM_nil];refine wpAny_pure ((congrArg (fun b=>Q (tuples' b) s) (?_:_=true)).mpr h);rw [if_pos (by simp)]
 rfl
theorem Zwj{x y:Value}{kd:SortKind}{st:SortSt}{Q:Option Nat->SortSt->Prop}(hk:kindOf st=kd)(ha:arrOf st=#[(x,x),(y,y)])(c8:∀(E':Value->Shared->Prop) (Q':Bool->Shared->Prop),Q' false s->wpAny (model prog w) A (keyLt' kd y x) Q' E' s)
  (h:Q (some 2) st):wpS (model prog w) A E s (countRun' 0 2) Q st:=by
 rw [countRun0_eq];unfold ascLoop;refine wpS_bind (wpS_forRange (I:=fun i c r6=>r6=st/\c=(none,i)) ?_ ?_ ⟨rfl,rfl⟩)
 ·rintro i c r6 h1 h2 ⟨rfl,rfl⟩;have:i=1:=by lia
  subst this;rw [ltAt'_eq];refine wpS_bind (wpS_bind (wpS_get ?_));show wpS _ _ _ _ (do let p <-elem' (arrOf r6) 1;let q <-elem' (arrOf r6) 0;lt' p q) _ r6;rw [ha,elem'_eq,elem'_eq];refine wpS_bind (wpS_pure (wpS_bind (wpS_pure ?_)));rw [lt'_eq];refine wpS_bind (wpS_get ?_);rw [hk];refine wpS_bind (wpS_lift (wpAny_attempt (c8 _ _ ⟨rfl,?_⟩)));exact wpS_pure (wpS_pure ⟨rfl,rfl⟩)
 ·rintro c r6 ⟨rfl,rfl⟩;exact wpS_pure h
theorem Zuw{x y:Value}{kd:SortKind}{Q:Unit->SortSt->Prop}(c8:∀(E':Value->Shared->Prop) (Q':Bool->Shared->Prop),Q' false s->wpAny (model prog w) A (keyLt' kd y x) Q' E' s)
  (h:∀p,Q () (SortSt.mk' kd #[(x,x),(y,y)] p 7 none)):wpS (model prog w) A E s sortRuns' Q (SortSt.mk' kd #[(x,x),(y,y)] #[] 7 none):=by
 rw [sortRuns'_eq];refine wpS_bind (wpS_get ?_);dsimp only;refine wpS_bind (wpS_mono (wpS_forRange (I:=fun i c r6=>(i=0/\c=(none,0)/\r6=SortSt.mk' kd #[(x,x),(y,y)] #[] 7 none)\/(1<=i/\c=(none,2)/\r6=SortSt.mk' kd #[(x,x),(y,y)] #[(0,2,0)] 7 none))
  (Q:=fun c r6=>c=(none,2)/\r6=SortSt.mk' kd #[(x,x),(y,y)] #[(0,2,0)] 7 none) ?_ ?_ (.inl ⟨rfl,rfl,rfl⟩)) ?_)
 ·rintro i c r6 _ hi (⟨rfl,rfl,rfl⟩|⟨h1,rfl,rfl⟩)
  ·dsimp only;rw [if_neg (by show ¬(0:Nat) ≥ 2;decide)];refine wpS_bind (Zwj rfl rfl c8 ?_);dsimp only;rw [if_neg (by show ¬(2:Nat)<minRun' 2 2 0;decide)];refine wpS_bind (wpS_get ?_);exact wpS_bind (wpS_modify (wpS_pure (.inr ⟨by lia,rfl,rfl⟩)))
  ·dsimp only;rw [if_pos (by show (2:Nat) ≥ 2;decide)];exact wpS_pure ⟨rfl,rfl⟩
 ·rintro c r6 (⟨z,_,_⟩|⟨_,h1,h2⟩)
  ·exact absurd z (by show ¬max 0 2=0;decide)
  ·exact ⟨h1,h2⟩
 ·rintro c r6 ⟨rfl,rfl⟩;dsimp only;refine wpS_bind (wpS_mono (wpS_forRange (I:=fun _ c r6=>c=(none,())/\r6=SortSt.mk' kd #[(x,x),(y,y)] #[(0,2,0)] 7 none) (Q:=fun c r6=>c=(none,())/\r6=SortSt.mk' kd #[(x,x),(y,y)] #[(0,2,0)] 7 none) ?_ (fun _ _ z=>z) ⟨rfl,rfl⟩) ?_)
  ·rintro i c r6 _ _ ⟨rfl,rfl⟩;refine wpS_bind (wpS_get ?_);rw [if_pos (by show (1:Nat)<=1;decide)];exact wpS_pure ⟨rfl,rfl⟩
  ·rintro c r6 ⟨rfl,rfl⟩;exact wpS_pure (h _)
def Ybk(prog:Program)(w:World)(A:Around)(s:Shared)(a:Addr)(vs:List Value):Prop:=vs.length<2\/∃x y kd,vs=[x,y]/\∀s':Shared,(∀b o,b≠a->s.heap.get? b=some o->s'.heap.get? b=some o) ->
 (∀(E':Value->Shared->Prop) (Q':SortKind->Shared->Prop),Q' kd s'->wpAny (model prog w) A (keyKind' #[x,y]) Q' E' s')/\∀(E':Value->Shared->Prop) (Q':Bool->Shared->Prop),Q' false s'->wpAny (model prog w) A (keyLt' kd y x) Q' E' s'
theorem Zr7{vs:List Value}(hc:vs.length<2):(vs.toArray.zip vs.toArray).map (·.2)=vs.toArray:=by
 rcases vs with _|⟨a,_|⟨b,r⟩⟩
 ·simp
 ·simp
 ·exact absurd hc (Nat.not_lt.mpr (Nat.le_add_left 2 _))
theorem Ztf{a:Addr}{vs:List Value}{n:Nat}{P:Fin->Shared->Prop} (hl:s.heap.get? a=some (seqObj "list" vs.toArray n)) (hc:Ybk prog w A s a vs)
  (h:P (.done (.ret .none)) { s with heap:=sortedHeap s.heap a vs vs.toArray }):wpAny (model prog w) A (Builtin.«list.sort» ⟨[.ref a],[]⟩) P E s:=by
 rw [list_sort_plain];have c8:a<s.heap.objs.size:=Heap.lt_size hl;have S9:vs.length<=sizeLine:=by
  rw [sizeLine_eq];rcases hc with hc|⟨x,y,kd,rfl,_⟩
  ·lia
  ·show 2<=_;lia
 refine wpAny_bind (listItems_at hl rfl (wpAny_bind (listUpdate_at hl rfl ?_ (hsz:=by simpa using S9))));obtain ⟨e1,T0⟩:∃e1,(s.heap.update a (Obj.mapSeq fun _=>#[])).get? a=some (seqObj "list" #[] e1):=⟨_,get?_update_seq hl _⟩
 refine wpAny_bind (seqEpoch_at T0 rfl (wpAny_bind (wpAny_newTuple (hsz:=by simpa using S9) (wpAny_bind (wpAny_newList (wpAny_holding ?_))))));have J9:(((s.heap.update a (Obj.mapSeq fun _=>#[])).push (seqObj "tuple" vs.toArray 0)).push (seqObj "list" #[] 0)).get? a=some (seqObj "list" #[] e1):=by
  rw [Heap.get?_push_ne _ _ _ (by rw [size_push',Heap.size_update];exact Nat.ne_of_lt (Nat.lt_succ_of_lt c8)),Heap.get?_push_ne _ _ _ (by rw [Heap.size_update];exact Nat.ne_of_lt c8)];exact T0
 have keep:∀b o,b≠a->s.heap.get? b=some o->(((s.heap.update a (Obj.mapSeq fun _=>#[])).push (seqObj "tuple" vs.toArray 0)).push (seqObj "list" #[] 0)).get? b=some o:=fun b o ne hb=>by
  have hb':=Heap.lt_size hb;rw [Heap.get?_push_ne _ _ _ (by rw [size_push',Heap.size_update];exact Nat.ne_of_lt (Nat.lt_succ_of_lt hb')),Heap.get?_push_ne _ _ _ (by rw [Heap.size_update];exact Nat.ne_of_lt hb'),Heap.get?_update_other _ _ (Ne.symm ne)];exact hb
 show wpAny (model prog w) A _ P E { s with heap:=((s.heap.update a (Obj.mapSeq fun _=>#[])).push (seqObj "tuple" vs.toArray 0)).push (seqObj "list" #[] 0) };dsimp only;rcases hc with hc|⟨x,y,kd,rfl,hc⟩
 ·have h2:vs.toArray.size<2:=by simpa using hc
  rw [if_pos h2,if_pos h2];refine wpAny_bind (wpAny_pure ?_);rw [StateT.run_pure];refine wpAny_bind (wpAny_pure ?_);dsimp only;refine wpAny_bind (seqEpoch_at J9 rfl (wpAny_bind (listUpdate_at J9 rfl ?_ (hsz2:=by rw [Array.size_map];show (pairsOf vs).size<=_;rw [pairsOf_size,sizeLine_eq];lia))));simp only [bne_self_eq_false,Bool.false_eq_true,if_false];have:=Zr7 hc;refine wpAny_pure ?_;show P _ { s with heap:=(((s.heap.update a (Obj.mapSeq fun _=>#[])).push (seqObj "tuple" vs.toArray 0)).push (seqObj "list" #[] 0)).update a (Obj.mapSeq fun _=>(vs.toArray.zip vs.toArray).map (·.2)) };rw [this];exact h
 ·obtain ⟨c1,c2⟩:=hc { s with heap:=(((s.heap.update a (Obj.mapSeq fun _=>#[])).push (seqObj "tuple" [x,y].toArray 0)).push (seqObj "list" #[] 0)) } keep;rw [if_neg (by show ¬(2:Nat)<2;decide),if_neg (by show ¬(2:Nat)<2;decide)];refine wpAny_bind (c1 _ _ ?_);rw [show [x,y].toArray.zip [x,y].toArray=#[(x,x),(y,y)] by simp];refine wpAny_bind (wpAny_mono (Zuw (Q:=fun _ st=>∃p,st=SortSt.mk' kd #[(x,x),(y,y)] p 7 none) c2 fun p=>⟨p,rfl⟩) ?_ fun _ _ e=>e);rintro ⟨⟨⟩,r6⟩ s' ⟨rfl,p,rfl⟩;dsimp only;refine wpAny_bind (seqEpoch_at J9 rfl (wpAny_bind (listUpdate_at J9 rfl ?_ (hsz2:=by rw [Array.size_map];show (2:Nat)<=_;rw [sizeLine_eq];lia))));simp only [bne_self_eq_false,Bool.false_eq_true,if_false];refine wpAny_pure ?_;show P _ { s with heap:=(((s.heap.update a (Obj.mapSeq fun _=>#[])).push (seqObj "tuple" [x,y].toArray 0)).push (seqObj "list" #[] 0)).update a (Obj.mapSeq fun _=>(#[(x,x),(y,y)]:Array (Value×Value)).map (·.2)) };rw [show (#[(x,x),(y,y)]:Array (Value×Value)).map (·.2)=[x,y].toArray by simp];exact h
theorem Zn8{l:Addr}{vs:List Value}{Q:Value->Shared->Prop}(hl:s.heap.IsList l vs.toArray)(hz:vs.length<=sizeLine)
  (hc:∀s':Shared,(∀b o,s.heap.get? b=some o->s'.heap.get? b=some o)->Ybk prog w A.in1.in1 s' (s.heap.objs.size+1) vs)
  (h:Q (.ref (s.heap.objs.size+1)) { s with heap:=sortedAll s.heap vs vs.toArray }):wpAny (model prog w) A (call (.builtin "sorted") [.ref l]) Q E s:=by
 refine Calls.call_function_entry kind_sorted plain_sorted entry_sorted (args_sorted1 _) ?_;unfold Builtin.«sorted»;refine wpAny_bind (m:=checkCount "sorted" 1 1 _) (wpAny_pure (wpAny_bind (collect_list hl (hsz:=hz) (wpAny_bind (wpAny_newList (hsz:=hz) ?_)))));have hs:((s.heap.push (seqObj "list" #[] 0)).update s.heap.objs.size (Obj.mapSeq (· ++ vs.toArray))).objs.size=s.heap.objs.size+1:=by rw [Heap.size_update,size_push']
 have hL:(((s.heap.push (seqObj "list" #[] 0)).update s.heap.objs.size (Obj.mapSeq (· ++ vs.toArray))).push (seqObj "list" vs.toArray 0)).get? (s.heap.objs.size+1)=some (seqObj "list" vs.toArray 0):=by
  rw [<-hs];exact Heap.get?_push_size _ rfl
 have kp:∀b o,s.heap.get? b=some o->(((s.heap.push (seqObj "list" #[] 0)).update s.heap.objs.size (Obj.mapSeq (· ++ vs.toArray))).push (seqObj "list" vs.toArray 0)).get? b=some o:=fun b o hb=>by
  have lt:=Heap.lt_size hb;rw [Heap.get?_push_ne _ _ _ (by rw [hs];exact Nat.ne_of_lt (Nat.lt_succ_of_lt lt)),Heap.get?_update_other _ _ (Nat.ne_of_gt lt)];exact Heap.get?_push_of_some _ hb
 show wpAny _ _ _ _ _ { s with heap:=((s.heap.push (seqObj "list" #[] 0)).update s.heap.objs.size (Obj.mapSeq (· ++ vs.toArray))).push (seqObj "list" vs.toArray 0) };rw [hs];refine wpAny_bind (wpAny_holding (wpAny_call_entry slot_list_sort ⟨_,hL,rfl⟩ entry_list_sort (Ztf hL (hc _ kp) ⟨_,rfl,?_⟩) (args_list_sort _)));exact wpAny_pure ⟨_,rfl,h⟩
end
theorem Ztx{a b c d:Str}{us:List Value}(h:Ya [.str a,.str b,.str c,.str d] us):∃t1 t2 t3 t4,us=[.str a t1,.str b t2,.str c t3,.str d t4]:=by
 cases h with
 | cons z1 h =>
  cases h with
  | cons z2 h =>
   cases h with
   | cons z3 h =>
    cases h with
    | cons z4 h =>
     cases h;obtain ⟨t1,rfl⟩:=z1;obtain ⟨t2,rfl⟩:=z2;obtain ⟨t3,rfl⟩:=z3;obtain ⟨t4,rfl⟩:=z4;exact ⟨_,_,_,_,rfl⟩
def Zqt(K:Frag):List V->Hp->VK->Prop:=fun xs H Q=>∃(p:Addr) (as:List Addr),xs=[.ref p]/\H p=some (.lst (as.map V.ref)) /\
 (as.length<2\/∃(a b:Addr) (n e x1 x2 y1 y2:Str),as=[a,b]/\H a=some (.tup [.str n,.str e,.str x1,.str x2])/\H b=some (.tup [.str n,.str e,.str y1,.str y2])/\y1≠x1/\¬y1.cps.toList<x1.cps.toList)/\New H (.lst (as.map V.ref)) Q
theorem Znk{X:Cx}:Xj X (.builtin "sorted") (Zqt X.K):=by
 intro a6 s σ H xs us Q I r h;obtain ⟨p,as,rfl,hp,hc,q⟩:=h;obtain ⟨u,rfl,rx⟩:=Zci r;cases rx;obtain ⟨hz,a7,n,rv,hg⟩:=(show Yi X.prog X.w H s.heap p (.lst (as.map V.ref)) from I.hok p _ hp)
 have x0:=Zc1 rv;rw [x0] at hg;rw [List.length_map] at hz;refine Zn8 (vs:=as.map Value.ref) ⟨_,hg,rfl,n,rfl⟩ (by rw [List.length_map];exact hz) (fun s' kp=>?_) ?_
 ·rcases hc with hc|⟨a,b,m,e,x1,x2,y1,y2,rfl,ha,hb,ne,c8⟩
  ·exact .inl (by rw [List.length_map];exact hc)
  ·obtain ⟨_,ia,ra,oa,ga,ca,na,da⟩:=(show Yi X.prog X.w H s.heap a (.tup [.str m,.str e,.str x1,.str x2]) from I.hok a _ ha)
   obtain ⟨_,ib,rb,ob,gb,cb,nb,db⟩:=(show Yi X.prog X.w H s.heap b (.tup [.str m,.str e,.str y1,.str y2]) from I.hok b _ hb)
   refine .inr ⟨.ref a,.ref b,tuples' true,rfl,fun s2 k2=>?_⟩;have far:∀{c:Addr} {o:Obj},s.heap.get? c=some o->c≠s.heap.objs.size+1:=fun {c o} z=>Nat.ne_of_lt (Nat.lt_succ_of_lt (Heap.lt_size z))
   have ga2:=k2 a _ (far ga) (kp _ _ ga);have gb2:=k2 b _ (far gb) (kp _ _ gb);obtain ⟨t1,t2,t3,t4,rfl⟩:=Ztx ra;obtain ⟨u1,u2,u3,u4,rfl⟩:=Ztx rb;refine ⟨fun E' Q' h=>Zmn ga2 ca da gb2 cb db h,fun E' Q' h=>Zps gb2 db ga2 da ne ?_⟩;rw [decide_eq_false c8];exact h
 ·obtain ⟨e,he⟩:=sortedAll_at s.heap (as.map Value.ref) (as.map Value.ref).toArray;have hn:H (s.heap.objs.size+1)=none:=I.hok.fresh (Nat.le_succ _);exact ⟨.ref (s.heap.objs.size+1),_,I.laid (a:=s.heap.objs.size+1) (o:=.lst (as.map V.ref)) (t':=s.toks) (fun b o h=>sortedAll_old h) (Nat.le_succ _) (show Yi X.prog X.w _ _ _ (.lst _) from ⟨by rw [List.length_map];exact hz,as.map Value.ref,e,x0 ▸ rv,he⟩),rfl,q.at _ hn⟩
end L2
end
section
namespace L2
open PySem PySem.Spec PyProof.Rows
section
variable {prog:Program} {w:World} {A:Around} {E:Value->Shared->Prop} {s:Shared} {o:Array Keyed} {κ:KeyKind} {kd:SortKind}
def Lts(prog:Program)(w:World)(A:Around)(s:Shared)(κ:KeyKind)(kd:SortKind):Prop :=
 ∀(x y:Value) (a b:κ.α) (E':Value->Shared->Prop) (Q':Bool->Shared->Prop),κ.keyOf x=some a->κ.keyOf y=some b->a≠b->Q' (κ.blt a b) s->wpAny (model prog w) A (keyLt' kd x y) Q' E' s
def Ycf(κ:KeyKind)(o:Array Keyed):Prop:=(o.toList.map fun p=>κ.keyOf p.1).Nodup
variable (hL:Lts prog w A s κ kd) (k:KeysOf κ o) (d:Ycf κ o)
include hL k d
end
end L2
namespace L2
open PySem PySem.Spec PyProof.Rows
def Ydf(h:Heap):Value->Option (List Nat)
 | .ref a=>match h.get? a with
  | some o=>match o.cls,o.data with
   | .type "tuple",.seq a7 _=>match (a7[0]? :Option Value) with
    | some (.str x _)=>some x.cps.toList
    | _=>none
   | _,_=>none
  | none=>none
 | _=>none
section
variable {prog:Program} {w:World} {A:Around} {E:Value->Shared->Prop} {s:Shared}
theorem Yaz:∀{vs:List Value},vs.length<2->(vs.toArray.zip vs.toArray).map (·.2)=vs.toArray
 | [],_=>by simp
 | [_],_=>by simp
 | _ ::_ ::_,h=>absurd h (by simp)
theorem Ybg{α β:Type}{f:α->β}{R:β->β->Prop}:∀{vs:List α},vs.length<2->(vs.map f).Pairwise R
 | [],_=>.nil
 | [_],_=>List.pairwise_singleton _ _
 | _ ::_ ::_,h=>absurd h (by simp)
theorem Ydu{α:Type}:∀{vs:List α},2<=vs.length->∃a b r,vs=a ::b ::r
 | a ::b ::r,_=>⟨a,b,r,rfl⟩
end
end L2
namespace L2
open PySem PySem.Spec PyProof.Rows
def W9:Value->Addr
 | .ref a=>a
 | _=>0
theorem Zlj:∀{out:List Value} {as:List Addr},(∀v∈out,v∈as.map Value.ref)->out=(out.map W9).map Value.ref
 | [],_,_=>rfl
 | v ::out,as,h=>by
  obtain ⟨a,_,e⟩:=List.mem_map.mp (h v List.mem_cons_self);rw [List.map_cons,List.map_cons,<-Zlj fun u hu=>h u (List.mem_cons_of_mem _ hu),<-e]
  rfl
theorem Zkw:∀as:List Addr,Ya (as.map V.ref) (as.map Value.ref)
 | []=>.nil
 | a ::as=>.cons rfl (Zkw as)
end L2
end
section
namespace L2
open PySem PySem.Spec PyProof.Rows
end L2
end
section
namespace L2
open PySem PyProof.Rows
section
variable {prog:Program} {w:World} {A:Around} {E:Value->Shared->Prop} {s:Shared} {o:Array Keyed} {kd:SortKind} {p:Array (Nat×Nat×Nat)} {st:SortSt} {G:Keyed->Keyed->Prop}
def SdS(G:Keyed->Keyed->Prop)(x y:Keyed):Bool->Prop
 | true=>G x y
 | false=>G y x
def TrG(G:Keyed->Keyed->Prop):Prop:=∀x y z,G x y->G y z->G x z
def Znc(prog:Program)(w:World)(A:Around)(s:Shared)(kd:SortKind)(o:Array Keyed)(G:Keyed->Keyed->Prop):Prop :=
 TrG G/\∀x∈o,∀y∈o,∀(E':Value->Shared->Prop) (Q':Bool->Shared->Prop),(∀b,SdS G x y b->Q' b s)->wpAny (model prog w) A (keyLt' kd x.1 y.1) Q' E' s
structure Ps(kd:SortKind)(o:Array Keyed)(p:Array (Nat×Nat×Nat))(st:SortSt):Prop where
 perm:(arrOf st).Perm o
 kind:kindOf st=kd
 good:failedOf st=none
 pend:pendingOf st=p
theorem Ps.many(h:Ps kd o p st):(arrOf st).size=o.size:=h.perm.size_eq
theorem Ps.to(h:Ps kd o p st){xs:Array Keyed}(q:xs.Perm (arrOf st)):Ps kd o p (setArr st xs):=⟨q.trans h.perm,h.kind,h.good,h.pend⟩
theorem Ps.mem(h:Ps kd o p st){x:Keyed}(hx:x∈arrOf st):x∈o:=h.perm.mem_iff.mp hx
theorem Y9{arr:Array Keyed}{i:Nat}{Q:Keyed->SortSt->Prop}(hi:i<arr.size)(q:Q arr[i] st):wpS (model prog w) A E s (elem' arr i) Q st:=by
 rw [elem'_eq,getElem?_pos arr i hi];exact wpS_pure q
theorem ifS{α:Type}{c:Prop}[Decidable c]{x y:StateT SortSt Sem α}{R:α->SortSt->Prop}(h1:c->wpS (model prog w) A E s x R st)(h2:¬c->wpS (model prog w) A E s y R st):wpS (model prog w) A E s (if c then x else y) R st:=by
 by_cases z:c
 ·rw [if_pos z];exact h1 z
 ·rw [if_neg z];exact h2 z
theorem Yar{α:Type}{m n:StateT SortSt Sem α}{Q:α->SortSt->Prop}(C:SortSt->Prop)(a:(∀a9:SortSt,C a9->wpS (model prog w) A E s m Q a9)->wpS (model prog w) A E s n Q st)(b:∀a9:SortSt,C a9->wpS (model prog w) A E s m Q a9):wpS (model prog w) A E s n Q st:=a b
theorem Yav{α β:Type}{m:β->StateT SortSt Sem α}{Q:α->SortSt->Prop}{n:StateT SortSt Sem α}(C:β->SortSt->Prop)(a:(∀x a9,C x a9->wpS (model prog w) A E s (m x) Q a9)->wpS (model prog w) A E s n Q st)(b:∀x a9,C x a9->wpS (model prog w) A E s (m x) Q a9):wpS (model prog w) A E s n Q st:=a b
theorem Zx1{α β γ:Type}{m:β->γ->StateT SortSt Sem α}{Q:α->SortSt->Prop}{n:StateT SortSt Sem α}(C:β->γ->SortSt->Prop)(a:(∀x y a9,C x y a9->wpS (model prog w) A E s (m x y) Q a9)->wpS (model prog w) A E s n Q st)(b:∀x y a9,C x y a9->wpS (model prog w) A E s (m x y) Q a9):wpS (model prog w) A E s n Q st:=a b
def Zza:Nat->StateT SortSt Sem Unit:=sortPriv% PySem.Builtin.setMinGallop
def Gs(st a9:SortSt):Prop:=kindOf a9=kindOf st/\arrOf a9=arrOf st/\pendingOf a9=pendingOf st/\failedOf a9=failedOf st
theorem Zh1{g:Nat}{Q:Unit->SortSt->Prop}{st0:SortSt}(h:Gs st0 st)(q:∀a9,Gs st0 a9->Q () a9):wpS (model prog w) A E s (Zza g) Q st:=wpS_modify (q _ ⟨h.1,h.2.1,h.2.2.1,h.2.2.2⟩)
def GqS(G:Keyed->Keyed->Prop)(xs:Array Keyed)(i j:Nat):Prop:=∀x y,xs[i]? =some x->xs[j]? =some y->G x y
def UpS(G:Keyed->Keyed->Prop)(xs:Array Keyed)(i j:Nat):Prop:=∀p q,i<=p->p<q->q<j->GqS G xs p q
def DnS(G:Keyed->Keyed->Prop)(xs:Array Keyed)(i j:Nat):Prop:=∀p q,i<=p->p<q->q<j->GqS G xs q p
def FrS(lo:Nat)(xs ys:Array Keyed):Prop:=∀k,k<lo->ys[k]? =xs[k]?
section
variable {xs ys zs:Array Keyed} {i j k:Nat} (t:TrG G)
theorem FrS.refl:FrS i xs xs:=fun _ _=>rfl
theorem FrS.trans(h:FrS i xs ys)(h2:FrS i ys zs):FrS i xs zs:=fun k hk=>(h2 k hk).trans (h k hk)
theorem FrS.mirror(h:i<=j)(hk:k<=xs.size):FrS i xs (PyProof.Rows.mirror xs j k ((k-j) / 2)):=fun n hn=>by rw [getElem?_mirror_all hk,if_neg (by lia)]
theorem UpS.one:UpS G xs i (i+1):=fun p q _ _ _=>by lia
theorem DnS.one:DnS G xs i (i+1):=fun p q _ _ _=>by lia
theorem UpS.less(h:UpS G xs i j)(hk:k<=j):UpS G xs i k:=fun p q h1 h2 h3=>h p q h1 h2 (by lia)
theorem UpS.fr(h:UpS G xs i j)(f:FrS k xs ys)(hk:j<=k):UpS G ys i j:=fun p q h1 h2 h3=>by
 unfold GqS;rw [f p (by lia),f q (by lia)];exact h p q h1 h2 h3
include t
theorem GqS.trans(h1:GqS G xs i j)(h2:GqS G xs j k)(hj:j<xs.size):GqS G xs i k:=fun x y hx hy=>t _ _ _ (h1 x _ hx (getElem?_pos xs j hj)) (h2 _ y (getElem?_pos xs j hj) hy)
theorem UpS.more(h:UpS G xs i j)(hij:i<j)(hj:j<=xs.size)(g:GqS G xs (j-1) j)(e:k=j+1:=by lia):UpS G xs i k:=fun p q h1 h2 h3=>by
 by_cases z:q<j
 ·exact h p q h1 h2 z
 have:q=j:=by lia
 subst this
 by_cases z:p=q-1
 ·subst z;exact g
 ·exact (h p (q-1) h1 (by lia) (by lia)).trans t g (by lia)
theorem DnS.more(h:DnS G xs i j)(hij:i<j)(hj:j<=xs.size)(g:GqS G xs j (j-1))(e:k=j+1:=by lia):DnS G xs i k:=fun p q h1 h2 h3=>by
 by_cases z:q<j
 ·exact h p q h1 h2 z
 have:q=j:=by lia
 subst this
 by_cases z:p=q-1
 ·subst z;exact g
 ·exact g.trans t (h p (q-1) h1 (by lia) (by lia)) (by lia)
omit t
theorem UpS.turn(h:UpS G xs i j)(hj:j<=xs.size):DnS G (mirror xs i j ((j-i) / 2)) i j:=fun p q h1 h2 h3=>by
 unfold GqS;rw [getElem?_mirror_all hj,getElem?_mirror_all hj,if_pos (by lia),if_pos (by lia)];exact h _ _ (by lia) (by lia) (by lia)
theorem DnS.turn(h:DnS G xs i j)(hj:j<=xs.size):UpS G (mirror xs i j ((j-i) / 2)) i j:=fun p q h1 h2 h3=>by
 unfold GqS;rw [getElem?_mirror_all hj,getElem?_mirror_all hj,if_pos (by lia),if_pos (by lia)];exact h _ _ (by lia) (by lia) (by lia)
theorem DnS.level(h:DnS G xs i j)(u:UpS G xs k j)(hik:i<=k)(hj:j<=xs.size):DnS G (mirror xs k j ((j-k) / 2)) i j:=fun p q h1 h2 h3=>by
 unfold GqS;rw [getElem?_mirror_all hj,getElem?_mirror_all hj]
 by_cases z:k<=p
 ·rw [if_pos (by lia),if_pos (by lia)];exact u _ _ (by lia) (by lia) (by lia)
 rw [if_neg (c:=k<=p/\p<j) (by lia)]
 by_cases z:k<=q
 ·rw [if_pos (by lia)];exact h _ _ (by lia) (by lia) (by lia)
 ·rw [if_neg (by lia)];exact h _ _ (by lia) (by lia) (by lia)
end
variable (L:Znc prog w A s kd o G)
include L
theorem Zjt{x y:Keyed}{Q:Option Bool->SortSt->Prop}(hk:kindOf st=kd)(hx:x∈o)(hy:y∈o)(q:∀b,SdS G x y b->Q (some b) st):wpS (model prog w) A E s (lt' x y) Q st:=by
 rw [lt'_eq];refine wpS_bind (wpS_get ?_);rw [hk];exact wpS_bind (wpS_lift (wpAny_attempt (L.2 x hx y hy _ _ fun b hb=>⟨rfl,wpS_pure (q b hb)⟩)))
def GbS(G:Keyed->Keyed->Prop)(xs:Array Keyed)(i j:Nat):Bool->Prop
 | true=>GqS G xs i j
 | false=>GqS G xs j i
theorem Zjn{i j:Nat}{Q:Option Bool->SortSt->Prop}(h:Ps kd o p st)(hi:i<o.size)(hj:j<o.size)(q:∀b,GbS G (arrOf st) i j b->Q (some b) st):wpS (model prog w) A E s (ltAt' i j) Q st:=by
 rw [ltAt'_eq];have E3:i<(arrOf st).size:=by rw [h.many];exact hi
 have hj':j<(arrOf st).size:=by rw [h.many];exact hj
 refine wpS_bind (wpS_get (wpS_bind (Y9 E3 (wpS_bind (Y9 hj' ?_)))));refine Zjt L h.kind (h.mem (Array.getElem_mem _)) (h.mem (Array.getElem_mem _)) fun b hb=>q b ?_
 cases b with
 | true =>
  intro x y hx hy;rw [getElem?_pos (arrOf st) i E3] at hx;rw [getElem?_pos (arrOf st) j hj'] at hy;cases hx;cases hy;exact hb
 | false =>
  intro x y hx hy;rw [getElem?_pos (arrOf st) j hj'] at hx;rw [getElem?_pos (arrOf st) i E3] at hy;cases hx;cases hy;exact hb
theorem Zsr{lo m:Nat}{Q:Option Nat->SortSt->Prop}(h:Ps kd o p st)(h1:1<=m)(hm:lo+m<=o.size)(q:∀n a9,Ps kd o p a9->1<=n->n<=m->FrS lo (arrOf st) (arrOf a9)->UpS G (arrOf a9) lo (lo+n)->Q (some n) a9):wpS (model prog w) A E s (countRun' lo m) Q st:=by
 have t:=L.1;have up:∀(a:Nat) (st:SortSt) (R:Option (Option Nat)×Nat->SortSt->Prop),1<=a->a<=m->Ps kd o p st->UpS G (arrOf st) lo (lo+a)->(∀n,a<=n->n<=m->UpS G (arrOf st) lo (lo+n)->(n<m->GqS G (arrOf st) (lo+n) (lo+n-1))->R (none,n) st) ->
   wpS (model prog w) A E s (forIn [a:m] ((none,a):Option (Option Nat)×Nat) fun _ __s=>do
    let __x <-ltAt' (lo+__s.snd) (lo+__s.snd-1)
    match __x with
    | some smaller=>if smaller=true then pure (ForInStep.done (none,__s.snd)) else pure (ForInStep.yield (none,__s.snd+1))
    | _=>pure (ForInStep.done (some none,__s.snd))) R st:=fun a st R h1 h2 h u q=>by
  have hs:=h.many;refine wpS_forRange (I:=fun n c a9=>a9=st/\c=(none,n)/\UpS G (arrOf st) lo (lo+n)) ?_ ?_ ⟨rfl,rfl,u⟩
  ·rintro n c a9 a1 a2 ⟨rfl,rfl,u⟩;refine wpS_bind (Zjn L h (by lia) (by lia) fun b hb=>?_);cases b with
   | true=>exact wpS_pure (q n a1 (by lia) u fun _=>hb)
   | false=>exact wpS_pure ⟨rfl,rfl,u.more t (by lia) (by lia) hb⟩
  ·rintro c a9 ⟨rfl,rfl,u⟩;exact q _ (by lia) (by lia) u (fun z=>by lia)
 have hs:=h.many;rw [countRun'_eq];refine wpS_bind (up 1 st _ (Nat.le_refl _) h1 h UpS.one fun n n1 n2 u gn=>?_);dsimp only
 by_cases O2:n=m
 ·rw [if_pos (by simpa using O2)];exact wpS_pure (q n st h n1 n2 FrS.refl u)
 rw [if_neg (by simpa using O2)];have gn:=gn (by lia);apply Yar (fun a9=>Ps kd o p a9/\FrS lo (arrOf st) (arrOf a9)/\DnS G (arrOf a9) lo (lo+(n+1)))
 case a =>
  intro Zx
  by_cases hb:n >1
  ·rw [if_pos hb];refine wpS_bind (Zjn L h (by lia) (by lia) fun b hb=>?_);cases b with
   | true=>exact wpS_pure (q n st h n1 n2 FrS.refl u)
   | false =>
    refine wpS_bind (wpS_reverse (Zx _ ⟨h.to (mirror_perm _ _ _ _),FrS.mirror (Nat.le_refl _) (by lia),?_⟩));refine (u.turn (by lia)).more t (by lia) (by show _<=(mirror _ _ _ _).size;rw [mirror_size];lia) ?_;unfold GqS;rw [getElem?_mirror_all (by lia),getElem?_mirror_all (by lia),if_neg (by lia),if_pos (by lia),show lo+(lo+n)-1-(lo+n-1)=lo by lia];exact gn.trans t hb (by lia)
  ·rw [if_neg hb];have:n=1:=by lia
   subst this;exact Zx st ⟨h,FrS.refl,DnS.one.more t (by lia) (by lia) gn⟩
 rintro a9 ⟨h2,f2,d2⟩;refine wpS_bind (wpS_lift (wpAny_rule ⟨rfl,?_⟩));refine wpS_bind (wpS_mono (wpS_forRange (I:=fun i c i3=>Ps kd o p i3/\FrS lo (arrOf st) (arrOf i3)/\DnS G (arrOf i3) lo (lo+i)/\∃e,c=(none,i,e)/\e+1<=i/\UpS G (arrOf i3) (lo+i-(e+1)) (lo+i)) (Q:=fun c i3=>Ps kd o p i3/\FrS lo (arrOf st) (arrOf i3)/\∃i e,c=(none,i,e)/\n+1<=i/\i<=m/\DnS G (arrOf i3) lo (lo+i)/\e+1<=i/\UpS G (arrOf i3) (lo+i-(e+1)) (lo+i)) ?_ ?_ ⟨h2,f2,d2,0,rfl,by lia,fun p q _ _ _=>by lia⟩) ?_)
 ·rintro i c i3 a1 a2 ⟨h3,f3,d3,e,rfl,e1,u3⟩;have hs:=h3.many;dsimp only;refine wpS_bind (Zjn L h3 (by lia) (by lia) fun b hb=>?_);cases b with
  | true =>
   show wpS _ _ _ _ (if e >0 then _ else _) _ _
   by_cases he:e >0
   ·rw [if_pos he];refine wpS_bind (wpS_reverse (wpS_pure ⟨h3.to (mirror_perm _ _ _ _),f3.trans (FrS.mirror (by lia) (by lia)),?_,0,rfl,by lia,fun p q _ _ _=>by lia⟩));refine (d3.level u3 (by lia) (by lia)).more t (by lia) (by show _<=(mirror _ _ _ _).size;rw [mirror_size];lia) ?_;unfold GqS;rw [getElem?_mirror_all (by lia),getElem?_mirror_all (by lia),if_neg (by lia),if_pos (by lia),show lo+i-(e+1)+(lo+i)-1-(lo+i-1)=lo+i-(e+1) by lia];exact GqS.trans t hb (d3 _ _ (by lia) (by lia) (by lia)) (by lia)
   ·rw [if_neg he];exact wpS_pure ⟨h3,f3,d3.more t (by lia) (by lia) hb,0,rfl,by lia,fun p q _ _ _=>by lia⟩
  | false =>
   refine wpS_bind (Zjn L h3 (by lia) (by lia) fun b hb2=>?_);cases b with
   | true=>exact wpS_pure ⟨h3,f3,i,e,rfl,a1,by lia,d3,e1,u3⟩
   | false=>exact wpS_pure ⟨h3,f3,d3.more t (by lia) (by lia) hb2,e+1,rfl,by lia,by
     have:UpS G (arrOf i3) (lo+i-(e+1)) (lo+(i+1)):=u3.more t (by lia) (by lia) hb;rw [show lo+(i+1)-(e+1+1)=lo+i-(e+1) by lia];exact this⟩
 ·rintro c i3 ⟨h3,f3,d3,e,rfl,e1,u3⟩;exact ⟨h3,f3,_,e,rfl,by lia,by lia,d3,e1,u3⟩
 ·rintro c i3 ⟨h3,f3,i,e,rfl,a1,a2,d3,e1,u3⟩;have hs:=h3.many;dsimp only;apply Yar (fun a9=>Ps kd o p a9/\FrS lo (arrOf st) (arrOf a9)/\DnS G (arrOf a9) lo (lo+i))
  case a =>
   intro Zx
   by_cases he:e >0
   ·rw [if_pos he];exact wpS_bind (wpS_reverse (Zx _ ⟨h3.to (mirror_perm _ _ _ _),f3.trans (FrS.mirror (by lia) (by lia)),d3.level u3 (by lia) (by lia)⟩))
   ·rw [if_neg he];exact Zx i3 ⟨h3,f3,d3⟩
  rintro R9 ⟨h4,f4,d4⟩;have hs:=h4.many;refine wpS_bind (wpS_reverse ?_);have h5:=h4.to (mirror_perm (arrOf R9) lo (lo+i) ((lo+i-lo) / 2));exact wpS_bind (up i _ _ (by lia) a2 h5 (d4.turn (by lia)) fun k k1 k2 u5 _=>wpS_pure (q k _ h5 (by lia) k2 (f4.trans (FrS.mirror (Nat.le_refl _) (by lia))) u5))
theorem Zxm{lo n r:Nat}{Q:Bool->SortSt->Prop}(h:Ps kd o p st)(hn:lo+n<=o.size)(hr:r<=n)(u:UpS G (arrOf st) lo (lo+r))(q:∀a9,Ps kd o p a9->FrS lo (arrOf st) (arrOf a9)->UpS G (arrOf a9) lo (lo+n)->Q true a9):wpS (model prog w) A E s (binarySort' lo n r) Q st:=by
 have t:=L.1;rw [binarySort'_eq];refine wpS_bind (wpS_mono (wpS_forRange (I:=fun x c a9=>c=(none,())/\Ps kd o p a9/\FrS lo (arrOf st) (arrOf a9)/\UpS G (arrOf a9) lo (lo+x)) (Q:=fun c a9=>c=(none,())/\Ps kd o p a9/\FrS lo (arrOf st) (arrOf a9)/\UpS G (arrOf a9) lo (lo+n)) ?_ (fun c a9 z=>⟨z.1,z.2.1,z.2.2.1,z.2.2.2.less (by lia)⟩) ⟨rfl,h,FrS.refl,?_⟩) ?_)
 ·rintro x c a9 x1 x2 ⟨rfl,h2,f2,u2⟩;have hs:=h2.many;refine wpS_bind (wpS_mono (wpS_forRange (I:=fun i c i3=>i3=a9/\∃l u,c=(none,l,u)/\u<=x/\l<=u/\u<=l+(x-i)/\(∀k,k<l->GqS G (arrOf a9) (lo+k) (lo+x))/\∀k,u<=k->k<x->GqS G (arrOf a9) (lo+x) (lo+k)) (Q:=fun c i3=>i3=a9/\∃l,c=(none,l,l)/\l<=x/\(∀k,k<l->GqS G (arrOf a9) (lo+k) (lo+x))/\∀k,l<=k->k<x->GqS G (arrOf a9) (lo+x) (lo+k)) ?_ ?_ ⟨rfl,0,x,rfl,Nat.le_refl _,Nat.zero_le _,by lia,fun k hk=>by lia,fun k h1 h2=>by lia⟩) ?_)
  ·rintro y c i3 _ _ ⟨rfl,l,u,rfl,hu,hlu,hd,ha,hb⟩;dsimp only
   by_cases z:l ≥ u
   ·rw [if_pos z];have:u=l:=by lia
    subst this;exact wpS_pure ⟨rfl,u,rfl,hu,ha,hb⟩
   ·rw [if_neg z];refine wpS_bind (Zjn L h2 (by lia) (by lia) fun b g=>?_);cases b with
    | true =>
     refine wpS_pure ⟨rfl,l,(l+u) / 2,rfl,by lia,by lia,by lia,ha,fun k h1 h2=>?_⟩
     by_cases z:k=(l+u) / 2
     ·subst z;exact g
     ·exact GqS.trans t g (u2 _ _ (by lia) (by lia) (by lia)) (by lia)
    | false =>
     refine wpS_pure ⟨rfl,(l+u) / 2+1,u,rfl,hu,by lia,by lia,fun k h1=>?_,hb⟩
     by_cases z:k=(l+u) / 2
     ·subst z;exact g
     ·exact (u2 _ _ (by lia) (by lia) (by lia)).trans t g (by lia)
  ·rintro c i3 ⟨rfl,l,u,rfl,hu,hlu,hd,ha,hb⟩;have:u=l:=by lia
   subst this;exact ⟨rfl,u,rfl,hu,ha,hb⟩
  ·rintro c i3 ⟨rfl,l,rfl,hu,ha,hb⟩;show wpS _ _ _ _ (do moveDown' (lo+x) (lo+l);pure (ForInStep.yield (none,()))) _ _;rw [moveDown'_eq];have gb:=fun k=>getElem?_bubble (xs:=arrOf i3) (src:=lo+x) (by lia) (lo+x-(lo+l)) (by lia) k
   refine wpS_bind (wpS_modify (wpS_pure ⟨rfl,h2.to (bubble_perm _ _ _),f2.trans fun k hk=>?_,fun p q h1 h3 h4=>?_⟩))
   ·exact (gb k).trans (by rw [if_neg (by lia),if_neg (by lia)])
   ·show GqS G (bubble (arrOf i3) (lo+x) (lo+x-(lo+l))) p q;unfold GqS;rw [gb p,gb q];rcases Nat.lt_trichotomy p (lo+l) with zp|zp|zp
    ·rw [if_neg (c:=p=_) (by lia),if_neg (c:=_<p/\_) (by lia)];rcases Nat.lt_trichotomy q (lo+l) with zq|zq|zq
     ·rw [if_neg (by lia),if_neg (by lia)];exact u2 _ _ h1 h3 (by lia)
     ·rw [if_pos (by lia)];have:=ha (p-lo) (by lia);rw [show lo+(p-lo)=p by lia] at this;exact this
     ·rw [if_neg (by lia),if_pos (by lia)];exact u2 _ _ h1 (by lia) (by lia)
    ·rw [if_pos (c:=p=_) (by lia),if_neg (c:=q=_) (by lia),if_pos (c:=_<q/\_) (by lia)];have:=hb (q-1-lo) (by lia) (by lia);rw [show lo+(q-1-lo)=q-1 by lia] at this;exact this
    ·rw [if_neg (c:=p=_) (by lia),if_pos (c:=_<p/\_) (by lia),if_neg (c:=q=_) (by lia),if_pos (c:=_<q/\_) (by lia)];exact u2 _ _ (by lia) (by lia) (by lia)
 ·by_cases z:r=0
  ·subst z;exact UpS.one
  ·exact u.less (by lia)
 ·rintro c a9 ⟨rfl,h2,f2,u2⟩;exact wpS_pure (q a9 h2 f2 u2)
def Zwp:Bool->Keyed->Array Keyed->Nat->Nat->Nat->StateT SortSt Sem (Option Nat):=sortPriv% PySem.Builtin.gallop
def Zty:Array Keyed->Array Keyed->StateT SortSt Sem (Array Keyed):=sortPriv% PySem.Builtin.mergeLo
def Ztu:Array Keyed->Array Keyed->StateT SortSt Sem (Array Keyed):=sortPriv% PySem.Builtin.mergeHi
def BkS(G:Keyed->Keyed->Prop)(arr:Array Keyed)(key:Keyed)(i:Nat):Bool->Prop
 | true=>∀x,arr[i]? =some x->G x key
 | false=>∀x,arr[i]? =some x->G key x
theorem Zd8{left:Bool}{key:Keyed}{arr:Array Keyed}{base n d8:Nat}{Q:Option Nat->SortSt->Prop}(hk:kindOf st=kd)(B5:key∈o)(ha:∀x∈arr,x∈o)(hb:base+n<=arr.size)(hh:d8<n)(us:UpS G arr base (base+n))(q:∀k,k<=n->(∀i,i<k->BkS G arr key (base+i) true)->(∀i,k<=i->i<n->BkS G arr key (base+i) false)->Q (some k) st) :
  wpS (model prog w) A E s (Zwp left key arr base n d8) Q st:=by
 have t:=L.1;have bey:∀(i:Nat) (R:Option Bool->SortSt->Prop),i<n->(∀b,BkS G arr key (base+i) b->R (some b) st)->wpS (model prog w) A E s (do
   let x <-elem' arr (base+i)
   if left=true then lt' x key else do
    let y <-lt' key x
    pure (Option.map (fun x=>!x) y)) R st:=fun i R hi r=>by
  have E3:base+i<arr.size:=by lia
  refine wpS_bind (Y9 E3 ?_);have hm:=ha _ (Array.getElem_mem E3);have one:∀{x},arr[base+i]? =some x->x=arr[base+i]:=fun z=>by rw [getElem?_pos arr (base+i) E3] at z;exact (Option.some.inj z).symm
  cases left with
  | true=>exact Zjt L hk hm B5 fun b hb=>r b (by cases b <;>exact fun x hx=>by rw [one hx];exact hb)
  | false=>exact wpS_bind (Zjt L hk B5 hm fun b hb=>wpS_pure (r _ (by cases b <;>exact fun x hx=>by rw [one hx];exact hb)))
 have low:∀{i:Nat},i<n->BkS G arr key (base+i) true->∀k,k<i+1->BkS G arr key (base+k) true:=fun {i} hi g k hk x hx=>by
  by_cases z:k=i
  ·subst z;exact g x hx
  ·exact t _ _ _ (us _ _ (by lia) (by lia) (by lia) x _ hx (getElem?_pos arr (base+i) (by lia))) (g _ (getElem?_pos arr (base+i) (by lia)))
 have high:∀{i:Nat},i<n->BkS G arr key (base+i) false->∀k,i<=k->k<n->BkS G arr key (base+k) false:=fun {i} hi g k h1 h2 x hx=>by
  by_cases z:k=i
  ·subst z;exact g x hx
  ·exact t _ _ _ (g _ (getElem?_pos arr (base+i) (by lia))) (us (base+i) (base+k) (by lia) (by lia) (by lia) _ x (getElem?_pos arr (base+i) (by lia)) hx)
 refine wpS_bind (bey d8 _ hh fun b N4=>?_);have on:∀{f:Nat->Option (Option Nat)×Nat×Nat->StateT SortSt Sem (ForInStep (Option (Option Nat)×Nat×Nat))} {R:Option (Option Nat)×Nat×Nat->SortSt->Prop} (J:Nat->Nat->Nat->Prop) (D:Nat->Nat->Prop) {l u:Nat},J 0 l u->(∀l u,J n l u->D l u) ->
   (∀i l u (R':ForInStep (Option (Option Nat)×Nat×Nat)->SortSt->Prop),i<n->J i l u->(∀l u,D l u->R' (.done (none,l,u)) st)->(∀l u,J (i+1) l u->R' (.yield (none,l,u)) st)->wpS (model prog w) A E s (f i (none,l,u)) R' st)->(∀l u,D l u->R (none,l,u) st)->wpS (model prog w) A E s (forIn [:n] (none,l,u) f) R st:=fun {f R} J D {l u} g v8 hf r =>
  wpS_mono (wpS_forRange (I:=fun i c a9=>a9=st/\∃l u,c=(none,l,u)/\J i l u) (Q:=fun c a9=>a9=st/\∃l u,c=(none,l,u)/\D l u) (fun i c a9 _ hi ⟨e,l,u,e2,gu⟩=>by subst e e2;exact hf i l u _ hi gu (fun l u d=>⟨rfl,l,u,rfl,d⟩) fun l u j=>⟨rfl,l,u,rfl,j⟩) (fun c a9 ⟨e,l,u,e2,gu⟩=>⟨e,l,u,e2,v8 l u (by rw [Nat.max_eq_right (Nat.zero_le n)] at gu;exact gu)⟩) ⟨rfl,l,u,rfl,g⟩) fun c a9 ⟨e,l,u,e2,gu⟩=>by subst e e2;exact r l u gu
 have find:∀{f:Nat->Option (Option Nat)×Nat×Nat->StateT SortSt Sem (ForInStep (Option (Option Nat)×Nat×Nat))} {R:Option (Option Nat)×Nat×Nat->SortSt->Prop} {l u:Nat},u<=n->(∀i,i<l->BkS G arr key (base+i) true)->(∀i,u<=i->i<n->BkS G arr key (base+i) false) ->
   (∀i l u (R':ForInStep (Option (Option Nat)×Nat×Nat)->SortSt->Prop),(l ≥ u->R' (.done (none,l,u)) st)->(¬l ≥ u->(BkS G arr key (base+(l+(u-l) / 2)) true->R' (.yield (none,l+(u-l) / 2+1,u)) st)/\(BkS G arr key (base+(l+(u-l) / 2)) false->R' (.yield (none,l,l+(u-l) / 2)) st))->u<=n->wpS (model prog w) A E s (f i (none,l,u)) R' st) ->
   (∀l u,u<=n->(∀i,i<u->BkS G arr key (base+i) true)->(∀i,u<=i->i<n->BkS G arr key (base+i) false)->R (none,l,u) st)->wpS (model prog w) A E s (forIn [:n] (none,l,u) f) R st:=fun {f R l u} hu h1 h2 hf r =>
  on (fun i l u=>u<=n/\u-l<=n-i/\(∀i,i<l->BkS G arr key (base+i) true)/\∀i,u<=i->i<n->BkS G arr key (base+i) false) (fun l u=>u<=n/\u<=l/\(∀i,i<l->BkS G arr key (base+i) true)/\∀i,u<=i->i<n->BkS G arr key (base+i) false) ⟨hu,by lia,h1,h2⟩ (fun l u j=>⟨j.1,by have:=j.2.1;lia,j.2.2⟩)
   (fun i l u R' hi j d y=>hf i l u R' (fun z=>d l u ⟨j.1,z,j.2.2⟩) (fun z=>⟨fun g=>y _ _ ⟨j.1,by have:=j.2.1;lia,low (by have:=j.1;lia) g,j.2.2.2⟩,fun g=>y _ _ ⟨by have:=j.1;lia,by have:=j.2.1;lia,j.2.2.1,high (by have:=j.1;lia) g⟩⟩) j.1)
   (fun l u d=>r l u d.1 (fun i hi=>d.2.2.1 i (by have:=d.2.1;lia)) d.2.2.2)
 cases b with
 | true =>
  refine wpS_bind (on (fun i l u=>i+1<=u/\l<u/\d8+l<n/\BkS G arr key (base+(d8+l)) true) (fun l u=>l<u/\d8+l<n/\BkS G arr key (base+(d8+l)) true/\(u<n-d8->BkS G arr key (base+(d8+u)) false)) ⟨by lia,by lia,hh,N4⟩ (fun l u j=>⟨j.2.1,j.2.2.1,j.2.2.2,fun z=>by have:=j.1;lia⟩)
   (fun i l u R' _ j d y=>ifS (fun (z:u ≥ n-d8)=>wpS_pure (d l u ⟨j.2.1,j.2.2.1,j.2.2.2,fun z2=>absurd z (by lia)⟩)) fun (z:¬u ≥ n-d8)=>wpS_bind (bey (d8+u) _ (show d8+u<n by lia) fun b hb=>?_)) fun l u d=>?_)
  ·cases b with
   | true=>exact wpS_pure (y u (2 * u+1) ⟨by have:=j.1;lia,by lia,by lia,hb⟩)
   | false=>exact wpS_pure (d _ _ ⟨j.2.1,j.2.2.1,j.2.2.2,fun _=>hb⟩)
  ·refine wpS_bind (find (l:=d8+l+1) (u:=d8+min u (n-d8)) (by lia) (low (i:=d8+l) d.2.1 d.2.2.1) (fun i h1 h2=>high (i:=d8+u) (by lia) (d.2.2.2 (by lia)) i (by lia) h2) (fun i l u R' d y hu=>ifS (fun z=>wpS_pure (d z)) fun (z:¬l ≥ u)=>wpS_bind (bey (l+(u-l) / 2) _ (show l+(u-l) / 2<n by lia) fun b hb=>?_)) fun l u hu g1 g2=>wpS_pure (q u hu g1 g2));cases b with
   | true=>exact wpS_pure ((y z).1 hb)
   | false=>exact wpS_pure ((y z).2 hb)
 | false =>
  refine wpS_bind (on (fun i l u=>i+1<=u/\l<u/\l<=d8/\BkS G arr key (base+(d8-l)) false) (fun l u=>l<u/\l<=d8/\BkS G arr key (base+(d8-l)) false/\(u<d8+1->BkS G arr key (base+(d8-u)) true)) ⟨by lia,by lia,by lia,N4⟩ (fun l u j=>⟨j.2.1,j.2.2.1,j.2.2.2,fun z=>by have:=j.1;lia⟩)
   (fun i l u R' _ j d y=>ifS (fun (z:u ≥ d8+1)=>wpS_pure (d l u ⟨j.2.1,j.2.2.1,j.2.2.2,fun z2=>absurd z (by lia)⟩)) fun (z:¬u ≥ d8+1)=>wpS_bind (bey (d8-u) _ (show d8-u<n by lia) fun b hb=>?_)) fun l u d=>?_)
  ·cases b with
   | true=>exact wpS_pure (d _ _ ⟨j.2.1,j.2.2.1,j.2.2.2,fun _=>hb⟩)
   | false=>exact wpS_pure (y u (2 * u+1) ⟨by have:=j.1;lia,by lia,by lia,hb⟩)
  ·refine wpS_bind (find (l:=d8+1-min u (d8+1)) (u:=d8-l) (by lia) (fun i h1=>low (i:=d8-u) (by lia) (d.2.2.2 (by lia)) i (by lia)) (high (i:=d8-l) (by lia) d.2.2.1) (fun i l u R' d y hu=>ifS (fun z=>wpS_pure (d z)) fun (z:¬l ≥ u)=>wpS_bind (bey (l+(u-l) / 2) _ (show l+(u-l) / 2<n by lia) fun b hb=>?_)) fun l u hu g1 g2=>wpS_pure (q u hu g1 g2));cases b with
   | true=>exact wpS_pure ((y z).1 hb)
   | false=>exact wpS_pure ((y z).2 hb)
omit L
def Mg(G:Keyed->Keyed->Prop)(l out x y:List Keyed):Prop:=(out++(x++y)).Perm l/\(out++x).Pairwise G/\(out++y).Pairwise G
def RsS(G:Keyed->Keyed->Prop)(l:List Keyed)(r:Array Keyed):Prop:=r.toList.Perm l/\r.toList.Pairwise G
section
variable {l x y x' y':List Keyed} {out z a b arr:Array Keyed} {v u:Keyed} {i j k n:Nat} (t:TrG G)
theorem Mg.swap{out:List Keyed}(h:Mg G l out x y):Mg G l out y x:=⟨(List.perm_append_comm.append_left _).trans h.1,h.2.2,h.2.1⟩
include t
theorem Mg.ones(h:Mg G l out.toList x y)(ex:x=z.toList++x')(ey:y=u ::y')(g:∀w∈z.toList,G w u):Mg G l (out++z).toList x' y:=by
 obtain ⟨h1,h2,h3⟩:=h;subst ex ey;rw [Array.toList_append];rw [<-List.append_assoc] at h2;refine ⟨by rw [List.append_assoc,<-List.append_assoc z.toList];exact h1,h2,?_⟩;rw [List.pairwise_append] at h2 h3 ⊢;refine ⟨h2.1,h3.2.1,fun c hc d hd=>?_⟩;rcases List.mem_append.mp hc with hc|hc
 ·exact h3.2.2 c hc d hd
 rcases List.mem_cons.mp hd with rfl|hd
 ·exact g c hc
 ·exact t _ _ _ (g c hc) ((List.pairwise_cons.mp h3.2.1).1 d hd)
theorem Mg.twos(h:Mg G l out.toList x y)(ex:x=v ::x')(ey:y=z.toList++y')(g:∀w∈z.toList,G w v):Mg G l (out++z).toList x y':=(h.swap.ones t ey ex g).swap
theorem Mg.one(h:Mg G l out.toList x y)(ex:x=v ::x')(ey:y=u ::y')(g:G v u):Mg G l (out.push v).toList x' y:=by
 have:=h.ones t (z:=#[v]) ex ey (fun w hw=>by rw [List.mem_singleton.mp hw];exact g);rwa [Array.toList_append,<-Array.toList_push] at this
theorem Mg.two(h:Mg G l out.toList x y)(ex:x=v ::x')(ey:y=u ::y')(g:G u v):Mg G l (out.push u).toList x y':=(h.swap.one t ey ex g).swap
omit t
theorem X3(h:i<arr.size):arr.toList.drop i=arr[i] ::arr.toList.drop (i+1):=by
 rw [List.drop_eq_getElem_cons (by simpa using h),Array.getElem_toList]
theorem Zk5:arr.toList.drop i=(arr.extract i (i+k)).toList++arr.toList.drop (i+k):=by
 rw [Array.toList_extract,List.extract_eq_take_drop,show i+k-i=k by lia,<-List.drop_drop,List.take_append_drop]
theorem Zc5:(arr.extract i arr.size).toList=arr.toList.drop i:=by
 rw [Array.toList_extract,List.extract_eq_take_drop,List.take_of_length_le (by simp)]
theorem Zbr(h1:1<=i)(h:i<=arr.size):(arr.toList.take i).reverse=arr[i-1] ::(arr.toList.take (i-1)).reverse:=by
 have:arr.toList.take i=arr.toList.take (i-1)++[arr[i-1]]:=by
  have e:=List.take_add_one (l:=arr.toList) (i:=i-1);rw [show i-1+1=i by lia,List.getElem?_eq_getElem (by simp;lia),Array.getElem_toList] at e;exact e
 rw [this,List.reverse_append];rfl
theorem Zk3(h:i<=n):(arr.toList.take n).reverse=(arr.extract i n).reverse.toList++(arr.toList.take i).reverse:=by
 have e:arr.toList.take n=arr.toList.take i++(arr.extract i n).toList:=by
  have:=List.take_add (l:=arr.toList) (i:=i) (j:=n-i);rw [show i+(n-i)=n by lia] at this;rw [this,Array.toList_extract,List.extract_eq_take_drop]
 rw [e,Array.toList_reverse,List.reverse_append]
theorem Zgg:(arr.extract 0 i).toList=arr.toList.take i:=by
 rw [Array.toList_extract,List.extract_eq_take_drop]
 rfl
theorem Zoc(h:arr.toList.Pairwise G):UpS G arr i j:=fun p q _ h2 _ x y hx hy=>by
 rw [<-Array.getElem?_toList] at hx hy;obtain ⟨p1,rfl⟩:=List.getElem?_eq_some_iff.mp hx;obtain ⟨q1,rfl⟩:=List.getElem?_eq_some_iff.mp hy;exact List.pairwise_iff_getElem.mp h p q p1 q1 h2
theorem Zbs{w:Keyed}(h:w∈(arr.extract i j).toList):∃k,i<=k/\k<j/\arr[k]? =some w:=by
 rw [Array.toList_extract,List.extract_eq_take_drop] at h;obtain ⟨n,hn⟩:=List.getElem?_of_mem h;have n1:=(List.getElem?_eq_some_iff.mp hn).1;rw [List.length_take] at n1;rw [List.getElem?_take_of_lt (by lia),List.getElem?_drop,Array.getElem?_toList] at hn;exact ⟨i+n,by lia,by lia,hn⟩
theorem Zww(m:Mg G l out.toList (a.toList.drop i) (b.toList.drop j))(h:j=b.size):RsS G l (out++a.extract i a.size++b.extract j b.size):=by
 have e:b.toList.drop j=[]:=List.drop_eq_nil_of_le (by simp;lia);rw [e] at m;unfold RsS;rw [Array.toList_append,Array.toList_append,Zc5,Zc5,e,List.append_nil];exact ⟨by have:=m.1;rwa [List.append_nil] at this,m.2.1⟩
theorem Ydo(m:Mg G l out.toList (a.toList.drop i) (b.toList.drop j))(h:i=a.size):RsS G l (out++a.extract i a.size++b.extract j b.size):=by
 have e:a.toList.drop i=[]:=List.drop_eq_nil_of_le (by simp;lia);rw [e] at m;unfold RsS;rw [Array.toList_append,Array.toList_append,Zc5,Zc5,e,List.append_nil];exact ⟨m.1,m.2.2⟩
theorem Zre{out y:List Keyed}(h1:(out++y).Pairwise G)(h2:(out++[v]).Pairwise G)(g:∀u∈y,G u v):(out++y++[v]).Pairwise G:=by
 rw [List.pairwise_append];refine ⟨h1,List.pairwise_singleton _ _,fun c hc d hd=>?_⟩;rw [List.mem_singleton.mp hd];rcases List.mem_append.mp hc with hc|hc
 ·exact (List.pairwise_append.mp h2).2.2 c hc v (List.mem_singleton_self v)
 ·exact g c hc
theorem Zwr(m:Mg G l out.toList (a.toList.drop i) (b.toList.drop j))(h:i+1=a.size)(g1:∀u∈b.toList,BkS G a u (a.size-1) false):RsS G l (out++b.extract j b.size++a.extract i a.size):=by
 have e:a.toList.drop i=[a[i]]:=by rw [X3 (by lia),List.drop_eq_nil_of_le (by simp;lia)]
 have m:=m.swap;unfold RsS;rw [Array.toList_append,Array.toList_append,Zc5,Zc5,List.append_assoc];refine ⟨m.1,?_⟩;rw [<-List.append_assoc,e];rw [e] at m;exact Zre m.2.1 m.2.2 fun u hu=>g1 u (List.mem_of_mem_drop hu) _ (by rw [show a.size-1=i by lia];exact getElem?_pos a i (by lia))
theorem Zxf(m:Mg (fun x y=>G y x) l out.toList (a.toList.take i).reverse (b.toList.take j).reverse)(h:i=0):RsS G l (a.extract 0 i++b.extract 0 j++out.reverse):=by
 subst h;unfold RsS;rw [Array.toList_append,Array.toList_append,Zgg,Zgg,Array.toList_reverse,List.take_zero,List.nil_append];have e:b.toList.take j++out.toList.reverse=(out.toList++(b.toList.take j).reverse).reverse:=by rw [List.reverse_append,List.reverse_reverse]
 rw [e,List.pairwise_reverse];exact ⟨(List.reverse_perm _).trans (by have:=m.1;rwa [List.take_zero,List.reverse_nil,List.nil_append] at this),m.2.2⟩
theorem Ydm(m:Mg (fun x y=>G y x) l out.toList (a.toList.take i).reverse (b.toList.take j).reverse)(h:j=0):RsS G l (a.extract 0 i++b.extract 0 j++out.reverse):=by
 subst h;unfold RsS;rw [Array.toList_append,Array.toList_append,Zgg,Zgg,Array.toList_reverse,List.take_zero,List.append_nil];have e:a.toList.take i++out.toList.reverse=(out.toList++(a.toList.take i).reverse).reverse:=by rw [List.reverse_append,List.reverse_reverse]
 rw [e,List.pairwise_reverse];exact ⟨(List.reverse_perm _).trans (by have:=m.1;rwa [List.take_zero,List.reverse_nil,List.append_nil] at this),m.2.1⟩
theorem Zxb(m:Mg (fun x y=>G y x) l out.toList (a.toList.take i).reverse (b.toList.take j).reverse)(h:j=1)(hb:1<=b.size)(g0:∀u∈a.toList,BkS G b u 0 true):RsS G l (b.extract 0 j++a.extract 0 i++out.reverse):=by
 subst h;have e1:(b.toList.take 1).reverse=[b[0]]:=by rw [Zbr (Nat.le_refl _) hb];rfl
 unfold RsS;rw [Array.toList_append,Array.toList_append,Zgg,Zgg,Array.toList_reverse];have e:b.toList.take 1++a.toList.take i++out.toList.reverse=(out.toList++(a.toList.take i).reverse++(b.toList.take 1).reverse).reverse:=by rw [List.reverse_append,List.reverse_append,List.reverse_reverse,List.reverse_reverse,List.append_assoc]
 rw [e,List.pairwise_reverse];refine ⟨(List.reverse_perm _).trans (by rw [List.append_assoc];exact m.1),?_⟩;rw [e1] at m ⊢;exact Zre m.2.1 m.2.2 fun u hu=>g0 u (List.mem_of_mem_take (List.mem_reverse.mp hu)) _ (getElem?_pos b 0 (by lia))
end
section
variable {C D F:Type} {pd:Array Keyed->Nat->Nat->Prop} {fd:Array Keyed->Nat->Nat->D->C} {ls:List Keyed} {fu:Array Keyed->F->C} {R R1 R2:C->SortSt->Prop}
def GoS(st:SortSt)(pd:Array Keyed->Nat->Nat->Prop)(fd:Array Keyed->Nat->Nat->D->C)(c:C)(s2:SortSt):Prop:=Gs st s2/\∃o i j d,c=fd o i j d/\pd o i j
def UnS(st:SortSt)(G:Keyed->Keyed->Prop)(ls:List Keyed)(fu:Array Keyed->F->C)(c:C)(s2:SortSt):Prop:=Gs st s2/\∃r d,c=fu r d/\RsS G ls r
theorem W2(h:∀o i j d s2,Gs st s2->pd o i j->R (fd o i j d) s2)(c:C)(s2:SortSt)(z:GoS st pd fd c s2):R c s2:=by
 obtain ⟨h2,o,i,j,d,rfl,hp⟩:=z;exact h o i j d s2 h2 hp
theorem Zgk(h:∀r d s2,Gs st s2->RsS G ls r->R (fu r d) s2)(c:C)(s2:SortSt)(z:UnS st G ls fu c s2):R c s2:=by
 obtain ⟨h2,r,d,rfl,hp⟩:=z;exact h r d s2 h2 hp
theorem Zmr(h1:∀c s2,R1 c s2->R c s2)(h2:∀c s2,R2 c s2->R c s2)(c:C)(s2:SortSt)(z:R1 c s2\/R2 c s2):R c s2:=z.elim (h1 c s2) (h2 c s2)
end
variable {a b:Array Keyed}
def DlS(G:Keyed->Keyed->Prop)(a b:Array Keyed)(n:Nat)(out:Array Keyed)(i j:Nat):Prop:=Mg G (a.toList++b.toList) out.toList (a.toList.drop i) (b.toList.drop j)/\i+1<a.size/\j<b.size/\n<i+j
def DhS(G:Keyed->Keyed->Prop)(a b:Array Keyed)(n:Nat)(out:Array Keyed)(i j:Nat):Prop:=Mg (fun x y=>G y x) (a.toList++b.toList) out.toList (a.toList.take i).reverse (b.toList.take j).reverse/\1<=i/\i<=a.size/\2<=j/\j<=b.size/\n+i+j<a.size+b.size
include L
theorem Yap{Q:Array Keyed->SortSt->Prop}(hk:kindOf st=kd)(ha:∀x∈a,x∈o)(hb:∀x∈b,x∈o)(a1:1<=a.size)(b1:1<=b.size)(pa:a.toList.Pairwise G)(pb:b.toList.Pairwise G)(g0:∀u∈a.toList,BkS G b u 0 true)(g1:∀u∈b.toList,BkS G a u (a.size-1) false)(q:∀(r:Array Keyed) a9,Gs st a9->RsS G (a.toList++b.toList) r->Q r a9):wpS (model prog w) A E s (Zty a b) Q st:=by
 have t:=L.1;have h:Gs st st:=⟨rfl,rfl,rfl,rfl⟩
 refine wpS_bind (wpS_lift (wpAny_rule ⟨rfl,?_⟩));refine wpS_bind (Y9 (show 0<b.size by lia) ?_);have m0:Mg G (a.toList++b.toList) (#[b[0]]:Array Keyed).toList (a.toList.drop 0) (b.toList.drop 1):=by
  have:Mg G (a.toList++b.toList) (#[]:Array Keyed).toList (a.toList.drop 0) (b.toList.drop 0):=⟨List.Perm.refl _,pa,pb⟩
  exact this.two t (X3 (show 0<a.size by lia)) (X3 (show 0<b.size by lia)) (g0 a[0] (by rw [Array.mem_toList_iff];exact Array.getElem_mem _) _ (getElem?_pos b 0 (by lia)))
 refine ifS (fun z=>wpS_pure (q _ _ h (Zww m0 (by simpa using z)))) fun e1=>ifS (fun z=>wpS_pure (q _ _ h (Zwr m0 (by simpa using z) g1))) fun e2=>?_
 have e1:¬1=b.size:=by simpa using e1
 have e2:¬1=a.size:=by simpa using e2
 refine wpS_bind (wpS_get ?_);refine wpS_bind (wpS_mono (wpS_forRange
  (I:=fun k=>GoS st (DlS G a b k) fun o i j d=>(none,o,i,j,d))
  (Q:=UnS st G (a.toList++b.toList) fun r d=>(some r,d)) ?_ ?_ ⟨h,_,_,_,_,rfl,m0,by lia,by lia,by lia⟩) ?_)
 rotate_left
 ·exact W2 fun o i j d s2 h2 hp=>absurd hp.2.2.2 (by have:=hp.2.1;have:=hp.2.2.1;lia)
 ·exact Zgk fun r d s2 h2 hr=>wpS_pure (q r s2 h2 hr)
 intro k c a9 _ k2;revert c a9;refine W2 fun out i j d a9 h2 hp=>?_
 refine wpS_bind (wpS_mono (wpS_forRange
  (I:=fun k'=>GoS st (DlS G a b (k+k')) fun o i j d=>(none,o,i,j,d))
  (Q:=fun c s2=>UnS st G (a.toList++b.toList) (fun r d=>(some r,d)) c s2\/GoS st (DlS G a b (k+1)) (fun o i j d=>(none,o,i,j,d)) c s2) ?_ ?_ ⟨h2,_,_,_,_,rfl,hp⟩) ?_)
 ·clear hp h2;intro k' c i3 _ k3;revert c i3;refine W2 fun out i j d i3 h3 hp=>?_
  have m:=hp.1;have i1:=hp.2.1;have j1:=hp.2.2.1;have k1:=hp.2.2.2;have i0:i<a.size:=by lia
  dsimp only;refine wpS_bind (Y9 j1 (wpS_bind (Y9 i0 (wpS_bind (Zjt L (h3.1.trans hk) (hb _ (Array.getElem_mem _)) (ha _ (Array.getElem_mem _)) fun c gc=>?_)))));cases c with
  | true =>
   refine wpS_bind (Y9 j1 ?_);have m:=m.two t (X3 i0) (X3 j1) gc;refine ifS (fun z=>wpS_pure (.inl ⟨h3,_,_,rfl,Zww m (by simpa using z)⟩)) fun (z:¬(j+1 ==b.size)=true)=>?_
   have z:¬j+1=b.size:=by simpa using z
   exact ifS (fun _=>wpS_pure (.inr ⟨h3,_,_,_,_,rfl,m,i1,by lia,by lia⟩)) fun _=>wpS_pure ⟨h3,_,_,_,_,rfl,m,i1,by lia,by lia⟩
  | false =>
   refine wpS_bind (Y9 i0 ?_);have m:=m.one t (X3 i0) (X3 j1) gc;refine ifS (fun z=>wpS_pure (.inl ⟨h3,_,_,rfl,Zwr m (by simpa using z) g1⟩)) fun (z:¬(i+1+1 ==a.size)=true)=>?_
   have z:¬i+1+1=a.size:=by simpa using z
   exact ifS (fun _=>wpS_pure (.inr ⟨h3,_,_,_,_,rfl,m,by lia,j1,by lia⟩)) fun _=>wpS_pure ⟨h3,_,_,_,_,rfl,m,by lia,j1,by lia⟩
 ·exact W2 fun o i j d s2 h2 hp=>.inr ⟨h2,_,_,_,_,rfl,hp.1,hp.2.1,hp.2.2.1,by have:=hp.2.2.2;lia⟩
 clear hp h2;refine Zmr (Zgk fun r d i3 h3 hr=>wpS_pure ⟨h3,r,_,rfl,hr⟩) (W2 fun out i j d i3 h3 hp=>?_);refine wpS_bind (wpS_lift (wpAny_rule ⟨rfl,?_⟩));refine wpS_bind (wpS_mono (wpS_forRange
  (I:=fun k'=>GoS st (DlS G a b (k+1)) fun o i j d=>(none,o,i,j,d))
  (Q:=fun c s2=>UnS st G (a.toList++b.toList) (fun r d=>(some r,d)) c s2\/GoS st (DlS G a b (k+1)) (fun o i j d=>(none,o,i,j,d)) c s2) ?_ (fun _ _=>.inr) ⟨h3,_,_,_,_,rfl,hp⟩) ?_)
 ·clear hp h3;intro k' c i3 _ k3;revert c i3;refine W2 fun out i j d i3 h3 hp=>?_
  have m:=hp.1;have i1:=hp.2.1;have j1:=hp.2.2.1;have k1:=hp.2.2.2;dsimp only;generalize d.1=g;apply Yav (fun (_:Nat) a9=>Gs st a9)
  case a =>
   intro Zx;refine ifS (fun _=>?_) (fun _=>?_)
   ·generalize g-1=g';exact Zx g' i3 h3
   ·exact Zx g i3 h3
  intro g R9 h4;refine wpS_bind (Zh1 h4 fun u6 h5=>?_);refine wpS_bind (Y9 j1 (wpS_bind (Zd8 L (h5.1.trans hk) (hb _ (Array.getElem_mem _)) ha (by lia) (by lia) (Zoc pa) fun k5 hk5 g5 g6=>?_)));dsimp only;have m5:=m.ones t (Zk5 (i:=i) (k:=k5)) (X3 j1) (fun w hw=>by
   obtain ⟨n,n1,n2,hn⟩:=Zbs hw;exact g5 (n-i) (by lia) w (by rw [show i+(n-i)=n by lia];exact hn))
  apply Zx1 (fun (out:Array Keyed) (i:Nat) a9=>Gs st a9/\Mg G (a.toList++b.toList) out.toList (a.toList.drop i) (b.toList.drop j)/\i+1<a.size/\k+1<i+j/\BkS G a b[j] i false)
  case a =>
   intro Zx;refine ifS (fun _=>ifS (fun z=>wpS_pure (.inl ⟨h5,_,_,rfl,Zwr m5 (by simpa using z) g1⟩)) fun z1=>ifS (fun z=>wpS_pure (.inl ⟨h5,_,_,rfl,Ydo m5 (by simpa using z)⟩)) fun z2=>?_) (fun z0=>?_)
   ·have z1:¬i+k5+1=a.size:=by simpa using z1
    have z2:¬i+k5=a.size:=by simpa using z2
    have r1:i+k5+1<a.size:=by lia
    have r2:k+1<i+k5+j:=by lia
    have r4:=g6 k5 (Nat.le_refl _) (by lia);have r3:=m5;revert r3 r1 r2 r4;generalize i+k5=i';generalize out++a.extract i i'=out';exact fun r1 r2 r4 r3=>Zx out' i' u6 ⟨h5,r3,r1,r2,r4⟩
   ·exact Zx out i u6 ⟨h5,m,i1,k1,g6 0 (by lia) (by lia)⟩
  clear m5 m i1 k1 h5 hk5 g5 g6;intro out i st6 hp;have h6:=hp.1;have m:=hp.2.1;have i1:=hp.2.2.1;have k1:=hp.2.2.2.1;have i0:i<a.size:=by lia
  have m:=m.two t (X3 i0) (X3 j1) (hp.2.2.2.2 _ (getElem?_pos a i i0));refine wpS_bind (Y9 j1 ?_);refine ifS (fun z=>wpS_pure (.inl ⟨h6,_,_,rfl,Zww m (by simpa using z)⟩)) fun z=>?_
  have z:¬j+1=b.size:=by simpa using z
  refine wpS_bind (Y9 i0 (wpS_bind (Zd8 L (h6.1.trans hk) (ha _ (Array.getElem_mem _)) hb (by lia) (by lia) (Zoc pb) fun k7 hk7 g7 g8=>?_)));dsimp only;have m8:=m.twos t (X3 i0) (Zk5 (i:=j+1) (k:=k7)) (fun w hw=>by
   obtain ⟨n,n1,n2,hn⟩:=Zbs hw;exact g7 (n-(j+1)) (by lia) w (by rw [show j+1+(n-(j+1))=n by lia];exact hn))
  apply Zx1 (fun (out:Array Keyed) (j:Nat) a9=>Gs st a9/\Mg G (a.toList++b.toList) out.toList (a.toList.drop i) (b.toList.drop j)/\j<b.size/\k+1<i+j/\BkS G b a[i] j false)
  case a =>
   intro Zx;refine ifS (fun _=>ifS (fun z=>wpS_pure (.inl ⟨h6,_,_,rfl,Zww m8 (by simpa using z)⟩)) fun z1=>?_) (fun z0=>?_)
   ·have z1:¬j+1+k7=b.size:=by simpa using z1
    have r1:j+1+k7<b.size:=by lia
    have r2:k+1<i+(j+1+k7):=by lia
    have r4:=g8 k7 (Nat.le_refl _) (by lia);have r3:=m8;revert r3 r1 r2 r4;generalize j+1+k7=j';generalize out.push b[j]++b.extract (j+1) j'=out';exact fun r1 r2 r4 r3=>Zx out' j' st6 ⟨h6,r3,r1,r2,r4⟩
   ·exact Zx _ _ st6 ⟨h6,m,by lia,by lia,g8 0 (by lia) (by lia)⟩
  clear m8 m k1 h6 hk7 z j1 hp g7 g8;intro out j st7 hp;have h7:=hp.1;have m:=hp.2.1;have j1:=hp.2.2.1;have k1:=hp.2.2.2.1;have m:=m.one t (X3 i0) (X3 j1) (hp.2.2.2.2 _ (getElem?_pos b j j1));refine wpS_bind (Y9 i0 ?_);refine ifS (fun z=>wpS_pure (.inl ⟨h7,_,_,rfl,Zwr m (by simpa using z) g1⟩)) fun z=>?_
  have z:¬i+1+1=a.size:=by simpa using z
  exact ifS (fun _=>wpS_pure (.inr ⟨h7,_,_,_,_,rfl,m,by lia,j1,by lia⟩)) fun _=>wpS_pure ⟨h7,_,_,_,_,rfl,m,by lia,j1,by lia⟩
 exact Zmr (Zgk fun r d i3 h3 hr=>wpS_pure ⟨h3,r,_,rfl,hr⟩) (W2 fun out i j d i3 h3 hp=>wpS_bind (Zh1 h3 fun u6 h5=>wpS_pure ⟨h5,_,_,_,_,rfl,hp⟩))
theorem Zz0{Q:Array Keyed->SortSt->Prop}(hk:kindOf st=kd)(ha:∀x∈a,x∈o)(hb:∀x∈b,x∈o)(a1:1<=a.size)(b1:1<=b.size)(pa:a.toList.Pairwise G)(pb:b.toList.Pairwise G)(g0:∀u∈a.toList,BkS G b u 0 true)(g1:∀u∈b.toList,BkS G a u (a.size-1) false)(q:∀(r:Array Keyed) a9,Gs st a9->RsS G (a.toList++b.toList) r->Q r a9):wpS (model prog w) A E s (Ztu a b) Q st:=by
 have t:TrG (fun x y=>G y x):=fun x y z h1 h2=>L.1 _ _ _ h2 h1
 have h:Gs st st:=⟨rfl,rfl,rfl,rfl⟩
 refine wpS_bind (wpS_lift (wpAny_rule ⟨rfl,?_⟩));refine wpS_bind (Y9 (show a.size-1<a.size by lia) ?_);have m0:Mg (fun x y=>G y x) (a.toList++b.toList) (#[a[a.size-1]]:Array Keyed).toList (a.toList.take (a.size-1)).reverse (b.toList.take b.size).reverse:=by
  have:Mg (fun x y=>G y x) (a.toList++b.toList) (#[]:Array Keyed).toList (a.toList.take a.size).reverse (b.toList.take b.size).reverse:=by
   rw [List.take_of_length_le (by simp),List.take_of_length_le (by simp)];exact ⟨(List.reverse_perm _).append (List.reverse_perm _),List.pairwise_reverse.mpr pa,List.pairwise_reverse.mpr pb⟩
  exact this.one t (Zbr a1 (Nat.le_refl _)) (Zbr b1 (Nat.le_refl _)) (g1 b[b.size-1] (by rw [Array.mem_toList_iff];exact Array.getElem_mem _) _ (getElem?_pos a (a.size-1) (by lia)))
 refine ifS (fun z=>wpS_pure (q _ _ h (Zxf m0 (by simpa using z)))) fun e1=>ifS (fun z=>wpS_pure (q _ _ h (Zxb m0 (by simpa using z) b1 g0))) fun e2=>?_
 have e1:¬a.size-1=0:=by simpa using e1
 have e2:¬b.size=1:=by simpa using e2
 refine wpS_bind (wpS_get ?_);refine wpS_bind (wpS_mono (wpS_forRange
  (I:=fun k=>GoS st (DhS G a b k) fun o i j d=>(none,i,j,o,d))
  (Q:=UnS st G (a.toList++b.toList) fun r d=>(some r,d)) ?_ ?_ ⟨h,_,_,_,_,rfl,m0,by lia,by lia,by lia,by lia,by lia⟩) ?_)
 rotate_left
 ·exact W2 fun o i j d s2 h2 hp=>absurd hp.2.2.2.2.2 (by have:=hp.2.1;have:=hp.2.2.2.1;lia)
 ·exact Zgk fun r d s2 h2 hr=>wpS_pure (q r s2 h2 hr)
 intro k c a9 _ k2;revert c a9;refine W2 fun out i j d a9 h2 hp=>?_
 refine wpS_bind (wpS_mono (wpS_forRange
  (I:=fun k'=>GoS st (DhS G a b (k+k')) fun o i j d=>(none,i,j,o,d))
  (Q:=fun c s2=>UnS st G (a.toList++b.toList) (fun r d=>(some r,d)) c s2\/GoS st (DhS G a b (k+1)) (fun o i j d=>(none,i,j,o,d)) c s2) ?_ ?_ ⟨h2,_,_,_,_,rfl,hp⟩) ?_)
 ·clear hp h2;intro k' c i3 _ k3;revert c i3;refine W2 fun out i j d i3 h3 hp=>?_
  have m:=hp.1;have i1:=hp.2.1;have i2:=hp.2.2.1;have j1:=hp.2.2.2.1;have j2:=hp.2.2.2.2.1;have k1:=hp.2.2.2.2.2;dsimp only;have ea:=Zbr i1 i2;have eb:=Zbr (show 1<=j by lia) j2;refine wpS_bind (Y9 (show j-1<b.size by lia) (wpS_bind (Y9 (show i-1<a.size by lia) (wpS_bind (Zjt L (h3.1.trans hk) (hb _ (Array.getElem_mem _)) (ha _ (Array.getElem_mem _)) fun c gc=>?_)))));cases c with
  | true =>
   refine wpS_bind (Y9 (show i-1<a.size by lia) ?_);have m:=m.one t ea eb gc;refine ifS (fun z=>wpS_pure (.inl ⟨h3,_,_,rfl,Zxf m (by simpa using z)⟩)) fun z=>?_
   have z:¬i-1=0:=by simpa using z
   exact ifS (fun _=>wpS_pure (.inr ⟨h3,_,_,_,_,rfl,m,by lia,by lia,j1,j2,by lia⟩)) fun _=>wpS_pure ⟨h3,_,_,_,_,rfl,m,by lia,by lia,j1,j2,by lia⟩
  | false =>
   refine wpS_bind (Y9 (show j-1<b.size by lia) ?_);have m:=m.two t ea eb gc;refine ifS (fun z=>wpS_pure (.inl ⟨h3,_,_,rfl,Zxb m (by simpa using z) b1 g0⟩)) fun z=>?_
   have z:¬j-1=1:=by simpa using z
   exact ifS (fun _=>wpS_pure (.inr ⟨h3,_,_,_,_,rfl,m,i1,i2,by lia,by lia,by lia⟩)) fun _=>wpS_pure ⟨h3,_,_,_,_,rfl,m,i1,i2,by lia,by lia,by lia⟩
 ·exact W2 fun o i j d s2 h2 hp=>.inr ⟨h2,_,_,_,_,rfl,hp.1,hp.2.1,hp.2.2.1,hp.2.2.2.1,hp.2.2.2.2.1,by have:=hp.2.2.2.2.2;lia⟩
 clear hp h2;refine Zmr (Zgk fun r d i3 h3 hr=>wpS_pure ⟨h3,r,_,rfl,hr⟩) (W2 fun out i j d i3 h3 hp=>?_);refine wpS_bind (wpS_lift (wpAny_rule ⟨rfl,?_⟩));refine wpS_bind (wpS_mono (wpS_forRange
  (I:=fun k'=>GoS st (DhS G a b (k+1)) fun o i j d=>(none,i,j,o,d))
  (Q:=fun c s2=>UnS st G (a.toList++b.toList) (fun r d=>(some r,d)) c s2\/GoS st (DhS G a b (k+1)) (fun o i j d=>(none,i,j,o,d)) c s2) ?_ (fun _ _=>.inr) ⟨h3,_,_,_,_,rfl,hp⟩) ?_)
 ·clear hp h3;intro k' c i3 _ k3;revert c i3;refine W2 fun out i j d i3 h3 hp=>?_
  have m:=hp.1;have i1:=hp.2.1;have i2:=hp.2.2.1;have j1:=hp.2.2.2.1;have j2:=hp.2.2.2.2.1;have k1:=hp.2.2.2.2.2;dsimp only;generalize d.1=g;apply Yav (fun (_:Nat) a9=>Gs st a9)
  case a =>
   intro Zx;refine ifS (fun _=>?_) (fun _=>?_)
   ·generalize g-1=g';exact Zx g' i3 h3
   ·exact Zx g i3 h3
  intro g R9 h4;refine wpS_bind (Zh1 h4 fun u6 h5=>?_);have eb:=Zbr (show 1<=j by lia) j2;refine wpS_bind (Y9 (show j-1<b.size by lia) (wpS_bind (Zd8 L (h5.1.trans hk) (hb _ (Array.getElem_mem _)) ha (by lia) (by lia) (Zoc pa) fun k5 hk5 g5 g6=>?_)));dsimp only;generalize hac:i-k5=ac;have m5:=m.ones t (Zk3 (i:=k5) hk5) eb (fun w hw=>by
   obtain ⟨n,n1,n2,hn⟩:=Zbs (List.mem_reverse.mp (by rwa [Array.toList_reverse] at hw));exact g6 n (by lia) (by lia) w (by rw [Nat.zero_add];exact hn))
  apply Zx1 (fun (out:Array Keyed) (i:Nat) a9=>Gs st a9/\Mg (fun x y=>G y x) (a.toList++b.toList) out.toList (a.toList.take i).reverse (b.toList.take j).reverse/\1<=i/\i<=a.size/\k+1+i+j<a.size+b.size/\BkS G a b[j-1] (i-1) true)
  case a =>
   intro Zx;refine ifS (fun _=>ifS (fun z=>wpS_pure (.inl ⟨h5,_,_,rfl,Zxf m5 (by simpa using z)⟩)) fun z1=>?_) (fun z0=>?_)
   ·have z1:¬k5=0:=by simpa using z1
    have r1:1<=k5:=by lia
    have r2:k5<=a.size:=by lia
    have r3:k+1+k5+j<a.size+b.size:=by lia
    have r4:=m5;have r5:BkS G a b[j-1] (k5-1) true:=by have:=g5 (k5-1) (by lia);rwa [Nat.zero_add] at this
    revert r4 r1 r2 r3 r5;generalize out++(a.extract k5 i).reverse=out';generalize k5=i';exact fun r1 r2 r3 r4 r5=>Zx out' i' u6 ⟨h5,r4,r1,r2,r3,r5⟩
   ·exact Zx out i u6 ⟨h5,m,i1,i2,k1,by have:=g5 (i-1) (by lia);rwa [Nat.zero_add] at this⟩
  clear m5 m i1 i2 k1 h5 hk5 g5 g6;intro out i st6 hp;have h6:=hp.1;have m:=hp.2.1;have i1:=hp.2.2.1;have i2:=hp.2.2.2.1;have k1:=hp.2.2.2.2.1;have ea:=Zbr i1 i2;refine wpS_bind (Y9 (show j-1<b.size by lia) ?_);have m:=m.two t ea eb (hp.2.2.2.2.2 _ (getElem?_pos a (i-1) (by lia)));refine ifS (fun z=>wpS_pure (.inl ⟨h6,_,_,rfl,Zxb m (by simpa using z) b1 g0⟩)) fun z=>?_
  have z:¬j-1=1:=by simpa using z
  refine wpS_bind (Y9 (show i-1<a.size by lia) (wpS_bind (Zd8 L (h6.1.trans hk) (ha _ (Array.getElem_mem _)) hb (by lia) (by lia) (Zoc pb) fun k7 hk7 g7 g8=>?_)));dsimp only;generalize hbc:j-1-k7=bc;have m8:=m.twos t ea (Zk3 (i:=k7) hk7) (fun w hw=>by
   obtain ⟨n,n1,n2,hn⟩:=Zbs (List.mem_reverse.mp (by rwa [Array.toList_reverse] at hw));exact g8 n (by lia) (by lia) w (by rw [Nat.zero_add];exact hn))
  apply Zx1 (fun (out:Array Keyed) (j:Nat) a9=>Gs st a9/\Mg (fun x y=>G y x) (a.toList++b.toList) out.toList (a.toList.take i).reverse (b.toList.take j).reverse/\2<=j/\j<=b.size/\k+1+i+j<a.size+b.size/\BkS G b a[i-1] (j-1) true)
  case a =>
   intro Zx;refine ifS (fun _=>ifS (fun z=>wpS_pure (.inl ⟨h6,_,_,rfl,Zxb m8 (by simpa using z) b1 g0⟩)) fun z1=>ifS (fun z=>wpS_pure (.inl ⟨h6,_,_,rfl,Ydm m8 (by simpa using z)⟩)) fun z2=>?_) (fun z0=>?_)
   ·have z1:¬k7=1:=by simpa using z1
    have z2:¬k7=0:=by simpa using z2
    have r1:2<=k7:=by lia
    have r2:k7<=b.size:=by lia
    have r3:k+1+i+k7<a.size+b.size:=by lia
    have r4:=m8;have r5:BkS G b a[i-1] (k7-1) true:=by have:=g7 (k7-1) (by lia);rwa [Nat.zero_add] at this
    revert r4 r1 r2 r3 r5;generalize out.push b[j-1]++(b.extract k7 (j-1)).reverse=out';generalize k7=j';exact fun r1 r2 r3 r4 r5=>Zx out' j' st6 ⟨h6,r4,r1,r2,r3,r5⟩
   ·exact Zx _ _ st6 ⟨h6,m,by lia,by lia,by lia,by have:=g7 (j-1-1) (by lia);rwa [Nat.zero_add] at this⟩
  clear m8 m k1 h6 hk7 z g7 g8 hbc;intro out j st7 hp;have h7:=hp.1;have m:=hp.2.1;have j1:=hp.2.2.1;have j2:=hp.2.2.2.1;have k1:=hp.2.2.2.2.1;refine wpS_bind (Y9 (show i-1<a.size by lia) ?_);have m:=m.one t ea (Zbr (show 1<=j by lia) j2) (hp.2.2.2.2.2 _ (getElem?_pos b (j-1) (by lia)));refine ifS (fun z=>wpS_pure (.inl ⟨h7,_,_,rfl,Zxf m (by simpa using z)⟩)) fun z=>?_
  have z:¬i-1=0:=by simpa using z
  exact ifS (fun _=>wpS_pure (.inr ⟨h7,_,_,_,_,rfl,m,by lia,by lia,j1,j2,by lia⟩)) fun _=>wpS_pure ⟨h7,_,_,_,_,rfl,m,by lia,by lia,j1,j2,by lia⟩
 exact Zmr (Zgk fun r d i3 h3 hr=>wpS_pure ⟨h3,r,_,rfl,hr⟩) (W2 fun out i j d i3 h3 hp=>wpS_bind (Zh1 h3 fun u6 h5=>wpS_pure ⟨h5,_,_,_,_,rfl,hp⟩))
omit L
theorem Zw0{σ:Type}{M:Model}{Q:PUnit->σ->Prop}{s0 s1:σ}(h:Q ⟨⟩ s1):wpS M A E s (set s1:StateT σ Sem PUnit) Q s0:=by
 unfold wpS;rw [StateT.run_set];exact wpAny_pure ⟨rfl,h⟩
theorem Zew:∀(l:List Keyed) (off k:Nat) (arr:Array Keyed),off+k+l.length<=arr.size->((l.zipIdx k).foldl (fun a x=>a.setIfInBounds (off+x.2) x.1) arr).toList=arr.toList.take (off+k)++l++arr.toList.drop (off+k+l.length)
 | [],off,k,arr,_=>by simp
 | x ::l,off,k,arr,h=>by
  rw [List.length_cons] at h;rw [List.zipIdx_cons,List.foldl_cons,Zew l off (k+1) _ (by rw [Array.size_setIfInBounds];lia),Array.toList_setIfInBounds];have e1:(arr.toList.set (off+k) x).take (off+(k+1))=arr.toList.take (off+k)++[x]:=by
   rw [show off+(k+1)=off+k+1 by lia,List.take_add_one,List.take_set_of_le (Nat.le_refl _),List.getElem?_set_self (by simpa using (by lia:off+k<arr.size))]
   rfl
  rw [e1,List.drop_set_of_lt (by lia),List.length_cons,List.append_assoc,List.append_assoc,show off+(k+1)+l.length=off+k+(l.length+1) by lia];simp
section
variable {arr m:Array Keyed} {i j k:Nat}
theorem Zqu(hij:i<=j)(hjk:j<=k):(arr.extract i j).toList++(arr.extract j k).toList=(arr.toList.drop i).take (k-i):=by
 rw [Array.toList_extract,Array.toList_extract,List.extract_eq_take_drop,List.extract_eq_take_drop,show k-i=(j-i)+(k-j) by lia,List.take_add,List.drop_drop,show i+(j-i)=j by lia]
theorem Zoh(hij:i<=j)(hjk:j<=k)(hk:k<=arr.size)(hm:m.toList.Perm ((arr.extract i j).toList++(arr.extract j k).toList)):m.toList.length=k-i:=by
 rw [Zqu hij hjk] at hm;have hl:=hm.length_eq;have ha:arr.toList.length=arr.size:=Array.length_toList;rw [List.length_take,List.length_drop,ha] at hl;lia
theorem Zs3(hij:i<=j)(hjk:j<=k)(hk:k<=arr.size)(hm:m.toList.Perm ((arr.extract i j).toList++(arr.extract j k).toList)) :
  ((m.toList.zipIdx).foldl (fun a x=>a.setIfInBounds (i+x.2) x.1) arr).Perm arr:=by
 have hl:=Zoh hij hjk hk hm;rw [Zqu hij hjk] at hm;rw [Array.perm_iff_toList_perm,Zew m.toList i 0 arr (by lia)];have e2:arr.toList=arr.toList.take i++(arr.toList.drop i).take (k-i)++arr.toList.drop (i+(k-i)):=by
  rw [<-List.take_add,List.take_append_drop]
 rw [show i+0+m.toList.length=i+(k-i) by lia];exact ((hm.append_left _).append_right _).trans (by rw [Nat.add_zero,<-e2])
theorem Zvz(hl:m.toList.length=k-i)(hik:i<=k)(hk:k<=arr.size)(n:Nat):((m.toList.zipIdx).foldl (fun a x=>a.setIfInBounds (i+x.2) x.1) arr)[n]? =if i<=n/\n<k then m[n-i]? else arr[n]? :=by
 rw [<-Array.getElem?_toList,Zew m.toList i 0 arr (by lia),Nat.add_zero,show i+m.toList.length=k by lia];have h1:(arr.toList.take i).length=i:=by rw [List.length_take,Array.length_toList];lia
 by_cases z:n<i
 ·rw [if_neg (by lia),List.append_assoc,List.getElem?_append_left (by lia),List.getElem?_take_of_lt z,Array.getElem?_toList]
 by_cases z2:n<k
 ·rw [if_pos (by lia),List.append_assoc,List.getElem?_append_right (by lia),h1,List.getElem?_append_left (by lia),Array.getElem?_toList]
 ·rw [if_neg (by lia),List.getElem?_append_right (by rw [List.length_append];lia),List.length_append,h1,hl,List.getElem?_drop,Array.getElem?_toList];congr 1;lia
theorem Zpv(h:UpS G arr i j):(arr.extract i j).toList.Pairwise G:=by
 rw [List.pairwise_iff_getElem];intro p q hp hq hpq;rw [Array.length_toList,Array.size_extract] at hp hq;refine h (i+p) (i+q) (by lia) (by lia) (by lia) _ _ ?_ ?_
 ·rw [Array.getElem_toList,Array.getElem_extract];exact getElem?_pos arr (i+p) (by lia)
 ·rw [Array.getElem_toList,Array.getElem_extract];exact getElem?_pos arr (i+q) (by lia)
end
def Ch:Nat->List (Nat×Nat×Nat)->Nat->Prop
 | a,[],b=>a=b
 | a,x ::r,b=>x.1=a/\1<=x.2.1/\Ch (a+x.2.1) r b
theorem Ch.le:∀{l:List (Nat×Nat×Nat)} {a b:Nat},Ch a l b->a+l.length<=b
 | [],_,_,h=>Nat.le_of_eq h
 | x ::r,a,b,⟨_,h1,h⟩=>by have:=h.le;rw [List.length_cons];lia
theorem Ch.snoc{n q:Nat}:∀{l:List (Nat×Nat×Nat)} {a b:Nat},Ch a l b->1<=n->Ch a (l++[(b,n,q)]) (b+n)
 | [],_,_,h,hn=>by cases (h:_=_);exact ⟨rfl,hn,rfl⟩
 | _ ::_,_,_,⟨h1,h2,h⟩,hn=>⟨h1,h2,h.snoc hn⟩
def RnS(G:Keyed->Keyed->Prop)(xs:Array Keyed)(l:List (Nat×Nat×Nat)):Prop:=∀x∈l,UpS G xs x.1 (x.1+x.2.1)
theorem Ch.mod{f:Nat×Nat×Nat->Nat×Nat×Nat}(hf:∀x,(f x).1=x.1/\(f x).2.1=x.2.1){xs:Array Keyed}:∀{l:List (Nat×Nat×Nat)} {k a b:Nat},Ch a l b->RnS G xs l->Ch a (l.modify k f) b/\RnS G xs (l.modify k f)
 | [],k,_,_,h,r=>by rw [List.modify_nil];exact ⟨h,r⟩
 | x ::l,0,_,_,⟨h1,h2,h⟩,r=>by
  rw [List.modify_zero_cons];refine ⟨⟨(hf x).1.trans h1,by rw [(hf x).2];exact h2,by rw [(hf x).2];exact h⟩,fun y hy=>?_⟩;rcases List.mem_cons.mp hy with rfl|hy
  ·rw [(hf x).1,(hf x).2];exact r x List.mem_cons_self
  ·exact r y (List.mem_cons_of_mem _ hy)
 | x ::l,k+1,_,_,⟨h1,h2,h⟩,r=>by
  rw [List.modify_succ_cons];have:=h.mod hf (k:=k) (fun y hy=>r y (List.mem_cons_of_mem _ hy));refine ⟨⟨h1,h2,this.1⟩,fun y hy=>?_⟩;rcases List.mem_cons.mp hy with rfl|hy
  ·exact r _ List.mem_cons_self
  ·exact this.2 y hy
theorem Ch.ends{x:Nat×Nat×Nat}:∀{l:List (Nat×Nat×Nat)} {a b:Nat},Ch a l b->x∈l->a<=x.1/\x.1+x.2.1<=b
 | y ::r,a,b,⟨h1,h2,h⟩,hx=>by
  rcases List.mem_cons.mp hx with rfl|hx
  ·have:=h.le;lia
  ·have:=h.ends hx;lia
theorem Ch.two{x y:Nat×Nat×Nat}{post:List (Nat×Nat×Nat)}:∀{pre:List (Nat×Nat×Nat)} {a b:Nat},Ch a (pre++x ::y ::post) b->x.1+x.2.1=y.1/\1<=x.2.1/\1<=y.2.1/\y.1+y.2.1<=b/\Ch a (pre++(x.1,x.2.1+y.2.1,x.2.2) ::post) b/\(∀z∈pre,z.1+z.2.1<=x.1)/\∀z∈post,y.1+y.2.1<=z.1
 | [],a,b,⟨h1,h2,h3,h4,h⟩=>⟨by rw [h1,h3],h2,h4,by have:=h.le;lia,⟨h1,by show 1<=x.2.1+y.2.1;lia,by show Ch (a+(x.2.1+y.2.1)) post b;rw [<-Nat.add_assoc];exact h⟩,(fun z hz=>nomatch hz),fun z hz=>by have:=(h.ends hz).1;lia⟩
 | z ::pre,a,b,⟨h1,h2,h⟩=>by
  obtain ⟨g1,g2,g3,g4,g,g5,g6⟩:=h.two;refine ⟨g1,g2,g3,g4,⟨h1,h2,g⟩,fun u hu=>?_,g6⟩;rcases List.mem_cons.mp hu with rfl|hu
  ·have:=(h.ends (x:=x) (List.mem_append_right _ List.mem_cons_self)).1;lia
  ·exact g5 u hu
include L
theorem Zwy{pre post:List (Nat×Nat×Nat)}{x y:Nat×Nat×Nat}{Q:Bool->SortSt->Prop}(h:Ps kd o p st)(hp:p.toList=pre++x ::y ::post)(e:x.1+x.2.1=y.1)(hb:y.1+y.2.1<=o.size)(n1:1<=x.2.1)(n2:1<=y.2.1)(ux:UpS G (arrOf st) x.1 (x.1+x.2.1))(uy:UpS G (arrOf st) y.1 (y.1+y.2.1))
  (q:∀(p2:Array (Nat×Nat×Nat)) a9,p2.toList=pre++(x.1,x.2.1+y.2.1,x.2.2) ::post->Ps kd o p2 a9->(∀k,k<x.1\/y.1+y.2.1<=k->(arrOf a9)[k]? =(arrOf st)[k]?)->UpS G (arrOf a9) x.1 (y.1+y.2.1)->Q true a9):wpS (model prog w) A E s (mergeAt' pre.length) Q st:=by
 have t:=L.1;obtain ⟨sa,na,pw⟩:=x;obtain ⟨sb,nb,qw⟩:=y;have g1:(pendingOf st)[pre.length]? =some (sa,na,pw):=by rw [h.pend,<-Array.getElem?_toList,hp];simp
 have g2:(pendingOf st)[pre.length+1]? =some (sb,nb,qw):=by rw [h.pend,<-Array.getElem?_toList,hp];simp
 dsimp only at e hb n1 n2 q ux uy;have es:=h.many;refine wpS_bind (wpS_get ?_);show wpS _ _ _ _ (match ((pendingOf st)[pre.length]?,(pendingOf st)[pre.length+1]?) with
  | (some (sa,na,power),some (sb,nb,snd))=>_
  | x=>_) _ _
 rw [g1,g2];refine wpS_bind (Zw0 ?_);have p2:(((pendingOf st).setIfInBounds pre.length (sa,na+nb,pw)).eraseIdxIfInBounds (pre.length+1)).toList=pre++(sa,na+nb,pw) ::post:=by
  rw [h.pend,Array.toList_eraseIdxIfInBounds,Array.toList_setIfInBounds,hp,List.set_append_right _ _ (Nat.le_refl _),List.eraseIdx_append_of_length_le (Nat.le_succ _)];simp
 have hm:∀x∈arrOf st,x∈o:=fun x hx=>h.mem hx
 have N3:=fun (a9:SortSt) (z:Ps kd o (((pendingOf st).setIfInBounds pre.length (sa,na+nb,pw)).eraseIdxIfInBounds (pre.length+1)) a9)=>q _ a9 p2 z
 clear q;have hsb:sb<(arrOf st).size:=by lia
 have gb:=getElem?_pos (arrOf st) sb hsb;refine wpS_bind (Y9 hsb (wpS_bind (Zd8 L h.kind (hm _ (Array.getElem_mem _)) hm (show sa+na<=(arrOf st).size by lia) (show 0<na by lia) ux fun k hk u1 u2=>?_)));refine ifS (fun z=>wpS_pure (N3 _ ⟨h.perm,h.kind,h.good,rfl⟩ (fun _ _=>rfl) fun p q h1 h2 h3=>?_)) fun (z:¬(na-k ==0)=true)=>?_
 ·have z:na-k=0:=by simpa using z
  by_cases zq:q<sb
  ·exact ux p q h1 h2 (by lia)
  by_cases zp:sb<=p
  ·exact uy p q zp h2 h3
  have a1:GqS G (arrOf st) p sb:=fun x y hx hy=>by
   rw [gb] at hy;have:=u1 (p-sa) (by lia) x (by rw [show sa+(p-sa)=p by lia];exact hx);rwa [Option.some.inj hy] at this
  by_cases zs:q=sb
  ·subst zs;exact a1
  ·exact a1.trans t (uy sb q (Nat.le_refl _) (by lia) h3) hsb
 have z:¬na-k=0:=by simpa using z
 have F4:sa+k+(na-k)-1<(arrOf st).size:=by lia
 have gl:=getElem?_pos (arrOf st) (sa+k+(na-k)-1) F4;refine wpS_bind (Y9 F4 (wpS_bind (Zd8 L h.kind (hm _ (Array.getElem_mem _)) hm (show sb+nb<=(arrOf st).size by lia) (show nb-1<nb by lia) uy fun k2 hk3 v1 v2=>?_)));have zl:sa+k+(na-k)-1=sb-1:=by lia
 have la:∀p,sa<=p->p<sb->p≠sb-1->GqS G (arrOf st) p (sb-1):=fun p h1 h2 h3=>ux p (sb-1) h1 (by lia) (by lia)
 have l2:∀q,sb+k2<=q->q<sb+nb->GqS G (arrOf st) (sb-1) q:=fun q h1 h2 x y hx hy=>by
  rw [<-zl,gl] at hx;have:=v2 (q-sb) (by lia) (by lia) y (by rw [show sb+(q-sb)=q by lia];exact hy);rwa [Option.some.inj hx] at this
 have ab:∀p q,sa<=p->p<sb->sb+k2<=q->q<sb+nb->GqS G (arrOf st) p q:=fun p q h1 h2 h3 h4=>by
  by_cases zp:p=sb-1
  ·subst zp;exact l2 q h3 h4
  ·exact (la p h1 h2 zp).trans t (l2 q h3 h4) (by lia)
 refine ifS (fun z2=>wpS_pure (N3 _ ⟨h.perm,h.kind,h.good,rfl⟩ (fun _ _=>rfl) fun p q h1 h2 h3=>?_)) fun (z2:¬(k2 ==0)=true)=>?_
 ·have z2:k2=0:=by simpa using z2
  by_cases zq:q<sb
  ·exact ux p q h1 h2 (by lia)
  by_cases zp:sb<=p
  ·exact uy p q zp h2 h3
  ·exact ab p q h1 (by lia) (by lia) h3
 have z2:¬k2=0:=by simpa using z2
 have jn:∀(r:Array Keyed) (M5 a9:SortSt),Gs M5 a9->arrOf M5=arrOf st->kindOf M5=kd->failedOf M5=none->pendingOf M5=((pendingOf st).setIfInBounds pre.length (sa,na+nb,pw)).eraseIdxIfInBounds (pre.length+1)->RsS G (((arrOf st).extract (sa+k) sb).toList++((arrOf st).extract sb (sb+k2)).toList) r ->
   wpS (model prog w) A E s (do
    modify fun s=>setArr s (r.toList.zipIdx.foldl (fun a x=>a.setIfInBounds (sa+k+x.2) x.1) (arrOf s))
    let x <-get
    pure (failedOf x).isNone) Q a9:=fun r M5 a9 g b1 b2 b3 b4 hr=>by
  refine wpS_bind (wpS_modify (wpS_bind (wpS_get (wpS_pure ?_))));have e3:failedOf a9=none:=g.2.2.2.trans b3;have e4:=g.2.1.trans b1;show Q (failedOf a9).isNone _;rw [e3];have bg:=Zvz (arr:=arrOf st) (Zoh (by lia) (by lia) (by lia) hr.1) (by lia) (by lia);refine N3 _ ⟨?_,g.1.trans b2,e3,g.2.2.1.trans b4⟩ ?_ ?_
  ·show (r.toList.zipIdx.foldl (fun a x=>a.setIfInBounds (sa+k+x.2) x.1) (arrOf a9)).Perm o;rw [e4];exact (Zs3 (by lia) (by lia) (by lia) hr.1).trans h.perm
  ·intro n hn;show (r.toList.zipIdx.foldl (fun a x=>a.setIfInBounds (sa+k+x.2) x.1) (arrOf a9))[n]? =_;rw [e4,bg n,if_neg (by lia)]
  ·show UpS G (r.toList.zipIdx.foldl (fun a x=>a.setIfInBounds (sa+k+x.2) x.1) (arrOf a9)) sa (sb+nb);rw [e4];intro p q h1 h2 h3;unfold GqS;rw [bg p,bg q];have y3:∀{n:Nat} {x:Keyed},r[n]? =some x->∃m,sa+k<=m/\m<sb+k2/\(arrOf st)[m]? =some x:=fun {n x} hx=>by
    rw [<-Array.getElem?_toList] at hx;rcases List.mem_append.mp (hr.1.subset (List.mem_of_getElem? hx)) with z|z
    ·obtain ⟨m,m1,m2,hm⟩:=Zbs z;exact ⟨m,m1,by lia,hm⟩
    ·obtain ⟨m,m1,m2,hm⟩:=Zbs z;exact ⟨m,by lia,m2,hm⟩
   have ea:∀p q,sa<=p->p<sa+k->p<q->q<sb+nb->GqS G (arrOf st) p q:=fun p q h1 h2 h3 h4=>by
    by_cases zq:q<sb
    ·exact ux p q h1 h3 (by lia)
    have a1:GqS G (arrOf st) p sb:=fun x y hx hy=>by
     rw [gb] at hy;have:=u1 (p-sa) (by lia) x (by rw [show sa+(p-sa)=p by lia];exact hx);rwa [Option.some.inj hy] at this
    by_cases zs:q=sb
    ·subst zs;exact a1
    ·exact a1.trans t (uy sb q (Nat.le_refl _) (by lia) h4) hsb
   have eb:∀p q,sa<=p->p<sb+k2->sb+k2<=q->q<sb+nb->GqS G (arrOf st) p q:=fun p q h1 h2 h3 h4=>by
    by_cases zp:p<sb
    ·exact ab p q h1 zp h3 h4
    ·exact uy p q (by lia) (by lia) h4
   by_cases zp:p<sa+k
   ·rw [if_neg (c:=sa+k<=p/\_) (by lia)]
    by_cases zq:sa+k<=q/\q<sb+k2
    ·rw [if_pos zq];intro x y hx hy;obtain ⟨m,m1,m2,hm⟩:=y3 hy;exact ea p m h1 zp (by lia) (by lia) x y hx hm
    ·rw [if_neg zq];exact ea p q h1 zp h2 h3
   by_cases zp2:p<sb+k2
   ·rw [if_pos (c:=sa+k<=p/\_) (by lia)]
    by_cases zq:q<sb+k2
    ·rw [if_pos (by lia)];exact Zoc hr.2 (p-(sa+k)) (q-(sa+k)) (Nat.zero_le _) (by lia) (Nat.lt_succ_self _)
    ·rw [if_neg (by lia)];intro x y hx hy;obtain ⟨m,m1,m2,hm⟩:=y3 hx;exact eb m q (by lia) m2 (by lia) h3 x y hm hy
   ·rw [if_neg (by lia),if_neg (by lia)];exact uy p q (by lia) h2 h3
 have z0:1<=((arrOf st).extract (sa+k) sb).size:=by rw [Array.size_extract];lia
 have z3:1<=((arrOf st).extract sb (sb+k2)).size:=by rw [Array.size_extract];lia
 have c1:∀{i j:Nat},∀x∈(arrOf st).extract i j,x∈o:=fun x hx=>hm x (by
  rw [<-Array.mem_toList_iff] at hx ⊢;rw [Array.toList_extract,List.extract_eq_take_drop] at hx;exact List.mem_of_mem_drop (List.mem_of_mem_take hx))
 have pa:((arrOf st).extract (sa+k) sb).toList.Pairwise G:=Zpv fun p q h1 h2 h3=>ux p q (by lia) h2 (by lia)
 have pb:((arrOf st).extract sb (sb+k2)).toList.Pairwise G:=Zpv fun p q h1 h2 h3=>uy p q h1 h2 (by lia)
 have d0:∀u∈((arrOf st).extract (sa+k) sb).toList,BkS G ((arrOf st).extract sb (sb+k2)) u 0 true:=fun u hu x hx=>by
  obtain ⟨m,m1,m2,hm⟩:=Zbs hu;rw [Array.getElem?_extract,if_pos (by lia),Nat.add_zero,gb] at hx;have:=u2 (m-sa) (by lia) (by lia) u (by rw [show sa+(m-sa)=m by lia];exact hm);rwa [Option.some.inj hx] at this
 have d1:∀u∈((arrOf st).extract sb (sb+k2)).toList,BkS G ((arrOf st).extract (sa+k) sb) u (((arrOf st).extract (sa+k) sb).size-1) false:=fun u hu x hx=>by
  obtain ⟨m,m1,m2,hm⟩:=Zbs hu;have es2:((arrOf st).extract (sa+k) sb).size=na-k:=by rw [Array.size_extract];lia
  rw [es2,Array.getElem?_extract,if_pos (by lia),show sa+k+(na-k-1)=sa+k+(na-k)-1 by lia,gl] at hx;have:=v1 (m-sb) (by lia) u (by rw [show sb+(m-sb)=m by lia];exact hm);rwa [Option.some.inj hx] at this
 exact ifS (fun _=>wpS_bind (Yap L h.kind c1 c1 z0 z3 pa pb d0 d1 fun r a9 g hr=>jn r _ a9 g rfl h.kind h.good rfl hr)) (fun _=>wpS_bind (Zz0 L h.kind c1 c1 z0 z3 pa pb d0 d1 fun r a9 g hr=>jn r _ a9 g rfl h.kind h.good rfl hr))
structure SgS(G:Keyed->Keyed->Prop)(kd:SortKind)(o:Array Keyed)(lo:Nat)(p:Array (Nat×Nat×Nat))(st:SortSt):Prop where
 ps:Ps kd o p st
 ch:Ch 0 p.toList lo
 rn:RnS G (arrOf st) p.toList
theorem Zqx{lo i:Nat}{Q:Bool->SortSt->Prop}(h:SgS G kd o lo p st)(hlo:lo<=o.size)(hi:i+1<p.size)(q:∀(p2:Array (Nat×Nat×Nat)) a9,SgS G kd o lo p2 a9->p2.size+1=p.size->(∀k,lo<=k->(arrOf a9)[k]? =(arrOf st)[k]?)->Q true a9):wpS (model prog w) A E s (mergeAt' i) Q st:=by
 have E3:i+1<p.toList.length:=by simpa using hi
 obtain ⟨pre,x,y,post,e,rfl⟩:∃pre x y post,p.toList=pre++x ::y ::post/\pre.length=i:=by
  refine ⟨p.toList.take i,p.toList[i],p.toList[i+1],p.toList.drop (i+2),?_,by rw [List.length_take];lia⟩;rw [<-List.drop_eq_getElem_cons,<-List.drop_eq_getElem_cons,List.take_append_drop]
 have c:=h.ch;have r:=h.rn;rw [e] at c r;obtain ⟨c1,c2,c3,c4,c5,c6,c7⟩:=c.two;refine Zwy L h.ps e c1 (by lia) c2 c3 (r x (by simp)) (r y (by simp)) fun p2 a9 e2 h2 f2 u2=>q p2 a9 ⟨h2,by rw [e2];exact c5,?_⟩ ?_ fun k hk=>f2 k (.inr (by lia))
 ·rw [e2];have keep:∀z:Nat×Nat×Nat,UpS G (arrOf st) z.1 (z.1+z.2.1)->(z.1+z.2.1<=x.1\/y.1+y.2.1<=z.1)->UpS G (arrOf a9) z.1 (z.1+z.2.1):=fun z u hz p q h1 h2 h3=>by
   unfold GqS;rw [f2 p (by lia),f2 q (by lia)];exact u p q h1 h2 h3
  intro z hz;rcases List.mem_append.mp hz with hz|hz
  ·exact keep z (r z (List.mem_append_left _ hz)) (.inl (c6 z hz))
  rcases List.mem_cons.mp hz with rfl|hz
  ·show UpS G (arrOf a9) x.1 (x.1+(x.2.1+y.2.1));rw [show x.1+(x.2.1+y.2.1)=y.1+y.2.1 by lia];exact u2
  ·exact keep z (r z (List.mem_append_right _ (List.mem_cons_of_mem _ (List.mem_cons_of_mem _ hz)))) (.inr (c7 z hz))
 ·rw [<-Array.length_toList,<-Array.length_toList,e,e2];simp;lia
theorem Zvy{Q:Unit->SortSt->Prop}(h:Ps kd o #[] st)(q:∀a9,(arrOf a9).Perm o->(arrOf a9).toList.Pairwise G->failedOf a9=none->Q () a9):wpS (model prog w) A E s sortRuns' Q st:=by
 rw [sortRuns'_eq];refine wpS_bind (wpS_get ?_);dsimp only;rw [h.many];generalize minRun' o.size o.size 0=mr;refine wpS_bind (wpS_mono (wpS_forRange (I:=fun i c a9=>∃lo p,c=(none,lo)/\SgS G kd o lo p a9/\lo<=o.size/\i<=lo) (Q:=fun c a9=>∃p,c=(none,o.size)/\SgS G kd o o.size p a9) ?_ ?_ ⟨0,#[],rfl,⟨h,rfl,(fun x hx=>nomatch hx)⟩,Nat.zero_le _,Nat.le_refl _⟩) ?_)
 ·rintro x c a9 _ hx ⟨lo,p,rfl,h2,hlo,hxl⟩;dsimp only;refine ifS (fun z=>wpS_pure ?_) fun z=>?_
  ·have:lo=o.size:=by lia
   subst this;exact ⟨p,rfl,h2⟩
  refine wpS_bind (Zsr L h2.ps (by lia) (by lia) fun n i3 h3 n1 n2 f3 u3=>?_);have r3:RnS G (arrOf i3) p.toList:=fun y hy=>(h2.rn y hy).fr f3 (h2.ch.ends hy).2
  have c2:=h2.ch;dsimp only;apply Yav (fun (n:Nat) a9=>Ps kd o p a9/\RnS G (arrOf a9) p.toList/\1<=n/\lo+n<=o.size/\UpS G (arrOf a9) lo (lo+n))
  case a =>
   intro Zx;refine ifS (fun z2=>wpS_bind (wpS_lift (wpAny_rule ⟨rfl,wpS_bind (Zxm L h3 (n:=min (o.size-lo) mr) (by lia) (by lia) u3 fun R9 h4 f4 u4=>?_)⟩))) fun _=>?_
   ·have r1:1<=min (o.size-lo) mr:=by lia
    have r2:lo+min (o.size-lo) mr<=o.size:=by lia
    have r4:RnS G (arrOf R9) p.toList:=fun y hy=>(r3 y hy).fr f4 (c2.ends hy).2
    have r5:=u4;simp only [Bool.not_true,Bool.false_eq_true,if_false];revert r1 r2 r5;generalize min (o.size-lo) mr=n';exact fun r1 r2 r5=>Zx n' R9 ⟨h4,r4,r1,r2,r5⟩
   ·exact Zx n i3 ⟨h3,r3,n1,by lia,u3⟩
  clear h2 h3 n1 n2 r3 u3 f3;rintro n R9 ⟨h4,r4,n1,n2,u4⟩;refine wpS_bind (wpS_get ?_);apply Yar (fun a9=>∃p,SgS G kd o lo p a9/\UpS G (arrOf a9) lo (lo+n))
  case a =>
   intro Zx;cases hb:(pendingOf R9).back? with
   | none=>exact Zx R9 ⟨p,⟨h4,c2,r4⟩,u4⟩
   | some y =>
    refine wpS_bind (wpS_mono (wpS_forRange (I:=fun _ c u6=>c=(none,())/\∃p,SgS G kd o lo p u6/\UpS G (arrOf u6) lo (lo+n)) (Q:=fun c u6=>c=(none,())/\∃p,SgS G kd o lo p u6/\UpS G (arrOf u6) lo (lo+n)) ?_ (fun _ _ z=>z) ⟨rfl,p,⟨h4,c2,r4⟩,u4⟩) ?_)
    ·rintro x c u6 _ _ ⟨rfl,p5,h5,u5⟩;refine wpS_bind (wpS_get ?_)
     by_cases hs:(pendingOf u6).size >1
     ·rw [if_pos hs,getElem?_pos (pendingOf u6) ((pendingOf u6).size-2) (by lia)];refine ifS (fun _=>wpS_pure ⟨rfl,p5,h5,u5⟩) fun _=>wpS_bind (Zqx L h5 hlo ?_ fun p6 st6 h6 _ f6=>wpS_pure ⟨rfl,p6,h6,fun p q h1 h2 h3=>?_⟩)
      ·rw [<-h5.ps.pend];lia
      ·unfold GqS;rw [f6 p (by lia),f6 q (by lia)];exact u5 p q h1 h2 h3
     ·rw [if_neg hs];exact wpS_pure ⟨rfl,p5,h5,u5⟩
    ·rintro c u6 ⟨rfl,p5,h5,u5⟩;refine wpS_bind (wpS_modify (Zx _ ⟨_,⟨⟨h5.ps.perm,h5.ps.kind,h5.ps.good,rfl⟩,?_,?_⟩,u5⟩))
     ·rw [h5.ps.pend,Array.toList_modify];refine (Ch.mod (fun _=>?_) h5.ch h5.rn).1;exact ⟨rfl,rfl⟩
     ·rw [h5.ps.pend,Array.toList_modify];refine (Ch.mod (fun _=>?_) h5.ch h5.rn).2;exact ⟨rfl,rfl⟩
  rintro u6 ⟨p5,h5,u5⟩;refine wpS_bind (wpS_modify (wpS_pure ⟨lo+n,_,rfl,⟨⟨h5.ps.perm,h5.ps.kind,h5.ps.good,rfl⟩,?_,?_⟩,n2,by lia⟩))
  ·rw [h5.ps.pend,Array.toList_push];exact h5.ch.snoc n1
  ·rw [h5.ps.pend,Array.toList_push];intro y hy;rcases List.mem_append.mp hy with hy|hy
   ·exact h5.rn y hy
   ·rw [List.mem_singleton.mp hy];exact u5
 ·rintro c a9 ⟨lo,p,rfl,h2,hlo,hxl⟩;have:lo=o.size:=by lia
  subst this;exact ⟨p,rfl,h2⟩
 ·rintro c a9 ⟨p,rfl,h2⟩;dsimp only;refine wpS_bind (wpS_mono (wpS_forRange (I:=fun i c u6=>c=(none,())/\∃p,SgS G kd o o.size p u6/\(p.size<=1\/p.size+i<=o.size)) (Q:=fun c u6=>c=(none,())/\∃p,SgS G kd o o.size p u6/\p.size<=1) ?_ ?_ ⟨rfl,p,h2,.inr ?_⟩) ?_)
  ·rintro x c i3 _ _ ⟨rfl,p3,h3,b3⟩;refine wpS_bind (wpS_get ?_);refine ifS (fun z=>wpS_pure ⟨rfl,p3,h3,by rw [<-h3.ps.pend];exact z⟩) fun z=>wpS_bind (Zqx L h3 (Nat.le_refl _) ?_ fun p6 st6 h6 b6 _=>wpS_pure ⟨rfl,p6,h6,?_⟩)
   ·rw [h3.ps.pend] at z ⊢;have hif:∀b:Bool,(if b=true then p3.size-2-1 else p3.size-2)+1<p3.size:=fun b=>by cases b <;>simp <;>lia
    exact hif _
   ·rw [h3.ps.pend] at z;exact .inr (by lia)
  ·rintro c i3 ⟨rfl,p3,h3,b3⟩;exact ⟨rfl,p3,h3,by lia⟩
  ·have:=h2.ch.le;rw [Array.length_toList] at this;lia
  ·rintro c i3 ⟨rfl,p3,h3,b3⟩;refine wpS_pure (q i3 h3.ps.perm ?_ h3.ps.good);have hs:=h3.ps.many;have c3:=h3.ch;have r3:=h3.rn;have x3:UpS G (arrOf i3) 0 o.size:=by
    rw [<-Array.length_toList] at b3
    match p3.toList,c3,r3,b3 with
    | [],c,_,_=>exact fun p q _ _ h3=>absurd h3 (by have:0=o.size:=c;lia)
    | [x],⟨x1,_,(c:_=_)⟩,r,_ =>
     have u:=r x List.mem_cons_self;rw [x1] at u;rw [<-c];exact u
   have:=Zpv x3;rw [<-hs] at this;rw [Zc5] at this;exact this
omit L
def Zuf(prog:Program)(w:World)(A:Around)(s:Shared)(kd:SortKind)(o:Array Keyed):Prop :=
 ∀x∈o,∀y∈o,∀(E':Value->Shared->Prop) (Q':Bool->Shared->Prop),(∀b,Q' b s)->wpAny (model prog w) A (keyLt' kd x.1 y.1) Q' E' s
theorem Zuf.ord(L:Zuf prog w A s kd o):Znc prog w A s kd o (fun _ _=>True):=⟨fun _ _ _ _ _=>trivial,fun x hx y hy E' Q' q=>L x hx y hy E' Q' fun b=>q b (by cases b <;>trivial)⟩
end
end L2
end
section
namespace L2
open PySem PySem.Spec PyProof.Rows
section
variable {prog:Program} {w:World} {A:Around} {E:Value->Shared->Prop} {s:Shared} {d it:Addr} {i ep:Nat} {es:Array DictEntry}
end
end L2
end
section
namespace L2
open PySem PySem.Spec PyProof.Rows
section
variable {prog:Program} {w:World} {A:Around} {E:Value->Shared->Prop} {s:Shared}
theorem Zw6:∀{vs:List Value},vs.length<2->(vs.toArray.zip vs.toArray).map (·.2)=vs.toArray
 | [],_=>by simp
 | [_],_=>by simp
 | _ ::_ ::_,h=>absurd h (by simp)
theorem Zvu{a:Addr}{vs:List Value}{n:Nat}{kd:SortKind}{P:Fin->Shared->Prop}{G:Value->Value->Prop} (hl:s.heap.get? a=some (seqObj "list" vs.toArray n)) (hz:vs.length<=sizeLine)
  (hk:2<=vs.length->∀hp:Heap,(∀b ob,b≠a->s.heap.get? b=some ob->hp.get? b=some ob)->(∀Q:SortKind->Shared->Prop,Q kd { s with heap:=hp }->wpAny (model prog w) A (keyKind' vs.toArray) Q E { s with heap:=hp })/\Znc prog w A { s with heap:=hp } kd (pairsOf vs) (fun x y=>G x.1 y.1))
  (h:∀out:List Value,out.Perm vs->out.Pairwise G->P (.done (.ret .none)) { s with heap:=sortedHeap s.heap a vs out.toArray }):wpAny (model prog w) A (Builtin.«list.sort» ⟨[.ref a],[]⟩) P E s:=by
 rw [list_sort_plain];have c8:a<s.heap.objs.size:=Heap.lt_size hl;refine wpAny_bind (listItems_at hl rfl (wpAny_bind (listUpdate_at hl rfl ?_ (hsz:=by simpa using hz))));obtain ⟨e1,T0⟩:∃e1,(s.heap.update a (Obj.mapSeq fun _=>#[])).get? a=some (seqObj "list" #[] e1):=⟨_,get?_update_seq hl _⟩
 refine wpAny_bind (seqEpoch_at T0 rfl (wpAny_bind (wpAny_newTuple (hsz:=by simpa using hz) (wpAny_bind (wpAny_newList (wpAny_holding ?_))))));generalize hH:((s.heap.update a (Obj.mapSeq fun _=>#[])).push (seqObj "tuple" vs.toArray 0)).push (seqObj "list" #[] 0)=hp;have keep:∀b ob,(s.heap.update a (Obj.mapSeq fun _=>#[])).get? b=some ob->hp.get? b=some ob:=fun b ob hb=>by
  rw [<-hH];exact Heap.get?_push_of_some _ (Heap.get?_push_of_some _ hb)
 have J9:=keep _ _ T0;have keep:∀b ob,b≠a->s.heap.get? b=some ob->hp.get? b=some ob:=fun b ob ne hb=>keep b ob (by rw [Heap.get?_update_other _ _ (Ne.symm ne)];exact hb)
 have v8:∀out:List Value,out.Perm vs->out.Pairwise G->P (.done (.ret .none)) { s with heap:=hp.update a (Obj.mapSeq fun _=>out.toArray) }:=fun out h1 h2=>by
  have:=h out h1 h2;unfold sortedHeap at this;rw [hH] at this;exact this
 show wpAny (model prog w) A _ P E { s with heap:=hp };dsimp only
 by_cases h2:vs.toArray.size<2
 ·rw [if_pos h2,if_pos h2];refine wpAny_bind (wpAny_pure ?_);rw [StateT.run_pure];refine wpAny_bind (wpAny_pure ?_);dsimp only;refine wpAny_bind (seqEpoch_at J9 rfl (wpAny_bind (listUpdate_at J9 rfl ?_ (hsz2:=by rw [Array.size_map];show (pairsOf vs).size<=_;rw [pairsOf_size];lia))));simp only [bne_self_eq_false,Bool.false_eq_true,if_false];refine wpAny_pure ?_;show P _ { s with heap:=hp.update a (Obj.mapSeq fun _=>(vs.toArray.zip vs.toArray).map (·.2)) };have h2:vs.length<2:=by simpa using h2
  rw [Zw6 h2];refine v8 vs (List.Perm.refl _) ?_
  match vs,h2 with
  | [],_=>exact .nil
  | [_],_=>exact List.pairwise_singleton _ _
  | _ ::_ ::_,h=>exact absurd h (by simp)
 ·rw [if_neg h2,if_neg h2];have h2':2<=vs.length:=by
   have:¬vs.length<2:=by simpa using h2
   lia
  obtain ⟨k1,k2⟩:=hk h2' hp keep;refine wpAny_bind (k1 _ ?_);refine wpAny_bind (wpAny_mono (Zvy k2 (st:=SortSt.mk' kd (vs.toArray.zip vs.toArray) #[] 7 none) (Q:=fun _ st=>(arrOf st).Perm (pairsOf vs)/\failedOf st=none/\(arrOf st).toList.Pairwise fun x y=>G x.1 y.1) ⟨Array.Perm.refl _,rfl,rfl,rfl⟩ fun st z1 z3 z2=>⟨z1,z2,z3⟩) ?_ fun _ _ e=>e);rintro ⟨⟨⟩,st⟩ s' ⟨rfl,p1,p2,p3⟩;dsimp only;have hsz:(arrOf st).size=vs.length:=p1.size_eq.trans (pairsOf_size _);refine wpAny_bind (seqEpoch_at J9 rfl (wpAny_bind (listUpdate_at J9 rfl ?_ (hsz2:=by rw [Array.size_map,hsz];lia))));rw [p2];simp only [bne_self_eq_false,Bool.false_eq_true,if_false];refine wpAny_pure ?_;have pl:(arrOf st).toList.Perm (vs.zip vs):=by rw [<-pairsOf_toList];exact Array.perm_iff_toList_perm.mp p1
  have eo:(arrOf st).map (·.2)=((arrOf st).toList.map (·.2)).toArray:=by rw [<-Array.toList_map,Array.toArray_toList]
  show P _ { s with heap:=hp.update a (Obj.mapSeq fun _=>(arrOf st).map (·.2)) };rw [eo];refine v8 _ ((pl.map _).trans (by rw [List.map_snd_zip (Nat.le_refl _)])) ?_;rw [List.pairwise_map];refine List.Pairwise.imp_of_mem (fun hx hy g=>?_) p3;rw [<-(mem_zip_self (pl.subset hx)).1,<-(mem_zip_self (pl.subset hy)).1];exact g
def Zmx(h:Heap)(v:Value):Prop:=∃(a:Addr) (ob:Obj) (x:Value) (xs:List Value) (n:Nat),v=.ref a/\h.get? a=some ob/\ob.cls=.type "tuple" /\ob.data=.seq (x ::xs).toArray n/\∀y∈x ::xs,∃p t,y=Value.str p t
theorem Zqp{b v8:Bool}{Q:Bool->Shared->Prop}(q:∀b,Q b s):∀(l:List (Value×Value)) (i:Nat),(∀p∈l,(∃x t,p.1=Value.str x t)/\∃x t,p.2=Value.str x t)->PySem.W.KatLex prog w A b v8 Q l i s
 | [],_,_=>PySem.W.kat_nil (q _)
 | (u,v) ::l,i,h=>by
  obtain ⟨⟨x,t,rfl⟩,y,t',rfl⟩:=h _ List.mem_cons_self;refine PySem.W.kat_cons (wpAny_eqBool_str (PySem.W.kat_go (fun _=>PySem.W.kat_yes (Zqp q l (i+1) fun p hp=>h p (List.mem_cons_of_mem _ hp))) fun _=>PySem.W.kat_no ?_));cases b && i ==0 with
  | true=>exact oneLt_str (q _)
  | false=>exact Zkv (q _)
theorem Zut{vs:List Value}(h:∀v∈vs,Zmx s.heap v):Zuf prog w A s (tuples' true) (pairsOf vs):=fun x hx y hy E' Q' q=>by
 have mem:∀x∈pairsOf vs,Zmx s.heap x.1:=fun x hx=>by
  rw [<-Array.mem_toList_iff,pairsOf_toList] at hx;exact h _ (List.of_mem_zip hx).1
 obtain ⟨a,oa,u,us,n,ea,ga,ca,da,ra⟩:=mem x hx;obtain ⟨b,ob,v,vs,m,eb,gb,cb,db,rb⟩:=mem y hy;rw [ea,eb];refine PySem.W.kat_lt ga da gb db (Zqp q _ 0 fun p hp=>?_);exact ⟨ra _ (by simpa using (List.of_mem_zip hp).1),rb _ (by simpa using (List.of_mem_zip hp).2)⟩
theorem Zrv{vs:List Value}{Q:SortKind->Shared->Prop}(h:∀v∈vs,Zmx s.heap v)(h2:2<=vs.length)(q:Q (tuples' true) s):wpAny (model prog w) A (keyKind' vs.toArray) Q E s:=by
 have all:∀l:List Value,(∀v∈l,Zmx s.heap v)->∃fs,PySem.W.KatTups s.heap l fs/\fs.length=l.length/\∀f∈fs,∃p t,f=Value.str p t:=by
  intro l
  induction l with
  | nil=>exact fun _=>⟨[],PySem.W.KatTups.nil,rfl,fun _ z=>nomatch z⟩
  | cons v l ih =>
   intro h;obtain ⟨fs,h1,h2,h3⟩:=ih fun v hv=>h v (List.mem_cons_of_mem _ hv)
   obtain ⟨a,oa,u,us,n,rfl,ga,ca,da,ra⟩:=h v List.mem_cons_self;refine ⟨u ::fs,PySem.W.KatTups.cons ga ca da rfl h1,by rw [List.length_cons,List.length_cons,h2],fun f hf=>?_⟩;rcases List.mem_cons.mp hf with rfl|hf
   ·exact ra _ List.mem_cons_self
   ·exact h3 f hf
 obtain ⟨fs,h1,e,h3⟩:=all vs h;refine PySem.W.kat_kind (T:=.type "str") h1 (by lia) (fun v hv=>?_) (by decide) q;obtain ⟨p,t,rfl⟩:=h3 v hv;exact .now
end
end L2
end
section
namespace L2
open PySem PySem.Spec PyProof.Rows
theorem Zkz{α β:Type}{R:α->β->Prop}{as as':List α}(p:as'.Perm as):∀{bs:List β},Paired R as bs->∃y7,y7.Perm bs/\Paired R as' y7:=by
 induction p with
 | nil=>exact fun h=>⟨_,List.Perm.refl _,h⟩
 | cons x _ ih =>
  rintro _ (_|⟨r,t⟩);obtain ⟨y7,p,q⟩:=ih t;exact ⟨_,p.cons _,.cons r q⟩
 | swap x y l =>
  rintro _ (_|⟨r,_|⟨r',t⟩⟩);exact ⟨_,.swap _ _ _,.cons r' (.cons r t)⟩
 | trans _ _ ih1 ih2 =>
  intro bs h;obtain ⟨b1,p1,q1⟩:=ih2 h;obtain ⟨b2,p2,q2⟩:=ih1 q1;exact ⟨b2,p2.trans p1,q2⟩
end L2
end
section
namespace L2
open PySem PySem.Spec PyProof.Rows
end L2
end
section
namespace L2
open PySem PySem.Spec PyProof.Rows
section
variable {prog:Program} {w:World} {A:Around} {E:Value->Shared->Prop} {s:Shared}
def Zca{α:Type}[DecidableEq α](lt:α->α->Bool):List α->List α->Bool
 | [],[]=>false
 | [],_ ::_=>true
 | _ ::_,[]=>false
 | a ::x,b ::y=>if a=b then Zca lt x y else lt a b
def ltT(a b:Str):Bool:=decide (a.cps.toList<b.cps.toList)
theorem Ze6:∀{ks:List Str} {vs:List Value},ItemsAre (PySem.strKind prog w) ks vs->StrsAre vs ks
 | _,_,.nil=>.nil
 | _,_,.cons h t=>by
  obtain ⟨u,rfl⟩:=Value.isStrOf_shape h;exact .cons _ _ (Ze6 t)
theorem Zej{x y:List Str}{a b:Addr}{P:Fin->Shared->Prop}(hx:IsTupleKey (PySem.strKind prog w) s.heap x a)(hy:IsTupleKey (PySem.strKind prog w) s.heap y b)(h:P (.done (.ret (.bool (Zca ltT x y)))) s) :
  wpAny (model prog w) A (Builtin.«tuple.__lt__» ⟨[.ref a,.ref b],[]⟩) P E s:=by
 have hTb:=hy.typeIs;obtain ⟨oa,xs,na,hoa,_,hda,hia⟩:=hx;obtain ⟨ob,ys,nb,E6,_,N7,hib⟩:=hy;show wpAny _ _ (isInstance (.ref b) (.type "tuple") >>=_) _ _ s;refine wpAny_bind (wpAny_isInstance hTb isSubtype_tuple_tuple ?_);simp only [Bool.not_true,Bool.false_eq_true,if_false];refine wpAny_bind (wpAny_tupleItemsOf hoa hda (wpAny_bind (wpAny_tupleItemsOf E6 N7 (wpAny_bind ?_))));have hia:=Ze6 hia;have hib:=Ze6 hib;refine wpAny_forIn_list _ (fun Zx r s'=>r.1=none/\s'=s/\∃x' y' N8 C6,Zx=List.zip N8 C6/\StrsAre N8 x'/\StrsAre C6 y'/\Zca ltT x' y'=Zca ltT x y/\decide (N8.length<C6.length)=decide (xs.size<ys.size)) _ ?_ ?_ _ _ ⟨rfl,rfl,x,y,xs.toList,ys.toList,rfl,hia,hib,rfl,by simp⟩
 ·rintro ⟨u,v⟩ Zx r s' ⟨hr,rfl,x',y',N8,C6,hz,hx',K0,C9,d6⟩;cases hx' with
  | nil=>simp at hz
  | cons k1 t1 hx'' =>
   cases K0 with
   | nil=>simp at hz
   | cons k2 t2 hy'' =>
    simp only [List.zip_cons_cons,List.cons.injEq,Prod.mk.injEq] at hz;obtain ⟨⟨rfl,rfl⟩,rfl⟩:=hz;refine wpAny_bind (wpAny_eqBool_str ?_)
    by_cases hk:k1=k2
    ·rw [decide_eq_true hk];simp only [Bool.not_true,Bool.false_eq_true,if_false];refine wpAny_pure ⟨rfl,rfl,_,_,_,_,rfl,hx'',hy'',?_,by simpa using d6⟩;rw [<-C9];exact (if_pos hk).symm
    ·rw [decide_eq_false hk];simp only [Bool.not_false,if_true];have hf:ltT k1 k2=Zca ltT x y:=by rw [<-C9];exact (if_neg hk).symm
     refine wpAny_bind (wpAny_rule (wpAny_bind (wpAny_richCompare_same (op:=.Lt) (typeIs_str s' k1 t1) (typeIs_str s' k2 t2) slot_str_lt (call_str_lt ⟨(fun z=>nomatch z),?_⟩))));rw [<-hf] at h;exact wpAny_bind (wpAny_pure (wpAny_pure (wpAny_pure h)))
 ·rintro ⟨r1,r2⟩ s' ⟨hr,rfl,x',y',N8,C6,hz,hx',K0,C9,d6⟩;simp only at hr;subst hr;refine wpAny_pure ?_;have hfin:decide (xs.size<ys.size)=Zca ltT x y:=by
   rw [<-C9,<-d6];cases hx' with
   | nil =>
    cases K0 with
    | nil=>simp [Zca]
    | cons _ _ _=>simp [Zca]
   | cons _ _ _ =>
    cases K0 with
    | nil=>simp [Zca]
    | cons _ _ _=>simp at hz
  show P (.done (.ret (.bool (decide (xs.size<ys.size))))) s';rw [hfin];exact h
theorem Zth{x y:List Str}{a b:Addr}{Q:Bool->Shared->Prop}(hu:A.units<cLine)(hx:IsTupleKey (PySem.strKind prog w) s.heap x a)(hy:IsTupleKey (PySem.strKind prog w) s.heap y b)(h:Q (Zca ltT x y) s):wpAny (model prog w) A (oneLt' false (.ref a) (.ref b)) Q E s:=by
 rw [oneLt'_eq];simp only [Bool.false_eq_true,if_false];exact wpAny_bind (wpAny_richCompare_same_room (op:=.Lt) hx.typeIs hy.typeIs PySem.F.slot_tuple_lt (wpAny_call_entry PySem.F.slot_tuple_lt hx.typeIs PySem.F.entry_tuple_lt (Zej hx hy ⟨_,rfl,(fun e=>nomatch e),wpAny_truthy_bool h⟩) (PySem.F.args_tuple_lt_2 _ _)) hu)
end
end L2
end
section
namespace L2
open PySem PySem.Spec PyProof.Rows
def Zuk(K:Frag):R2:=fun x y H Q=>∃a b xs ys,x=.ref a/\y=.ref b/\SqT K H a xs/\SqT K H b ys/\xs≠[]/\ys≠[]/\xs.length+ys.length<=sizeLine/\New H (.tup (xs++ys)) Q
theorem Znn{X:Cx}:OpR X (binaryOp .Add) (Zuk X.K):=Zxx.imp fun x y H Q ⟨a,b,xs,ys,h1,h2,h3,h4,h5,h6,h7,h8⟩=>⟨a,b,xs,ys,h1,h2,h3,h4,h5,h7,fun z=>absurd z h6,fun _ p hp=>h8.at p hp⟩
section
variable {prog:Program} {w:World} {A:Around} {E:Value->Shared->Prop} {s:Shared}
def RtV(prog:Program)(w:World)(h:Heap)(v:Value):Prop:=∃(a:Addr) (ob:Obj) (p:Str) (t:Tok) (xs:List Value) (n:Nat),v=.ref a/\h.get? a=some ob/\ob.cls=.type "tuple" /\ob.data=.seq (.str p t ::xs).toArray n/\∀y∈xs,∃b ks,y=Value.ref b/\IsTupleKey (PySem.strKind prog w) h ks b
theorem Znw:∀{ks:List Str} {vs:List Value},StrsAre vs ks->ItemsAre (PySem.strKind prog w) ks vs
 | _,_,.nil=>.nil
 | _,_,.cons x t h=>.cons (by simp [PySem.strKind,Value.isStrOf]) (Znw h)
theorem Ztz{vs:List Value}{Q:SortKind->Shared->Prop}(h:∀v∈vs,RtV prog w s.heap v)(h2:2<=vs.length)(q:Q (tuples' true) s):wpAny (model prog w) A (keyKind' vs.toArray) Q E s:=by
 have all:∀l:List Value,(∀v∈l,RtV prog w s.heap v)->∃fs,PySem.W.KatTups s.heap l fs/\fs.length=l.length/\∀f∈fs,∃p t,f=Value.str p t:=by
  intro l
  induction l with
  | nil=>exact fun _=>⟨[],PySem.W.KatTups.nil,rfl,fun _ z=>nomatch z⟩
  | cons v l ih =>
   intro h;obtain ⟨fs,h1,h2,h3⟩:=ih fun v hv=>h v (List.mem_cons_of_mem _ hv)
   obtain ⟨a,oa,p,t,us,n,rfl,ga,ca,da,ra⟩:=h v List.mem_cons_self;refine ⟨.str p t ::fs,PySem.W.KatTups.cons ga ca da rfl h1,by rw [List.length_cons,List.length_cons,h2],fun f hf=>?_⟩;rcases List.mem_cons.mp hf with rfl|hf
   ·exact ⟨p,t,rfl⟩
   ·exact h3 f hf
 obtain ⟨fs,h1,e,h3⟩:=all vs h;refine PySem.W.kat_kind (T:=.type "str") h1 (by lia) (fun v hv=>?_) (by decide) q;obtain ⟨p,t,rfl⟩:=h3 v hv;exact .now
end
theorem Zi4{X:Cx}(hu:X.A.units+64<cLine){a6:List (Addr×Obj)}{s:Shared}{σ:St}{H:Hp}{Q:VK}{p:Addr}{ts:List Addr}(I:Inv X a6 σ H s)(pl:PlainL s.heap p (ts.map Value.ref).toArray)(T1:(ts.map Value.ref).length<=sizeLine){Pv:Heap->Value->Prop}{G:Addr->Addr->Prop}(tx:∀v∈ts.map Value.ref,Pv s.heap v)
  (pm:∀{h h':Heap} {v:Value},(∀b ob,ob.cls=.type "tuple" ->h.get? b=some ob->h'.get? b=some ob)->Pv h v->Pv h' v)
  (pk:∀{A:Around} {E:Value->Shared->Prop} {s:Shared} {vs:List Value} {Q:SortKind->Shared->Prop},(∀v∈vs,Pv s.heap v)->2<=vs.length->Q (tuples' true) s->wpAny (model X.prog X.w) A (keyKind' vs.toArray) Q E s)
  (pa:∀{A:Around} {s:Shared} {vs:List Value},A.units<cLine->(∀v∈vs,Pv s.heap v)->Znc X.prog X.w A s (tuples' true) (pairsOf vs) (fun x y=>G (W9 x.1) (W9 y.1)))
  (q:∀y4:List Addr,y4.Perm ts->y4.Pairwise G->New H (.lst (y4.map V.ref)) Q):wpAny (model X.prog X.w) X.A (call (.builtin "sorted") [.ref p]) (EP X a6 σ Q) X.xe s:=by
 refine Calls.call_function_entry kind_sorted plain_sorted entry_sorted (args_sorted1 _) ?_;unfold Builtin.«sorted»;refine wpAny_bind (m:=checkCount "sorted" 1 1 _) (wpAny_pure (wpAny_bind (collect_list pl.isList (hsz:=T1) (wpAny_bind (wpAny_newList (hsz:=T1) ?_)))));generalize hV:ts.map Value.ref=vs at tx T1 pl ⊢;have hs:((s.heap.push (seqObj "list" #[] 0)).update s.heap.objs.size (Obj.mapSeq (· ++ vs.toArray))).objs.size=s.heap.objs.size+1:=by rw [Heap.size_update,size_push']
 have hL:(((s.heap.push (seqObj "list" #[] 0)).update s.heap.objs.size (Obj.mapSeq (· ++ vs.toArray))).push (seqObj "list" vs.toArray 0)).get? (s.heap.objs.size+1)=some (seqObj "list" vs.toArray 0):=by
  rw [<-hs];exact Heap.get?_push_size _ rfl
 have kp:∀b o,s.heap.get? b=some o->(((s.heap.push (seqObj "list" #[] 0)).update s.heap.objs.size (Obj.mapSeq (· ++ vs.toArray))).push (seqObj "list" vs.toArray 0)).get? b=some o:=fun b o hb=>by
  have lt:=Heap.lt_size hb;rw [Heap.get?_push_ne _ _ _ (by rw [hs];exact Nat.ne_of_lt (Nat.lt_succ_of_lt lt)),Heap.get?_update_other _ _ (Nat.ne_of_gt lt)];exact Heap.get?_push_of_some _ hb
 show wpAny _ _ _ _ _ { s with heap:=((s.heap.push (seqObj "list" #[] 0)).update s.heap.objs.size (Obj.mapSeq (· ++ vs.toArray))).push (seqObj "list" vs.toArray 0) };rw [hs];have v8:∀out:List Value,out.Perm vs->out.Pairwise (fun x y=>G (W9 x) (W9 y))->∃y H',Inv X a6 σ H' { s with heap:=sortedAll s.heap vs out.toArray }/\Yf y (.ref (s.heap.objs.size+1))/\Q y H':=fun out Q4 hw=>by
  subst hV;have eo:out=(out.map W9).map Value.ref:=Zlj fun v hv=>Q4.mem_iff.mp hv
  have m6:(out.map W9).Perm ts:=by
   have:=Q4.map W9;rw [List.map_map,show (W9 ∘ Value.ref)=id from rfl,List.map_id] at this;exact this
  have hw2:(out.map W9).Pairwise G:=List.pairwise_map.mpr hw;clear hw;generalize hA:out.map W9=as' at eo m6 hw2;subst eo;obtain ⟨e,he⟩:=sortedAll_at s.heap (ts.map Value.ref) (as'.map Value.ref).toArray;have hl:=m6.length_eq;rw [List.length_map] at T1;exact ⟨.ref (s.heap.objs.size+1),_,I.laid (a:=s.heap.objs.size+1) (o:=.lst (as'.map V.ref)) (t':=s.toks) (fun b o h=>sortedAll_old h) (Nat.le_succ _) (show Yi X.prog X.w _ _ _ (.lst _) from ⟨by rw [List.length_map];lia,as'.map Value.ref,e,Zkw _,he⟩),rfl,(q as' m6 hw2).at _ (I.hok.fresh (Nat.le_succ _))⟩
 unfold sortedAll at v8;generalize hG:((s.heap.push (seqObj "list" #[] 0)).update s.heap.objs.size (Obj.mapSeq (· ++ vs.toArray))).push (seqObj "list" vs.toArray 0)=hp at hL kp v8 ⊢;have so:∀(A:Around) (E:Value->Shared->Prop) (P:Fin->Shared->Prop),A.units<cLine->(∀out:List Value,out.Perm vs->out.Pairwise (fun x y=>G (W9 x) (W9 y))->P (.done (.ret .none)) { s with heap:=sortedHeap hp (s.heap.objs.size+1) vs out.toArray })->wpAny (model X.prog X.w) A (Builtin.«list.sort» ⟨[.ref (s.heap.objs.size+1)],[]⟩) P E { s with heap:=hp }:=fun A E P hA h =>
  have mono:∀h2:Heap,(∀b ob,b≠s.heap.objs.size+1->hp.get? b=some ob->h2.get? b=some ob)->∀v∈vs,Pv h2 v:=fun h2 k v hv=>pm (fun b ob c hb=>k b ob (fun z=>by
   have:=Heap.lt_size hb;rw [z] at this;exact absurd this (Nat.not_lt.mpr (Nat.le_succ _))) (kp b ob hb)) (tx v hv)
  Zvu (s:={ s with heap:=hp }) (kd:=tuples' true) (G:=fun x y=>G (W9 x) (W9 y)) hL T1 (fun l2 h2 k=>⟨fun Q q=>pk (s:={ s with heap:=h2 }) (mono h2 k) l2 q,pa (s:={ s with heap:=h2 }) hA (mono h2 k)⟩) h
 exact wpAny_bind (wpAny_holding (wpAny_call_entry slot_list_sort ⟨_,hL,rfl⟩ entry_list_sort (so _ _ _ (by simp only [Y7];lia) fun out Q4 hw=>⟨_,rfl,wpAny_pure ⟨_,rfl,v8 out Q4 hw⟩⟩) (args_list_sort _)))
theorem Zmx.up{h h':Heap}{v:Value} (k:∀b ob,ob.cls=.type "tuple" ->h.get? b=some ob->h'.get? b=some ob) (x:Zmx h v):Zmx h' v:=let ⟨b,ob,y,ys,m,e,f,c,d,r⟩:=x;⟨b,ob,y,ys,m,e,k b ob c f,c,d,r⟩
theorem Zt1{ks:List Str}{vs:List Value}(h:StrsAre vs ks):∀y∈vs,∃p t,y=Value.str p t:=by
 induction h with
 | nil=>intro y hy;cases hy
 | cons x t _ ih =>
  intro y hy;rcases List.mem_cons.mp hy with rfl|hy
  ·exact ⟨_,_,rfl⟩
  ·exact ih y hy
def Zus(K:Frag):List V->Hp->VK->Prop:=fun xs H Q=>∃(p:Addr) (ts:List Addr),xs=[.ref p]/\SqL K H p (ts.map V.ref)/\(∀t∈ts,∃(x:Str) (l:List Str),H t=some (.tup ((x ::l).map V.str)))/\∀y4:List Addr,y4.Perm ts->New H (.lst (y4.map V.ref)) Q
theorem Zo6{X:Cx}(hu:X.A.units+64<cLine):Xj X (.builtin "sorted") (Zus X.K):=by
 intro a6 s σ H xs us Q I r h;obtain ⟨p,ts,rfl,hp,hf,q⟩:=h;obtain ⟨u,rfl,rx⟩:=Zci r;cases rx;obtain ⟨a7,rv,pl,hz⟩:=I.list hp;have x0:=Zc1 rv;subst x0;have T1:(ts.map Value.ref).length<=sizeLine:=by rw [List.length_map] at hz ⊢;exact hz
 have tx:∀v∈ts.map Value.ref,Zmx s.heap v:=fun v hv=>by
  obtain ⟨t,ht,rfl⟩:=List.mem_map.mp hv;obtain ⟨x,l,h1⟩:=hf t ht;obtain ⟨_,a7,rl,o2,f1,f2,m,f3⟩:=(show Yi X.prog X.w H s.heap t (.tup ((x ::l).map V.str)) from I.hok _ _ h1)
  cases rl with
  | cons z zs =>
   obtain ⟨tk,rfl⟩:=z;refine ⟨t,o2,_,_,m,rfl,f1,f2,f3,fun y hy=>?_⟩;rcases List.mem_cons.mp hy with rfl|hy
   ·exact ⟨_,_,rfl⟩
   ·exact Zt1 (Zf4 zs) y hy
 exact Zi4 (G:=fun _ _=>True) hu I pl T1 tx Zmx.up Zrv (fun hA h=>((fun _=>Zut) hA h).ord) fun y4 hp _=>q y4 hp
end L2
end
section
namespace L2
open PySem PySem.Spec PyProof.Rows
def Zof(K:Frag):R2:=fun x y H Q=>∃(p l:Addr) (xs:List V) (ss:List Str),x=.ref l/\y=.ref p/\SqL K H p (ss.map V.str)/\SqT K H l xs/\Q (.bl true) H
theorem Zpk{X:Cx}(hu:X.A.units+64<cLine):OpR X (compareOp .NotIn) (Zof X.K):=by
 intro a6 s σ H x y v u Q I rx ry h;obtain ⟨p,l,xs,ss,rfl,rfl,hq,hl,q⟩:=h;cases ry;cases rx;obtain ⟨a7,r,pl,hz⟩:=I.list hq;obtain ⟨its',r',pl',hz'⟩:=I.tuple hl;have hS:=Zf4 r;refine SeqAt.notIn_listAt (fun _=>false) pl.isList (fun w hw=>?_) ⟨.bl _,H,I,rfl,?_⟩
 ·have hw:w∈a7:=by simpa using hw
  have all:∀{ss:List Str} {a7:List Value},StrsAre a7 ss->∀w∈a7,∃x t,w=.str x t:=fun h=>by
   induction h with
   | nil=>intro w hw;cases hw
   | cons x t _ ih =>
    intro w hw;rcases List.mem_cons.mp hw with z|z
    ·exact ⟨_,_,z⟩
    ·exact ih w z
  obtain ⟨x,t,rfl⟩:=all hS w hw;exact SeqAt.EqAt.str_tuple x t pl' (by rw [Y7];lia)
 ·rw [show a7.toArray.any (fun _=>false)=false by simp];exact q
def Zme(K:Frag):R2:=fun x y H Q=>Zrg K x y H Q\/Zof K x y H Q
theorem Zxu{X:Cx}{k:Nat}(hr:X0 k X.A):OpR X (compareOp .NotIn) (Zme X.K):=(Zxk hr).or (Zpk hr.units)
end L2
end
section
namespace L2
open PySem PySem.Spec PyProof.Rows
section
variable {α:Type} [DecidableEq α] {lt:α->α->Bool}
structure Lin(lt:α->α->Bool):Prop where
 asym:∀a b,lt a b=true->lt b a=false
 neg:∀a b c,lt a c=true->lt a b=true\/lt b c=true
 one:∀a b,lt a b=false->lt b a=false->a=b
theorem Wk{a b:α}{x y:List α}(h:a≠b):Zca lt (a ::x) (b ::y)=lt a b:=if_neg h
theorem Zcp{a:α}{x y:List α}:Zca lt (a ::x) (a ::y)=Zca lt x y:=if_pos rfl
theorem Lin.lex(L:Lin lt):Lin (Zca lt) where
 asym:=by
  intro a
  induction a with
  | nil=>intro b h;cases b <;>first | rfl | exact absurd h (by decide)
  | cons a x ih =>
   intro b h;cases b with
   | nil=>exact absurd h (by decide:¬false=true)
   | cons b y =>
    by_cases e:a=b
    ·subst e;rw [Zcp] at h ⊢;exact ih y h
    ·rw [Wk e] at h;rw [Wk (Ne.symm e)];exact L.asym _ _ h
 neg:=by
  intro a
  induction a with
  | nil =>
   intro b c h;cases c with
   | nil=>exact absurd h (by decide:¬false=true)
   | cons c z =>
    cases b with
    | nil=>exact .inr rfl
    | cons b y=>exact .inl rfl
  | cons a x ih =>
   intro b c h;cases c with
   | nil=>exact absurd h (by decide:¬false=true)
   | cons c z =>
    cases b with
    | nil=>exact .inr rfl
    | cons b y =>
     by_cases e:a=c
     ·subst e;rw [Zcp] at h
      by_cases f:a=b
      ·subst f;rw [Zcp,Zcp];exact ih y z h
      ·rw [Wk f,Wk (Ne.symm f)];cases g:lt a b with
       | true=>exact .inl rfl
       | false=>cases g2:lt b a with
        | true=>exact .inr rfl
        | false=>exact absurd (L.one _ _ g g2) f
     ·rw [Wk e] at h
      by_cases f:a=b
      ·subst f;rw [Wk e];exact .inr h
      ·rw [Wk f]
       by_cases f2:b=c
       ·subst f2;exact .inl h
       ·rw [Wk f2];exact L.neg a b c h
 one:=by
  intro a
  induction a with
  | nil=>intro b h h2;cases b <;>first | rfl | exact absurd h (by decide:¬true=false)
  | cons a x ih =>
   intro b h h2;cases b with
   | nil=>exact absurd h2 (by decide:¬true=false)
   | cons b y =>
    by_cases e:a=b
    ·subst e;rw [Zcp] at h h2;rw [ih y h h2]
    ·rw [Wk e] at h;rw [Wk (Ne.symm e)] at h2;exact absurd (L.one _ _ h h2) e
end
theorem Zx8:Lin ltT where
 asym a b h:=(strKind.toKeyOrd).klt_asymm (a:=a.cps.toList) (b:=b.cps.toList) h
 neg a b c h:=strKind.negTrans a.cps.toList b.cps.toList c.cps.toList h
 one a b h h2:=by
  have:=strKind.total a.cps.toList b.cps.toList h h2;cases a;cases b;congr 1;exact Array.toList_inj.mp this
abbrev Ks:=List (List Str)
def ltK:Ks->Ks->Bool:=Zca (Zca ltT)
theorem Zmi:Lin ltK:=Zx8.lex.lex
def leK(a b:Ks):Prop:=ltK b a=false
theorem leK.trans{a b c:Ks}(h:leK a b)(h2:leK b c):leK a c:=by
 unfold leK at *;cases g:ltK c a with
 | false=>rfl
 | true =>
  rcases Zmi.neg c b a g with z|z
  ·rw [h2] at z;cases z
  ·rw [h] at z;cases z
theorem Zu9:∀{x y:List Ks},x.Perm y->x.Pairwise leK->y.Pairwise leK->x=y
 | [],y,p,_,_=>(List.nil_perm.mp p).symm
 | a ::x,[],p,_,_=>absurd p.length_eq (by simp)
 | a ::x,b ::y,p,h,h2=>by
  have e:a=b:=by
   rcases List.mem_cons.mp (p.subset List.mem_cons_self) with z|z
   ·exact z
   rcases List.mem_cons.mp (p.symm.subset List.mem_cons_self) with z2|z2
   ·exact z2.symm
   exact Zmi.one _ _ ((List.pairwise_cons.mp h2).1 a z) ((List.pairwise_cons.mp h).1 b z2)
  subst e;rw [Zu9 (List.perm_cons a |>.mp p) (List.pairwise_cons.mp h).2 (List.pairwise_cons.mp h2).2]
section
variable {prog:Program} {w:World} {A:Around} {E:Value->Shared->Prop} {s:Shared}
def Zez(prog:Program)(w:World)(h:Heap):List Value->Ks->Prop:=Paired fun y ks=>∃b,y=Value.ref b/\IsTupleKey (PySem.strKind prog w) h ks b
def RtD(prog:Program)(w:World)(h:Heap)(p:Str)(v:Value)(ks:Ks):Prop:=∃(a:Addr) (ob:Obj) (t:Tok) (xs:List Value) (n:Nat),v=.ref a/\h.get? a=some ob/\ob.cls=.type "tuple" /\ob.data=.seq (.str p t ::xs).toArray n/\Zez prog w h xs ks
theorem RtD.rt{h:Heap}{p:Str}{v:Value}{ks:Ks}(x:RtD prog w h p v ks):RtV prog w h v:=by
 obtain ⟨a,ob,t,xs,n,e,f,c,d,r⟩:=x;refine ⟨a,ob,p,t,xs,n,e,f,c,d,fun y hy=>?_⟩;obtain ⟨i,hi⟩:=List.getElem?_of_mem hy;obtain ⟨k,_,b,e2,hb⟩:=Paired.get r hi;exact ⟨b,k,e2,hb⟩
theorem RtD.mono{h h':Heap}{p:Str}{v:Value}{ks:Ks} (k:∀b ob,ob.cls=.type "tuple" ->h.get? b=some ob->h'.get? b=some ob) (x:RtD prog w h p v ks):RtD prog w h' p v ks:=by
 obtain ⟨a,ob,t,xs,n,e,f,c,d,r⟩:=x;exact ⟨a,ob,t,xs,n,e,k a ob c f,c,d,Paired.mapP r fun y ks ⟨b,e2,o,a7,m,h1,h2,h3⟩=>⟨b,e2,o,a7,m,k b o h2 h1,h2,h3⟩⟩
theorem Yay{v8:Bool}{Q:Bool->Shared->Prop}(hu:A.units<cLine){us vs:List Value}{x y:Ks}(i:Nat)(h:Zez prog w s.heap us x)(h2:Zez prog w s.heap vs y)(e:v8=decide (us.length<vs.length))(q:Q (ltK x y) s):PySem.W.KatLex prog w A true v8 Q (us.zip vs) (i+1) s:=by
 unfold Zez at h
 induction h generalizing vs y i with
 | nil=>cases h2 <;>exact PySem.W.kat_nil (by rw [e];exact q)
 | cons h1 hs ih =>
  cases h2 with
  | nil=>exact PySem.W.kat_nil (by rw [e];exact q)
  | cons h3 hs2 =>
   obtain ⟨b,rfl,k1⟩:=h1;obtain ⟨c,rfl,k2⟩:=h3;refine PySem.W.kat_cons (wpAny_eqBool_tuple hu k1 k2 (PySem.W.kat_go (fun z=>PySem.W.kat_yes ?_) fun z=>PySem.W.kat_no (show wpAny _ _ (oneLt' false (.ref b) (.ref c)) _ _ _ from Zth hu k1 k2 ?_)))
   ·cases of_decide_eq_true z;refine ih (i+1) hs2 (by rw [e,List.length_cons,List.length_cons];simp) ?_;unfold ltK at q ⊢;rwa [Zcp] at q
   ·unfold ltK at q;rwa [Wk (of_decide_eq_false z)] at q
theorem Zx7{vs:List Value}{p:Str}{f:Value->Ks}(hu:A.units<cLine)(h:∀v∈vs,RtD prog w s.heap p v (f v)):Znc prog w A s (tuples' true) (pairsOf vs) (fun x y=>leK (f x.1) (f y.1)):=by
 refine ⟨fun x y z h h2=>h.trans h2,fun x hx y hy E' Q' q=>?_⟩;have mem:∀x∈pairsOf vs,RtD prog w s.heap p x.1 (f x.1):=fun x hx=>by
  rw [<-Array.mem_toList_iff,pairsOf_toList] at hx;exact h _ (List.of_mem_zip hx).1
 have q:Q' (ltK (f x.1) (f y.1)) s:=q _ (by
  cases g:ltK (f x.1) (f y.1) with
  | true=>exact Zmi.asym _ _ g
  | false=>exact g)
 revert q;have mx:=mem x hx;have my:=mem y hy;generalize f x.1=kx at mx;generalize f y.1=ky at my;intro q;obtain ⟨a,oa,t,us,n,ea,ga,ca,da,ra⟩:=mx;obtain ⟨b,ob,t',vs,m,eb,gb,cb,db,rb⟩:=my;rw [ea,eb];refine PySem.W.kat_lt ga da gb db ?_;refine PySem.W.kat_cons (wpAny_eqBool_str (PySem.W.kat_go (fun _=>PySem.W.kat_yes (Yay hu 0 ra rb ?_ q)) fun z=>absurd rfl (of_decide_eq_false z)));simp
end
def Zu8(K:Frag):List V->Hp->VK->Prop:=fun xs H Q=>∃(p:Addr) (ts:List Addr) (sig:Str) (f:Addr->Ks),xs=[.ref p]/\SqL K H p (ts.map V.ref)/\(∀t∈ts,∃us:List Addr,H t=some (.tup (.str sig ::us.map V.ref))/\Paired (fun u l=>H u=some (.tup (l.map V.str))) us (f t))/\∀y4:List Addr,y4.Perm ts->y4.Pairwise (fun a b=>leK (f a) (f b))->New H (.lst (y4.map V.ref)) Q
theorem Zp8{prog:Program}{w:World}{H:Hp}{h:Heap}(ok:HOk prog w H h):∀{us:List Addr} {ks:Ks},Paired (fun u l=>H u=some (.tup (l.map V.str))) us ks->Zez prog w h (us.map Value.ref) ks
 | _,_,.nil=>.nil
 | u ::_,l ::_,.cons e r=>.cons (by
  obtain ⟨_,ws,D1,o3,g1,g2,m3,g3⟩:=(show Yi prog w H h u (.tup (l.map V.str)) from ok _ _ e)
  exact ⟨u,rfl,o3,ws.toArray,m3,g1,g2,g3,by simpa using Znw (Zf4 D1)⟩) (Zp8 ok r)
theorem Zqg{X:Cx}(hu:X.A.units+64<cLine):Xj X (.builtin "sorted") (Zu8 X.K):=by
 intro a6 s σ H xs us Q I r h;obtain ⟨p,ts,sig,f,rfl,hp,hf,q⟩:=h;obtain ⟨u,rfl,rx⟩:=Zci r;cases rx;obtain ⟨a7,rv,pl,hz⟩:=I.list hp;have x0:=Zc1 rv;subst x0;have T1:(ts.map Value.ref).length<=sizeLine:=by rw [List.length_map] at hz ⊢;exact hz
 have tx:∀v∈ts.map Value.ref,RtD X.prog X.w s.heap sig v (f (W9 v)):=fun v hv=>by
  obtain ⟨t,ht,rfl⟩:=List.mem_map.mp hv;obtain ⟨us,h1,h2⟩:=hf t ht;obtain ⟨_,a7,rl,o2,f1,f2,m,f3⟩:=(show Yi X.prog X.w H s.heap t (.tup (.str sig ::us.map V.ref)) from I.hok _ _ h1)
  cases rl with
  | cons z zs =>
   obtain ⟨tk,rfl⟩:=z;have x0:=Zc1 zs;subst x0;refine ⟨t,o2,tk,_,m,rfl,f1,f2,f3,?_⟩;exact Zp8 I.hok h2
 exact Zi4 (Pv:=fun h v=>RtD X.prog X.w h sig v (f (W9 v))) (G:=fun a b=>leK (f a) (f b)) hu I pl T1 tx (fun k x=>x.mono k) (fun h l q=>Ztz (fun v hv=>(h v hv).rt) l q) (fun hA h=>Zx7 (f:=fun v=>f (W9 v)) hA h) q
end L2
end
section
namespace L2
open PySem PySem.Spec PyProof.Rows
section
variable {prog:Program} {w:World} {A:Around} {E:Value->Shared->Prop} {s:Shared}
theorem RtD.typeIs{p:Str}{a:Addr}{ks:Ks}(h:RtD prog w s.heap p (.ref a) ks):s.TypeIs (.ref a) "tuple" :=by
 obtain ⟨a',ob,t,xs,n,e,f,c,d,r⟩:=h;cases e;exact ⟨ob,f,c⟩
theorem Zqd{p:Str}{x y:Ks}{a b:Addr}{P:Fin->Shared->Prop}(hu:A.units+8<cLine)(hx:RtD prog w s.heap p (.ref a) x)(hy:RtD prog w s.heap p (.ref b) y)(h:P (.done (.ret (.bool (ltK x y)))) s) :
  wpAny (model prog w) A (Builtin.«tuple.__lt__» ⟨[.ref a,.ref b],[]⟩) P E s:=by
 have hTb:=hy.typeIs;obtain ⟨_,oa,ta,us,na,e1,hoa,_,hda,hia⟩:=hx;obtain ⟨_,ob,tb,vs,nb,e2,E6,_,N7,hib⟩:=hy;cases e1;cases e2;show wpAny _ _ (isInstance (.ref b) (.type "tuple") >>=_) _ _ s;refine wpAny_bind (wpAny_isInstance hTb isSubtype_tuple_tuple ?_);simp only [Bool.not_true,Bool.false_eq_true,if_false];refine wpAny_bind (wpAny_tupleItemsOf hoa hda (wpAny_bind (wpAny_tupleItemsOf E6 N7 (wpAny_bind ?_))));refine wpAny_forIn_list _ (fun Zx r s'=>r.1=none/\s'=s/\(Zx=(.str p ta,.str p tb) ::us.zip vs\/∃x' y' N8 C6,Zx=List.zip N8 C6/\Zez prog w s.heap N8 x'/\Zez prog w s.heap C6 y'/\ltK x' y'=ltK x y/\decide (N8.length<C6.length)=decide (us.length<vs.length))) _ ?_ ?_ _ _ ⟨rfl,rfl,.inl rfl⟩
 ·rintro ⟨u,v⟩ Zx r s' ⟨hr,rfl,hz|⟨x',y',N8,C6,hz,hx',K0,C9,d6⟩⟩
  ·simp only [List.cons.injEq,Prod.mk.injEq] at hz;obtain ⟨⟨rfl,rfl⟩,rfl⟩:=hz;refine wpAny_bind (wpAny_eqBool_str ?_);rw [decide_eq_true rfl];simp only [Bool.not_true,Bool.false_eq_true,if_false];exact wpAny_pure ⟨rfl,rfl,.inr ⟨_,_,_,_,rfl,hia,hib,rfl,rfl⟩⟩
  ·cases hx' with
   | nil=>simp at hz
   | @cons _ l1 _ _ k1 hx'' =>
    cases K0 with
    | nil=>simp at hz
    | @cons _ l2 _ _ k2 hy'' =>
     simp only [List.zip_cons_cons,List.cons.injEq,Prod.mk.injEq] at hz;obtain ⟨⟨rfl,rfl⟩,rfl⟩:=hz;obtain ⟨b1,rfl,k1⟩:=k1;obtain ⟨b2,rfl,k2⟩:=k2;refine wpAny_bind (wpAny_eqBool_tuple (by lia) k1 k2 ?_)
     by_cases hk:l1=l2
     ·rw [decide_eq_true hk];simp only [Bool.not_true,Bool.false_eq_true,if_false];refine wpAny_pure ⟨rfl,rfl,.inr ⟨_,_,_,_,rfl,hx'',hy'',?_,by simpa using d6⟩⟩;rw [<-C9,hk];exact Zcp.symm
     ·rw [decide_eq_false hk];simp only [Bool.not_false,if_true];have hf:Zca ltT l1 l2=ltK x y:=by rw [<-C9];exact (Wk hk).symm
      rw [<-hf] at h;refine wpAny_bind (wpAny_rule (wpAny_bind (wpAny_richCompare_same_room (op:=.Lt) k1.typeIs k2.typeIs PySem.F.slot_tuple_lt (wpAny_call_entry PySem.F.slot_tuple_lt k1.typeIs PySem.F.entry_tuple_lt (Zej k1 k2 ⟨_,rfl,(fun e=>nomatch e),?_⟩) (PySem.F.args_tuple_lt_2 _ _)) (by lia))));exact wpAny_bind (wpAny_pure (wpAny_pure (wpAny_pure h)))
 ·rintro ⟨r1,r2⟩ s' ⟨hr,rfl,hz|⟨x',y',N8,C6,hz,hx',K0,C9,d6⟩⟩
  ·cases hz
  simp only at hr;subst hr;refine wpAny_pure ?_;have hfin:decide (us.length<vs.length)=ltK x y:=by
   rw [<-C9,<-d6];cases hx' with
   | nil =>
    cases K0 with
    | nil=>simp [ltK,Zca]
    | cons _ _=>simp [ltK,Zca]
   | cons _ _ =>
    cases K0 with
    | nil=>simp [ltK,Zca]
    | cons _ _=>simp at hz
  show P (.done (.ret (.bool (decide ((Value.str p ta ::us).toArray.size<(Value.str p tb ::vs).toArray.size))))) s';rw [show decide ((Value.str p ta ::us).toArray.size<(Value.str p tb ::vs).toArray.size)=decide (us.length<vs.length) by simp,hfin];exact h
end
def Ycw:R2:=fun x y H Q=>∃(a b:Addr) (sig:Str) (us vs:List Addr) (ks ms:Ks),x=.ref a/\y=.ref b/\H a=some (.tup (.str sig ::us.map V.ref))/\H b=some (.tup (.str sig ::vs.map V.ref))/\Paired (fun u l=>H u=some (.tup (l.map V.str))) us ks/\Paired (fun u l=>H u=some (.tup (l.map V.str))) vs ms/\Q (.bl (ltK ks ms)) H
theorem Zt9{prog:Program}{w:World}{H:Hp}{h:Heap}(ok:HOk prog w H h){a:Addr}{sig:Str}{us:List Addr}{ks:Ks}(h1:H a=some (.tup (.str sig ::us.map V.ref)))(h2:Paired (fun u l=>H u=some (.tup (l.map V.str))) us ks):RtD prog w h sig (.ref a) ks:=by
 obtain ⟨_,a7,rl,o2,f1,f2,m,f3⟩:=(show Yi prog w H h a (.tup (.str sig ::us.map V.ref)) from ok _ _ h1)
 cases rl with
 | cons z zs =>
  obtain ⟨tk,rfl⟩:=z;have x0:=Zc1 zs;subst x0;exact ⟨a,o2,tk,_,m,rfl,f1,f2,f3,Zp8 ok h2⟩
theorem Yaa{X:Cx}(hu:X.A.units+64<cLine):OpR X (compareOp .Lt) Ycw:=by
 intro a6 s σ H x y v u Q I rx ry h;obtain ⟨a,b,sig,us,vs,ks,ms,rfl,rfl,h1,h2,h3,h4,q⟩:=h;cases rx;cases ry;have d1:=Zt9 I.hok h1 h3;have d2:=Zt9 I.hok h2 h4;show wpAny _ _ (richCompare .Lt (.ref a) (.ref b)) _ _ s;exact wpAny_richCompare_same_room (op:=.Lt) d1.typeIs d2.typeIs PySem.F.slot_tuple_lt (wpAny_call_entry PySem.F.slot_tuple_lt d1.typeIs PySem.F.entry_tuple_lt (Zqd (by simp only [Y7];lia) d1 d2 ⟨_,rfl,(fun e=>nomatch e),Yl I q rfl⟩) (PySem.F.args_tuple_lt_2 _ _)) (by lia)
end L2
end
section
namespace YM
open PySem L2 NM
def Zeh(c k:Int):Int:=((c+7919 * k) * 48271%2147483647) * ((c+7919 * k) * 48271%2147483647+2 * k+1)%2147483629
theorem Zvo(c k:Int):0<=Zeh c k:=Int.emod_nonneg _ (by decide)
theorem Zti(c k:Int):Zeh c k<2147483629:=Int.emod_lt_of_pos _ (by decide)
def Zim(ns:List Int)(k:Nat):Int:=match ns[k]? with
 | some c=>Zeh c k
 | none=>0
abbrev Zc:=Str×Str
def Z6(k:Str):List Str:=if k = "points" then ["stem", "left", "right"] else if k = "cross" then ["a", "b", "c", "d"] else if k = "plain" then ["a", "b"] else ["a"]
def Zck(i:Int):Nat:=Zfx.getD i.toNat 0
def Zec(k:Nat):Str:=toString (k:Int)
def Yk(kind:Str)(c:Int)(k:Nat):Str:=if c%3=0 then ⟨#[kind.cps.toList.getD 0 0]⟩++Zec k else (⟨#[Zck (c / 3%26)]⟩++⟨#[Zck (c / 78%26)]⟩)++Zgf "0" (c / 2028%3).toNat++Zec k
theorem Zfy:∀k,k<100->(Zec k).length<=2:=by trivial
theorem Zmd{k:Nat}(h:k<100):(k:Int).natAbs.log2<1920:=by
 rw [Int.natAbs_natCast];refine Nat.lt_of_le_of_lt (Nat.log2_le_self k) (by lia)
def Zeg(a c:Nat):Nat:=if 48<=c/\c<=57 then a * 10+(c-48) else 0
def Zhm(s:Str):Nat:=s.cps.toList.foldl Zeg 0
theorem Zm7:∀k,k<100->Zhm (Zec k)=k:=by trivial
theorem Zfj:∀k,k<100->0<(Zec k).length:=by trivial
theorem Zu2:∀m,m<3->(Zgf "0" m).cps.toList.foldl Zeg 0=0:=by trivial
theorem Zui:∀m,m<3->(Zgf "0" m).length=m:=by trivial
theorem Zwl:∀i,i<26->97<=Zfx.getD i 0/\Zfx.getD i 0<=122:=by trivial
theorem Zk4{i:Int}(h0:0<=i)(h1:i<26):97<=Zck i/\Zck i<=122:=Zwl i.toNat (by lia)
theorem Zah(x y:Str):(x++y).cps.toList=x.cps.toList++y.cps.toList:=PySem.W.KT.app_list x y
theorem Zbc{kind:Str}{c:Int}{k:Nat}(hk:57<kind.cps.toList.getD 0 0)(h:k<100):Zhm (Yk kind c k)=k:=by
 have hbig:∀a c,57<c->Zeg a c=0:=fun a c h=>by unfold Zeg;rw [if_neg (by lia)]
 unfold Yk;split
 ·unfold Zhm;rw [Zah,List.foldl_append];show List.foldl Zeg (Zeg 0 (kind.cps.toList.getD 0 0)) _=k;rw [hbig _ _ hk];exact Zm7 k h
 ·have a0:=Int.emod_nonneg (c / 3) (show (26:Int)≠0 by decide);have a1:=Int.emod_lt_of_pos (c / 3) (show (0:Int)<26 by decide);have b0:=Int.emod_nonneg (c / 78) (show (26:Int)≠0 by decide);have b1:=Int.emod_lt_of_pos (c / 78) (show (0:Int)<26 by decide);have z0:=Int.emod_nonneg (c / 2028) (show (3:Int)≠0 by decide);have z1:=Int.emod_lt_of_pos (c / 2028) (show (0:Int)<3 by decide);unfold Zhm;rw [Zah,Zah,Zah,List.foldl_append,List.foldl_append,List.foldl_append];show List.foldl Zeg (List.foldl Zeg (Zeg (Zeg 0 (Zck (c / 3%26))) (Zck (c / 78%26))) _) _=k;rw [hbig _ (Zck (c / 78%26)) (by have:=Zk4 b0 b1;lia),Zu2 _ (by lia)];exact Zm7 k h
theorem Za8{kind:Str}{c:Int}{k:Nat}(h:k<100):2<=(Yk kind c k).length:=by
 have:=Zfj k h;unfold Yk;split
 ·rw [PySem.Str.length_append];show 2<=1+_;lia
 ·rw [PySem.Str.length_append,PySem.Str.length_append,PySem.Str.length_append];show 2<=1+1+_+_;lia
theorem Zsz{kind:Str}{c:Int}{k:Nat}(h:k<100):(Yk kind c k).length<=6:=by
 have:=Zfy k h;unfold Yk;split
 ·rw [PySem.Str.length_append];show 1+_<=6;lia
 ·have z0:=Int.emod_nonneg (c / 2028) (show (3:Int)≠0 by decide);have z1:=Int.emod_lt_of_pos (c / 2028) (show (0:Int)<3 by decide);rw [PySem.Str.length_append,PySem.Str.length_append,PySem.Str.length_append,Zui _ (by lia)];show 1+1+_+_<=6;lia
def Z7(ps:List Zc):List Zc:=ps.flatMap fun p=>(Z6 p.1).map fun e=>(p.2,e)
def Yq(js:List (Zc×Zc)):List Zc:=js.flatMap fun j=>[j.1,j.2]
theorem Zex(a b:List Zc):Z7 (a++b)=Z7 a++Z7 b:=List.flatMap_append ..
theorem Za7(a b:List (Zc×Zc)):Yq (a++b)=Yq a++Yq b:=List.flatMap_append ..
def Xn:List Str:=["plain", "points", "cross", "gate", "stop"]
structure Net(ps:List Zc)(js:List (Zc×Zc))(opn:List Zc):Prop where
 perm:(Yq js++opn).Perm (Z7 ps)
 nd:(ps.map Prod.snd).Nodup
 apart:∀j∈js,j.1.1≠j.2.1
 kind:∀p∈ps,p.1∈Xn
inductive Wz(n1 n2 n3 n4:Str):List Zc->List (Zc×Zc)->Zc->Zc->Prop
 | plain (a b:Str) (h:(a,b)∈[(("a" :Str),("b" :Str)),("b", "a")]):Wz n1 n2 n3 n4 [("plain",n1)] [] (n1,a) (n1,b)
 | loop (a b:Str) (h:(a,b)∈[(("left" :Str),("right" :Str)),("right", "left")]):Wz n1 n2 n3 n4 [("points",n1),("plain",n2),("plain",n3),("points",n4)] [((n1, "left"),(n2, "a")),((n1, "right"),(n3, "a")),((n2, "b"),(n4,a)),((n4,b),(n3, "b"))] (n1, "stem") (n4, "stem")
 | siding (x a b k:Str) (h:[x,a,b].Perm ["stem", "left", "right"]) (hk:k∈[("stop" :Str), "gate"]):Wz n1 n2 n3 n4 [("points",n1),("plain",n2),(k,n3)] [((n1,x),(n2, "b")),((n2, "a"),(n3, "a"))] (n1,a) (n1,b)
 | cross (k:Str) (hk:k∈[("gate" :Str), "stop"]):Wz n1 n2 n3 n4 [("cross",n1),("gate",n2),(k,n3)] [((n1, "c"),(n2, "a")),((n3, "a"),(n1, "d"))] (n1, "a") (n1, "b")
theorem Zh4{α:Type}{d:α}{l m:List α}(is:List Nat)(h:is.Perm (List.range m.length))(e:l=is.map fun i=>m.getD i d):l.Perm m:=by
 have h2:((List.range m.length).map fun i=>m.getD i d)=m:=by
  apply List.ext_getElem
  ·simp
  ·intro i h1 h3;simp [List.getD_eq_getElem?_getD,h3]
 rw [e];exact (h.map _).trans (by rw [h2])
theorem Wz.sub{n1 n2 n3 n4:Str}{ps:List Zc}{js:List (Zc×Zc)}{a b:Zc}(h:Wz n1 n2 n3 n4 ps js a b):(ps.map Prod.snd).Sublist [n1,n2,n3,n4]:=by
 cases h with
 | plain=>exact .cons_cons _ (List.nil_sublist _)
 | loop=>exact List.Sublist.refl _
 | siding=>exact .cons_cons _ (.cons_cons _ (.cons_cons _ (List.nil_sublist _)))
 | cross=>exact .cons_cons _ (.cons_cons _ (.cons_cons _ (List.nil_sublist _)))
theorem Zd5{k:Str} (hk:k = "gate" \/k = "stop"):Z6 k=[("a" :Str)]:=by rcases hk with rfl|rfl <;>decide +kernel
theorem Zg8:Z6 "points" =[("stem" :Str), "left", "right"]:=by trivial
theorem Zc3:Z6 "plain" =[("a" :Str), "b"]:=by trivial
theorem Zp7:Z6 "cross" =[("a" :Str), "b", "c", "d"]:=by trivial
theorem Wz.perm{n1 n2 n3 n4:Str}{ps:List Zc}{js:List (Zc×Zc)}{a b:Zc}(h:Wz n1 n2 n3 n4 ps js a b):(Yq js++[a,b]).Perm (Z7 ps):=by
 cases h with
 | plain a b h =>
  simp only [List.mem_cons,List.mem_nil_iff,or_false,Prod.mk.injEq] at h;rcases h with ⟨rfl,rfl⟩|⟨rfl,rfl⟩
  ·simp [Yq,Z7,Zc3]
  ·simp only [Yq,Z7,Zc3,List.flatMap_nil,List.flatMap_cons,List.map_cons,List.map_nil,List.nil_append,List.append_nil];exact List.Perm.swap _ _ _
 | loop a b h =>
  have he:Z7 [("points",n1),("plain",n2),("plain",n3),("points",n4)]=([(n1, "stem"),(n1, "left"),(n1, "right"),(n2, "a"),(n2, "b"),(n3, "a"),(n3, "b"),(n4, "stem"),(n4, "left"),(n4, "right")]:List Zc):=by simp [Z7,Zg8,Zc3]
  rw [he];simp only [List.mem_cons,List.mem_nil_iff,or_false,Prod.mk.injEq] at h;rcases h with ⟨rfl,rfl⟩|⟨rfl,rfl⟩
  ·exact Zh4 (d:=(n1,n1)) [1,3,2,5,4,8,9,6,0,7] (show List.Perm _ (List.range 10) by decide) rfl
  ·exact Zh4 (d:=(n1,n1)) [1,3,2,5,4,9,8,6,0,7] (show List.Perm _ (List.range 10) by decide) rfl
 | siding x a b k h hk =>
  have hk':k = "gate" \/k = "stop" :=by
   simp only [List.mem_cons,List.mem_nil_iff,or_false] at hk;exact hk.symm
  have he:Z7 [("points",n1),("plain",n2),(k,n3)]=([("stem" :Str), "left", "right"].map fun e=>(n1,e))++([(n2, "a"),(n2, "b"),(n3, "a")]:List Zc):=by simp [Z7,Zg8,Zc3,Zd5 hk']
  rw [he];refine List.Perm.trans ?_ (List.Perm.append_right _ (h.map fun e=>(n1,e)));exact Zh4 (d:=(n1,n1)) [0,4,3,5,1,2] (show List.Perm _ (List.range 6) by decide) rfl
 | cross k hk =>
  have hk':k = "gate" \/k = "stop" :=by
   simp only [List.mem_cons,List.mem_nil_iff,or_false] at hk;exact hk
  have he:Z7 [("cross",n1),("gate",n2),(k,n3)]=([(n1, "a"),(n1, "b"),(n1, "c"),(n1, "d"),(n2, "a"),(n3, "a")]:List Zc):=by simp [Z7,Zp7,Zd5 hk',Zd5 (k := "gate") (.inl rfl)]
  rw [he];exact Zh4 (d:=(n1,n1)) [2,4,5,3,0,1] (show List.Perm _ (List.range 6) by decide) rfl
theorem Wz.kind{n1 n2 n3 n4:Str}{ps:List Zc}{js:List (Zc×Zc)}{a b:Zc}(h:Wz n1 n2 n3 n4 ps js a b):∀p∈ps,p.1∈Xn:=by
 cases h with
 | plain=>intro p hp;simp at hp;subst hp;simp [Xn]
 | loop=>intro p hp;simp at hp;rcases hp with rfl|rfl|rfl|rfl <;>simp [Xn]
 | siding x a b k h hk=>intro p hp;simp at hp hk;rcases hp with rfl|rfl|rfl <;>rcases hk with rfl|rfl <;>simp [Xn]
 | cross k hk=>intro p hp;simp at hp hk;rcases hp with rfl|rfl|rfl <;>rcases hk with rfl|rfl <;>simp [Xn]
theorem Wz.apart{n1 n2 n3 n4:Str}{ps:List Zc}{js:List (Zc×Zc)}{a b:Zc}(h:Wz n1 n2 n3 n4 ps js a b)(nd:[n1,n2,n3,n4].Nodup):∀j∈js,j.1.1≠j.2.1:=by
 simp only [List.nodup_cons,List.mem_cons,List.mem_nil_iff,or_false,not_or,List.not_mem_nil,not_false_eq_true,List.nodup_nil,and_true] at nd;obtain ⟨⟨a1,a2,a3⟩,⟨b1,b2⟩,c1⟩:=nd;cases h with
 | plain=>intro j hj;cases hj
 | loop=>intro j hj;simp at hj;rcases hj with rfl|rfl|rfl|rfl <;>first|assumption|exact Ne.symm (by assumption)
 | siding x a b k h hk=>intro j hj;simp at hj;rcases hj with rfl|rfl <;>first|assumption|exact Ne.symm (by assumption)
 | cross k hk=>intro j hj;simp at hj;rcases hj with rfl|rfl <;>first|assumption|exact Ne.symm (by assumption)
theorem Wz.opens{n1 n2 n3 n4:Str}{ps:List Zc}{js:List (Zc×Zc)}{a b:Zc}(h:Wz n1 n2 n3 n4 ps js a b):a.1∈ps.map Prod.snd/\b.1∈ps.map Prod.snd:=by
 cases h <;>simp
theorem Zdx{ps:List Zc}{e:Zc}(h:e∈Z7 ps):e.1∈ps.map Prod.snd:=by
 obtain ⟨p,hp,he⟩:=List.mem_flatMap.mp h;obtain ⟨x,_,rfl⟩:=List.mem_map.mp he;exact List.mem_map.mpr ⟨p,hp,rfl⟩
theorem Net.more{ps:List Zc}{js:List (Zc×Zc)}{e:Zc}{n1 n2 n3 n4:Str}{qs:List Zc}{ks:List (Zc×Zc)}{a b:Zc}(h:Net ps js [e])(B:Wz n1 n2 n3 n4 qs ks a b)(nd:[n1,n2,n3,n4].Nodup)(new:∀n∈[n1,n2,n3,n4],n∉ps.map Prod.snd):Net (ps++qs) (js++ks++[(e,a)]) [b]:=by
 have he:e.1∈ps.map Prod.snd:=Zdx (h.perm.subset (by simp));have ha:a.1∉ps.map Prod.snd:=new _ (B.sub.subset B.opens.1);refine ⟨?_,?_,?_,?_⟩
 ·rw [Za7,Za7,Zex];refine List.Perm.trans ?_ (h.perm.append B.perm);show (Yq js++Yq ks++[e,a]++[b]).Perm ((Yq js++[e])++(Yq ks++[a,b]));rw [List.append_assoc,List.append_assoc,List.append_assoc];refine List.Perm.append_left _ ?_;show (Yq ks++([e]++[a,b])).Perm ([e]++(Yq ks++[a,b]));rw [<-List.append_assoc,<-List.append_assoc];exact List.Perm.append_right _ List.perm_append_comm
 ·rw [List.map_append,List.nodup_append];exact ⟨h.nd,List.Pairwise.sublist B.sub nd,fun x hx y hy z=>new y (B.sub.subset hy) (z ▸ hx)⟩
 ·intro j hj;rw [List.mem_append,List.mem_append] at hj;rcases hj with (z|z)|z
  ·exact h.apart j z
  ·exact B.apart nd j z
  ·simp at z;subst z;exact fun y=>ha (y ▸ he)
 ·intro p hp;rcases List.mem_append.mp hp with z|z
  ·exact h.kind p z
  ·exact B.kind p z
def Zlt(s:Str)(n:Nat):Prop:=∃kd c k,(96<kd.cps.toList.getD 0 0/\kd.cps.toList.getD 0 0<123)/\k<n/\s=Yk kd c k
theorem Wz.len{n1 n2 n3 n4:Str}{ps:List Zc}{js:List (Zc×Zc)}{a b:Zc}(h:Wz n1 n2 n3 n4 ps js a b):ps.length<=4/\js.length<=4:=by
 cases h <;>simp
structure Zc6(i:Nat)(ps:List Zc)(js:List (Zc×Zc))(F5:Zc):Prop where
 net:Net ps js [F5]
 pl:ps.length<=1+4 * i
 jl:js.length<=5 * i
 nm:∀p∈ps,p=((("gate" :Str),("g" :Str)):Zc)\/Zlt p.2 (4 * i)
theorem Zc6.start:Zc6 0 [("gate", "g")] [] ("g", "a"):=by
 refine ⟨⟨?_,by simp,by simp,by simp [Xn]⟩,by simp,by simp,by simp⟩;simp [Yq,Z7,Zd5 (k := "gate") (.inl rfl)]
theorem Zru{x s:Str}(hx:x.length=1)(h:2<=s.length):s≠x:=fun z=>by rw [z] at h;lia
theorem Zc6.more{i:Nat}{ps:List Zc}{js:List (Zc×Zc)}{F5:Zc}{k1 k2 k3 k4:Str}{c1 c2 c3 c4:Int}{qs:List Zc}{ks:List (Zc×Zc)}{a b:Zc}(h:Zc6 i ps js F5)(hi:i<20)
  (g1:96<k1.cps.toList.getD 0 0/\k1.cps.toList.getD 0 0<123) (g2:96<k2.cps.toList.getD 0 0/\k2.cps.toList.getD 0 0<123) (g3:96<k3.cps.toList.getD 0 0/\k3.cps.toList.getD 0 0<123) (g4:96<k4.cps.toList.getD 0 0/\k4.cps.toList.getD 0 0<123)
  (B:Wz (Yk k1 c1 (4 * i)) (Yk k2 c2 (4 * i+1)) (Yk k3 c3 (4 * i+2)) (Yk k4 c4 (4 * i+3)) qs ks a b):Zc6 (i+1) (ps++qs) (js++ks++[(F5,a)]) b:=by
 have v1:=Zbc (c:=c1) (Nat.lt_trans (by decide) g1.1) (show 4 * i<100 by lia);have v2:=Zbc (c:=c2) (Nat.lt_trans (by decide) g2.1) (show 4 * i+1<100 by lia);have v3:=Zbc (c:=c3) (Nat.lt_trans (by decide) g3.1) (show 4 * i+2<100 by lia);have v4:=Zbc (c:=c4) (Nat.lt_trans (by decide) g4.1) (show 4 * i+3<100 by lia);have ne:∀{x y:Str} {m n:Nat},Zhm x=m->Zhm y=n->m≠n->x≠y:=fun hx hy hn z=>hn (by rw [<-hx,<-hy,z])
 have nd:[Yk k1 c1 (4 * i),Yk k2 c2 (4 * i+1),Yk k3 c3 (4 * i+2),Yk k4 c4 (4 * i+3)].Nodup:=by
  simp [ne v1 v2 (by lia),ne v1 v3 (by lia),ne v1 v4 (by lia),ne v2 v3 (by lia),ne v2 v4 (by lia),ne v3 v4 (by lia)]
 have all:∀n∈[Yk k1 c1 (4 * i),Yk k2 c2 (4 * i+1),Yk k3 c3 (4 * i+2),Yk k4 c4 (4 * i+3)],4 * i<=Zhm n/\2<=n.length/\Zlt n (4 * (i+1)):=by
  intro n hn;simp only [List.mem_cons,List.mem_nil_iff,or_false] at hn;rcases hn with rfl|rfl|rfl|rfl
  ·exact ⟨by lia,Za8 (by lia),_,_,_,g1,by lia,rfl⟩
  ·exact ⟨by lia,Za8 (by lia),_,_,_,g2,by lia,rfl⟩
  ·exact ⟨by lia,Za8 (by lia),_,_,_,g3,by lia,rfl⟩
  ·exact ⟨by lia,Za8 (by lia),_,_,_,g4,by lia,rfl⟩
 refine ⟨h.net.more B nd fun n hn hm=>?_,?_,?_,?_⟩
 ·obtain ⟨p,hp,rfl⟩:=List.mem_map.mp hm;obtain ⟨a1,a2,_⟩:=all _ hn;rcases h.nm p hp with z|⟨kd,c,k,hk,c8,e⟩
  ·exact Zru (x := "g") (by trivial) a2 (by rw [z])
  ·rw [e,Zbc (Nat.lt_trans (by decide) hk.1) (by lia)] at a1;lia
 ·have:=B.len.1;have:=h.pl;rw [List.length_append];lia
 ·have:=B.len.2;have:=h.jl;rw [List.length_append,List.length_append];show _+_+1<=_;lia
 ·intro p hp;rcases List.mem_append.mp hp with z|z
  ·rcases h.nm p z with y|⟨kd,c,k,hk,c8,e⟩
   ·exact .inl y
   ·exact .inr ⟨kd,c,k,hk,by lia,e⟩
  ·exact .inr (all _ (B.sub.subset (List.mem_map.mpr ⟨p,z,rfl⟩))).2.2
theorem Zc6.done{i:Nat}{ps:List Zc}{js:List (Zc×Zc)}{F5:Zc}(h:Zc6 i ps js F5)(hi:i<20):Net (ps++[(("gate" :Str),("h" :Str))]) (js++[(F5,(("h" :Str),("a" :Str)))]) []:=by
 have hno:("h" :Str)∉ps.map Prod.snd:=fun z=>by
  obtain ⟨p,hp,e⟩:=List.mem_map.mp z;rcases h.nm p hp with y|⟨kd,c,k,hk,c8,y⟩
  ·rw [y] at e;exact absurd e (by trivial)
  ·exact Zru (x := "h") (by trivial) (Za8 (kind:=kd) (c:=c) (k:=k) (by lia)) (by rw [<-y];exact e)
 have hc:F5.1∈ps.map Prod.snd:=Zdx (h.net.perm.subset (by simp));refine ⟨?_,?_,?_,?_⟩
 ·rw [Za7,Zex,List.append_nil];have he:Z7 [("gate", "h")]=([("h", "a")]:List Zc):=by simp [Z7,Zd5 (k := "gate") (.inl rfl)]
  rw [he];show (Yq js++([F5]++[(("h" :Str),("a" :Str))])).Perm _;rw [<-List.append_assoc];exact List.Perm.append_right _ h.net.perm
 ·rw [List.map_append,List.nodup_append];exact ⟨h.net.nd,by simp,fun x hx y hy z=>by simp at hy;rw [z,hy] at hx;exact hno hx⟩
 ·intro j hj;rcases List.mem_append.mp hj with z|z
  ·exact h.net.apart j z
  ·simp at z;subst z;exact fun y=>hno (by have y:F5.1=("h" :Str):=y;rw [<-y];exact hc)
 ·intro p hp;rcases List.mem_append.mp hp with z|z
  ·exact h.net.kind p z
  ·simp at z;subst z;simp [Xn]
def Wg(j:Nat):Str := "e" ++ Zec j
def Zfa(Zx:List Zc)(i:Nat)(z9:List Zc)(B1:List (Zc×Zc)):Prop:=∃ks:List Str,ks.length=i/\(∀k∈ks,k = "gate" \/k = "stop")/\z9=(List.range i).map (fun j=>(ks.getD j "gate",Wg j))/\B1=(List.range i).map (fun j=>(Zx.getD j ("", ""),(Wg j,("a" :Str))))
theorem Zfa.more{Zx:List Zc}{i:Nat}{z9:List Zc}{B1:List (Zc×Zc)}{k:Str}{q:Zc}(h:Zfa Zx i z9 B1) (hk:k = "gate" \/k = "stop") (hq:Zx[i]? =some q):Zfa Zx (i+1) (z9++[(k,Wg i)]) (B1++[(q,(Wg i,("a" :Str)))]):=by
 obtain ⟨ks,hl,hks,rfl,rfl⟩:=h;refine ⟨ks++[k],by rw [List.length_append,hl];rfl,?_,?_,?_⟩
 ·intro x hx;rcases List.mem_append.mp hx with z|z
  ·exact hks x z
  ·simp at z;rw [z];exact hk
 ·rw [List.range_succ,List.map_append];congr 1
  ·refine List.map_congr_left fun j hj=>?_
   have hj:=List.mem_range.mp hj;rw [List.getD_eq_getElem?_getD,List.getD_eq_getElem?_getD,List.getElem?_append_left (by lia)]
  ·show [(k,Wg i)]=[((ks++[k]).getD i "gate",Wg i)];rw [List.getD_eq_getElem?_getD,List.getElem?_append_right (by lia),hl,Nat.sub_self]
   rfl
 ·rw [List.range_succ,List.map_append];congr 1;show [(q,(Wg i,("a" :Str)))]=[(Zx.getD i ("", ""),(Wg i,("a" :Str)))];rw [List.getD_eq_getElem?_getD,hq]
  rfl
theorem Zvm(k:Str):(Z6 k).Nodup:=by
 unfold Z6;split
 ·decide +kernel
 ·split
  ·decide +kernel
  ·split <;>decide +kernel
theorem Ws:∀{ps:List Zc},(ps.map Prod.snd).Nodup->(Z7 ps).Nodup
 | [],_=>List.nodup_nil
 | p ::ps,h=>by
  rw [List.map_cons,List.nodup_cons] at h;rw [show Z7 (p ::ps)=((Z6 p.1).map fun e=>(p.2,e))++Z7 ps from List.flatMap_cons ..,List.nodup_append];refine ⟨?_,Ws h.2,?_⟩
  ·refine List.Pairwise.map _ (fun a b z y=>z ?_) (Zvm p.1);exact (Prod.mk.inj y).2
  ·intro x hx y hy z;obtain ⟨e,_,rfl⟩:=List.mem_map.mp hx;rw [<-z] at hy;exact h.1 (Zdx hy)
theorem Net.ond{ps:List Zc}{js:List (Zc×Zc)}{o:List Zc}(h:Net ps js o):o.Nodup:=by
 have:=(h.perm.nodup_iff).mpr (Ws h.nd);exact (List.nodup_append.mp this).2.1
theorem Net.add{ps:List Zc}{js:List (Zc×Zc)}{o:List Zc}{k n:Str}(h:Net ps js o)(hn:n∉ps.map Prod.snd)(hk:k∈Xn):Net (ps++[(k,n)]) js (o++(Z6 k).map fun e=>(n,e)):=by
 refine ⟨?_,?_,h.apart,?_⟩
 ·rw [Zex,<-List.append_assoc];have:Z7 [(k,n)]=(Z6 k).map fun e=>(n,e):=by simp [Z7]
  rw [this];exact List.Perm.append_right _ h.perm
 ·rw [List.map_append,List.nodup_append];exact ⟨h.nd,by simp,fun x hx y hy z=>by simp at hy;rw [z,hy] at hx;exact hn hx⟩
 ·intro p hp;rcases List.mem_append.mp hp with z|z
  ·exact h.kind p z
  ·simp at z;rw [z];exact hk
theorem Net.join{ps:List Zc}{js:List (Zc×Zc)}{o o':List Zc}{a b:Zc}(h:Net ps js o)(hp:(a ::b ::o').Perm o)(ne:a.1≠b.1):Net ps (js++[(a,b)]) o':=by
 refine ⟨?_,h.nd,?_,h.kind⟩
 ·rw [Za7];refine List.Perm.trans ?_ h.perm;show (Yq js++[a,b]++o').Perm _;rw [List.append_assoc];exact List.Perm.append_left _ hp
 ·intro j hj;rcases List.mem_append.mp hj with z|z
  ·exact h.apart j z
  ·simp at z;rw [z];exact ne
theorem Zep{α:Type}:∀{l:List α} {i:Nat} {a:α},l[i]? =some a->(a ::l.eraseIdx i).Perm l
 | [],_,_,h=>by cases h
 | x ::l,0,a,h=>by cases h;exact List.Perm.refl _
 | x ::l,i+1,a,h=>by
  rw [List.eraseIdx_cons_succ];exact (List.Perm.swap x a _).trans ((Zep (l:=l) h).cons x)
theorem Zvq{α:Type}{l m:List α}{i j:Nat}{a b:α}(ha:l[i]? =some a)(hb:m[j]? =some b):(a ::b ::(l.eraseIdx i++m.eraseIdx j)).Perm (l++m):=by
 refine List.Perm.trans ?_ ((Zep ha).append (Zep hb));show List.Perm _ (a ::(l.eraseIdx i++(b ::m.eraseIdx j)));exact (List.perm_middle.symm).cons a
theorem Zse{l:List Zc}{a:Zc}(nd:l.Nodup)(ha:a∈l):(a ::l.filter fun e=>decide (e≠a)).Perm l:=by
 induction l with
 | nil=>cases ha
 | cons x l ih =>
  rw [List.nodup_cons] at nd
  by_cases z:x=a
  ·subst z;rw [List.filter_cons,if_neg (by simp)];have:(l.filter fun e=>decide (e≠x))=l:=List.filter_eq_self.mpr fun e he=>decide_eq_true fun y=>nd.1 (y ▸ he)
   rw [this]
  ·rw [List.filter_cons,if_pos (decide_eq_true z)];have ha':a∈l:=by
    rcases List.mem_cons.mp ha with y|y
    ·exact absurd y.symm z
    ·exact y
   exact (List.Perm.swap x a _).trans ((ih nd.2 ha').cons x)
theorem Zsm{r:Zc}{l:List Zc}{a:Zc}(nd:(r ::l).Nodup)(ha:a∈l):(a ::r ::l.filter fun e=>decide (e≠a)).Perm (r ::l) :=
 (List.Perm.swap r a _).trans ((Zse (List.nodup_cons.mp nd).2 ha).cons r)
theorem Zqm{j:Nat}(h:j<100):Zhm (Wg j)=j:=by
 unfold Wg Zhm;rw [Zah,List.foldl_append];exact Zm7 j h
theorem Ztb:∀k,k<100->(Zec k).cps.toList.getD 0 0<=57:=by trivial
theorem Zt8{kd:Str}{c:Int}{k j:Nat}(hj:j<100)(hk:kd.cps.toList.getD 0 0≠101):Yk kd c k≠Wg j:=by
 intro z;have z':=congrArg (fun s:Str=>s.cps.toList) z;have he:(Wg j).cps.toList=101 ::(Zec j).cps.toList:=by unfold Wg;rw [Zah];rfl
 simp only [he] at z';unfold Yk at z';split at z'
 ·rw [Zah] at z';exact hk (List.cons.inj z').1
 ·rw [Zah,Zah,Zah] at z';have b0:=Int.emod_nonneg (c / 78) (show (26:Int)≠0 by decide);have b1:=Int.emod_lt_of_pos (c / 78) (show (0:Int)<26 by decide);have hb:=Zk4 b0 b1;have z2:=(List.cons.inj z').2;have hf:=Ztb j hj;rw [<-z2] at hf;have:Zck (c / 78%26)<=57:=hf;lia
theorem Net.closed{ps:List Zc}{js:List (Zc×Zc)}{Zx z9:List Zc}{B1:List (Zc×Zc)}(h:Net ps js Zx)(hc:Zfa Zx Zx.length z9 B1)(hl:Zx.length<=90)(hn:∀j,j<90->Wg j∉ps.map Prod.snd):Net (ps++z9) (js++B1) []:=by
 obtain ⟨ks,Q9,hks,rfl,rfl⟩:=hc;have hno:∀n,n<=Zx.length->Net (ps++(List.range n).map fun j=>(ks.getD j "gate",Wg j)) (js++(List.range n).map fun j=>(Zx.getD j ("", ""),(Wg j,("a" :Str)))) (Zx.drop n):=by
  intro n
  induction n with
  | zero=>intro _;simpa using h
  | succ n ih =>
   intro hn';have h0:=ih (by lia);have c8:n<Zx.length:=by lia
   have D4:ks.getD n "gate" = "gate" \/ks.getD n "gate" = "stop" :=hks _ (by
    rw [List.getD_eq_getElem?_getD,List.getElem?_eq_getElem (by lia)];exact List.getElem_mem _)
   have y8:Wg n∉(ps++(List.range n).map fun j=>(ks.getD j "gate",Wg j)).map Prod.snd:=by
    rw [List.map_append,List.mem_append];rintro (z|z)
    ·exact hn n (by lia) z
    ·rw [List.map_map] at z;obtain ⟨j,hj,e⟩:=List.mem_map.mp z;have hj:=List.mem_range.mp hj;have:=congrArg Zhm e;rw [Zqm (by lia)] at this;have h2:Zhm (Wg j)=n:=this;rw [Zqm (by lia)] at h2;lia
   have h1:=h0.add y8 (k:=ks.getD n "gate") (by rcases D4 with z|z <;>rw [z] <;>simp [Xn]);rw [Zd5 D4] at h1;have hd:Zx.drop n=Zx.getD n ("", "") ::Zx.drop (n+1):=by
    rw [List.drop_eq_getElem_cons c8,List.getD_eq_getElem?_getD,List.getElem?_eq_getElem c8]
    rfl
   have hin:(Zx.getD n ("", "")).1≠Wg n:=by
    have:Zx.getD n ("", "")∈Zx.drop n:=by rw [hd];simp
    have h3:=Zdx (h0.perm.subset (List.mem_append_right _ this));exact fun z=>y8 (z ▸ h3)
   have h2:=h1.join (a:=Zx.getD n ("", "")) (b:=(Wg n, "a")) (o':=Zx.drop (n+1)) (by
    rw [hd];show List.Perm _ (Zx.getD n ("", "") ::(Zx.drop (n+1)++[(Wg n,("a" :Str))]));exact (List.perm_append_singleton _ _).symm.cons _) hin
   rw [List.range_succ,List.map_append,List.map_append,<-List.append_assoc,<-List.append_assoc];exact h2
 have:=hno Zx.length (Nat.le_refl _);rwa [List.drop_length] at this
end YM
end
section
namespace YM
open PySem L2 NM
theorem Zh6:∀k∈Xn,57<k.cps.toList.getD 0 0/\k.cps.toList.getD 0 0≠101/\0<k.length/\k.length<=6/\(Z6 k).length<=4/\0<(Z6 k).length:=by trivial
def nmD(s:Str)(n:Nat):Prop:=∃kd∈Xn,∃(c:Int) (k:Nat),k<n/\s=Yk kd c k
structure Xa(i m:Nat)(ps:List Zc)(js:List (Zc×Zc))(Zx:List Zc):Prop where
 net:Net ps js Zx
 sum:ps.length+Zx.length<=39
 jl:js.length<=m
 nm:∀p∈ps,nmD p.2 i
theorem Xa.start:Xa 0 0 [] [] []:=⟨⟨List.Perm.refl _,List.nodup_nil,by simp,by simp⟩,by simp,by simp,by simp⟩
theorem Xa.mono{i m i' m':Nat}{ps:List Zc}{js:List (Zc×Zc)}{Zx:List Zc}(h:Xa i m ps js Zx)(hi:i<=i')(hm:m<=m'):Xa i' m' ps js Zx :=
 ⟨h.net,h.sum,Nat.le_trans h.jl hm,fun p hp=>let ⟨kd,h1,c,k,h2,h3⟩:=h.nm p hp;⟨kd,h1,c,k,by lia,h3⟩⟩
theorem Xa.new{i m:Nat}{ps:List Zc}{js:List (Zc×Zc)}{Zx:List Zc}{kd:Str}{c:Int}(h:Xa i m ps js Zx)(hi:i<100)(hk:kd∈Xn):Yk kd c i∉ps.map Prod.snd:=fun z=>by
 obtain ⟨p,hp,e⟩:=List.mem_map.mp z;obtain ⟨kd',h1,c',k,h2,h3⟩:=h.nm p hp;have:=congrArg Zhm (e.symm.trans h3);rw [Zbc (Zh6 _ hk).1 hi,Zbc (Zh6 _ h1).1 (by lia)] at this;lia
theorem Xa.add{i m:Nat}{ps:List Zc}{js:List (Zc×Zc)}{Zx:List Zc}{kd:Str}{c:Int}(h:Xa i m ps js Zx)(hi:i<100)(hk:kd∈Xn)(hs:ps.length+Zx.length+(Z6 kd).length<=38):Xa (i+1) m (ps++[(kd,Yk kd c i)]) js (Zx++(Z6 kd).map fun e=>(Yk kd c i,e)):=by
 refine ⟨h.net.add (h.new hi hk) hk,?_,h.jl,?_⟩
 ·rw [List.length_append,List.length_append,List.length_map];show _+1+_<=39;lia
 ·intro p hp;rcases List.mem_append.mp hp with z|z
  ·exact (h.mono (Nat.le_succ i) (Nat.le_refl m)).nm p z
  ·simp at z;rw [z];exact ⟨kd,hk,c,i,by lia,rfl⟩
theorem Xa.join{i m:Nat}{ps:List Zc}{js:List (Zc×Zc)}{o o':List Zc}{a b:Zc}(h:Xa i m ps js o)(hp:(a ::b ::o').Perm o)(ne:a.1≠b.1):Xa i (m+1) ps (js++[(a,b)]) o':=by
 refine ⟨h.net.join hp ne,?_,?_,h.nm⟩
 ·have:=h.sum;have hl:=hp.length_eq;simp at hl;lia
 ·rw [List.length_append];exact Nat.succ_le_succ h.jl
theorem Xa.done{i m:Nat}{ps:List Zc}{js:List (Zc×Zc)}{Zx z9:List Zc}{B1:List (Zc×Zc)}(h:Xa i m ps js Zx)(hi:i<=100)(hc:Zfa Zx Zx.length z9 B1):Net (ps++z9) (js++B1) []:=by
 have hs:=h.sum;refine h.net.closed hc (by lia) fun j hj z=>?_
 obtain ⟨p,hp,e⟩:=List.mem_map.mp z;obtain ⟨kd',h1,c',k,h2,h3⟩:=h.nm p hp;exact Zt8 (by lia) (Zh6 _ h1).2.1 (h3.symm.trans e)
theorem Zfz{α β:Type}{R:α->β->Prop}:∀{l:List α} {m:List β},Paired R l m->∀i,Paired R (l.eraseIdx i) (m.eraseIdx i)
 | _,_,.nil,_=>.nil
 | _,_,.cons r t,0=>t
 | _,_,.cons r t,i+1=>.cons r (Zfz t i)
theorem Zlb{α β:Type}(f:α->β):∀(l:List α) (i:Nat),(l.map f).eraseIdx i=(l.eraseIdx i).map f
 | [],_=>rfl
 | _ ::_,0=>rfl
 | x ::l,i+1=>by rw [List.map_cons,List.eraseIdx_cons_succ,List.eraseIdx_cons_succ,List.map_cons,Zlb f l i]
def Wr(k:Nat):Str := "p" ++ Zec k
def Za2(n:Nat):List Zc:=[(("gate" :Str),("g" :Str))]++((List.range n).map fun k=>(("plain" :Str),Wr k))++[(("gate" :Str),("h" :Str))]
def Zrc(n:Nat):List (Zc×Zc):=[((("g" :Str),("a" :Str)),(Wr 0,("a" :Str))),((("h" :Str),("a" :Str)),(Wr (n-1),("b" :Str)))]++(List.range (n-1)).map fun k=>((Wr k,("b" :Str)),(Wr (k+1),("a" :Str)))
theorem Zs4:∀n∈[9,10,11,12,13,14],(Yq (Zrc n)++[]).Perm (Z7 (Za2 n)):=by trivial
theorem Zwi:∀n∈[9,10,11,12,13,14],((Za2 n).map Prod.snd).Nodup:=by trivial
theorem Zqa:∀n∈[9,10,11,12,13,14],∀j∈Zrc n,j.1.1≠j.2.1:=by trivial
theorem Zsj:∀n∈[9,10,11,12,13,14],∀p∈Za2 n,p.1∈Xn:=by trivial
theorem Zvg{n:Nat}(h:n∈[9,10,11,12,13,14]):Net (Za2 n) (Zrc n) []:=⟨Zs4 n h,Zwi n h,Zqa n h,Zsj n h⟩
end YM
end
section
namespace L2
open PySem PySem.Spec PyProof.Rows
theorem ixT{K:Frag}{H:Hp}{a:Addr}{xs:List V}{v:V}{Q:VK}(h:H a=some (.tup xs))(j:Nat)(e:xs[j]? =some v)(q:Q v H):rIx K (.ref a) (.int (j:Nat)) H Q:=.inr (.inl ⟨a,xs,j,v,rfl,rfl,SqT.of h,Y4 e,q⟩)
theorem ixV{K:Frag}{H:Hp}{a:Addr}{xs:List V}{v:V}{i:Int}{Q:VK}(h:H a=some (.tup xs))(e:atI xs i=some v)(q:Q v H):rIx K (.ref a) (.int i) H Q:=.inr (.inl ⟨a,xs,i,v,rfl,rfl,SqT.of h,e,q⟩)
theorem Zn{X:Cx}{K:Frag}{a b:Expr}{ta tb:TE}{pos:Pos}(hK:X.K=K)(ha:PE X a ta)(hb:PE X b tb)(hs:Zrl b:=by exact fun _ _=>rfl):PE X (.Subscript a b pos) (tOp (rIx K) ta tb):=by subst hK;exact Yb8 Yai ha hb hs
theorem szA{n:Nat}(h:n<=1000:=by simp):n<=sizeLine:=sz h
end L2
namespace L2
theorem exR{α:Sort u}{p R:α->Prop}{w:α}(h:p w)(k:R w):∃x,p x/\R x:=⟨w,h,k⟩
theorem exQ{α:Sort u}{β:Sort v}{p R:α->β->Prop}{q:α->β->Prop}{w:α}{z:β}(h:p w z)(g:q w z)(k:R w z):∃x y,p x y/\q x y/\R x y:=⟨w,z,h,g,k⟩
end L2
namespace K22
open PySem L2 NM
def top(i:Nat):Stmt:=PySem.Challenge.pw_yardkeep_k22_routes_walked.main.body.getD i (.Pass ⟨0,0,0,0⟩)
abbrev Zf7:Stmt:=top 5
theorem Zo7:Zo ["thing"] ["thing"] (Zg Zf7):={}
abbrev Zas:Stmt:=Yx (top 6) 0
theorem Zf8:Zo ["self", "name"] ["self", "name"] (Zg Zas):={}
abbrev Zd0:Stmt:=Yx (top 6) 1
theorem Zms:Zo ["self"] ["self"] (Zg Zd0):={}
abbrev Zdh:Stmt:=Yx (top 6) 2
theorem Zm3:Zo ["self"] ["self"] (Zg Zdh):={}
abbrev Zco:Stmt:=Yx (top 6) 3
theorem Zkd:Zo ["self", "lie"] ["self", "lie"] (Zg Zco):={}
abbrev X9:Stmt:=Yx (top 6) 4
theorem Zb4:Zo ["self", "end", "lie", "one", "two"] ["self", "end", "lie"] (Zg X9):={}
abbrev Zcm:Stmt:=Yx (top 6) 5
theorem Zj3:Zo ["self"] ["self"] (Zg Zcm):={}
abbrev Zdq:Stmt:=Yx (top 8) 0
theorem Zml:Zo ["self"] ["self"] (Zg Zdq):={}
abbrev Zc8:Stmt:=Yx (top 8) 1
theorem Zki:Zo ["self", "lie"] ["self", "lie"] (Zg Zc8):={}
abbrev Zbx:Stmt:=Yx (top 10) 0
theorem Zjs:Zo ["self"] ["self"] (Zg Zbx):={}
abbrev Zb2:Stmt:=Yx (top 10) 1
theorem Zif:Zo ["self"] ["self"] (Zg Zb2):={}
abbrev Za9:Stmt:=Yx (top 10) 2
theorem Zhz:Zo ["self", "lie"] ["self", "lie"] (Zg Za9):={}
abbrev Zbp:Stmt:=Yx (top 10) 3
theorem Zhh:Zo ["self"] ["self"] (Zg Zbp):={}
abbrev Zc7:Stmt:=Yx (top 11) 0
theorem Zj9:Zo ["self"] ["self"] (Zg Zc7):={}
abbrev Zbw:Stmt:=Yx (top 11) 1
theorem Zi5:Zo ["self", "lie"] ["self", "lie"] (Zg Zbw):={}
abbrev Zb7:Stmt:=Yx (top 11) 2
theorem Zix:Zo ["self"] ["self"] (Zg Zb7):={}
abbrev Zcs:Stmt:=top 14
theorem We:Zo ["tracks", "end", "name", "entry", "part", "steps"] ["tracks", "end"] (Zg Zcs):={}
abbrev Zcq:Stmt:=top 15
theorem Zkl:Zo ["step"] ["step"] (Zg Zcq):={}
abbrev Zc2:Stmt:=top 16
theorem Zj2:Zo ["tracks", "step"] ["tracks", "step"] (Zg Zc2):={}
abbrev Ze1:Stmt:=top 19
theorem Zaj:Zo ["tracks", "begun", "post", "last", "passed"] ["tracks", "begun"] (Zg Ze1):={}
abbrev Zb0:Stmt:=top 20
theorem Yu:Zo ["tracks", "signal", "found", "begun", "ahead", "step"] ["tracks", "signal"] (Zg Zb0):={}
abbrev Ze7:Stmt:=top 21
theorem Zg7:Zo ["tracks", "thing", "place"] ["tracks", "thing"] (Zg Ze7):={}
abbrev Zga:Stmt:=top 22
theorem Zpf:Zo ["route"] ["route"] (Zg Zga):={}
abbrev Zgb:Stmt:=top 23
theorem Zqc:Zo ["route"] ["route"] (Zg Zgb):={}
abbrev Zgr:Stmt:=top 32
theorem Zpe:Zo ["thing"] ["thing"] (Zg Zgr):={}
abbrev Zer:Stmt:=top 33
theorem Znm:Zo ["end", "ends"] ["end", "ends"] (Zg Zer):={}
abbrev Zby:Stmt:=top 34
theorem Zio:Zo ["name", "known"] ["name", "known"] (Zg Zby):={}
abbrev Zay:Stmt:=top 35
theorem Zaf:Zo ["parts", "part_of", "part"] ["parts"] (Zg Zay):={}
abbrev Zaw:Stmt:=top 36
theorem Xp:Zo ["part_of", "part_at", "name", "part", "end"] ["part_of"] (Zg Zaw):={}
abbrev Zb1:Stmt:=top 37
theorem Zdg:Zo ["join", "part_at", "joined", "end"] ["join", "part_at", "joined"] (Zg Zb1):={}
abbrev Zb5:Stmt:=top 38
theorem Zba:Zo ["joins", "part_at", "joined", "join"] ["joins", "part_at"] (Zg Zb5):={}
abbrev Zb6:Stmt:=top 39
theorem Zjv:Zo ["end", "part_at", "ends_with_signals"] ["end", "part_at", "ends_with_signals"] (Zg Zb6):={}
abbrev Zes:Stmt:=top 40
theorem Zao:Zo ["signals", "part_at", "post_of", "signal", "name", "end"] ["signals", "part_at"] (Zg Zes):={}
abbrev Y1:Stmt:=Yx (top 41) 0
theorem Wm:Zo ["self", "parts", "joins", "signals", "asked_signals", "part_at"] ["self", "parts", "joins", "signals"] (Zg Y1):={}
abbrev Zbe:Stmt:=Yx (top 41) 2
theorem Zhk:Zo ["self", "name"] ["self", "name"] (Zg Zbe):={}
abbrev Zau:Stmt:=Yx (top 41) 3
theorem Zg1:Zo ["self", "end"] ["self", "end"] (Zg Zau):={}
abbrev Wn:Stmt:=Yx (top 41) 4
theorem Zed:Zo ["self", "end"] ["self", "end"] (Zg Wn):={}
abbrev Zaa:Stmt:=Yx (top 41) 5
theorem Zfw:Zo ["self"] ["self"] (Zg Zaa):={}
abbrev Zar:Stmt:=Yx (top 41) 6
theorem Zgo:Zo ["self", "signal"] ["self", "signal"] (Zg Zar):={}
abbrev Zcn:Stmt:=top 43
theorem Zel:Zo ["_law_cell", "_law_k", "_law_left"] ["_law_cell", "_law_k"] (Zg Zcn):={}
abbrev Zbh:Stmt:=top 44
theorem Zhl:Zo ["_law_script", "_law_k"] ["_law_script", "_law_k"] (Zg Zbh):={}
abbrev Zcy:Stmt:=top 45
theorem Zj4:Zo ["_law_script", "_law_at", "_law_end"] ["_law_script", "_law_at", "_law_end"] (Zg Zcy):={}
abbrev Zdi:Stmt:=top 46
theorem Zl6:Zo ["_law_kind"] ["_law_kind"] (Zg Zdi):={}
abbrev Zbb:Stmt:=top 47
theorem Zat:Zo ["_law_kind", "_law_cell", "_law_k", "_law_letters", "_law_first"] ["_law_kind", "_law_cell", "_law_k"] (Zg Zbb):={}
abbrev Zc0:Stmt:=top 48
theorem Z3:Zo ["_law_cell", "_law_names", "_law_one", "_law_two", "_law_three", "_law_four", "_law_way", "_law_ends_here", "_law_far", "_law_joins", "_law_parts", "_law_turn", "_law_aside", "_law_rest"] ["_law_cell", "_law_names"] (Zg Zc0):={}
abbrev Zdl:Stmt:=top 49
theorem Yt:Zo ["_law_cells_here", "_law_parts", "_law_joins", "_law_end", "_law_k", "_law_cell", "_law_names", "_law_block_here"] ["_law_cells_here"] (Zg Zdl):={}
abbrev Zb3:Stmt:=top 50
theorem W1:Zo ["_law_parts", "_law_joins", "_law_rest", "_law_cell", "_law_j", "_law_end", "_law_name"] ["_law_parts", "_law_joins", "_law_rest", "_law_cell"] (Zg Zb3):={}
abbrev Zcz:Stmt:=top 51
theorem Yg:Zo ["_law_cells_here", "_law_parts", "_law_joins", "_law_rest", "_law_k", "_law_cell", "_law_kind", "_law_ends_here", "_law_name", "_law_fresh", "_law_near", "_law_other"] ["_law_cells_here"] (Zg Zcz):={}
abbrev Wx:Stmt:=top 52
theorem Z1:Zo ["_law_parts", "_law_cell", "_law_letters", "_law_ends_here", "_law_kind", "_law_name", "_law_end", "_law_found", "_law_k", "_law_draw"] ["_law_parts", "_law_cell"] (Zg Wx):={}
abbrev Zde:Stmt:=top 53
theorem X7:Zo ["_law_cell", "_law_k", "_law_names", "_law_parts", "_law_joins", "_law_signals"] ["_law_cell"] (Zg Zde):={}
abbrev Zbm:Stmt:=top 54
theorem Y2:Zo ["_law_cells_here", "_law_cell", "_law_found", "_law_parts", "_law_joins", "_law_at"] ["_law_cells_here", "_law_cell"] (Zg Zbm):={}
abbrev Zdt:Stmt:=top 55
theorem Zl4:Zo ["_law_kind", "_law_name"] ["_law_kind", "_law_name"] (Zg Zdt):={}
abbrev Zb8:Stmt:=top 56
theorem Zie:Zo ["_law_yard"] ["_law_yard"] (Zg Zb8):={}
abbrev Zeq:Stmt:=top 57
theorem Yy:Zo ["_law_yard", "_law_joined", "_law_one", "_law_other", "_law_kinds", "_law_kind", "_law_name", "_law_stands", "_law_place", "_law_end"] ["_law_yard"] (Zg Zeq):={}
abbrev Zcx:Stmt:=top 58
theorem Zkq:Zo ["_law_kind", "_law_end"] ["_law_kind", "_law_end"] (Zg Zcx):={}
abbrev Zdw:Stmt:=top 59
theorem Zmk:Zo ["_law_plan", "_law_end"] ["_law_plan", "_law_end"] (Zg Zdw):={}
abbrev Zbd:Stmt:=top 60
theorem Zhq:Zo ["_law_plan", "_law_step"] ["_law_plan", "_law_step"] (Zg Zbd):={}
abbrev Zct:Stmt:=top 61
theorem Wh:Zo ["_law_plan", "_law_route", "_law_row", "_law_into_here", "_law_met", "_law_k"] ["_law_plan", "_law_route", "_law_row"] (Zg Zct):={}
abbrev Zbf:Stmt:=top 62
theorem Zhn:Zo ["_law_tracks_here", "_law_odd"] ["_law_tracks_here", "_law_odd"] (Zg Zbf):={}
abbrev Zfo:Stmt:=top 63
theorem Zbz:Zo ["_law_script", "_law_yard", "_law_tracks_here", "_law_plan", "_law_row", "_law_found", "_law_route", "_law_points", "_law_k", "_law_copy"] ["_law_script"] (Zg Zfo):={}
set_option genInjectivity false in
set_option genSizeOf false in
structure Tx(K:Frag)(mg:Str->Option Value) where
 aH:Dn K "is_name" "is_name" Zf7 ["thing"]
 bZ:mg "is_name" =some (.ref aH.f)
 ad:Dn K "__init__" "Part.__init__" Zas ["self", "name"]
 br:Dn K "ends" "Part.ends" Zd0 ["self"]
 ar:Dn K "lies" "Part.lies" Zdh ["self"]
 bh:Dn K "pairs" "Part.pairs" Zco ["self", "lie"]
 ak:DnD K "leads" "Part.leads" X9 ["self", "end", "lie"] (.str "")
 aw:Dn K "bears" "Part.bears" Zcm ["self"]
 bt:Dn K "ends" "Stop.ends" Zdq ["self"]
 bi:Dn K "pairs" "Stop.pairs" Zc8 ["self", "lie"]
 bB:Dn K "ends" "Points.ends" Zbx ["self"]
 bC:Dn K "lies" "Points.lies" Zb2 ["self"]
 bu:Dn K "pairs" "Points.pairs" Za9 ["self", "lie"]
 bv:Dn K "bears" "Points.bears" Zbp ["self"]
 bK:Dn K "ends" "Cross.ends" Zc7 ["self"]
 bD:Dn K "pairs" "Cross.pairs" Zbw ["self", "lie"]
 bE:Dn K "bears" "Cross.bears" Zb7 ["self"]
 aT:Dn K "steps_into" "steps_into" Zcs ["tracks", "end"]
 du:mg "steps_into" =some (.ref aT.f)
 aC:Dn K "end_behind" "end_behind" Zcq ["step"]
 ci:mg "end_behind" =some (.ref aC.f)
 aD:Dn K "ends_there" "ends_there" Zc2 ["tracks", "step"]
 cj:mg "ends_there" =some (.ref aD.f)
 aI:Dn K "steps_on" "steps_on" Ze1 ["tracks", "begun"]
 ce:mg "steps_on" =some (.ref aI.f)
 aj:Dn K "routes_from" "routes_from" Zb0 ["tracks", "signal"]
 bT:mg "routes_from" =some (.ref aj.f)
 bw:Dn K "is_route" "is_route" Ze7 ["tracks", "thing"]
 ek:mg "is_route" =some (.ref bw.f)
 bI:Dn K "goal_of" "goal_of" Zga ["route"]
 eB:mg "goal_of" =some (.ref bI.f)
 bJ:Dn K "lies_of" "lies_of" Zgb ["route"]
 eC:mg "lies_of" =some (.ref bJ.f)
 bo:Dn K "is_pair" "is_pair" Zgr ["thing"]
 dn:mg "is_pair" =some (.ref bo.f)
 af:Dn K "is_known" "is_known" Zer ["end", "ends"]
 bN:mg "is_known" =some (.ref af.f)
 au:Dn K "refuse_name" "refuse_name" Zby ["name", "known"]
 cc:mg "refuse_name" =some (.ref au.f)
 ay:Dn K "parts_by_name" "parts_by_name" Zay ["parts"]
 cD:mg "parts_by_name" =some (.ref ay.f)
 az:Dn K "ends_to_parts" "ends_to_parts" Zaw ["part_of"]
 cE:mg "ends_to_parts" =some (.ref az.f)
 aL:Dn K "refuse_join" "refuse_join" Zb1 ["join", "part_at", "joined"]
 cV:mg "refuse_join" =some (.ref aL.f)
 aM:Dn K "joined_ends" "joined_ends" Zb5 ["joins", "part_at"]
 cW:mg "joined_ends" =some (.ref aM.f)
 aN:Dn K "refuse_post" "refuse_post" Zb6 ["end", "part_at", "ends_with_signals"]
 cX:mg "refuse_post" =some (.ref aN.f)
 bx:Dn K "posts_of" "posts_of" Zes ["signals", "part_at"]
 er:mg "posts_of" =some (.ref bx.f)
 ax:DnD K "__init__" "Tracks.__init__" Y1 ["self", "parts", "joins", "signals"] .non
 aR:Dn K "named" "Tracks.named" Zbe ["self", "name"]
 ap:Dn K "beyond" "Tracks.beyond" Zau ["self", "end"]
 aq:Dn K "signal_at" "Tracks.signal_at" Wn ["self", "end"]
 aB:Dn K "signals" "Tracks.signals" Zaa ["self"]
 aA:Dn K "end_of" "Tracks.end_of" Zar ["self", "signal"]
 ag:Dn K "_law_mixed" "_law_mixed" Zcn ["_law_cell", "_law_k"]
 bP:mg "_law_mixed" =some (.ref ag.f)
 am:Dn K "_law_cell_at" "_law_cell_at" Zbh ["_law_script", "_law_k"]
 bW:mg "_law_cell_at" =some (.ref am.f)
 aU:Dn K "_law_cells" "_law_cells" Zcy ["_law_script", "_law_at", "_law_end"]
 dv:mg "_law_cells" =some (.ref aU.f)
 aO:Dn K "_law_ends" "_law_ends" Zdi ["_law_kind"]
 cz:mg "_law_ends" =some (.ref aO.f)
 ao:Dn K "_law_name_by" "_law_name_by" Zbb ["_law_kind", "_law_cell", "_law_k"]
 bX:mg "_law_name_by" =some (.ref ao.f)
 aV:Dn K "_law_block" "_law_block" Zc0 ["_law_cell", "_law_names"]
 dw:mg "_law_block" =some (.ref aV.f)
 ba:Dn K "_law_line" "_law_line" Zdl ["_law_cells_here"]
 dU:mg "_law_line" =some (.ref ba.f)
 aP:Dn K "_law_closed" "_law_closed" Zb3 ["_law_parts", "_law_joins", "_law_rest", "_law_cell"]
 cY:mg "_law_closed" =some (.ref aP.f)
 aW:Dn K "_law_drawn" "_law_drawn" Zcz ["_law_cells_here"]
 dz:mg "_law_drawn" =some (.ref aW.f)
 al:Dn K "_law_signals_by" "_law_signals_by" Wx ["_law_parts", "_law_cell"]
 ck:mg "_law_signals_by" =some (.ref al.f)
 bd:Dn K "_law_long" "_law_long" Zde ["_law_cell"]
 dW:mg "_law_long" =some (.ref bd.f)
 aE:Dn K "_law_yard_by" "_law_yard_by" Zbm ["_law_cells_here", "_law_cell"]
 cG:mg "_law_yard_by" =some (.ref aE.f)
 be:Dn K "_law_part" "_law_part" Zdt ["_law_kind", "_law_name"]
 dX:mg "_law_part" =some (.ref be.f)
 aQ:Dn K "_law_tracks" "_law_tracks" Zb8 ["_law_yard"]
 cZ:mg "_law_tracks" =some (.ref aQ.f)
 bz:Dn K "_law_map" "_law_map" Zeq ["_law_yard"]
 et:mg "_law_map" =some (.ref bz.f)
 aX:Dn K "_law_leads" "_law_leads" Zcx ["_law_kind", "_law_end"]
 dA:mg "_law_leads" =some (.ref aX.f)
 bf:Dn K "_law_into" "_law_into" Zdw ["_law_plan", "_law_end"]
 dY:mg "_law_into" =some (.ref bf.f)
 aF:Dn K "_law_ends_so" "_law_ends_so" Zbd ["_law_plan", "_law_step"]
 cH:mg "_law_ends_so" =some (.ref aF.f)
 aY:Dn K "_law_walks" "_law_walks" Zct ["_law_plan", "_law_route", "_law_row"]
 dB:mg "_law_walks" =some (.ref aY.f)
 aG:Dn K "_law_refused" "_law_refused" Zbf ["_law_tracks_here", "_law_odd"]
 cI:mg "_law_refused" =some (.ref aG.f)
 bQ:Addr
 fv:mg "Part" =some (.ref bQ)
 eu:Cls K bQ
 cJ:Xt K bQ "name"
 eW:Mk K bQ ad.f
 dZ:Yh K bQ "ends" br.f
 ee:Yh K bQ "lies" ar.f
 dC:Yh K bQ "pairs" bh.f
 dD:Yh K bQ "bears" aw.f
 dE:Yh K bQ "leads" ak.f
 bG:Addr
 eX:mg "Plain" =some (.ref bG)
 dF:Cls K bG
 cA:Xt K bG "name"
 eL:Mk K bG ad.f
 dG:Yh K bG "ends" br.f
 dH:Yh K bG "lies" ar.f
 de:Yh K bG "pairs" bh.f
 df:Yh K bG "bears" aw.f
 dg:Yh K bG "leads" ak.f
 bA:Addr
 eU:mg "Stop" =some (.ref bA)
 ez:Cls K bA
 cK:Xt K bA "name"
 eY:Mk K bA ad.f
 ef:Yh K bA "ends" bt.f
 eg:Yh K bA "lies" ar.f
 dI:Yh K bA "pairs" bi.f
 dJ:Yh K bA "bears" aw.f
 dL:Yh K bA "leads" ak.f
 bR:Addr
 fw:mg "Gate" =some (.ref bR)
 eA:Cls K bR
 cL:Xt K bR "name"
 eZ:Mk K bR ad.f
 eh:Yh K bR "ends" bt.f
 ei:Yh K bR "lies" ar.f
 dM:Yh K bR "pairs" bi.f
 dN:Yh K bR "bears" aw.f
 dO:Yh K bR "leads" ak.f
 bn:Addr
 eM:mg "Points" =some (.ref bn)
 cM:Cls K bn
 cm:Xt K bn "name"
 eE:Mk K bn ad.f
 dh:Yh K bn "ends" bB.f
 di:Yh K bn "lies" bC.f
 cN:Yh K bn "pairs" bu.f
 cO:Yh K bn "bears" bv.f
 cP:Yh K bn "leads" ak.f
 bH:Addr
 fb:mg "Cross" =some (.ref bH)
 dP:Cls K bH
 cB:Xt K bH "name"
 eN:Mk K bH ad.f
 dQ:Yh K bH "ends" bK.f
 dR:Yh K bH "lies" ar.f
 dk:Yh K bH "pairs" bD.f
 dl:Yh K bH "bears" bE.f
 dm:Yh K bH "leads" ak.f
 aJ:Addr
 eO:mg "Tracks" =some (.ref aJ)
 ae:Cls K aJ
 bF:Xt K aJ "part_of"
 bL:Xt K aJ "joined"
 aS:Xt K aJ "post_of"
 bq:Xt K aJ "signal_on"
 eF:Mk K aJ ax.f
 cQ:Yh K aJ "named" aR.f
 bO:Yh K aJ "beyond" ap.f
 cg:Yh K aJ "signal_at" aq.f
 cv:Yh K aJ "signals" aB.f
 bV:Yh K aJ "end_of" aA.f
 cR:Addr
 fc:mg "YardError" =some (.ref cR)
 bM:Addr
 fA:mg "BadName" =some (.ref bM)
 aZ:mg "len" =none
 bU:mg "range" =none
 aK:mg "isinstance" =none
 eG:mg "list" =none
 ff:mg "dict" =none
 cF:mg "tuple" =none
 cp:mg "str" =none
 bS:mg "enumerate" =none
 fB:mg "max" =none
 fE:mg "min" =none
 fF:mg "sum" =none
 cS:mg "sorted" =none
 fG:mg "all" =none
 fL:kitOne K (.type "tuple") (.type "tuple")=some true
 fM:kitOne K (.type "str") (.type "str")=some true
 fQ:kitOne K (.type "NoneType") (.type "tuple")=some false
 fR:kitOne K (.type "int") (.type "tuple")=some false
 fS:kitOne K (.type "str") (.type "tuple")=some false
 fT:kitOne K (.type "list") (.type "tuple")=some false
 fU:kitOne K (.type "bool") (.type "tuple")=some false
 fH:kitOne K (.ref bQ) (.ref bA)=some false
 fg:kitOne K (.ref bG) (.ref bA)=some false
 fJ:kitOne K (.ref bA) (.ref bA)=some true
 fK:kitOne K (.ref bR) (.ref bA)=some true
 eP:kitOne K (.ref bn) (.ref bA)=some false
 fh:kitOne K (.ref bH) (.ref bA)=some false
 fN:kitOne K (.type "NoneType") (.type "str")=some false
 fO:kitOne K (.type "int") (.type "str")=some false
 fP:kitOne K (.type "list") (.type "str")=some false
 fV:PySem.W.kitCls K (.ref bM) (.ref bM)=some true
 fW:kitOne K (.ref bM) (.type "BaseException")=some true
 eV:Znd K mg "YardError" cR [.type "ValueError",.type "Exception",.type "BaseException",.type "object"] "ValueError.__new__"
 cw:Znd K mg "BadName" bM [.type "ValueError",.type "Exception",.type "BaseException",.type "object"] "ValueError.__new__"
 dq:∃tk,mg "LETTERS" =some (.str "abcdefghijklmnopqrstuvwxyz" tk)
 eD:∃tk,mg "FIGURES" =some (.str "0123456789" tk)
 cT:∃tk,mg "LONGEST_NAME" =some (.int 6 tk)
 dS:∃tk,mg "MOST_PARTS" =some (.int 40 tk)
 cU:∃tk,mg "MOST_SIGNALS" =some (.int 40 tk)
 cq:∃tk,mg "MOST_STEPS" =some (.int 12 tk)
 bY:Addr
 ej:mg "NO_END" =some (.ref bY)
 eI:∀H:Hp,SqT K H bY ([.str "",.str ""]:List V)
 tG:PySem.W.specialIn K (.builtin "object.__class__") "__get__" =some (some (.builtin "getset_descriptor.__get__"))
 tK:PySem.W.takesIn K (.builtin "object.__class__")=some true
 fi:findIn K (.ref bQ) "__class__" =some (some (.builtin "object.__class__"))
 fk:PySem.W.mroIn K bQ (.type "object")=some true
 eQ:findIn K (.ref bG) "__class__" =some (some (.builtin "object.__class__"))
 eR:PySem.W.mroIn K bG (.type "object")=some true
 fm:findIn K (.ref bA) "__class__" =some (some (.builtin "object.__class__"))
 fo:PySem.W.mroIn K bA (.type "object")=some true
 fq:findIn K (.ref bR) "__class__" =some (some (.builtin "object.__class__"))
 ft:PySem.W.mroIn K bR (.type "object")=some true
 eJ:findIn K (.ref bn) "__class__" =some (some (.builtin "object.__class__"))
 eK:PySem.W.mroIn K bn (.type "object")=some true
 eS:findIn K (.ref bH) "__class__" =some (some (.builtin "object.__class__"))
 eT:PySem.W.mroIn K bH (.type "object")=some true
section
variable {P:Program} {w:World} {K:Frag} {mg:Str->Option Value} {base:Heap}
seal PySem.wpAny
open YM
def Zri:Sp:=fun vs H Q _=>∃c k:Int,vs=[.int c,.int k]/\Q (.int (Zeh c k)) H
def Zvb(K:Frag):Sp:=fun vs H Q _=>∃(a:Addr) (ns:List Int) (k:Nat),vs=[.ref a,.int k]/\SqL K H a (ns.map V.int)/\Q (.int (Zim ns k)) H
theorem Ztr(T:Tx K mg):Zy P w K mg base CX0 1 T.ag.f T.ag.fd ["_law_cell", "_law_k"] Zri:=by
 refine T.ag.F.okW Zel fun b7 A outer s H vs Q E hr h=>?_
 ·obtain ⟨c,k,rfl,q⟩:=h;intro X;refine WSs.step (Zz (i:=2) Zel.nd (Zp Yn (Zp Zgq (Zp Wp (pv 0) (Zp Zgq Zd (pv 1))) Zd) Zd)) ?_;refine (exR rfl (exR rfl (exQ rfl rfl ⟨.inl ⟨by decide,by decide⟩,.inl (exQ rfl rfl (exQ rfl rfl ⟨.inr ⟨by decide,by decide⟩,_,_,rfl,rfl,(by show (0:Int)<2147483647;decide),?_⟩))⟩)));refine WSs.last (Zl (Zp Yn (Zp Zgq (pv 2) (Zp Wp (Zp Wp (pv 2) (Zp Zgq Zd (pv 1))) Zd)) Zd)) ?_;refine (exR rfl (exR rfl (exR rfl (exQ rfl rfl ⟨.inl ⟨by decide,by decide⟩,.inl (exQ rfl rfl (.inl (exQ rfl rfl (exQ rfl rfl ⟨.inl ?_,_,_,rfl,rfl,(by show (0:Int)<2147483629;decide),q⟩))))⟩))));have h1:=Int.emod_nonneg ((c+7919 * k) * 48271) (show (2147483647:Int)≠0 by decide);have h2:=Int.emod_lt_of_pos ((c+7919 * k) * 48271) (show (0:Int)<2147483647 by decide)
  constructor <;>lia
theorem Za4(T:Tx K mg){k:Nat}(h:1<=k:=by decide):Zy P w K mg base CX0 k T.ag.f T.ag.fd ["_law_cell", "_law_k"] Zri:=(Ztr T).mono h
theorem Zwq(T:Tx K mg):Zy P w K mg base CX0 2 T.am.f T.am.fd ["_law_script", "_law_k"] (Zvb K):=by
 refine T.am.F.okW Zhl fun b7 A outer s H vs Q E hr h=>?_
 ·obtain ⟨a,ns,k,rfl,hS,q⟩:=h;intro X;refine WSs.step (Z8 (Zm Zhb (pv 1) (Zu (r:=Xk K) Xo (by rfl) T.aZ PySem.boot_len (Zb (pv 0) Za)) (Z0 _)) Zv Zs) ?_;refine (exR rfl (exR rfl (.inl ⟨a,_,rfl,.inl hS,_,_,rfl,rfl,_,rfl,Ye (fun c8=>?_) (fun c8=>?_)⟩)))
  ·have c8:=of_decide_eq_true c8;rw [List.length_map] at c8;have hk:k<ns.length:=by lia
   have e:ns[k]? =some ns[k]:=by simp [hk]
   refine WSs.last (Zl (Zr (Za4 T) hr rfl T.bP T.ag.F.kp T.ag.b .nil Z2 (Zb (Zn (K:=K) rfl (pv 0) (pv 1)) (Zb (pv 1) Za)))) (exR rfl (exR rfl (.inl ⟨a,_,_,V.int ns[k],rfl,rfl,hS,Y4 (by rw [List.getElem?_map,e];rfl),_,rfl,ns[k],k,rfl,?_⟩)));unfold Zim at q;rw [e] at q;exact q
  ·have c8:¬((k:Int)<((ns.map V.int).length:Int)):=fun z=>c8 (decide_eq_true z)
   rw [List.length_map] at c8;have e:ns[k]? =none:=List.getElem?_eq_none (by lia);unfold Zim at q;rw [e] at q;exact WSs.last (Zl Zd) q
theorem Zdj(T:Tx K mg){k:Nat}(h:2<=k:=by decide):Zy P w K mg base CX0 k T.am.f T.am.fd ["_law_script", "_law_k"] (Zvb K):=(Zwq T).mono h
def Zv6:Sp:=fun vs H Q _=>∃k:Str,vs=[.str k]/\∀p H',Same H H'->H p=none->H' p=some (.lst ((Z6 k).map V.str))->Q (.ref p) H'
theorem Zma(T:Tx K mg):Zy P w K mg base CX0 1 T.aO.f T.aO.fd ["_law_kind"] Zv6:=by
 refine T.aO.F.okW Zl6 fun b7 A outer s H vs Q E hr h=>?_
 ·obtain ⟨k,rfl,q⟩:=h;intro X;refine WSs.step (Z8 (Zm (r:=Wo K) (Wv hr) (pv 0) Ze (Z0 _)) Zv Zs) (exR rfl (.inl ⟨rfl,_,rfl,Ye (fun hc=>?_) (fun hc=>?_)⟩))
  ·have hc:k = "points" :=by simpa using hc
   subst hc;exact WSs.last (Zl (Zk (Zb Ze (Zb Ze (Zb Ze Za))))) ⟨szA,fun p H1 s1 n1 e1=>q p H1 s1 n1 e1⟩
  have h1:¬k = "points" :=by simpa using hc
  refine WSs.step (Z8 (Zm (r:=Wo K) (Wv hr) (pv 0) Ze (Z0 _)) Zv Zs) (exR rfl (.inl ⟨rfl,_,rfl,Ye (fun hc=>?_) (fun hc=>?_)⟩))
  ·have hc:k = "cross" :=by simpa using hc
   subst hc;exact WSs.last (Zl (Zk (Zb Ze (Zb Ze (Zb Ze (Zb Ze Za)))))) ⟨szA,fun p H1 s1 n1 e1=>q p H1 s1 n1 e1⟩
  have h2:¬k = "cross" :=by simpa using hc
  refine WSs.step (Z8 (Zm (r:=Wo K) (Wv hr) (pv 0) Ze (Z0 _)) Zv Zs) (exR rfl (.inl ⟨rfl,_,rfl,Ye (fun hc=>?_) (fun hc=>?_)⟩))
  ·have hc:k = "plain" :=by simpa using hc
   subst hc;exact WSs.last (Zl (Zk (Zb Ze (Zb Ze Za)))) ⟨szA,fun p H1 s1 n1 e1=>q p H1 s1 n1 e1⟩
  have h3:¬k = "plain" :=by simpa using hc
  exact WSs.last (Zl (Zk (Zb Ze Za))) ⟨szA,fun p H1 s1 n1 e1=>q p H1 s1 n1 (by unfold Z6;rw [if_neg h1,if_neg h2,if_neg h3];exact e1)⟩
theorem Zg9(T:Tx K mg){k:Nat}(h:1<=k:=by decide):Zy P w K mg base CX0 k T.aO.f T.aO.fd ["_law_kind"] Zv6:=(Zma T).mono h
theorem Zii{n:Nat}{i:Int}{l:List Nat}(hl:l.length=n)(h0:0<=i)(h1:i<n):atI l i=some (l.getD i.toNat 0):=by
 have e:i=((i.toNat:Nat):Int):=by lia
 have hi:i.toNat<l.length:=by lia
 rw [e];refine Y4 ?_;rw [List.getD_eq_getElem?_getD,Int.toNat_natCast,List.getElem?_eq_getElem hi]
 rfl
def Zoa:Sp:=fun vs H Q _=>∃(kind:Str) (c:Int) (k:Nat),vs=[.str kind,.int c,.int k]/\0<kind.length/\kind.length<=100/\0<=c/\k<100/\Q (.str (Yk kind c k)) H
theorem Zh0(T:Tx K mg):Zy P w K mg base CX0 1 T.ao.f T.ao.fd ["_law_kind", "_law_cell", "_law_k"] Zoa:=by
 refine T.ao.F.okW Zat fun b7 A outer s H vs Q E hr h=>?_
 ·obtain ⟨kind,c,k,rfl,hk0,Q9,hc,hk,q⟩:=h;intro X;refine WSs.step (Zz (i:=3) Zat.nd Ze) ?_;have fl:=Zfy k hk;refine WSs.step (Z8 (Zm (r:=Wo K) (Wv hr) (Zp Yn (pv 1) Zd) Zd (Z0 _)) Zv Zs) (exR rfl (exQ rfl rfl ⟨(by show (0:Int)<3;decide),.inl ⟨rfl,_,rfl,Ye (fun hc3=>?_) (fun hc3=>?_)⟩⟩))
  ·have hc3:c%3=0:=by simpa using hc3
   unfold Yk at q;rw [if_pos hc3] at q;refine WSs.last (Zl (Zp Wp (Zn (K:=K) rfl (pv 0) Zd) (Zab W4 (by rfl) T.cp PyProof.Rows.boot_str (Zb (pv 2) Za)))) (exR rfl (.inr (.inr ⟨kind,0,kind.cps.toList.getD 0 0,rfl,rfl,sz (by lia),?_,_,rfl,(k:Int),rfl,Zmd hk,.inr (.inl (exQ rfl rfl ⟨sz ?_,q⟩))⟩)))
   ·have:(0:Int)<kind.cps.toList.length:=by rw [Array.length_toList];exact Int.ofNat_lt.mpr hk0
    exact Zii (n:=kind.cps.toList.length) rfl (by decide) this
   ·show 1+(Zec k).length<=1000;lia
  have hc3:¬c%3=0:=by simpa using hc3
  have a0:=Int.emod_nonneg (c / 3) (show (26:Int)≠0 by decide);have a1:=Int.emod_lt_of_pos (c / 3) (show (0:Int)<26 by decide);have b0:=Int.emod_nonneg (c / 78) (show (26:Int)≠0 by decide);have b1:=Int.emod_lt_of_pos (c / 78) (show (0:Int)<26 by decide);have z0:=Int.emod_nonneg (c / 2028) (show (3:Int)≠0 by decide);have z1:=Int.emod_lt_of_pos (c / 2028) (show (0:Int)<3 by decide);obtain ⟨zn,hzn⟩:∃zn:Nat,c / 2028%3=(zn:Int):=⟨(c / 2028%3).toNat,by lia⟩
  unfold Yk at q;rw [if_neg hc3,hzn,Int.toNat_natCast] at q;refine WSs.step (Zz (i:=4) Zat.nd (Zp Wp (Zn (K:=K) rfl (pv 3) (Zp Yn (Zp Yo (pv 1) Zd) Zd)) (Zn (K:=K) rfl (pv 3) (Zp Yn (Zp Yo (pv 1) Zd) Zd)))) (exR rfl (exR rfl (exQ rfl rfl ⟨⟨by decide,by decide⟩,_,_,rfl,rfl,(by show (0:Int)<26;decide),.inr (.inr ⟨_,_,Zck (c / 3%26),rfl,rfl,sz (by rw [Zh3];decide),(by rw [Zm2];exact Zii (n:=26) rfl a0 a1),?_⟩)⟩)));refine (exR rfl (exR rfl (exQ rfl rfl ⟨⟨by decide,by decide⟩,_,_,rfl,rfl,(by show (0:Int)<26;decide),.inr (.inr ⟨_,_,Zck (c / 78%26),rfl,rfl,sz (by rw [Zh3];decide),(by rw [Zm2];exact Zii (n:=26) rfl b0 b1),.inr (.inl (exQ rfl rfl ⟨sz (by show 1+1<=1000;decide),?_⟩))⟩)⟩)));have rl:(Zgf "0" zn).length<=2:=by
   have:zn<3:=by lia
   have hd:∀m,m<3->(Zgf "0" m).length<=2:=by trivial
   exact hd zn this
  have ll:(⟨#[Zck (c / 3%26)]⟩++⟨#[Zck (c / 78%26)]⟩:Str).length=2:=by rw [PySem.Str.length_append];rfl
  refine WSs.last (Zl (Zp Wp (Zp Wp (pv 4) (Zp Zxr Ze (Zp Yn (Zp Yo (pv 1) Zd) Zd))) (Zab W4 (by rfl) T.cp PyProof.Rows.boot_str (Zb (pv 2) Za)))) (exR rfl (exR rfl (exQ rfl rfl ⟨⟨by decide,by decide⟩,_,_,rfl,rfl,(by show (0:Int)<3;decide), "0",zn,rfl,by rw [<-hzn],by show 1 * zn<=1000;lia,by lia,.inr (.inl (exQ rfl rfl ⟨sz (by rw [ll];lia),_,rfl,(k:Int),rfl,Zmd hk,.inr (.inl (exQ rfl rfl ⟨sz ?_,q⟩))⟩))⟩)));show _+(Zec k).length<=1000;rw [PySem.Str.length_append,ll];lia
theorem Zdk(T:Tx K mg){k:Nat}(h:1<=k:=by decide):Zy P w K mg base CX0 k T.ao.f T.ao.fd ["_law_kind", "_law_cell", "_law_k"] Zoa:=(Zh0 T).mono h
def Zq(H:Hp)(t:Addr)(q:Zc):Prop:=H t=some (.tup [.str q.1,.str q.2])
def X1(H:Hp)(t:Addr)(j:Zc×Zc):Prop:=∃a b,H t=some (.tup [.ref a,.ref b])/\Zq H a j.1/\Zq H b j.2
def Zt(H:Hp)(l:Addr)(ps:List Zc):Prop:=∃ts:List Addr,H l=some (.lst (ts.map V.ref))/\Paired (Zq H) ts ps
def Yd(H:Hp)(l:Addr)(js:List (Zc×Zc)):Prop:=∃ts:List Addr,H l=some (.lst (ts.map V.ref))/\Paired (X1 H) ts js
theorem Zq.mono{H H':Hp}{t:Addr}{q:Zc}(e:Same H H')(h:Zq H t q):Zq H' t q:=e.at h
theorem X1.mono{H H':Hp}{t:Addr}{j:Zc×Zc}(e:Same H H')(h:X1 H t j):X1 H' t j:=let ⟨a,b,h1,h2,h3⟩:=h;⟨a,b,e.at h1,h2.mono e,h3.mono e⟩
theorem Zt.mono{H H':Hp}{l:Addr}{ps:List Zc}(e:Same H H')(h:Zt H l ps):Zt H' l ps:=let ⟨ts,h1,h2⟩:=h;⟨ts,e.at h1,Paired.mapP h2 fun _ _ r=>r.mono e⟩
theorem Yd.mono{H H':Hp}{l:Addr}{js:List (Zc×Zc)}(e:Same H H')(h:Yd H l js):Yd H' l js:=let ⟨ts,h1,h2⟩:=h;⟨ts,e.at h1,Paired.mapP h2 fun _ _ r=>r.mono e⟩
def Zrd:Sp:=fun vs H Q _=>∃(c:Int) (nl:Addr) (n1 n2 n3 n4:Str),vs=[.int c,.ref nl]/\H nl=some (.lst [.str n1,.str n2,.str n3,.str n4]) /\
 ∀(t:Addr) (H':Hp) (pl jl ie oe:Addr) (ps:List Zc) (js:List (Zc×Zc)) (e1 e2:Zc),Same H H'->H' t=some (.tup [.ref pl,.ref jl,.ref ie,.ref oe])->Zt H' pl ps->Yd H' jl js->Zq H' ie e1->Zq H' oe e2->Wz n1 n2 n3 n4 ps js e1 e2->Q (.ref t) H'
theorem Zmu{n:Int}{u v:V}:∃w,atI [u,v] (n%2)=some w/\((n%2=0/\w=u)\/(n%2=1/\w=v)):=by
 have h0:=Int.emod_nonneg n (show (2:Int)≠0 by decide);have h1:=Int.emod_lt_of_pos n (show (0:Int)<2 by decide);generalize n%2=m at h0 h1;have:m=0\/m=1:=by lia
 rcases this with rfl|rfl
 ·exact ⟨u,rfl,.inl ⟨rfl,rfl⟩⟩
 ·exact ⟨v,rfl,.inr ⟨rfl,rfl⟩⟩
theorem Zx3{l D:Addr}{xs:List Str}{x:Str}{H1:Hp}{Q:VK}{σ:St}(hl:H1 l=some (.lst (xs.map V.str)))(hn:xs.length<=100)(hD:H1 D=none)(q:∀H',Same H1 H'->H' D=some (.lst ((xs.filter fun e=>decide (e≠x)).map V.str))->Q (.ref D) H'){fr:St->St}(B6:fr σ=[none,some (.str x)]){tf:TT}(htf:tf=Zyp (tOp (Zfg K) (Zkh 0) (Zkh 1))) :
  Zdp (Itl K l) fr (Zdm 0) tf (Zkh 0) Q σ H1 D:=by
 refine Xr (xs:=xs.map V.str) (fun i ys H'=>ys=((xs.take i).filter fun e=>decide (e≠x)).map V.str/\H' D=some (.lst ys)/\Same H1 H') ⟨rfl,Zf,Same.new hD⟩ ?_ ?_ ?_
 ·rintro i ys H' _ ⟨_,_,sm⟩;exact SqL.of (sm.at hl)
 ·rintro k v ys H' hk ⟨rfl,A4,sm⟩;rw [List.getElem?_map] at hk;obtain ⟨y,hy,rfl⟩:=Option.map_eq_some_iff.mp hk;unfold Zcj;rw [B6,htf];refine ⟨X5.set rfl,_,rfl,_,rfl,.inl ⟨rfl,_,rfl,Ye (fun hc=>?_) (fun hc=>?_)⟩⟩
  ·have hc:y≠x:=by simpa using hc
   refine (exR rfl ⟨A4,?_,?_,Zf,fun b o e=>?_⟩)
   ·rw [List.length_map];have:=List.length_filter_le (fun e:Str=>decide (e≠x)) (xs.take k);rw [List.length_take] at this;exact Zw (by lia)
   ·rw [List.take_add_one,hy,List.filter_append,List.map_append,show (some y).toList=[y] from rfl,List.filter_cons,if_pos (decide_eq_true hc)]
    rfl
   ·rw [Zh (Zj e hD)];exact sm.at e
  ·have hc:¬y≠x:=by simpa using hc
   refine ⟨?_,A4,sm⟩;rw [List.take_add_one,hy,List.filter_append,show (some y).toList=[y] from rfl,List.filter_cons,if_neg (by simpa using hc),List.filter_nil,List.append_nil]
 ·rintro ys H6 ⟨rfl,M8,s6⟩;rw [List.length_map,List.take_length] at M8;exact q H6 s6 M8
theorem Zko(T:Tx K mg):Zy P w K mg base CX0 1 T.aV.f T.aV.fd ["_law_cell", "_law_names"] Zrd:=by
 refine T.aV.F.okW Z3 fun b7 A outer s H vs Q E hr h=>?_
 ·obtain ⟨c,nl,n1,n2,n3,n4,rfl,hnl,q⟩:=h;intro X;refine WSs.step (Zuh (pv 1) (Zzj rfl (Z4 (Yr (i:=2) Z3.nd) (Z4 (Yr (i:=3) Z3.nd) (Z4 (Yr (i:=4) Z3.nd) (Z4 (Yr (i:=5) Z3.nd) Xl)))))) (exR rfl ⟨nl,_,rfl,SqL.of hnl,rfl,_,_,rfl,_,_,rfl,_,_,rfl,_,_,rfl,rfl,?_⟩);refine WSs.step (Zz (i:=6) Z3.nd (Zp Yn (pv 0) Zd)) (exR rfl (exQ rfl rfl ⟨(by show (0:Int)<8;decide),?_⟩));refine WSs.step (Z8 (Zm Zhb (pv 6) Zd (Z0 _)) Zv Zs) (exR rfl (exQ rfl rfl (exR rfl (Ye (fun _=>?_) (fun _=>?_)))))
  ·refine WSs.step (Zz (i:=7) Z3.nd (Zn (K:=K) rfl (Zk (Zb (Zk (Zb Ze (Zb Ze Za))) (Zb (Zk (Zb Ze (Zb Ze Za))) Za))) (Zp Yn (Zp Yo (pv 0) Zd) Zd))) ⟨szA,fun la H1 s1 _ e1=>⟨szA,fun lb H2 s2 _ e2=>⟨szA,fun ll H3 s3 _ e3=>(exR rfl (exQ rfl rfl ⟨⟨by decide,by decide⟩,_,_,rfl,rfl,(by show (0:Int)<2;decide),?_⟩))⟩⟩⟩;obtain ⟨l7,a,b,T2,h7,N9⟩:∃l7 a b,atI [V.ref la,.ref lb] (c / 8%2)=some (.ref l7)/\H3 l7=some (.lst [.str a,.str b])/\(a,b)∈[(("a" :Str),("b" :Str)),("b", "a")]:=by
    obtain ⟨w,hw,h | h⟩:=Zmu (n:=c / 8) (u:=V.ref la) (v:=V.ref lb)
    ·exact ⟨la, "a", "b",by rw [hw,h.2],s3.at (s2.at e1),by simp⟩
    ·exact ⟨lb, "b", "a",by rw [hw,h.2],s3.at e2,by simp⟩
   refine .inl ⟨ll,_,_,.ref l7,rfl,rfl,SqL.of e3,T2,?_⟩;have K1:=s1.trans (s2.trans s3);refine WSs.last (Zl (Zi (Zb (Zk (Zb (Zi (Zb Ze (Zb (pv 2) Za))) Za)) (Zb (Zk Za) (Zb (Zi (Zb (pv 2) (Zb (Zn (K:=K) rfl (pv 7) Zd) Za))) (Zb (Zi (Zb (pv 2) (Zb (Zn (K:=K) rfl (pv 7) Zd) Za))) Za)))))) (exR rfl ⟨szA,fun t1 H4 s4 _ e4=>⟨szA,fun pl H5 s5 _ e5=>⟨szA,fun jl H6 s6 _ e6=>(exR rfl (exR rfl (.inl ⟨l7,_,_,.str a,rfl,rfl,SqL.of (s6.at (s5.at (s4.at h7))),rfl,szA,fun ie H7 s7 _ e7=>(exR rfl (exR rfl (.inl ⟨l7,_,_,.str b,rfl,rfl,SqL.of (s7.at (s6.at (s5.at (s4.at h7)))),rfl,szA,fun oe H8 s8 _ e8=>⟨szA,fun t H9 s9 _ e9=>?_⟩⟩)))⟩)))⟩⟩⟩);exact q t H9 pl jl ie oe _ _ _ _ (K1.trans (s4.trans (s5.trans (s6.trans (s7.trans (s8.trans s9)))))) e9 ⟨[t1],s9.at (s8.at (s7.at (s6.at e5))),.cons (s9.at (s8.at (s7.at (s6.at (s5.at e4))))) .nil⟩ ⟨[],s9.at (s8.at (s7.at e6)),.nil⟩ (s9.at (s8.at e7)) (s9.at e8) (.plain a b N9)
  refine WSs.step (Z8 (Zm Zhb (pv 6) Zd (Z0 _)) Zv Zs) (exR rfl (exQ rfl rfl (exR rfl (Ye (fun _=>?_) (fun _=>?_)))))
  ·refine WSs.step (Zz (i:=8) Z3.nd (Zn (K:=K) rfl (Zk (Zb (Zk (Zb Ze (Zb Ze Za))) (Zb (Zk (Zb Ze (Zb Ze Za))) Za))) (Zp Yn (Zp Yo (pv 0) Zd) Zd))) ⟨szA,fun la H1 s1 _ e1=>⟨szA,fun lb H2 s2 _ e2=>⟨szA,fun ll H3 s3 _ e3=>(exR rfl (exQ rfl rfl ⟨⟨by decide,by decide⟩,_,_,rfl,rfl,(by show (0:Int)<2;decide),?_⟩))⟩⟩⟩;obtain ⟨l7,a,b,T2,h7,N9⟩:∃l7 a b,atI [V.ref la,.ref lb] (c / 8%2)=some (.ref l7)/\H3 l7=some (.lst [.str a,.str b])/\(a,b)∈[(("left" :Str),("right" :Str)),("right", "left")]:=by
    obtain ⟨w,hw,h | h⟩:=Zmu (n:=c / 8) (u:=V.ref la) (v:=V.ref lb)
    ·exact ⟨la, "left", "right",by rw [hw,h.2],s3.at (s2.at e1),by simp⟩
    ·exact ⟨lb, "right", "left",by rw [hw,h.2],s3.at e2,by simp⟩
   refine .inl ⟨ll,_,_,.ref l7,rfl,rfl,SqL.of e3,T2,?_⟩;have K1:=s1.trans (s2.trans s3);refine WSs.step (Zz (i:=9) Z3.nd (Zk (Zb (Zi (Zb (Zi (Zb (pv 2) (Zb Ze Za))) (Zb (Zi (Zb (pv 3) (Zb Ze Za))) Za))) (Zb (Zi (Zb (Zi (Zb (pv 2) (Zb Ze Za))) (Zb (Zi (Zb (pv 4) (Zb Ze Za))) Za))) Za)))) (exR rfl ⟨szA,fun a1 H4 s4 _ f1=>(exR rfl ⟨szA,fun a2 H5 s5 _ f2=>⟨szA,fun j1 H6 s6 _ f3=>(exR rfl ⟨szA,fun a3 H7 s7 _ f4=>(exR rfl ⟨szA,fun a4 H8 s8 _ f5=>⟨szA,fun j2 H9 s9 _ f6=>⟨szA,fun jA L4 j8 _ f7=>?_⟩⟩⟩)⟩)⟩⟩)⟩);have J1:X1 L4 j1 ((n1, "left"),(n2, "a")):=⟨a1,a2,j8.at (s9.at (s8.at (s7.at f3))),j8.at (s9.at (s8.at (s7.at (s6.at (s5.at f1))))),j8.at (s9.at (s8.at (s7.at (s6.at f2))))⟩
   have J2:X1 L4 j2 ((n1, "right"),(n3, "a")):=⟨a3,a4,j8.at f6,j8.at (s9.at (s8.at f4)),j8.at (s9.at f5)⟩
   have s0A:=K1.trans (s4.trans (s5.trans (s6.trans (s7.trans (s8.trans (s9.trans j8))))));have h7:=(s4.trans (s5.trans (s6.trans (s7.trans (s8.trans (s9.trans j8)))))).at h7;clear s1 s2 s3 s4 s5 s6 s7 s8 s9 j8 f1 f2 f3 f4 f5 f6 e1 e2 e3 K1;refine WSs.step (Zz (i:=9) Z3.nd (Zp Wp (pv 9) (Zk (Zb (Zi (Zb (Zi (Zb (pv 3) (Zb Ze Za))) (Zb (Zi (Zb (pv 5) (Zb (Zn (K:=K) rfl (pv 8) Zd) Za))) Za))) (Zb (Zi (Zb (Zi (Zb (pv 5) (Zb (Zn (K:=K) rfl (pv 8) Zd) Za))) (Zb (Zi (Zb (pv 4) (Zb Ze Za))) Za))) Za))))) (exR rfl (exR rfl ⟨szA,fun b1 I0 k9 _ f1=>(exR rfl (exR rfl (.inl ⟨l7,_,_,.str a,rfl,rfl,SqL.of (k9.at h7),rfl,szA,fun b2 Q5 v5 _ f2=>⟨szA,fun j3 H13 p8 _ f3=>(exR rfl (exR rfl (.inl ⟨l7,_,_,.str b,rfl,rfl,SqL.of (p8.at (v5.at (k9.at h7))),rfl,szA,fun b3 V2 o0 _ f4=>(exR rfl ⟨szA,fun b4 H15 z7 _ f5=>⟨szA,fun j4 H16 u0 _ f6=>⟨szA,fun jB H17 v7 _ f8=>.inr (.inr ⟨jA,jB,_,_,rfl,rfl,(k9.trans (v5.trans (p8.trans (o0.trans (z7.trans (u0.trans v7)))))).at f7,f8,szA,fun jl H18 w9 _ f9=>?_⟩)⟩⟩⟩)⟩)))⟩⟩)))⟩));have sAB:=k9.trans (v5.trans (p8.trans (o0.trans (z7.trans (u0.trans (v7.trans w9))))));have J3:X1 H18 j3 ((n2, "b"),(n4,a)):=⟨b1,b2,(o0.trans (z7.trans (u0.trans (v7.trans w9)))).at f3,(v5.trans (p8.trans (o0.trans (z7.trans (u0.trans (v7.trans w9)))))).at f1,(p8.trans (o0.trans (z7.trans (u0.trans (v7.trans w9))))).at f2⟩
   have J4:X1 H18 j4 ((n4,b),(n3, "b")):=⟨b3,b4,(v7.trans w9).at f6,(z7.trans (u0.trans (v7.trans w9))).at f4,(u0.trans (v7.trans w9)).at f5⟩
   have w4:Yd H18 jl [((n1, "left"),(n2, "a")),((n1, "right"),(n3, "a")),((n2, "b"),(n4,a)),((n4,b),(n3, "b"))]:=⟨[j1,j2,j3,j4],f9,.cons (J1.mono sAB) (.cons (J2.mono sAB) (.cons J3 (.cons J4 .nil)))⟩
   have s0B:=s0A.trans sAB;clear J1 J2 J3 J4 k9 v5 p8 o0 z7 u0 v7 w9 sAB s0A f1 f2 f3 f4 f5 f6 f7 f8 f9 h7;refine WSs.step (Zz (i:=10) Z3.nd (Zk (Zb (Zi (Zb Ze (Zb (pv 2) Za))) (Zb (Zi (Zb Ze (Zb (pv 3) Za))) (Zb (Zi (Zb Ze (Zb (pv 4) Za))) (Zb (Zi (Zb Ze (Zb (pv 5) Za))) Za)))))) (exR rfl ⟨szA,fun c1 G1 s1 _ f1=>(exR rfl ⟨szA,fun c2 G2 s2 _ f2=>(exR rfl ⟨szA,fun c3 G3 s3 _ f3=>(exR rfl ⟨szA,fun c4 G4 s4 _ f4=>⟨szA,fun pl G5 s5 _ f5=>?_⟩⟩)⟩)⟩)⟩);have j0:Zt G5 pl [("points",n1),("plain",n2),("plain",n3),("points",n4)]:=⟨[c1,c2,c3,c4],f5,.cons (s5.at (s4.at (s3.at (s2.at f1)))) (.cons (s5.at (s4.at (s3.at f2))) (.cons (s5.at (s4.at f3)) (.cons (s5.at f4) .nil)))⟩
   have sG:=s1.trans (s2.trans (s3.trans (s4.trans s5)));refine WSs.last (Zl (Zi (Zb (pv 10) (Zb (pv 9) (Zb (Zi (Zb (pv 2) (Zb Ze Za))) (Zb (Zi (Zb (pv 5) (Zb Ze Za))) Za)))))) (exR rfl (exR rfl (exR rfl ⟨szA,fun ie G6 s6 _ f6=>(exR rfl ⟨szA,fun oe G7 s7 _ f7=>⟨szA,fun t G8 s8 _ f8=>?_⟩⟩)⟩)));have O0:=s6.trans (s7.trans s8);exact q t G8 pl jl ie oe _ _ _ _ (s0B.trans (sG.trans O0)) f8 (j0.mono O0) (w4.mono (sG.trans O0)) ((s7.trans s8).at f6) (s8.at f7) (.loop a b N9)
  refine WSs.step (Z8 (Zm Zhb (pv 6) Zd (Z0 _)) Zv Zs) (exR rfl (exQ rfl rfl (exR rfl (Ye (fun _=>?_) (fun _=>?_)))))
  ·refine WSs.step (Zz (i:=7) Z3.nd (Zk (Zb Ze (Zb Ze (Zb Ze Za))))) ⟨szA,fun le H1 s1 _ e1=>?_⟩;refine WSs.step (Zz (i:=11) Z3.nd (Zp Yn (Zp Yo (pv 0) Zd) Zd)) (exR rfl (exQ rfl rfl ⟨⟨by decide,by decide⟩,_,_,rfl,rfl,(by show (0:Int)<3;decide),?_⟩));obtain ⟨x,r0,r1,T2,R0,hpm⟩:∃x r0 r1:Str,atI [V.str "stem",.str "left",.str "right"] (2-c / 8%3)=some (.str x)/\(([("stem" :Str), "left", "right"].filter fun e=>decide (e≠x))=[r0,r1])/\[x,r0,r1].Perm ["stem", "left", "right"]:=by
    have h0:=Int.emod_nonneg (c / 8) (show (3:Int)≠0 by decide);have h1:=Int.emod_lt_of_pos (c / 8) (show (0:Int)<3 by decide);generalize c / 8%3=m at h0 h1;have:m=0\/m=1\/m=2:=by lia
    rcases this with rfl|rfl|rfl
    ·exact ⟨"right", "stem", "left",rfl,by trivial,by trivial⟩
    ·exact ⟨"left", "stem", "right",rfl,by trivial,by trivial⟩
    ·exact ⟨"stem", "left", "right",rfl,by trivial,by trivial⟩
   refine WSs.step (Zz (i:=12) Z3.nd (Zn (K:=K) rfl (pv 7) (Zp Zdn Zd (pv 11)))) (exR rfl (exR rfl (exQ rfl rfl (.inl ⟨le,_,_,.str x,rfl,rfl,SqL.of e1,T2,?_⟩))));refine WSs.step (Zz (i:=9) Z3.nd (Zk (Zb (Zi (Zb (Zi (Zb (pv 2) (Zb (pv 12) Za))) (Zb (Zi (Zb (pv 3) (Zb Ze Za))) Za))) (Zb (Zi (Zb (Zi (Zb (pv 3) (Zb Ze Za))) (Zb (Zi (Zb (pv 4) (Zb Ze Za))) Za))) Za)))) (exR rfl (exR rfl ⟨szA,fun a1 H2 s2 _ f1=>(exR rfl ⟨szA,fun a2 H3 s3 _ f2=>⟨szA,fun j1 H4 s4 _ f3=>(exR rfl ⟨szA,fun a3 H5 s5 _ f4=>(exR rfl ⟨szA,fun a4 H6 s6 _ f5=>⟨szA,fun j2 H7 s7 _ f6=>⟨szA,fun jl H8 s8 _ f7=>?_⟩⟩⟩)⟩)⟩⟩)⟩));have w4:Yd H8 jl [((n1,x),(n2, "b")),((n2, "a"),(n3, "a"))]:=⟨[j1,j2],f7,.cons ⟨a1,a2,(s5.trans (s6.trans (s7.trans s8))).at f3,(s3.trans (s4.trans (s5.trans (s6.trans (s7.trans s8))))).at f1,(s4.trans (s5.trans (s6.trans (s7.trans s8)))).at f2⟩ (.cons ⟨a3,a4,s8.at f6,(s6.trans (s7.trans s8)).at f4,(s7.trans s8).at f5⟩ .nil)⟩
   have s28:=s2.trans (s3.trans (s4.trans (s5.trans (s6.trans (s7.trans s8)))));have s08:=s1.trans s28;have e1:=s28.at e1;clear s1 s2 s3 s4 s5 s6 s7 s8 f1 f2 f3 f4 f5 f6 f7 s28;refine WSs.step (Wq (i:=13) (N':=["_law_end", "_law_aside"]) Z3.nd rfl (Or.inl rfl) rfl (Z5.std 1 [12] rfl (by trivial) (by trivial) rfl ⟨rfl,trivial⟩ rfl rfl ⟨(exR rfl ⟨rfl,rfl⟩),trivial⟩) (Ym (pv 7)) (fun _ _ _ _=>(Zan (i:=0) (by show (["_law_end", "_law_aside"]:List Str).Nodup;decide +kernel))) (fun _ _ _ _=>(Ze8 (Zm (r:=Zfg K) (Zhf hr) (pv 0) (pv 1) (Z0 _)))) (fun _ _ _ _=>(pv 0))) (exR rfl ⟨le,rfl,⟨_,SqL.of e1⟩,fun lr hlr=>?_⟩);refine Zx3 (xs:=["stem", "left", "right"]) (x:=x) e1 (by decide) hlr (fun H9 s9 e9=>?qq) ?aa ?bb
   case aa=>rfl
   case bb=>rfl
   rw [R0] at e9;obtain ⟨kd,D4,T3⟩:∃kd:Str,atI [V.str "stop",.str "gate"] (c / 24%2)=some (.str kd)/\kd∈[("stop" :Str), "gate"]:=by
    obtain ⟨w,hw,h | h⟩:=Zmu (n:=c / 24) (u:=V.str "stop") (v:=V.str "gate")
    ·exact ⟨"stop",by rw [hw,h.2],by simp⟩
    ·exact ⟨"gate",by rw [hw,h.2],by simp⟩
   refine WSs.step (Zz (i:=10) Z3.nd (Zk (Zb (Zi (Zb Ze (Zb (pv 2) Za))) (Zb (Zi (Zb Ze (Zb (pv 3) Za))) (Zb (Zi (Zb (Zn (K:=K) rfl (Zk (Zb Ze (Zb Ze Za))) (Zp Yn (Zp Yo (pv 0) Zd) Zd)) (Zb (pv 4) Za))) Za))))) (exR rfl ⟨szA,fun c1 G1 s1 _ f1=>(exR rfl ⟨szA,fun c2 G2 s2 _ f2=>⟨szA,fun lk G3 s3 _ f3=>(exR rfl (exQ rfl rfl ⟨⟨by decide,by decide⟩,_,_,rfl,rfl,(by show (0:Int)<2;decide),.inl ⟨lk,_,_,.str kd,rfl,rfl,SqL.of f3,D4,_,rfl,szA,fun c3 G4 s4 _ f4=>⟨szA,fun pl G5 s5 _ f5=>?_⟩⟩⟩))⟩⟩)⟩);have j0:Zt G5 pl [("points",n1),("plain",n2),(kd,n3)]:=⟨[c1,c2,c3],f5,.cons (s5.at (s4.at (s3.at (s2.at f1)))) (.cons (s5.at (s4.at (s3.at f2))) (.cons (s5.at f4) .nil))⟩
   have sG:=s1.trans (s2.trans (s3.trans (s4.trans s5)));obtain ⟨a,b,ha,hb,N9⟩:∃a b:Str,atI [V.str r0,.str r1] (c / 48%2)=some (.str a)/\atI [V.str r0,.str r1] (1-c / 48%2)=some (.str b)/\[x,a,b].Perm ["stem", "left", "right"]:=by
    have h0:=Int.emod_nonneg (c / 48) (show (2:Int)≠0 by decide);have h1:=Int.emod_lt_of_pos (c / 48) (show (0:Int)<2 by decide);generalize c / 48%2=m at h0 h1;have:m=0\/m=1:=by lia
    rcases this with rfl|rfl
    ·exact ⟨r0,r1,rfl,rfl,hpm⟩
    ·exact ⟨r1,r0,rfl,rfl,((List.Perm.swap r0 r1 []).cons x).trans hpm⟩
   refine WSs.last (Zl (Zi (Zb (pv 10) (Zb (pv 9) (Zb (Zi (Zb (pv 2) (Zb (Zn (K:=K) rfl (pv 13) (Zp Yn (Zp Yo (pv 0) Zd) Zd)) Za))) (Zb (Zi (Zb (pv 2) (Zb (Zn (K:=K) rfl (pv 13) (Zp Zdn Zd (Zp Yn (Zp Yo (pv 0) Zd) Zd))) Za))) Za)))))) (exR rfl (exR rfl (exR rfl (exR rfl (exR rfl (exQ rfl rfl ⟨⟨by decide,by decide⟩,_,_,rfl,rfl,(by show (0:Int)<2;decide),.inl ⟨lr,_,_,.str a,rfl,rfl,SqL.of (sG.at e9),ha,szA,fun ie G6 s6 _ f6=>?_⟩⟩))))));refine (exR rfl (exR rfl (exR rfl (exQ rfl rfl ⟨⟨by decide,by decide⟩,_,_,rfl,rfl,(by show (0:Int)<2;decide),_,_,rfl,rfl,.inl ⟨lr,_,_,.str b,rfl,rfl,SqL.of (s6.at (sG.at e9)),hb,szA,fun oe G7 s7 _ f7=>⟨szA,fun t G8 s8 _ f8=>?_⟩⟩⟩))));have O0:=s6.trans (s7.trans s8);exact q t G8 pl jl ie oe _ _ _ _ (s08.trans (s9.trans (sG.trans O0))) f8 (j0.mono O0) (w4.mono (s9.trans (sG.trans O0))) ((s7.trans s8).at f6) (s8.at f7) (.siding x a b kd N9 T3)
  refine WSs.step (Zz (i:=9) Z3.nd (Zk (Zb (Zi (Zb (Zi (Zb (pv 2) (Zb Ze Za))) (Zb (Zi (Zb (pv 3) (Zb Ze Za))) Za))) (Zb (Zi (Zb (Zi (Zb (pv 4) (Zb Ze Za))) (Zb (Zi (Zb (pv 2) (Zb Ze Za))) Za))) Za)))) (exR rfl ⟨szA,fun a1 H2 s2 _ f1=>(exR rfl ⟨szA,fun a2 H3 s3 _ f2=>⟨szA,fun j1 H4 s4 _ f3=>(exR rfl ⟨szA,fun a3 H5 s5 _ f4=>(exR rfl ⟨szA,fun a4 H6 s6 _ f5=>⟨szA,fun j2 H7 s7 _ f6=>⟨szA,fun jl H8 s8 _ f7=>?_⟩⟩⟩)⟩)⟩⟩)⟩);have w4:Yd H8 jl [((n1, "c"),(n2, "a")),((n3, "a"),(n1, "d"))]:=⟨[j1,j2],f7,.cons ⟨a1,a2,(s5.trans (s6.trans (s7.trans s8))).at f3,(s3.trans (s4.trans (s5.trans (s6.trans (s7.trans s8))))).at f1,(s4.trans (s5.trans (s6.trans (s7.trans s8)))).at f2⟩ (.cons ⟨a3,a4,s8.at f6,(s6.trans (s7.trans s8)).at f4,(s7.trans s8).at f5⟩ .nil)⟩
  have s08:=s2.trans (s3.trans (s4.trans (s5.trans (s6.trans (s7.trans s8)))));clear s2 s3 s4 s5 s6 s7 s8 f1 f2 f3 f4 f5 f6 f7;obtain ⟨kd,D4,T3⟩:∃kd:Str,atI [V.str "gate",.str "stop"] (c / 8%2)=some (.str kd)/\kd∈[("gate" :Str), "stop"]:=by
   obtain ⟨w,hw,h | h⟩:=Zmu (n:=c / 8) (u:=V.str "gate") (v:=V.str "stop")
   ·exact ⟨"gate",by rw [hw,h.2],by simp⟩
   ·exact ⟨"stop",by rw [hw,h.2],by simp⟩
  refine WSs.step (Zz (i:=10) Z3.nd (Zk (Zb (Zi (Zb Ze (Zb (pv 2) Za))) (Zb (Zi (Zb Ze (Zb (pv 3) Za))) (Zb (Zi (Zb (Zn (K:=K) rfl (Zk (Zb Ze (Zb Ze Za))) (Zp Yn (Zp Yo (pv 0) Zd) Zd)) (Zb (pv 4) Za))) Za))))) (exR rfl ⟨szA,fun c1 G1 s1 _ f1=>(exR rfl ⟨szA,fun c2 G2 s2 _ f2=>⟨szA,fun lk G3 s3 _ f3=>(exR rfl (exQ rfl rfl ⟨⟨by decide,by decide⟩,_,_,rfl,rfl,(by show (0:Int)<2;decide),.inl ⟨lk,_,_,.str kd,rfl,rfl,SqL.of f3,D4,_,rfl,szA,fun c3 G4 s4 _ f4=>⟨szA,fun pl G5 s5 _ f5=>?_⟩⟩⟩))⟩⟩)⟩);have j0:Zt G5 pl [("cross",n1),("gate",n2),(kd,n3)]:=⟨[c1,c2,c3],f5,.cons (s5.at (s4.at (s3.at (s2.at f1)))) (.cons (s5.at (s4.at (s3.at f2))) (.cons (s5.at f4) .nil))⟩
  have sG:=s1.trans (s2.trans (s3.trans (s4.trans s5)));refine WSs.last (Zl (Zi (Zb (pv 10) (Zb (pv 9) (Zb (Zi (Zb (pv 2) (Zb Ze Za))) (Zb (Zi (Zb (pv 2) (Zb Ze Za))) Za)))))) (exR rfl (exR rfl (exR rfl ⟨szA,fun ie G6 s6 _ f6=>(exR rfl ⟨szA,fun oe G7 s7 _ f7=>⟨szA,fun t G8 s8 _ f8=>?_⟩⟩)⟩)));have O0:=s6.trans (s7.trans s8);exact q t G8 pl jl ie oe _ _ _ _ (s08.trans (sG.trans O0)) f8 (j0.mono O0) (w4.mono (sG.trans O0)) ((s7.trans s8).at f6) (s8.at f7) (.cross kd T3)
theorem Zm0(T:Tx K mg){k:Nat}(h:1<=k:=by decide):Zy P w K mg base CX0 k T.aV.f T.aV.fd ["_law_cell", "_law_names"] Zrd:=(Zko T).mono h
end
end K22
end
section
namespace K22
open PySem L2 NM YM
section
variable {P:Program} {w:World} {K:Frag} {mg:Str->Option Value} {base:Heap}
seal PySem.wpAny
theorem Zbj(xs:List V)(k:Nat):Ze2 xs (some (k:Int)) none=xs.drop k:=by
 unfold Ze2;rw [HT.sIx_nat,HT.sIx_none]
 by_cases h:k<=xs.length
 ·rw [Nat.min_eq_left h,List.take_of_length_le (by rw [List.length_drop];exact Nat.le_refl _)]
 ·rw [Nat.min_eq_right (by lia),List.drop_length,List.take_nil,List.drop_of_length_le (by lia)]
theorem Zi9(xs:List V)(k:Nat):Ze2 xs none (some (k:Int))=xs.take k:=by
 unfold Ze2;rw [HT.sIx_nat,HT.sIx_none,List.drop_zero,Nat.sub_zero]
 by_cases h:k<=xs.length
 ·rw [Nat.min_eq_left h]
 ·rw [Nat.min_eq_right (by lia),List.take_length,List.take_of_length_le (by lia)]
theorem Zt.app{H:Hp}{l:Addr}{ts us:List Addr}{ps qs:List Zc}(h1:Paired (Zq H) ts ps)(h2:Paired (Zq H) us qs)(e:H l=some (.lst (ts.map V.ref++us.map V.ref))):Zt H l (ps++qs):=⟨ts++us,by rw [List.map_append];exact e,Paired.append h1 h2⟩
theorem Yd.app{H:Hp}{l:Addr}{ts us:List Addr}{ps qs:List (Zc×Zc)}(h1:Paired (X1 H) ts ps)(h2:Paired (X1 H) us qs)(e:H l=some (.lst (ts.map V.ref++us.map V.ref))):Yd H l (ps++qs):=⟨ts++us,by rw [List.map_append];exact e,Paired.append h1 h2⟩
def Zt5(K:Frag):Sp:=fun vs H Q _=>∃(cl:Addr) (cs:List Int),vs=[.ref cl]/\SqL K H cl (cs.map V.int)/\(∀c∈cs,0<=c) /\
 ∀(t:Addr) (H':Hp) (pl jl:Addr) (ps:List Zc) (js:List (Zc×Zc)),Same H H'->H' t=some (.tup [.ref pl,.ref jl])->Zt H' pl ps->Yd H' jl js->H pl=none->H jl=none->Net ps js []->ps.length<=38->(∀p∈ps,p=((("gate" :Str),("g" :Str)):Zc)\/p=((("gate" :Str),("h" :Str)):Zc)\/Zlt p.2 36)->Q (.ref t) H'
theorem Zmg(T:Tx K mg):Zy P w K mg base CX0 2 T.ba.f T.ba.fd ["_law_cells_here"] (Zt5 K):=by
 refine T.ba.F.okW Yt fun b7 A outer s H vs Q E hr h=>?_
 ·obtain ⟨cl,cs,rfl,B3,E9,q⟩:=h;intro X;refine WSs.step (Zz (i:=1) Yt.nd (Zk (Zb (Zi (Zb Ze (Zb Ze Za))) Za))) ⟨szA,fun t1 H1 s1 _ e1=>⟨szA,fun pl0 H2 s2 n2 e2=>?_⟩⟩;refine WSs.step (Zz (i:=2) Yt.nd (Zk Za)) ⟨szA,fun jl0 H3 s3 n3 e3=>?_⟩;refine WSs.step (Zz (i:=3) Yt.nd (Zi (Zb Ze (Zb Ze Za)))) ⟨szA,fun e0 H4 s4 n4 e4=>?_⟩;have O1:=s1.trans (s2.trans (s3.trans s4));have hp0:Zt H4 pl0 [("gate", "g")]:=⟨[t1],s4.at (s3.at e2),.cons (s4.at (s3.at (s2.at e1))) .nil⟩
  have hj0:Yd H4 jl0 []:=⟨[],s4.at e3,.nil⟩
  have f0:H pl0=none:=s1.free n2;have f1:H jl0=none:=s1.free (s2.free n3);clear s1 s2 s3 s4 n2 n3 n4 e1 e2 e3;refine WSs.step (Y8 PassesOwn.never rfl (Zh8 rfl T.bS (Zb (Xv (r:=Zf9 K) Zht (pv 0) Wj (X4 Zd)) Za)) (Zaz rfl (Z4 (Yr (i:=4) Yt.nd) (Z4 (Yr (i:=5) Yt.nd) Xl))) Zv) (exR rfl (exR rfl (.inr (.inl ⟨cl,_,rfl,O1.seq B3,fun c9 H5 s5 n5 e5=>⟨c9,rfl,⟨_,SqL.of e5⟩,?_⟩⟩))));rw [show (some (9:Int))=some ((9:Nat):Int) from rfl,Zi9,<-List.map_take] at e5;have s05:=O1.trans s5;let I1:=fun (i:Nat) (σ:St) (H':Hp)=>Same H5 H'/\∃pl jl e o4 o5 o6 o7 ps js F5,σ=[some (.ref cl),some (.ref pl),some (.ref jl),some (.ref e),o4,o5,o6,o7]/\Zt H' pl ps/\Yd H' jl js/\Zq H' e F5/\Zc6 i ps js F5/\H pl=none/\H jl=none
  refine Zfh (xs:=(cs.take 9).map V.int) I1
   ⟨Same.refl _,pl0,jl0,e0,none,none,none,none,_,_,_,rfl,hp0.mono s5,hj0.mono s5,s5.at e4,Zc6.start,f0,f1⟩ ?_ ?_ ?_
  ·rintro i σ H' _ ⟨sm,_⟩;exact SqL.of (sm.at e5)
  ·rintro i v σ H6 hi ⟨s6,pl,jl,e,o4,o5,o6,o7,ps,js,F5,rfl,j0,w4,hpe,hok,fp,fj⟩ tp H7 s7 n7 e7;rw [List.getElem?_map] at hi;obtain ⟨c,hc,rfl⟩:=Option.map_eq_some_iff.mp hi;have hi9:i<9:=by
    have:=(List.getElem?_eq_some_iff.mp hc).1;rw [List.length_take] at this;lia
   have hc0:0<=c:=E9 c (List.mem_of_mem_take (List.mem_of_getElem? hc));refine ⟨tp,_,rfl,SqT.of e7,rfl,_,_,rfl,_,_,rfl,rfl,?_⟩;have s07:=s6.trans s7;have j0:=j0.mono s7;have w4:=w4.mono s7;have hpe:=hpe.mono s7;obtain ⟨nm,O2⟩:∃nm:Nat->Str,nm=fun j=>Yk ((["p", "q", "r", "t"]:List Str).getD j "p") (c / 96+5 * (j:Int)) (4 * i+j):=⟨_,rfl⟩
   refine WSs.step (Wq (i:=6) (N':=["_law_j", "_law_cell", "_law_k"]) Yt.nd rfl (Or.inl rfl) rfl (Z5.std 1 [5,4] rfl (by trivial) (by trivial) rfl ⟨rfl,rfl,trivial⟩ rfl rfl ⟨(exR rfl ⟨rfl,rfl⟩),(exR rfl ⟨rfl,rfl⟩),trivial⟩) (Zld rfl T.bU (Zb Zd Za)) (fun _ _ _ _=>(Zan (i:=0) (by show (["_law_j", "_law_cell", "_law_k"]:List Str).Nodup;decide +kernel))) (fun _ _ _ _=>Wl) (fun _ _ _ _=>(Zr (Zdk T) hr rfl T.bX T.ao.F.kp T.ao.b .nil Z2 (Zb (Zn (K:=K) rfl (Zk (Zb Ze (Zb Ze (Zb Ze (Zb Ze Za))))) (pv 0)) (Zb (Zp Wp (Zp Yo (pv 1) Zd) (Zp Zgq Zd (pv 0))) (Zb (Zp Wp (Zp Zgq Zd (pv 2)) (pv 0)) Za)))))) (exR rfl ⟨by decide,by decide,fun D hD=>Zfb (lo:=0) (n:=4) (fun j ys H'=>ys=((List.range j).map nm).map V.str/\H' D=some (.lst ys)/\Same H7 H') ⟨rfl,Zf,Same.new hD⟩ ?_ ?_⟩)
   ·rintro j ys H8 hj ⟨rfl,L0,s8⟩;unfold Zcj;obtain ⟨kd,D4⟩:∃kd,kd=(["p", "q", "r", "t"]:List Str).getD j "p" :=⟨_,rfl⟩
    have hj4:j=0\/j=1\/j=2\/j=3:=by lia
    have T2:atI [V.str "p",.str "q",.str "r",.str "t"] ((0:Int)+(j:Int))=some (.str kd):=by
     rw [D4];rcases hj4 with rfl|rfl|rfl|rfl <;>rfl
    have Q9:kd.length=1:=by
     rw [D4];rcases hj4 with rfl|rfl|rfl|rfl <;>decide +kernel
    refine ⟨X5.set rfl,szA,fun lq H9 s9 n9 e9=>⟨_,rfl,.inl ⟨lq,_,_,.str kd,rfl,rfl,SqL.of e9,T2,_,rfl,_,_,rfl,rfl,⟨by decide,by decide⟩,_,rfl,_,_,rfl,rfl,.inl ⟨by decide,by decide⟩,.inl ⟨_,_,rfl,rfl,_,rfl,_,_,rfl,rfl,.inl ⟨by decide,by decide⟩,_,rfl,.inl ⟨_,_,rfl,rfl,kd,c / 96+5 * (j:Int),4 * i+j,?_,by lia,by lia,?_,by lia,s9.at L0,?_,?_,Zf,fun b o z=>?_⟩⟩⟩⟩⟩
    ·show [V.str kd,V.int (c / 96+5 * (0+(j:Int))),V.int (4 * (i:Int)+(0+(j:Int)))]=_;rw [show (0:Int)+(j:Int)=j by lia,show 4 * (i:Int)+(j:Int)=((4 * i+j:Nat):Int) by lia]
    ·have:=Int.ediv_nonneg hc0 (show (0:Int)<=96 by decide);lia
    ·rw [List.length_map,List.length_map,List.length_range];exact Zw (by lia)
    ·rw [List.range_succ,List.map_append,List.map_append,O2,D4]
     rfl
    ·rw [Zh (Zj z hD)];exact s9.at (s8.at z)
   ·rintro ys H8 ⟨rfl,L0,s8⟩;have j0:=j0.mono s8;have w4:=w4.mono s8;have hpe:=hpe.mono s8;refine WSs.step (Zz (i:=7) Yt.nd (Zr (Zm0 T) hr rfl T.dw T.aV.F.kp T.aV.b .nil Z2 (Zb (pv 5) (Zb (pv 6) Za)))) (exR rfl (exR rfl ⟨c,D,nm 0,nm 1,nm 2,nm 3,rfl,L0,fun t H9 bp bj ie oe qs ks a b s9 e9 hbp hbj hie hoe B=>?_⟩));subst O2;have F0:=hok.more (by lia) (by trivial) (by trivial) (by trivial) (by trivial) B;obtain ⟨ts,ht,d7⟩:=j0.mono s9;obtain ⟨us,hu,i4⟩:=hbp;obtain ⟨js1,hj1,O3⟩:=w4.mono s9;obtain ⟨js2,hj2,hjs2⟩:=hbj;have lp:=hok.pl;have lj:=hok.jl;have lb:=B.len;have c1:=Paired.length d7;have c2:=Paired.length i4;have c3:=Paired.length O3;have c4:=Paired.length hjs2;refine WSs.step (Zz (i:=1) Yt.nd (Zp Wp (pv 1) (Zn (K:=K) rfl (pv 7) Zd))) (exR rfl (exR rfl (ixV e9 rfl (.inr (.inr ⟨pl,bp,_,_,rfl,rfl,ht,hu,?_,fun pl' L4 j8 n10 J5=>?_⟩)))))
    ·rw [List.length_map,List.length_map];exact sz (by lia)
    refine WSs.step (Zz (i:=2) Yt.nd (Zp Wp (Zp Wp (pv 2) (Zn (K:=K) rfl (pv 7) Zd)) (Zk (Zb (Zi (Zb (pv 3) (Zb (Zn (K:=K) rfl (pv 7) Zd) Za))) Za)))) (exR rfl (exR rfl (ixV (j8.at e9) rfl (.inr (.inr ⟨jl,bj,_,_,rfl,rfl,j8.at hj1,j8.at hj2,?_,fun jm I0 k9 n11 V3=>(exR rfl (exR rfl (ixV (k9.at (j8.at e9)) rfl ⟨szA,fun tj Q5 v5 n12 Q6=>⟨szA,fun l2 H13 p8 V4 S0=>.inr (.inr ⟨jm,l2,_,_,rfl,rfl,(v5.trans p8).at V3,S0,?_,fun V5 V2 o0 n14 L5=>?_⟩)⟩⟩)))⟩)))))
    ·rw [List.length_map,List.length_map];exact sz (by lia)
    ·rw [List.length_append,List.length_map,List.length_map];exact sz (by simp;lia)
    have s104:=k9.trans (v5.trans (p8.trans o0));have T4:=j8.trans s104;refine WSs.last (Zz (i:=3) Yt.nd (Zn (K:=K) rfl (pv 7) Zd)) (exR rfl (ixV (T4.at e9) rfl ⟨s07.trans (s8.trans (s9.trans T4)),pl',V5,oe,_,_,_,_,_,_,_,rfl,?_,?_,hoe.mono T4,F0,?_,?_⟩))
    ·exact Zt.app (ts:=ts) (us:=us) (Paired.mapP d7 fun _ _ r=>r.mono T4) (Paired.mapP i4 fun _ _ r=>r.mono T4) (s104.at J5)
    ·have A7:Paired (X1 V2) (js1++js2) (js++ks):=Paired.append (Paired.mapP O3 fun _ _ r=>r.mono T4) (Paired.mapP hjs2 fun _ _ r=>r.mono T4);refine Yd.app (ts:=js1++js2) (us:=[tj]) A7 (.cons ⟨e,ie,(p8.trans o0).at Q6,(hpe.mono s9).mono T4,hie.mono T4⟩ .nil) ?_;rw [List.map_append];exact L5
    ·exact s05.free (s07.free (s8.free (s9.free n10)))
    ·exact s05.free (s07.free (s8.free (s9.free ((j8.trans (k9.trans (v5.trans p8))).free n14))))
  ·rintro σ H6 ⟨s6,pl,jl,e,o4,o5,o6,o7,ps,js,F5,rfl,j0,w4,hpe,hok,fp,fj⟩;rw [List.length_map,List.length_take] at hok;have hm:min 9 cs.length<=9:=Nat.min_le_left ..;have hdone:=hok.done (by lia);obtain ⟨ts,ht,d7⟩:=j0;obtain ⟨js1,hj1,O3⟩:=w4;have lp:=hok.pl;have lj:=hok.jl;have c1:=Paired.length d7;have c3:=Paired.length O3;refine WSs.last (Zl (Zi (Zb (Zp Wp (pv 1) (Zk (Zb (Zi (Zb Ze (Zb Ze Za))) Za))) (Zb (Zp Wp (pv 2) (Zk (Zb (Zi (Zb (pv 3) (Zb (Zi (Zb Ze (Zb Ze Za))) Za))) Za))) Za)))) (exR rfl ⟨szA,fun t1 H7 s7 _ e7=>⟨szA,fun l1 H8 s8 _ e8=>.inr (.inr ⟨pl,l1,_,_,rfl,rfl,s8.at (s7.at ht),e8,?_,fun pl' H9 s9 n9 e9=>(exR rfl (exR rfl ⟨szA,fun t2 L4 j8 _ J5=>⟨szA,fun t3 I0 k9 _ V3=>⟨szA,fun l2 Q5 v5 _ Q6=>.inr (.inr ⟨jl,l2,_,_,rfl,rfl,(s7.trans (s8.trans (s9.trans (j8.trans (k9.trans v5))))).at hj1,Q6,?_,fun V5 H13 p8 V4 S0=>⟨szA,fun t V2 o0 _ L5=>?_⟩⟩)⟩⟩⟩))⟩)⟩⟩)
   ·rw [List.length_map];exact sz (by simp;lia)
   ·rw [List.length_map];exact sz (by simp;lia)
   have s612:=s7.trans (s8.trans (s9.trans (j8.trans (k9.trans v5))));have T5:=s612.trans (p8.trans o0);have s914:=j8.trans (k9.trans (v5.trans (p8.trans o0)));refine q t V2 pl' V5 _ _ (s05.trans (s6.trans T5)) L5 ?_ ?_ (s05.free (s6.free (s7.free (s8.free n9)))) (s05.free (s6.free (s612.free V4))) hdone ?_ ?_
   ·exact Zt.app (ts:=ts) (us:=[t1]) (Paired.mapP d7 fun _ _ r=>r.mono T5) (.cons ((s8.trans (s9.trans s914)).at e7) .nil) (s914.at e9)
   ·exact Yd.app (ts:=js1) (us:=[t3]) (Paired.mapP O3 fun _ _ r=>r.mono T5) (.cons ⟨e,t2,(v5.trans (p8.trans o0)).at V3,hpe.mono T5,(k9.trans (v5.trans (p8.trans o0))).at J5⟩ .nil) (o0.at S0)
   ·rw [List.length_append];simp;lia
   ·intro p hp;rcases List.mem_append.mp hp with z|z
    ·rcases hok.nm p z with y|⟨kd,c,k,h1,h2,h3⟩
     ·exact .inl y
     ·exact .inr (.inr ⟨kd,c,k,h1,by lia,h3⟩)
    ·simp at z;subst z;exact .inr (.inl rfl)
theorem Zn3(T:Tx K mg){k:Nat}(h:2<=k:=by decide):Zy P w K mg base CX0 k T.ba.f T.ba.fd ["_law_cells_here"] (Zt5 K):=(Zmg T).mono h
def Zqy(K:Frag):Sp:=fun vs H Q _=>∃(a:Addr) (ns:List Int) (i j:Nat),vs=[.ref a,.int i,.int j]/\SqL K H a (ns.map V.int)/\ns.length<=63/\i<=1000/\j<=1000 /\
 ∀(p:Addr) (H':Hp) (cs:List Int),Same H H'->H p=none->H' p=some (.lst (cs.map V.int))->(∀c∈cs,0<=c/\c<2147483629)->cs.length<=63->Q (.ref p) H'
theorem Zkr(T:Tx K mg):Zy P w K mg base CX0 2 T.aU.f T.aU.fd ["_law_script", "_law_at", "_law_end"] (Zqy K):=by
 refine T.aU.F.okW Zj4 fun b7 A outer s H vs Q E hr h=>?_
 ·obtain ⟨a,ns,i,j,rfl,hS,hn,hi,hj,q⟩:=h;intro X;have hmin:(if ((ns.map V.int).length:Int)<(j:Int) then ((ns.map V.int).length:Int) else (j:Int))=((min j ns.length:Nat):Int):=by
   rw [List.length_map];split <;>lia
  refine WSs.last (Zl (Xu (N':=["_law_k", "_law_script"]) rfl (Z5.std 1 [0] rfl (by trivial) (by trivial) rfl ⟨rfl,trivial⟩ rfl rfl ⟨(exR rfl ⟨rfl,rfl⟩),trivial⟩) (Zce rfl T.bU (Zb (pv 1) (Zb (Zu (Zss rfl) (by rfl) T.fE PyProof.Rows.boot_min (Zb (pv 2) (Zb (Zu (r:=Xk K) Xo (by rfl) T.aZ PySem.boot_len (Zb (pv 0) Za)) Za))) Za))) (fun _ _ _ _=>(Zan (i:=0) (by show (["_law_k", "_law_script"]:List Str).Nodup;decide +kernel))) (fun _ _ _ _=>Wl) (fun _ _ _ _=>(Zr (Za4 T) hr rfl T.bP T.ag.F.kp T.ag.b .nil Z2 (Zb (Zn (K:=K) rfl (pv 1) (pv 0)) (Zb (pv 0) Za)))))) (exR rfl (exR rfl (exR rfl (.inl ⟨a,_,rfl,.inl hS,_,_,rfl,_,_,rfl,?_,fun D hD=>?_⟩))))
  ·rw [hmin];lia
  rw [hmin];obtain ⟨m,hm⟩:∃m:Nat,(((min j ns.length:Nat):Int)-(i:Int)).toNat=m:=⟨_,rfl⟩
  rw [hm];refine Zfb (lo:=(i:Int)) (n:=m) (fun k ys H'=>(∃cs:List Int,ys=cs.map V.int/\cs.length=k/\∀c∈cs,0<=c/\c<2147483629)/\H' D=some (.lst ys)/\Same H H') ⟨⟨[],rfl,rfl,by simp⟩,Zf,Same.new hD⟩ ?_ ?_
  ·rintro k ys H2 hk ⟨⟨cs,rfl,B3,E9⟩,p7,s2⟩;unfold Zcj;have c8:i+k<ns.length:=by lia
   refine ⟨X5.set rfl,_,rfl,_,rfl,.inl ⟨a,_,_,.int (ns.getD (i+k) 0),rfl,rfl,s2.seq hS,?_,_,rfl,_,_,rfl,p7,?_,⟨cs++[Zeh (ns.getD (i+k) 0) ((i:Int)+(k:Int))],?_,?_,?_⟩,Zf,fun b o e=>?_⟩⟩
   ·rw [show (i:Int)+(k:Int)=((i+k:Nat):Int) by lia];refine Y4 ?_;rw [List.getElem?_map,List.getElem?_eq_getElem c8,List.getD_eq_getElem?_getD,List.getElem?_eq_getElem c8]
    rfl
   ·rw [List.length_map];exact Zw (by lia)
   ·rw [List.map_append];rfl
   ·rw [List.length_append];simp;exact B3
   ·intro c hc;rcases List.mem_append.mp hc with z|z
    ·exact E9 c z
    ·simp at z;rw [z];exact ⟨Zvo _ _,Zti _ _⟩
   ·rw [Zh (Zj e hD)];exact s2.at e
  ·rintro ys H2 ⟨⟨cs,rfl,B3,E9⟩,p7,s2⟩;exact q D H2 cs s2 hD p7 E9 (by lia)
theorem Zm1(T:Tx K mg){k:Nat}(h:2<=k:=by decide):Zy P w K mg base CX0 k T.aU.f T.aU.fd ["_law_script", "_law_at", "_law_end"] (Zqy K):=(Zkr T).mono h
theorem X8{H:Hp}{c:Addr}{o:HO}{xs:List V}{ts:List Addr}{ps:List Zc}(h:Paired (Zq H) ts ps)(hc:H c=some (.lst xs)):Paired (Zq (upd H c o)) ts ps :=
 Paired.mapP h fun t q r=>by
  unfold Zq at r ⊢;rw [Zh fun z=>by rw [z,hc] at r;cases r];exact r
theorem X1.off{H:Hp}{c t:Addr}{o:HO}{xs:List V}{j:Zc×Zc}(h:X1 H t j)(hc:H c=some (.lst xs)):X1 (upd H c o) t j:=by
 obtain ⟨a,b,h1,h2,h3⟩:=h;unfold Zq at h2 h3;have ne:∀{t:Addr} {ys:List V},H t=some (.tup ys)->t≠c:=fun h z=>by rw [z,hc] at h;cases h
 exact ⟨a,b,by rw [Zh (ne h1)];exact h1,by unfold Zq;rw [Zh (ne h2)];exact h2,by unfold Zq;rw [Zh (ne h3)];exact h3⟩
theorem Zae{H:Hp}{c:Addr}{o:HO}{xs:List V}{ts:List Addr}{js:List (Zc×Zc)}(h:Paired (X1 H) ts js)(hc:H c=some (.lst xs)):Paired (X1 (upd H c o)) ts js:=Paired.mapP h fun _ _ r=>r.off hc
def Zn7:Sp:=fun vs H Q _=>∃(pl jl rl:Addr) (c:Int) (ps:List Zc) (js:List (Zc×Zc)) (Zx:List Zc),vs=[.ref pl,.ref jl,.ref rl,.int c]/\Zt H pl ps/\Yd H jl js/\Zt H rl Zx/\pl≠jl/\rl≠pl/\rl≠jl/\ps.length<=100/\js.length<=200/\Zx.length<=90 /\
 ∀(H':Hp) (z9:List Zc) (B1:List (Zc×Zc)),(∀b o,b≠pl->b≠jl->H b=some o->H' b=some o)->Zt H' pl (ps++z9)->Yd H' jl (js++B1)->Zfa Zx Zx.length z9 B1->Q .non H'
theorem Zjp(T:Tx K mg):Zy P w K mg base CX0 2 T.aP.f T.aP.fd ["_law_parts", "_law_joins", "_law_rest", "_law_cell"] Zn7:=by
 refine T.aP.F.okW W1 fun b7 A outer s H vs Q E hr h=>?_
 ·obtain ⟨pl,jl,rl,c,ps,js,Zx,rfl,j0,w4,⟨rs,R3,K2⟩,n1,n2,n3,lp,lj,lr,q⟩:=h;intro X;have lrs:=Paired.length K2;let I2:=fun (i:Nat) (σ:St) (H':Hp)=>(∃o4 o5 o6,σ=[some (.ref pl),some (.ref jl),some (.ref rl),some (.int c),o4,o5,o6])/\(∀b o,b≠pl->b≠jl->H b=some o->H' b=some o)/\∃z9 B1,Zt H' pl (ps++z9)/\Yd H' jl (js++B1)/\Zfa Zx i z9 B1
  refine WSs.last (Y8 PassesOwn.never rfl (Zh8 rfl T.bS (Zb (pv 2) Za)) (Zaz rfl (Z4 (Yr (i:=4) W1.nd) (Z4 (Yr (i:=5) W1.nd) Xl))) Zv) ⟨_,rfl,rl,rfl,⟨_,SqL.of R3⟩,Zfh (xs:=rs.map V.ref) I2
   ⟨⟨none,none,none,rfl⟩,fun _ _ _ _ z=>z,[],[],by rw [List.append_nil];exact j0,by rw [List.append_nil];exact w4,[],rfl,by simp,rfl,rfl⟩ ?_ ?_ ?_⟩
  ·rintro i σ H' _ ⟨_,km,_⟩;exact SqL.of (km _ _ n2 n3 R3)
  ·rintro i v σ H2 hi ⟨⟨o4,o5,o6,rfl⟩,km,z9,B1,⟨ts,ht,d7⟩,⟨us,hu,i4⟩,B3⟩ tp H3 s3 n3' e3;rw [List.getElem?_map] at hi;obtain ⟨te,K3,rfl⟩:=Option.map_eq_some_iff.mp hi;obtain ⟨y,hy,hye⟩:=Paired.get K2 K3;have E5:i<rs.length:=(List.getElem?_eq_some_iff.mp K3).1;obtain ⟨ks,Q9,hks,hnp,hnj⟩:=id B3;have c1:=Paired.length d7;have c2:=Paired.length i4;rw [List.length_append,hnp,List.length_map,List.length_range] at c1;rw [List.length_append,hnj,List.length_map,List.length_range] at c2;have hye2:Zq H2 te y:=by
    unfold Zq at hye ⊢;refine km _ _ (fun z=>?_) (fun z=>?_) hye
    ·obtain ⟨_,h1,_⟩:=j0;rw [z,h1] at hye;cases hye
    ·obtain ⟨_,h1,_⟩:=w4;rw [z,h1] at hye;cases hye
   refine ⟨tp,_,rfl,SqT.of e3,rfl,_,_,rfl,_,_,rfl,rfl,?_⟩;have fl:=Zfy i (by lia);refine WSs.step (Zz (i:=6) W1.nd (Zp Wp Ze (Zab W4 (by rfl) T.cp PyProof.Rows.boot_str (Zb (pv 4) Za)))) (exR rfl ⟨(i:Int),rfl,Zmd (by lia),.inr (.inl (exQ rfl rfl ⟨sz (by show 1+(Zec i).length<=1000;lia),?_⟩))⟩);obtain ⟨kd,D4,T3⟩:∃kd:Str,atI [V.str "gate",.str "stop",.str "gate"] (Zeh c (i:Int)%3)=some (.str kd)/\(kd = "gate" \/kd = "stop"):=by
    have h0:=Int.emod_nonneg (Zeh c (i:Int)) (show (3:Int)≠0 by decide);have h1:=Int.emod_lt_of_pos (Zeh c (i:Int)) (show (0:Int)<3 by decide);generalize Zeh c (i:Int)%3=m at h0 h1;have:m=0\/m=1\/m=2:=by lia
    rcases this with rfl|rfl|rfl
    ·exact ⟨"gate",rfl,.inl rfl⟩
    ·exact ⟨"stop",rfl,.inr rfl⟩
    ·exact ⟨"gate",rfl,.inl rfl⟩
   refine WSs.step (Xg (Zdc PySem.F.plainAttrs_list PySem.F.slot_list_append PySem.F.type_list_append Xf (pv 0) (Zb (Zi (Zb (Zn (K:=K) rfl (Zk (Zb Ze (Zb Ze (Zb Ze Za)))) (Zp Yn (Zr (Za4 T) hr rfl T.bP T.ag.F.kp T.ag.b .nil Z2 (Zb (pv 3) (Zb (pv 4) Za))) Zd)) (Zb (pv 6) Za))) Za))) (exR rfl ⟨.inl ⟨rfl,_,SqL.of (s3.at ht)⟩,szA,fun lk H4 s4 n4 e4=>(exR rfl (exR rfl ⟨c,(i:Int),rfl,_,_,rfl,rfl,(by show (0:Int)<3;decide),.inl ⟨lk,_,_,.str kd,rfl,rfl,SqL.of e4,D4,_,rfl,szA,fun t5 H5 s5 n5 e5=>⟨pl,_,_,rfl,rfl,s5.at (s4.at (s3.at ht)),?_,?_⟩⟩⟩))⟩)
   ·rw [List.length_map];exact Zw (by lia)
   have L9:=s3.trans (s4.trans s5);have hpl5:=L9.at ht;have hts5:Paired (Zq H5) ts (ps++z9):=Paired.mapP d7 fun _ _ r=>r.mono L9
   have hus5:Paired (X1 H5) us (js++B1):=Paired.mapP i4 fun _ _ r=>r.mono L9
   have p6:Paired (Zq (upd H5 pl (.lst (ts.map V.ref++[.ref t5])))) (ts++[t5]) ((ps++z9)++[(kd,Wg i)]):=X8 (Paired.append hts5 (.cons e5 .nil)) hpl5;have j6:=Zae (o:=.lst (ts.map V.ref++[.ref t5])) hus5 hpl5;have hu6:upd H5 pl (.lst (ts.map V.ref++[.ref t5])) jl=some (.lst (us.map V.ref)):=(Zh (Ne.symm n1)).trans (L9.at hu);have k6:∀b o,b≠pl->b≠jl->H b=some o->upd H5 pl (.lst (ts.map V.ref++[.ref t5])) b=some o:=fun b o b1 b2 z=>(Zh b1).trans (L9.at (km b o b1 b2 z))
   have y6:Zq (upd H5 pl (.lst (ts.map V.ref++[.ref t5]))) te y:=by
    have z:=hye2.mono L9;unfold Zq at z ⊢;exact (Zh fun w=>by rw [w,hpl5] at z;cases z).trans z
   have e6:upd H5 pl (.lst (ts.map V.ref++[.ref t5])) pl=some (.lst ((ts++[t5]).map V.ref)):=by rw [Zf,List.map_append];rfl
   generalize (upd H5 pl (.lst (ts.map V.ref++[.ref t5])))=H6 at p6 j6 hu6 k6 y6 e6;refine WSs.last (Xg (Zdc PySem.F.plainAttrs_list PySem.F.slot_list_append PySem.F.type_list_append Xf (pv 1) (Zb (Zi (Zb (pv 5) (Zb (Zi (Zb (pv 6) (Zb Ze Za))) Za))) Za))) (exR rfl ⟨.inl ⟨rfl,_,SqL.of hu6⟩,_,rfl,_,rfl,szA,fun t7 H7 s7 n7 e7=>⟨szA,fun t8 H8 s8 n8 e8=>⟨jl,_,_,rfl,rfl,s8.at (s7.at hu6),?_,⟨_,_,_,rfl⟩,fun b o b1 b2 z=>?_,z9++[(kd,Wg i)],B1++[(y,(Wg i,("a" :Str)))],⟨ts++[t5],?_,?_⟩,⟨us++[t8],?_,?_⟩,B3.more T3 hy⟩⟩⟩)
   ·rw [List.length_map];exact Zw (by lia)
   ·exact (Zh b2).trans (s8.at (s7.at (k6 b o b1 b2 z)))
   ·exact (Zh n1).trans (s8.at (s7.at e6))
   ·rw [<-List.append_assoc];exact X8 (Paired.mapP p6 fun _ _ r=>r.mono (s7.trans s8)) (s8.at (s7.at hu6))
   ·rw [Zf,List.map_append];rfl
   ·rw [<-List.append_assoc];exact Zae (Paired.append (Paired.mapP j6 fun _ _ r=>r.mono (s7.trans s8)) (.cons ⟨te,t7,e8,y6.mono (s7.trans s8),s8.at e7⟩ .nil)) (s8.at (s7.at hu6))
  ·rintro σ H2 ⟨⟨o4,o5,o6,rfl⟩,km,z9,B1,h1,h2,B3⟩;rw [List.length_map,lrs] at B3;exact q H2 z9 B1 km h1 h2 B3
theorem Zkk(T:Tx K mg){k:Nat}(h:2<=k:=by decide):Zy P w K mg base CX0 k T.aP.f T.aP.fd ["_law_parts", "_law_joins", "_law_rest", "_law_cell"] Zn7:=(Zjp T).mono h
def trP(q:Zc):Tr:=.tup [.str q.1,.str q.2]
theorem Znx{H:Hp}{ts:List Addr}{ps:List Zc}(h:Paired (Zq H) ts ps):Paired (Im K H 1) (ps.map trP) (ts.map V.ref):=by
 induction h with
 | nil=>exact .nil
 | cons r _ ih=>exact .cons (Im.tup (SqT.of r) (.cons (.str _) (.cons (.str _) .nil))) ih
theorem Zt.im{H:Hp}{l:Addr}{ps:List Zc}(h:Zt H l ps):Im K H 2 (.lst (ps.map trP)) (.ref l):=let ⟨_,h1,h2⟩:=h;Im.lst (SqL.of h1) (Znx h2)
theorem Zjh{l D:Addr}{xs:List Str}{x:Str}{H1:Hp}{Q:VK}{σ:St}(hl:H1 l=some (.lst (xs.map V.str)))(hn:xs.length<=100)(hD:H1 D=none)(q:∀H',Same H1 H'->Zt H' D (xs.map fun e=>(x,e))->Q (.ref D) H'){fr:St->St}(B6:fr σ=[none,some (.str x)]){te:TE}(K3:te=Zvt (Zlc (Zkh 1) (Zlc (Zkh 0) Zxt))) :
  Zdp (Itl K l) fr (Zdm 0) Zxz te Q σ H1 D:=by
 refine Xr (xs:=xs.map V.str) (fun i ys H'=>(∃ts:List Addr,ys=ts.map V.ref/\Paired (Zq H') ts ((xs.take i).map fun e=>(x,e)))/\H' D=some (.lst ys)/\Same H1 H') ⟨⟨[],rfl,.nil⟩,Zf,Same.new hD⟩ ?_ ?_ ?_
 ·rintro i ys H' _ ⟨_,_,sm⟩;exact SqL.of (sm.at hl)
 ·rintro k v ys H' hk ⟨⟨ts,rfl,d7⟩,A4,sm⟩;rw [List.getElem?_map] at hk;obtain ⟨y,hy,rfl⟩:=Option.map_eq_some_iff.mp hk;unfold Zcj;rw [B6,K3];have d6:ts.length<=100:=by
   have:=Paired.length d7;rw [List.length_map,List.length_take] at this;lia
  refine ⟨X5.set rfl,_,rfl,_,rfl,szA,fun t H2 s2 n2 e2=>⟨s2.at A4,by rw [List.length_map];exact Zw (by lia),⟨ts++[t],by rw [List.map_append];rfl,?_⟩,Zf,fun b o e=>?_⟩⟩
  ·rw [List.take_add_one,hy,List.map_append];exact X8 (Paired.append (Paired.mapP d7 fun _ _ r=>r.mono s2) (.cons e2 .nil)) (s2.at A4)
  ·rw [Zh (Zj e hD)];exact s2.at (sm.at e)
 ·rintro ys H6 ⟨⟨ts,rfl,d7⟩,M8,s6⟩;rw [List.length_map,List.take_length] at d7;exact q H6 s6 ⟨ts,M8,d7⟩
theorem Zq.offL{H:Hp}{c t:Addr}{o:HO}{xs:List V}{q:Zc}(h:Zq H t q)(hc:H c=some (.lst xs)):Zq (upd H c o) t q:=by
 unfold Zq at h ⊢;exact (Zh fun z=>by rw [z,hc] at h;cases h).trans h
theorem Zt.offL{H:Hp}{c l:Addr}{o:HO}{xs:List V}{ps:List Zc}(h:Zt H l ps)(hc:H c=some (.lst xs))(ne:l≠c):Zt (upd H c o) l ps:=let ⟨ts,h1,h2⟩:=h;⟨ts,(Zh ne).trans h1,X8 h2 hc⟩
theorem Zt.erased{H:Hp}{l:Addr}{ts:List Addr}{ps:List Zc}(h1:H l=some (.lst (ts.map V.ref)))(h2:Paired (Zq H) ts ps)(k:Nat):Zt (upd H l (.lst ((ts.map V.ref).eraseIdx k))) l (ps.eraseIdx k):=⟨ts.eraseIdx k,by rw [Zf,Zlb],X8 (Zfz h2 k) h1⟩
theorem Zqj{k n:Nat}(h:k<n):seqIndex? (k:Int) n=some k:=by
 unfold seqIndex?;have h1:¬(k:Int)<0:=by lia
 simp only [h1,if_false];rw [if_pos (by simp;lia)];simp
theorem Zh7{a:Int}{n:Nat}(h:0<n):∃k:Nat,a%(n:Int)=(k:Int)/\k<n:=by
 have h0:=Int.emod_nonneg a (show (n:Int)≠0 by lia);have h1:=Int.emod_lt_of_pos a (show (0:Int)<n by lia);exact ⟨(a%(n:Int)).toNat,by lia,by lia⟩
theorem Zop{α β:Type}{R:α->β->Prop}{l₁:List α}{l₂:List β}(h:Paired R l₁ l₂)(n:Nat):Paired R (l₁.drop n) (l₂.drop n):=by
 induction n generalizing l₁ l₂ with
 | zero=>exact h
 | succ n ih =>
  cases h with
  | nil=>exact .nil
  | cons _ t=>exact ih t
theorem Zk6{l D:Addr}{ts:List Addr}{qs:List Zc}{keep:Zc->Bool}{w:Option V}{H1:Hp}{Q:VK}{σ:St}(hl:H1 l=some (.lst (ts.map V.ref)))(d7:Paired (Zq H1) ts qs)(hn:qs.length<=100)(hD:H1 D=none)(q:∀H',Same H1 H'->Zt H' D (qs.filter keep)->Q (.ref D) H'){fr:St->St}(B6:fr σ=[none,w]){tf:TT}(htf:∀(t:Addr) (x:Zc) (H':Hp) (R:Bool->Hp->Prop),Same H1 H'->Zq H' t x->x∈qs->R (keep x) H'->tf [some (.ref t),w] H' R) :
  Zdp (Itl K l) fr (Zdm 0) tf (Zkh 0) Q σ H1 D:=by
 have hln:=Paired.length d7;refine Xr (xs:=ts.map V.ref) (fun i ys H'=>(∃y4:List Addr,ys=y4.map V.ref/\Paired (Zq H1) y4 ((qs.take i).filter keep))/\H' D=some (.lst ys)/\Same H1 H') ⟨⟨[],rfl,.nil⟩,Zf,Same.new hD⟩ ?_ ?_ ?_
 ·rintro i ys H' _ ⟨_,_,sm⟩;exact SqL.of (sm.at hl)
 ·rintro k v ys H' hk ⟨⟨y4,rfl,K9⟩,A4,sm⟩;rw [List.getElem?_map] at hk;obtain ⟨t,ht,rfl⟩:=Option.map_eq_some_iff.mp hk;obtain ⟨x,hx,r2⟩:=Paired.get d7 ht;unfold Zcj;rw [B6];have d6:y4.length<=100:=by
   rw [Paired.length K9];have:=List.length_filter_le keep (qs.take k);rw [List.length_take] at this;lia
  refine ⟨X5.set rfl,htf t x H' _ sm (r2.mono sm) (List.mem_of_getElem? hx) (Ye (fun hc=>?_) (fun hc=>?_))⟩
  ·refine (exR rfl ⟨A4,by rw [List.length_map];exact Zw (by lia),⟨y4++[t],by rw [List.map_append];rfl,?_⟩,Zf,fun b o e=>?_⟩)
   ·rw [List.take_add_one,hx,List.filter_append];refine Paired.append K9 ?_;rw [show (some x).toList=[x] from rfl,List.filter_cons,if_pos hc];exact .cons r2 .nil
   ·rw [Zh (Zj e hD)];exact sm.at e
  ·refine ⟨⟨y4,rfl,?_⟩,A4,sm⟩;rw [List.take_add_one,hx,List.filter_append,show (some x).toList=[x] from rfl,List.filter_cons,if_neg hc,List.filter_nil,List.append_nil];exact K9
 ·rintro ys H6 ⟨⟨y4,rfl,K9⟩,M8,s6⟩;rw [List.length_map,hln,List.take_length] at K9;exact q H6 s6 ⟨y4,M8,Paired.mapP K9 fun _ _ r=>r.mono s6⟩
def Zrj(K:Frag):Sp:=fun vs H Q _=>∃(cl:Addr) (cs:List Int),vs=[.ref cl]/\SqL K H cl (cs.map V.int)/\(∀c∈cs,0<=c)/\cs.length<=63 /\
 ∀(t:Addr) (H':Hp) (pl jl:Addr) (ps:List Zc) (js:List (Zc×Zc)) (n:Nat),Same H H'->H' t=some (.tup [.ref pl,.ref jl])->Zt H' pl ps->Yd H' jl js->H pl=none->H jl=none->Net ps js []->ps.length<=39->(∀p∈ps,nmD p.2 63\/∃j,j<90/\p.2=Wg j)->Q (.ref t) H'
theorem Zkj(T:Tx K mg):Zy P w K mg base CX0 3 T.aW.f T.aW.fd ["_law_cells_here"] (Zrj K):=by
 refine T.aW.F.okW Yg fun b7 A outer s H vs Q E hr h=>?_
 ·obtain ⟨cl,cs,rfl,B3,E9,hcn,q⟩:=h;intro X;refine WSs.step (Zz (i:=1) Yg.nd (Zk Za)) ⟨szA,fun pl H1 s1 n1 e1=>?_⟩;refine WSs.step (Zz (i:=2) Yg.nd (Zk Za)) ⟨szA,fun jl H2 s2 n2 e2=>?_⟩;refine WSs.step (Zz (i:=3) Yg.nd (Zk Za)) ⟨szA,fun rl0 H3 s3 n3 e3=>?_⟩;have K1:=s1.trans (s2.trans s3);have fp:H pl=none:=n1;have fj:H jl=none:=s1.free n2;have fr0:H rl0=none:=s1.free (s2.free n3);have npj:pl≠jl:=Zj e1 n2;have nrp:rl0≠pl:=Ne.symm (Zj (s2.at e1) n3);have nrj:rl0≠jl:=Ne.symm (Zj e2 n3);have hp0:Zt H3 pl []:=⟨[],s3.at (s2.at e1),.nil⟩
  have hj0:Yd H3 jl []:=⟨[],s3.at e2,.nil⟩
  have hr0:Zt H3 rl0 []:=⟨[],e3,.nil⟩
  clear s1 s2 s3 n1 n2 n3 e1 e2 e3;let I3:=fun (i:Nat) (σ:St) (H':Hp)=>Same H H'/\∃rl o4 o5 o6 o7 o8 o9 o10 o11 ps js Zx,σ=[some (.ref cl),some (.ref pl),some (.ref jl),some (.ref rl),o4,o5,o6,o7,o8,o9,o10,o11]/\Zt H' pl ps/\Yd H' jl js/\Zt H' rl Zx/\Xa i (2 * i) ps js Zx/\H rl=none/\rl≠pl/\rl≠jl
  refine WSs.step (Y8 PassesOwn.never rfl (Zh8 rfl T.bS (Zb (pv 0) Za)) (Zaz rfl (Z4 (Yr (i:=4) Yg.nd) (Z4 (Yr (i:=5) Yg.nd) Xl))) Zv) ⟨_,rfl,cl,rfl,⟨_,K1.seq B3⟩,Zfh (xs:=cs.map V.int) I3
   ⟨K1,rl0,none,none,none,none,none,none,none,none,_,_,_,rfl,hp0,hj0,hr0,Xa.start,fr0,nrp,nrj⟩ ?_ ?_ ?_⟩
  ·rintro i σ H' _ ⟨sm,_⟩;exact sm.seq B3
  ·rintro i v σ H4 hi ⟨s4,rl,o4,o5,o6,o7,o8,o9,o10,o11,ps,js,Zx,rfl,j0,w4,R3,hok,frl,O4,O5⟩ tp H5 s5 n5 e5;rw [List.getElem?_map] at hi;obtain ⟨c,hc,rfl⟩:=Option.map_eq_some_iff.mp hi;have hi63:i<63:=by
    have:=(List.getElem?_eq_some_iff.mp hc).1;lia
   have hc0:0<=c:=E9 c (List.mem_of_getElem? hc);refine ⟨tp,_,rfl,SqT.of e5,rfl,_,_,rfl,_,_,rfl,rfl,?_⟩;obtain ⟨kd,D4,T3⟩:∃kd:Str,atI [V.str "plain",.str "plain",.str "plain",.str "points",.str "points",.str "cross",.str "gate",.str "stop"] (c%8)=some (.str kd)/\kd∈Xn:=by
    have h0:=Int.emod_nonneg c (show (8:Int)≠0 by decide);have h1:=Int.emod_lt_of_pos c (show (0:Int)<8 by decide);generalize c%8=m at h0 h1;have:m=0\/m=1\/m=2\/m=3\/m=4\/m=5\/m=6\/m=7:=by lia
    rcases this with rfl|rfl|rfl|rfl|rfl|rfl|rfl|rfl <;>exact ⟨_,rfl,by simp [Xn]⟩
   obtain ⟨g1,g2,g3,g4,g5,g6⟩:=Zh6 kd T3;refine WSs.step (Zz (i:=6) Yg.nd (Zn (K:=K) rfl (Zk (Zb Ze (Zb Ze (Zb Ze (Zb Ze (Zb Ze (Zb Ze (Zb Ze (Zb Ze Za))))))))) (Zp Yn (pv 5) Zd))) ⟨szA,fun lk H6 s6 n6 e6=>(exR rfl (exQ rfl rfl ⟨(by show (0:Int)<8;decide),.inl ⟨lk,_,_,.str kd,rfl,rfl,SqL.of e6,D4,?_⟩⟩))⟩;refine WSs.step (Zz (i:=7) Yg.nd (Zr (Zg9 T) hr rfl T.cz T.aO.F.kp T.aO.b .nil Z2 (Zb (pv 6) Za))) (exR rfl ⟨kd,rfl,fun le H7 s7 n7 e7=>?_⟩);have M9:=s5.trans (s6.trans s7);have s07:=s4.trans M9;have nl1:pl≠le:=let ⟨_,z,_⟩:=j0;Zj ((s5.trans s6).at z) n7;have nl2:jl≠le:=let ⟨_,z,_⟩:=w4;Zj ((s5.trans s6).at z) n7;have j0:=j0.mono M9;have w4:=w4.mono M9;have R3:=R3.mono M9;obtain ⟨ts,ht,d7⟩:=j0;obtain ⟨rs,hr',K2⟩:=R3;have c1:=Paired.length d7;have c2:=Paired.length K2;refine WSs.step (Z8 (Zm Zi8 (Zp Wp (Zp Wp (Zu (r:=Xk K) Xo (by rfl) T.aZ PySem.boot_len (Zb (pv 1) Za)) (Zu (r:=Xk K) Xo (by rfl) T.aZ PySem.boot_len (Zb (pv 3) Za))) (Zu (r:=Xk K) Xo (by rfl) T.aZ PySem.boot_len (Zb (pv 7) Za))) Zd (Z0 _)) Zv Zs) (exR rfl (.inl ⟨pl,_,rfl,.inl (SqL.of ht),_,rfl,.inl ⟨rl,_,rfl,.inl (SqL.of hr'),.inl (exQ rfl rfl (exR rfl (.inl ⟨le,_,rfl,.inl (SqL.of e7),.inl (exQ rfl rfl (exQ rfl rfl (exR rfl (Ye (fun hgt=>?_) (fun hgt=>?_)))))⟩)))⟩⟩))
   ·exact WSs.last Zn0 ⟨s07,rl,_,_,_,_,_,_,_,_,ps,js,Zx,rfl,⟨ts,ht,d7⟩,w4,⟨rs,hr',K2⟩,hok.mono (by lia) (by lia),frl,O4,O5⟩
   have hgt:ps.length+Zx.length+(Z6 kd).length<=38:=by
    have z:¬(((ts.map V.ref).length:Int)+((rs.map V.ref).length:Int)+(((Z6 kd).map V.str).length:Int) >38):=fun z=>hgt (decide_eq_true z)
    rw [List.length_map,List.length_map,List.length_map] at z;lia
   obtain ⟨n,hn⟩:∃n,n=Yk kd (c / 8) i:=⟨_,rfl⟩
   refine WSs.step (Zz (i:=8) Yg.nd (Zr (Zdk T) hr rfl T.bX T.ao.F.kp T.ao.b .nil Z2 (Zb (pv 6) (Zb (Zp Yo (pv 5) Zd) (Zb (pv 4) Za))))) (exR rfl (exR rfl (exQ rfl rfl ⟨⟨by decide,by decide⟩,_,rfl,kd,c / 8,i,rfl,g3,by lia,Int.ediv_nonneg hc0 (by decide),by lia,?_⟩)));rw [<-hn];refine WSs.step (Xg (Zdc PySem.F.plainAttrs_list PySem.F.slot_list_append PySem.F.type_list_append Xf (pv 1) (Zb (Zi (Zb (pv 6) (Zb (pv 8) Za))) Za))) (exR rfl ⟨.inl ⟨rfl,_,SqL.of ht⟩,_,rfl,_,rfl,szA,fun t8 H8 s8 n8 e8=>⟨pl,_,_,rfl,rfl,s8.at ht,?_,?_⟩⟩)
   ·rw [List.length_map];exact Zw (by lia)
   have ok8:=hok.add (c:=c / 8) (by lia) T3 hgt;rw [<-hn] at ok8;obtain ⟨us,hu,i4⟩:=w4.mono s8;have p9:Zt (upd H8 pl (.lst (ts.map V.ref++[.ref t8]))) pl (ps++[(kd,n)]):=⟨ts++[t8],by rw [Zf,List.map_append];rfl,X8 (Paired.append (Paired.mapP d7 fun _ _ r=>r.mono s8) (.cons e8 .nil)) (s8.at ht)⟩
   have j9:Yd (upd H8 pl (.lst (ts.map V.ref++[.ref t8]))) jl js:=⟨us,(Zh (Ne.symm npj)).trans hu,Zae i4 (s8.at ht)⟩
   have r9:Zt (upd H8 pl (.lst (ts.map V.ref++[.ref t8]))) rl Zx:=⟨rs,(Zh O4).trans (s8.at hr'),X8 (Paired.mapP K2 fun _ _ r=>r.mono s8) (s8.at ht)⟩
   have e9:upd H8 pl (.lst (ts.map V.ref++[.ref t8])) le=_:=(Zh (Ne.symm nl1)).trans (s8.at e7);have s09:Same H (upd H8 pl (.lst (ts.map V.ref++[.ref t8]))):=fun b o z=>(Zh (Zj z fp)).trans (s8.at (s07.at z))
   generalize (upd H8 pl (.lst (ts.map V.ref++[.ref t8])))=H9 at p9 j9 r9 e9 s09;have F0:=hok;clear d7 K2 ht hr' hu i4 s8 M9 s07 w4 hok n8 e8;refine WSs.step (Wq (i:=9) (N':=["_law_end", "_law_name"]) Yg.nd rfl (Or.inl rfl) rfl (Z5.std 1 [8] rfl (by trivial) (by trivial) rfl ⟨rfl,trivial⟩ rfl rfl ⟨(exR rfl ⟨rfl,rfl⟩),trivial⟩) (Ym (pv 7)) (fun _ _ _ _=>(Zan (i:=0) (by show (["_law_end", "_law_name"]:List Str).Nodup;decide +kernel))) (fun _ _ _ _=>Wl) (fun _ _ _ _=>(Zi (Zb (pv 1) (Zb (pv 0) Za))))) (exR rfl ⟨le,rfl,⟨_,SqL.of e9⟩,fun lf L6=>?_⟩);refine Zjh (xs:=Z6 kd) (x:=n) e9 (by lia) L6 (fun L4 j8 f10=>?qq) ?aa ?bb
   case aa=>rfl
   case bb=>rfl
   have p10:=p9.mono j8;have j10:=j9.mono j8;have V7:=r9.mono j8;have s010:=s09.trans j8;have flf:H lf=none:=s09.free L6;have nfp:lf≠pl:=let ⟨_,z,_⟩:=p9;Ne.symm (Zj z L6);have nfj:lf≠jl:=let ⟨_,z,_⟩:=j9;Ne.symm (Zj z L6);have nfr:lf≠rl:=let ⟨_,z,_⟩:=r9;Ne.symm (Zj z L6);clear p9 j9 r9 s09 e9 j8;let I4:=fun (σ:St) (H':Hp)=>Same H H'/\∃rest' fresh' R5,σ=[some (.ref cl),some (.ref pl),some (.ref jl),some (.ref rl),some (.int i),some (.int c),some (.str kd),some (.ref le),some (.str n),some (.ref lf),o10,o11]/\Zt H' pl (ps++[(kd,n)])/\Yd H' jl R5/\Zt H' rl rest'/\Zt H' lf fresh'/\Xa (i+1) (2 * i+1) (ps++[(kd,n)]) R5 (rest'++fresh')
   refine WSs.cut I4 ?_ ?_
   ·refine WS.of (Z8 (Zm (r:=Zfg K) (Zhf hr) (pv 3) (Zk Za) (Z0 _)) Zv Zs) (exR rfl ⟨szA,fun l0 I0 k9 n11 V3=>.inr (.inl ⟨2,.lst (Zx.map trP),.lst [],by decide,.inr ⟨_,_,rfl,rfl⟩,Zt.im (V7.mono k9),Im.lst (SqL.of V3) .nil,_,rfl,Ye (fun z8=>?_) (fun z8=>?_)⟩)⟩)
    ·have z8:0<Zx.length:=by
      cases Zx with
      | nil=>simp at z8
      | cons=>simp
     obtain ⟨N0,R4,hrs1⟩:=V7.mono k9;obtain ⟨O6,hf1,T6⟩:=f10.mono k9;obtain ⟨us1,hu1,hus1⟩:=j10.mono k9;have cr:=Paired.length hrs1;have cf:=Paired.length T6;have cu:=Paired.length hus1;rw [List.length_map] at cf;have hjl1:=F0.jl;obtain ⟨k1,hk1,T7⟩:=Zh7 (a:=c / 24) (n:=(N0.map V.ref).length) (by rw [List.length_map];lia);obtain ⟨k2,N3,T8⟩:=Zh7 (a:=c / 100) (n:=(O6.map V.ref).length) (by rw [List.length_map];lia);obtain ⟨ta,hta⟩:∃ta,N0[k1]? =some ta:=⟨_,List.getElem?_eq_getElem (by rw [List.length_map] at T7;exact T7)⟩
     obtain ⟨tb,htb⟩:∃tb,O6[k2]? =some tb:=⟨_,List.getElem?_eq_getElem (by rw [List.length_map] at T8;exact T8)⟩
     obtain ⟨qa,hqa,hqat⟩:=Paired.get hrs1 hta;obtain ⟨qb,hqb,hqbt⟩:=Paired.get T6 htb;refine WSs.last (Xg (Zdc PySem.F.plainAttrs_list PySem.F.slot_list_append PySem.F.type_list_append Xf (pv 2) (Zb (Zi (Zb (Zdc PySem.F.plainAttrs_list PySem.F.slot_list_pop PySem.F.type_list_pop Zot (pv 3) (Zb (Zp Yn (Zp Yo (pv 5) Zd) (Zu (r:=Xk K) Xo (by rfl) T.aZ PySem.boot_len (Zb (pv 3) Za))) Za)) (Zb (Zdc PySem.F.plainAttrs_list PySem.F.slot_list_pop PySem.F.type_list_pop Zot (pv 9) (Zb (Zp Yn (Zp Yo (pv 5) Zd) (Zu (r:=Xk K) Xo (by rfl) T.aZ PySem.boot_len (Zb (pv 9) Za))) Za)) Za))) Za))) (exR rfl ⟨.inl ⟨rfl,_,SqL.of hu1⟩,_,rfl,.inl ⟨rfl,_,SqL.of R4⟩,_,rfl,_,_,rfl,rfl,⟨by decide,by decide⟩,_,rfl,.inl ⟨rl,_,rfl,.inl (SqL.of R4),_,_,rfl,rfl,by lia,rl,_,_,k1,.ref ta,rfl,rfl,R4,by lia,by rw [List.length_map] at T7;lia,by rw [hk1];exact Zqj T7,by rw [List.getElem?_map,hta];rfl,?_⟩⟩);have r12:=Zt.erased R4 hrs1 k1;have f12:=Zt.offL (o:=.lst ((N0.map V.ref).eraseIdx k1)) ⟨O6,hf1,T6⟩ R4 nfr;have p12:=(p10.mono k9).offL (o:=.lst ((N0.map V.ref).eraseIdx k1)) R4 (Ne.symm O4);have hu12:upd I0 rl (.lst ((N0.map V.ref).eraseIdx k1)) jl=_:=(Zh (Ne.symm O5)).trans hu1;have hus12:=Zae (o:=.lst ((N0.map V.ref).eraseIdx k1)) hus1 R4;have x4:upd I0 rl (.lst ((N0.map V.ref).eraseIdx k1)) lf=_:=(Zh nfr).trans hf1;have hfs12:=X8 (o:=.lst ((N0.map V.ref).eraseIdx k1)) T6 R4;have a12:=hqat.offL (o:=.lst ((N0.map V.ref).eraseIdx k1)) R4;have b12:=hqbt.offL (o:=.lst ((N0.map V.ref).eraseIdx k1)) R4;have v5:Same H (upd I0 rl (.lst ((N0.map V.ref).eraseIdx k1))):=fun b o z=>(Zh (Zj z frl)).trans (k9.at (s010.at z))
     generalize (upd I0 rl (.lst ((N0.map V.ref).eraseIdx k1)))=Q5 at r12 f12 p12 hu12 hus12 x4 hfs12 a12 b12 v5;refine (exR rfl ⟨.inl ⟨rfl,_,SqL.of x4⟩,_,rfl,_,_,rfl,rfl,⟨by decide,by decide⟩,_,rfl,.inl ⟨lf,_,rfl,.inl (SqL.of x4),_,_,rfl,rfl,by lia,lf,_,_,k2,.ref tb,rfl,rfl,x4,by lia,by rw [List.length_map] at T8;lia,by rw [N3];exact Zqj T8,by rw [List.getElem?_map,htb];rfl,?_⟩⟩);have f13:=Zt.erased x4 hfs12 k2;have r13:=r12.offL (o:=.lst ((O6.map V.ref).eraseIdx k2)) x4 (Ne.symm nfr);have p13:=p12.offL (o:=.lst ((O6.map V.ref).eraseIdx k2)) x4 (Ne.symm nfp);have hu13:upd Q5 lf (.lst ((O6.map V.ref).eraseIdx k2)) jl=_:=(Zh (Ne.symm nfj)).trans hu12;have hus13:=Zae (o:=.lst ((O6.map V.ref).eraseIdx k2)) hus12 x4;have a13:=a12.offL (o:=.lst ((O6.map V.ref).eraseIdx k2)) x4;have b13:=b12.offL (o:=.lst ((O6.map V.ref).eraseIdx k2)) x4;have p8:Same H (upd Q5 lf (.lst ((O6.map V.ref).eraseIdx k2))):=fun b o z=>(Zh (Zj z flf)).trans (v5.at z)
     generalize (upd Q5 lf (.lst ((O6.map V.ref).eraseIdx k2)))=H13 at f13 r13 p13 hu13 hus13 a13 b13 p8;refine ⟨szA,fun tj V2 o0 n14 L5=>⟨jl,_,_,rfl,rfl,o0.at hu13,?_,?_⟩⟩
     ·rw [List.length_map];exact Zw (by lia)
     have T9:=o0.at hu13;have hqn:qb.1=n:=by
      rw [List.getElem?_map] at hqb;obtain ⟨x,_,rfl⟩:=Option.map_eq_some_iff.mp hqb
      rfl
     have hqo:qa.1≠qb.1:=by
      rw [hqn,hn];have h1:=Zdx (F0.net.perm.subset (List.mem_append_right _ (List.mem_of_getElem? hqa)));exact fun z=>F0.new (by lia) T3 (z ▸ h1)
     refine ⟨fun b o z=>(Zh (Zj z fj)).trans (o0.at (p8.at z)),Zx.eraseIdx k1,_,js++[(qa,qb)],rfl,(p13.mono o0).offL T9 npj,⟨us1++[tj],?_,?_⟩,(r13.mono o0).offL T9 O5,(f13.mono o0).offL T9 nfj,ok8.join (Zvq hqa hqb) hqo⟩
     ·rw [Zf,List.map_append];rfl
     ·exact Zae (Paired.append (Paired.mapP hus13 fun _ _ r=>r.mono o0) (.cons ⟨ta,tb,L5,a13.mono o0,b13.mono o0⟩ .nil)) T9
    ·exact ⟨s010.trans k9,Zx,_,js,rfl,p10.mono k9,j10.mono k9,V7.mono k9,f10.mono k9,ok8.mono (Nat.le_refl _) (by lia)⟩
   rintro σ Q5 ⟨s012,rest2,O7,js2,rfl,p12,j12,⟨rs2,hr12,hrs2⟩,⟨fs2,x4,hfs2⟩,F6⟩;have sm12:=F6.sum;have cr:=Paired.length hrs2;have cf:=Paired.length hfs2;rw [List.length_append,List.length_append] at sm12;refine WSs.step (Zz (i:=3) Yg.nd (Zp Wp (pv 3) (pv 9))) (exR rfl (exR rfl (.inr (.inr ⟨rl,lf,_,_,rfl,rfl,hr12,x4,?_,fun rm H13 p8 V4 S0=>?_⟩))))
   ·rw [List.length_map,List.length_map];exact sz (by lia)
   have r13:Zt H13 rm (rest2++O7):=Zt.app (Paired.mapP hrs2 fun _ _ r=>r.mono p8) (Paired.mapP hfs2 fun _ _ r=>r.mono p8) S0;have p13:=p12.mono p8;have j13:=j12.mono p8;have s013:=s012.trans p8;have frm:H rm=none:=s012.free V4;have nmp:rm≠pl:=let ⟨_,z,_⟩:=p12;Ne.symm (Zj z V4);have nmj:rm≠jl:=let ⟨_,z,_⟩:=j12;Ne.symm (Zj z V4);clear hr12 x4 hrs2 hfs2 p12 j12 s012 p8 p10 j10 V7 f10 s010 S0;obtain ⟨op,hop⟩:∃op,op=rest2++O7:=⟨_,rfl⟩
   rw [<-hop] at r13 F6;have hopl:op.length<=39:=by rw [hop,List.length_append];lia
   clear hop sm12 cr cf;obtain ⟨rs,hrm,K2⟩:=r13;have crs:=Paired.length K2;refine WSs.step (Wq (i:=10) (N':=["_law_end", "_law_rest"]) Yg.nd rfl (Or.inl rfl) rfl (Z5.std 1 [3] rfl (by trivial) (by trivial) rfl ⟨rfl,trivial⟩ rfl rfl ⟨(exR rfl ⟨rfl,rfl⟩),trivial⟩) (Ym (Xv (r:=Zf9 K) Zht (pv 3) (X4 Zd) Wj)) (fun _ _ _ _=>(Zan (i:=0) (by show (["_law_end", "_law_rest"]:List Str).Nodup;decide +kernel))) (fun _ _ _ _=>(Ze8 (Zm (r:=Zfg K) (Zhf hr) (Zn (K:=K) rfl (pv 0) Zd) (Zn (K:=K) rfl (Zn (K:=K) rfl (pv 1) Zd) Zd) (Z0 _)))) (fun _ _ _ _=>(pv 0))) (exR rfl (exR rfl (.inr (.inl ⟨rm,_,rfl,SqL.of hrm,fun l1 V2 o0 n14 L5=>⟨l1,rfl,⟨_,SqL.of L5⟩,fun D hD=>?_⟩⟩))));rw [show (some (1:Int))=some ((1:Nat):Int) from rfl,Zbj,<-List.map_drop] at L5;have K4:Paired (Zq V2) rs op:=Paired.mapP K2 fun _ _ r=>r.mono o0
   have O8:=o0.at hrm;obtain ⟨q0,hq0⟩:∃q0,q0=op.getD 0 ("", ""):=⟨_,rfl⟩
   refine Zk6 (keep:=fun x=>decide (x.1≠q0.1)) (w:=some (.ref rm)) L5 (Zop K4 1) (by rw [List.length_drop];lia) hD (fun H15 z7 f15=>?q2) ?a2 ?b2
   case a2=>rfl
   case b2 =>
    intro t x H' R sm hx hm hR;cases K4 with
    | nil=>simp at hm
    | cons r0 _ =>
     subst hq0;refine (exR rfl (.inr (.inl ⟨t,_,_,_,rfl,rfl,SqT.of hx,rfl,_,rfl,.inl ⟨rm,_,_,_,rfl,rfl,SqL.of (sm.at O8),(show atI _ ((0:Nat):Int)=_ from Y4 rfl),.inr (.inl ⟨_,_,_,_,rfl,rfl,SqT.of (sm.at r0),rfl,.inl ⟨rfl,_,rfl,?_⟩⟩)⟩⟩)));simpa using hR
   obtain ⟨M0,hnear⟩:∃M0,M0=(op.drop 1).filter fun x=>decide (x.1≠q0.1):=⟨_,rfl⟩
   rw [<-hnear] at f15;have p15:=(p13.mono o0).mono z7;have j15:=(j13.mono o0).mono z7;have O9:=z7.at O8;have P0:Paired (Zq H15) rs op:=Paired.mapP K4 fun _ _ r=>r.mono z7
   have s015:=s013.trans (o0.trans z7);clear p13 j13 s013 o0 z7 O8 K4 hrm K2 L5;refine WSs.last (Z8 (PW.pt (Zmp (Zm (r:=Zfg K) (Zhf hr) (pv 10) (Zk Za) (Z0 _)) (Zia (Zm (r:=Wo K) (Wv hr) (Zp Yn (Zp Yo (pv 5) Zd) Zd) Zd (Z0 _))))) Zv Zs) (exR rfl ⟨szA,fun l0 H16 u0 n16 e16=>.inr (.inl ⟨2,.lst (M0.map trP),.lst [],by decide,.inr ⟨_,_,rfl,rfl⟩,Zt.im (f15.mono u0),Im.lst (SqL.of e16) .nil,_,rfl,Ye (fun z8=>?_) (fun z8=>?_)⟩)⟩)
   ·refine (exR rfl (exQ rfl rfl ⟨⟨by decide,by decide⟩,_,_,rfl,rfl,(by show (0:Int)<3;decide),.inl ⟨rfl,_,rfl,Ye (fun _=>?_) (fun _=>?_)⟩⟩))
    ·obtain ⟨ns,hnl,hns⟩:=f15.mono u0;have cn:=Paired.length hns;have hnl0:0<M0.length:=by
      cases M0 with
      | nil=>simp at z8
      | cons=>simp
     obtain ⟨k3,hk3,hk3l⟩:=Zh7 (a:=c / 1500) (n:=(ns.map V.ref).length) (by rw [List.length_map];lia);obtain ⟨to,hto⟩:∃to,ns[k3]? =some to:=⟨_,List.getElem?_eq_getElem (by rw [List.length_map] at hk3l;exact hk3l)⟩
     obtain ⟨q3,hq3,hq3t⟩:=Paired.get hns hto;have hq3m:q3∈M0:=List.mem_of_getElem? hq3;refine WSs.step (Zz (i:=11) Yg.nd (Zn (K:=K) rfl (pv 10) (Zp Yn (Zp Yo (pv 5) Zd) (Zu (r:=Xk K) Xo (by rfl) T.aZ PySem.boot_len (Zb (pv 10) Za))))) (exR rfl (exR rfl (exQ rfl rfl ⟨⟨by decide,by decide⟩,_,rfl,.inl ⟨D,_,rfl,.inl (SqL.of hnl),_,_,rfl,rfl,by lia,.inl ⟨D,_,_,.ref to,rfl,rfl,SqL.of hnl,by rw [hk3];exact Y4 (by rw [List.getElem?_map,hto];rfl),?_⟩⟩⟩)));obtain ⟨us,hu,i4⟩:=j15.mono u0;have cu:=Paired.length i4;have hju:=F6.jl;have hrm16:=u0.at O9;have hrs16:Paired (Zq H16) rs op:=Paired.mapP P0 fun _ _ r=>r.mono u0
     rw [hnear] at hq3m;obtain ⟨hqd,hqk⟩:=List.mem_filter.mp hq3m;have hqk:q3.1≠q0.1:=of_decide_eq_true hqk;obtain ⟨t0,B2,tl,rfl,rfl,r0,hrt⟩:∃t0 B2 tl,rs=t0 ::B2/\op=q0 ::tl/\Zq H16 t0 q0/\Paired (Zq H16) B2 tl:=by
      cases hrs16 with
      | nil=>simp at hqd
      | cons r0 rt=>exact ⟨_,_,_,rfl,by rw [hq0];rfl,by rw [hq0];exact r0,rt⟩
     have hqd:q3∈tl:=hqd;refine WSs.step (Xg (Zdc PySem.F.plainAttrs_list PySem.F.slot_list_append PySem.F.type_list_append Xf (pv 2) (Zb (Zi (Zb (pv 11) (Zb (Zn (K:=K) rfl (pv 3) Zd) Za))) Za))) (exR rfl ⟨.inl ⟨rfl,_,SqL.of hu⟩,_,rfl,_,rfl,.inl ⟨rm,_,_,.ref t0,rfl,rfl,SqL.of hrm16,(show atI _ ((0:Nat):Int)=_ from Y4 rfl),szA,fun tj H17 v7 n17 e17=>⟨jl,_,_,rfl,rfl,v7.at hu,?_,?_⟩⟩⟩)
     ·rw [List.length_map];exact Zw (by lia)
     have U0:=v7.at hu;have j18:Yd (upd H17 jl (.lst (us.map V.ref++[.ref tj]))) jl (js2++[(q3,q0)]):=⟨us++[tj],by rw [Zf,List.map_append];rfl,Zae (Paired.append (Paired.mapP i4 fun _ _ r=>r.mono v7) (.cons ⟨to,t0,e17,hq3t.mono v7,r0.mono v7⟩ .nil)) U0⟩
     have p18:=((p15.mono u0).mono v7).offL (o:=.lst (us.map V.ref++[.ref tj])) U0 npj;have hrm18:upd H17 jl (.lst (us.map V.ref++[.ref tj])) rm=_:=(Zh nmj).trans (v7.at hrm16);have hrt18:=X8 (o:=.lst (us.map V.ref++[.ref tj])) (Paired.mapP hrt fun _ _ r=>r.mono v7) U0;have q18:=(hq3t.mono v7).offL (o:=.lst (us.map V.ref++[.ref tj])) U0;have w9:Same H (upd H17 jl (.lst (us.map V.ref++[.ref tj]))):=fun b o z=>(Zh (Zj z fj)).trans (v7.at (u0.at (s015.at z)))
     generalize (upd H17 jl (.lst (us.map V.ref++[.ref tj])))=H18 at j18 p18 hrm18 hrt18 q18 w9;refine WSs.last (Zz (i:=3) Yg.nd (Xu (N':=["_law_end", "_law_other"]) rfl (Z5.std 1 [11] rfl (by trivial) (by trivial) rfl ⟨rfl,trivial⟩ rfl rfl ⟨(exR rfl ⟨rfl,rfl⟩),trivial⟩) (Ym (Xv (r:=Zf9 K) Zht (pv 3) (X4 Zd) Wj)) (fun _ _ _ _=>(Zan (i:=0) (by show (["_law_end", "_law_other"]:List Str).Nodup;decide +kernel))) (fun _ _ _ _=>(Ze8 (Zm (r:=Zfg K) (Zhf hr) (pv 0) (pv 1) (Z0 _)))) (fun _ _ _ _=>(pv 0)))) (exR rfl (exR rfl (.inr (.inl ⟨rm,_,rfl,SqL.of hrm18,fun l2 H19 C1 n19 e19=>⟨l2,rfl,⟨_,SqL.of e19⟩,fun D2 p7=>?_⟩⟩))));rw [show (some (1:Int))=some ((1:Nat):Int) from rfl,Zbj,<-List.map_drop] at e19;have q19:=q18.mono C1;refine Zk6 (ts:=B2) (qs:=tl) (keep:=fun x=>decide (x≠q3)) (w:=some (.ref to)) e19 (Paired.mapP hrt18 fun _ _ r=>r.mono C1) (by simp at hopl;lia) p7 (fun H20 s20 f20=>?q4) ?a4 ?b4
     case a4=>rfl
     case b4 =>
      intro t x H' R sm hx hm hR;refine (exR rfl (exR rfl (.inr (.inl ⟨1,trP x,trP q3,by decide,.inl ⟨_,_,rfl,rfl⟩,Im.tup (SqT.of hx) (.cons (.str _) (.cons (.str _) .nil)),Im.tup (SqT.of (q19.mono sm)) (.cons (.str _) (.cons (.str _) .nil)),_,rfl,?_⟩))));have:(!decide (trP x=trP q3))=decide (x≠q3):=by
       rw [Bool.eq_iff_iff];simp [trP,Prod.ext_iff]
      rw [if_pos rfl,this];exact hR
     have P1:=C1.trans s20;exact ⟨w9.trans P1,D2,_,_,_,_,_,_,_,_,_,_,_,rfl,p18.mono P1,j18.mono P1,f20,(F6.join (Zsm F6.net.ond hqd) hqk).mono (by lia) (by lia),(w9.trans C1).free p7,(let ⟨_,z,_⟩:=p18;Ne.symm (Zj (C1.at z) p7)),(let ⟨_,z,_⟩:=j18;Ne.symm (Zj (C1.at z) p7))⟩
    ·exact ⟨s015.trans u0,rm,_,_,_,_,_,_,_,_,_,_,_,rfl,p15.mono u0,j15.mono u0,⟨rs,u0.at O9,Paired.mapP P0 fun _ _ r=>r.mono u0⟩,F6.mono (by lia) (by lia),frm,nmp,nmj⟩
   ·exact ⟨s015.trans u0,rm,_,_,_,_,_,_,_,_,_,_,_,rfl,p15.mono u0,j15.mono u0,⟨rs,u0.at O9,Paired.mapP P0 fun _ _ r=>r.mono u0⟩,F6.mono (by lia) (by lia),frm,nmp,nmj⟩
  ·rintro σ H4 ⟨s4,rl,o4,o5,o6,o7,o8,o9,o10,o11,ps,js,Zx,rfl,j0,w4,R3,hok,frl,O4,O5⟩;rw [List.length_map] at hok;have hsm:=hok.sum;have hjb:=hok.jl;refine WSs.step (Xg (Zr (Zkk T) hr rfl T.cY T.aP.F.kp T.aP.b .nil Z2 (Zb (pv 1) (Zb (pv 2) (Zb (pv 3) (Zb (Zu (Zuo rfl) (by rfl) T.fF PyProof.Rows.boot_sum (Zb (pv 0) Za)) Za)))))) (exR rfl (exR rfl (exR rfl (exR rfl ⟨cl,cs,rfl,s4.seq B3,pl,jl,rl,Zva cs,ps,js,Zx,rfl,j0,w4,R3,npj,O4,O5,by lia,by lia,by lia,fun H5 z9 B1 km hp5 hj5 hcl5=>?_⟩))));have hnet:=hok.done (by lia) hcl5;have hnl:z9.length=Zx.length:=by obtain ⟨ks,hk1,N3,hk3,hk4⟩:=hcl5;rw [hk3,List.length_map,List.length_range]
   refine WSs.last (Zl (Zi (Zb (pv 1) (Zb (pv 2) Za)))) (exR rfl (exR rfl ⟨szA,fun t H6 s6 n6 e6=>q t H6 pl jl _ _ 0 (fun b o z=>s6.at (km b o (Zj z fp) (Zj z fj) (s4.at z))) e6 (hp5.mono s6) (hj5.mono s6) fp fj hnet ?_ ?_⟩))
   ·rw [List.length_append];lia
   ·intro p hp;rcases List.mem_append.mp hp with z|z
    ·obtain ⟨kd,h1,c,k,h2,h3⟩:=hok.nm p z;exact .inl ⟨kd,h1,c,k,by lia,h3⟩
    ·obtain ⟨ks,hk1,N3,hk3,hk4⟩:=hcl5;rw [hk3] at z;obtain ⟨j,hj,rfl⟩:=List.mem_map.mp z;exact .inr ⟨j,by have:=List.mem_range.mp hj;lia,rfl⟩
theorem Zm5(T:Tx K mg){k:Nat}(h:3<=k:=by decide):Zy P w K mg base CX0 k T.aW.f T.aW.fd ["_law_cells_here"] (Zrj K):=(Zkj T).mono h
def Zcc(n k:Nat):Str:=("s" :Str)++Str.ofString (toString (n:Int))++(⟨#[Zfx.getD (k / 26) 0]⟩:Str)++(⟨#[Zfx.getD (k%26) 0]⟩:Str)
theorem Zpy:∀i<26,Zfx.getD i 0=97+i:=by decide
theorem Zd3(n k:Nat):(Zcc n k).cps.toList=(("s" :Str)++Str.ofString (toString (n:Int))).cps.toList++[Zfx.getD (k / 26) 0]++[Zfx.getD (k%26) 0]:=by
 unfold Zcc;rw [PySem.W.KT.app_list,PySem.W.KT.app_list]
theorem Ztm{n n' k k':Nat}(hk:k<600)(hk':k'<600)(h:Zcc n k=Zcc n' k'):k=k':=by
 have:=congrArg (fun s:Str=>s.cps.toList) h;simp only [Zd3] at this;obtain ⟨h1,h2⟩:=List.append_inj' this rfl;obtain ⟨_,h3⟩:=List.append_inj' h1 rfl;rw [List.cons.injEq] at h2 h3;rw [Zpy _ (by lia),Zpy _ (by lia)] at h2 h3;lia
def Zng(H:Hp)(t:Addr)(q:Str×Str×Str):Prop:=H t=some (.tup [.str q.1,.str q.2.1,.str q.2.2])
def Zav(H:Hp)(l:Addr)(sg:List (Str×Str×Str)):Prop:=∃ts:List Addr,H l=some (.lst (ts.map V.ref))/\Paired (Zng H) ts sg
def Xq(ps:List Zc):List Zc:=ps.flatMap fun p=>if p.1∈[("plain" :Str), "gate", "stop"] then (Z6 p.1).map (fun x=>(p.2,x)) else []
theorem Zpo(ps:List Zc)(p:Zc):Xq (ps++[p])=Xq ps++(if p.1∈[("plain" :Str), "gate", "stop"] then (Z6 p.1).map (fun x=>(p.2,x)) else []):=by
 unfold Xq;rw [List.flatMap_append];simp
structure Zbv(es:List Zc)(i:Nat)(sg:List (Str×Str×Str)):Prop where
 at_:(sg.map fun q=>((q.2.1,q.2.2):Zc)).Sublist (es.take i)
 name:∀q∈sg,q.1=q.2.1\/∃n k,n<99/\k<i/\q.1=Zcc n k
 nd:(sg.map Prod.fst).Nodup
 len:sg.length<=40
theorem Zbv.skip{es:List Zc}{i:Nat}{sg:List (Str×Str×Str)}(h:Zbv es i sg):Zbv es (i+1) sg:=by
 refine ⟨h.at_.trans ?_,fun q hq=>?_,h.nd,h.len⟩
 ·rw [List.take_add_one];exact List.sublist_append_left _ _
 ·rcases h.name q hq with z|⟨n,k,a,b,c⟩
  ·exact .inl z
  ·exact .inr ⟨n,k,a,by lia,c⟩
theorem Zbv.add{es:List Zc}{i:Nat}{sg:List (Str×Str×Str)}{e:Zc}{nm:Str}(h:Zbv es i sg)(he:es[i]? =some e)(hn:nm=e.1\/∃n,n<99/\nm=Zcc n i)(y8:nm∉sg.map Prod.fst)(hl:sg.length<40):Zbv es (i+1) (sg++[(nm,e.1,e.2)]):=by
 refine ⟨?_,fun q hq=>?_,?_,by rw [List.length_append];simp;lia⟩
 ·rw [List.take_add_one,he,List.map_append];exact List.Sublist.append h.at_ (List.Sublist.refl _)
 ·rcases List.mem_append.mp hq with z|z
  ·exact h.skip.name q z
  ·rw [List.mem_singleton] at z;subst z;rcases hn with y|⟨n,a,b⟩
   ·exact .inl y
   ·exact .inr ⟨n,i,a,by lia,b⟩
 ·rw [List.map_append,List.nodup_append];refine ⟨h.nd,by simp,fun a ha b hb z=>?_⟩;simp at hb;exact y8 (by rw [<-hb,<-z];exact ha)
theorem Zbv.fresh{es:List Zc}{i n:Nat}{sg:List (Str×Str×Str)}(h:Zbv es i sg)(hi:i<600)(z8:∀n k e,e∈es->n<99->k<600->e.1≠Zcc n k)(hn:n<99):Zcc n i∉sg.map Prod.fst:=fun hm=>by
 obtain ⟨q,hq,e⟩:=List.mem_map.mp hm;rcases h.name q hq with z|⟨n',k,a,b,c⟩
 ·have:((q.2.1,q.2.2):Zc)∈es:=List.mem_of_mem_take (h.at_.subset (List.mem_map.mpr ⟨q,hq,rfl⟩));exact z8 n i _ this hn hi (z.symm.trans e)
 ·have:=Ztm hi (by lia) (e.symm.trans c);lia
theorem Zav.mono{H H':Hp}{l:Addr}{sg:List (Str×Str×Str)}(e:Same H H')(h:Zav H l sg):Zav H' l sg:=let ⟨ts,h1,h2⟩:=h;⟨ts,e.at h1,Paired.mapP h2 fun _ _ r=>e.at r⟩
def Zx9(K:Frag):Sp:=fun vs H Q _=>∃(pl:Addr) (c:Int) (ps:List Zc),vs=[.ref pl,.int c]/\Zt H pl ps/\ps.length<=45/\(∀n k e,e∈Xq ps->n<99->k<600->e.1≠Zcc n k) /\
 ∀(l:Addr) (H':Hp) (sg:List (Str×Str×Str)),Same H H'->H l=none->Zav H' l sg->Zbv (Xq ps) (Xq ps).length sg->Q (.ref l) H'
theorem Zid(k:Str):(Z6 k).length<=4:=by
 unfold Z6;split
 ·decide
 ·split
  ·decide
  ·split <;>decide
theorem Zfn:∀ps:List Zc,(Xq ps).length<=4 * ps.length
 | []=>by simp [Xq]
 | p ::ps=>by
  have:=Zfn ps;have h2:=Zid p.1;rw [show Xq (p ::ps)=(if p.1∈[("plain" :Str), "gate", "stop"] then (Z6 p.1).map (fun x=>((p.2,x):Zc)) else [])++Xq ps from rfl,List.length_append,List.length_cons];split
  ·rw [List.length_map];lia
  ·simp;lia
theorem Zpt{l D:Addr}{gs:List Addr}{sg:List (Str×Str×Str)}{H1:Hp}{Q:VK}{σ:St}(hl:H1 l=some (.lst (gs.map V.ref)))(hg:Paired (Zng H1) gs sg)(hn:sg.length<=100)(hD:H1 D=none)(q:∀H',Same H1 H'->H' D=some (.lst ((sg.map Prod.fst).map V.str))->Q (.ref D) H'){fr:St->St}(B6:fr σ=[none]){te:TE}(K3:te=tOp (rIx K) (Zkh 0) (tC (.int 0))) :
  Zdp (Itl K l) fr (Zdm 0) Zxz te Q σ H1 D:=by
 refine Xr (xs:=gs.map V.ref) (fun i ys H'=>ys=((sg.take i).map Prod.fst).map V.str/\H' D=some (.lst ys)/\Same H1 H') ⟨rfl,Zf,Same.new hD⟩ ?_ ?_ ?_
 ·rintro i ys H' _ ⟨_,_,sm⟩;exact SqL.of (sm.at hl)
 ·rintro k v ys H' hk ⟨rfl,A4,sm⟩;rw [List.getElem?_map] at hk;obtain ⟨t,ht,rfl⟩:=Option.map_eq_some_iff.mp hk;obtain ⟨g,hs,r2⟩:=Paired.get hg ht;unfold Zcj;rw [B6,K3];refine ⟨X5.set rfl,_,rfl,.inr (.inl ⟨t,_,_,.str g.1,rfl,rfl,SqT.of (sm.at r2),rfl,A4,?_,?_,Zf,fun b o z=>?_⟩)⟩
  ·rw [List.length_map,List.length_map,List.length_take];exact Zw (by lia)
  ·rw [List.take_add_one,hs,List.map_append,List.map_append];rfl
  ·rw [Zh (Zj z hD)];exact sm.at z
 ·rintro ys H6 ⟨rfl,M8,s6⟩;refine q H6 s6 ?_;rw [M8,List.length_map,Paired.length hg,List.take_length]
theorem Zrf:∀n<99,(Str.ofString (toString ((n:Nat):Int))).length<=2:=by trivial
theorem Zwa:∀n<99,(((n:Nat):Int).natAbs).log2<1920:=by trivial
theorem Zeu(T:Tx K mg):Zy P w K mg base CX0 2 T.al.f T.al.fd ["_law_parts", "_law_cell"] (Zx9 K):=by
 refine T.al.F.okW Z1 fun b7 A outer s H vs Q E hr h=>?_
 ·obtain ⟨pl,c,ps,rfl,⟨ts,d7,hps⟩,j0,z8,q⟩:=h;intro X;have A0:ts.length=ps.length:=Paired.length hps;refine WSs.step (Zz (i:=2) Z1.nd Ze) ?_;refine WSs.step (Zz (i:=3) Z1.nd (Zk Za)) ⟨szA,fun l0 H1 s1 n1 e1=>?_⟩;let I5:=fun (i:Nat) (σ:St) (H':Hp)=>∃le,(∃o4 o5 o6,σ=[some (.ref pl),some (.int c),some (.str "abcdefghijklmnopqrstuvwxyz"),some (.ref le),o4,o5,o6,none,none,none])/\Same H H'/\Zt H' le (Xq (ps.take i))
  refine WSs.step (Y8 PassesOwn.never rfl (Ym (pv 0)) (Zaz rfl (Z4 (Yr (i:=4) Z1.nd) (Z4 (Yr (i:=5) Z1.nd) Xl))) Zv) (exR rfl ⟨pl,rfl,⟨_,SqL.of (s1.at d7)⟩,Xx (xs:=ts.map V.ref) I5 ⟨l0,⟨none,none,none,rfl⟩,s1,[],e1,.nil⟩ ?_ ?_ ?_⟩)
  ·rintro i σ H' _ ⟨_,_,sm,_⟩;exact SqL.of (sm.at d7)
  ·rintro i v σ H2 hi ⟨le,⟨o4,o5,o6,rfl⟩,s2,us,F3,i4⟩;rw [List.getElem?_map] at hi;obtain ⟨t,ht,rfl⟩:=Option.map_eq_some_iff.mp hi;obtain ⟨p,hp,rp⟩:=Paired.get hps ht;have E5:i<ts.length:=(List.getElem?_eq_some_iff.mp ht).1;have hbl:=Zfn (ps.take i);rw [List.length_take] at hbl;have K5:us.length=(Xq (ps.take i)).length:=Paired.length i4;have nxt:Xq (ps.take (i+1))=Xq (ps.take i)++(if p.1∈[("plain" :Str), "gate", "stop"] then (Z6 p.1).map (fun x=>((p.2,x):Zc)) else []):=by
    rw [List.take_add_one,hp];exact Zpo _ _
   refine ⟨t,_,rfl,SqT.of (s2.at rp),rfl,_,_,rfl,_,_,rfl,rfl,?_⟩;refine WSs.last (Z8 (Zm (r:=Zhp K) (Zj0 hr) (pv 4) (Zk (Zb Ze (Zb Ze (Zb Ze Za)))) (by with_unfolding_all rfl)) Zv Zs) (exR rfl ⟨szA,fun lk H3 s3 n3 e3=>.inl ⟨lk,_,rfl,.inl (SqL.of e3),rfl,rfl,_,rfl,?_⟩⟩);rw [if_neg Bool.false_ne_true,show inV (.str p.1) [.str "plain",.str "gate",.str "stop"]=decide (p.1∈[("plain" :Str), "gate", "stop"]) from Zaq p.1 ["plain", "gate", "stop"]];refine Ye (fun hc=>?_) (fun hc=>⟨le,⟨_,_,_,rfl⟩,s2.trans s3,?_⟩)
   ·have hc:=of_decide_eq_true hc;rw [if_pos hc] at nxt;refine WSs.last (Zz (i:=3) Z1.nd (Zp Wp (pv 3) (Xu (N':=["_law_end", "_law_name"]) rfl (Z5.std 1 [5] rfl (by trivial) (by trivial) rfl ⟨rfl,trivial⟩ rfl rfl ⟨(exR rfl ⟨rfl,rfl⟩),trivial⟩) (Ym (Zr (Zg9 T) hr rfl T.cz T.aO.F.kp T.aO.b .nil Z2 (Zb (pv 4) Za))) (fun _ _ _ _=>(Zan (i:=0) (by show (["_law_end", "_law_name"]:List Str).Nodup;decide +kernel))) (fun _ _ _ _=>Wl) (fun _ _ _ _=>(Zi (Zb (pv 1) (Zb (pv 0) Za))))))) (exR rfl (exR rfl ⟨p.1,rfl,fun lp H4 s4 n4 e4=>⟨lp,rfl,⟨_,SqL.of e4⟩,fun D hD=>?_⟩⟩));have hel:=Zid p.1;refine Zjh (xs:=Z6 p.1) (x:=p.2) e4 (by lia) hD (fun H5 s5 f5=>?qq) ?aa ?bb
    case aa=>rfl
    case bb=>rfl
    case qq =>
     obtain ⟨vs,hv,C2⟩:=f5;have hvl:vs.length=(Z6 p.1).length:=by rw [Paired.length C2,List.length_map]
     have s35:=s3.trans (s4.trans s5);refine .inr (.inr ⟨le,D,_,_,rfl,rfl,s35.at F3,hv,by rw [List.length_map,List.length_map];exact sz (by lia),fun ln H6 s6 n6 e6=>⟨ln,⟨_,_,_,rfl⟩,s2.trans (s35.trans s6),?_⟩⟩);rw [nxt];exact ⟨us++vs,by rw [e6,List.map_append],Paired.append (Paired.mapP i4 fun _ _ r=>(s35.trans s6).at r) (Paired.mapP C2 fun _ _ r=>s6.at r)⟩
   ·have hc:¬p.1∈[("plain" :Str), "gate", "stop"]:=fun z=>hc (decide_eq_true z)
    rw [nxt,if_neg hc,List.append_nil];exact Zt.mono s3 ⟨us,F3,i4⟩
  rintro σ H2 ⟨le,⟨o4,o5,o6,rfl⟩,s2,hE⟩;rw [List.length_map,A0,List.take_length] at hE;obtain ⟨us,F3,i4⟩:=hE;have hbl:=Zfn ps;have K5:us.length=(Xq ps).length:=Paired.length i4;obtain ⟨es,hes⟩:∃es,es=Xq ps:=⟨_,rfl⟩
  rw [<-hes] at i4 K5 z8 q hbl;refine WSs.step (Zz (i:=7) Z1.nd (Zk Za)) ⟨szA,fun lf H3 s3 n3 e3=>?_⟩;let I6:=fun (i:Nat) (σ:St) (H':Hp)=>(∃o5 o6 o8 o9,σ=[some (.ref pl),some (.int c),some (.str "abcdefghijklmnopqrstuvwxyz"),some (.ref le),o4,o5,o6,some (.ref lf),o8,o9])/\Same H2 H'/\∃sg,Zav H' lf sg/\Zbv es i sg
  refine WSs.step (Y8 PassesOwn.never rfl (Zh8 rfl T.bS (Zb (pv 3) Za)) (Zaz rfl (Z4 (Yr (i:=8) Z1.nd) (Z4 (Yr (i:=6) Z1.nd) Xl))) Zv) (exR rfl ⟨le,rfl,⟨_,SqL.of (s3.at F3)⟩,Zfh (xs:=us.map V.ref) I6 ⟨⟨_,_,none,none,rfl⟩,s3,[],⟨[],e3,.nil⟩,⟨List.nil_sublist _,(fun _ z=>nomatch z),List.nodup_nil,Nat.zero_le _⟩⟩ ?_ ?_ ?_⟩)
  ·rintro i σ H' _ ⟨_,sm,_⟩;exact SqL.of (sm.at F3)
  ·rintro i x' σ H4 hi ⟨⟨o5',o6',o8,o9,rfl⟩,s4,sg,hsg,ok⟩ p H5 s5 n5 e5;rw [List.getElem?_map] at hi;obtain ⟨te,K3,rfl⟩:=Option.map_eq_some_iff.mp hi;obtain ⟨e,he,re⟩:=Paired.get i4 K3;have E5:i<us.length:=(List.getElem?_eq_some_iff.mp K3).1;have hi600:i<600:=by lia
   refine ⟨p,_,rfl,SqT.of e5,rfl,_,_,rfl,_,_,rfl,rfl,?_⟩;have re5:Zq H5 te e:=s5.at (s4.at re);obtain ⟨gs,L6,M6⟩:=hsg.mono s5;have hgl:gs.length=sg.length:=Paired.length M6;have L9:=s4.trans s5;refine WSs.step (Zz (i:=9) Z1.nd (Zr (Za4 T) hr rfl T.bP T.ag.F.kp T.ag.b .nil Z2 (Zb (pv 1) (Zb (pv 8) Za)))) (exR rfl (exR rfl ⟨c,_,rfl,?_⟩));generalize Zeh c ((i:Nat):Int)=dr;have skip:∃sg,Zav H5 lf sg/\Zbv es (i+1) sg:=⟨sg,⟨gs,L6,M6⟩,ok.skip⟩
   refine WSs.last (Z8 (PW.pt (Zmp (Zm Zi8 (Zp Yn (pv 9) Zd) (Zp Yn (pv 1) Zd) (Z0 _)) (Zia (Zm Zhb (Zu (r:=Xk K) Xo (by rfl) T.aZ PySem.boot_len (Zb (pv 7) Za)) Zd (Z0 _))))) Zv Zs) (exR rfl (exQ rfl rfl ⟨(by show (0:Int)<8;decide),_,rfl,_,_,rfl,rfl,(by show (0:Int)<7;decide),_,_,rfl,rfl,_,rfl,Ye (fun _=>(exR rfl (.inl ⟨lf,_,rfl,.inl (SqL.of L6),_,_,rfl,rfl,_,rfl,Ye (fun hl=>?_) (fun _=>⟨⟨_,_,_,_,rfl⟩,L9,skip⟩)⟩))) (fun _=>⟨⟨_,_,_,_,rfl⟩,L9,skip⟩)⟩));have hl:sg.length<40:=by
    have:=of_decide_eq_true hl;rw [List.length_map] at this;lia
   have m0:=Int.emod_nonneg (dr / 8) (show (99:Int)≠0 by decide);have m1:=Int.emod_lt_of_pos (dr / 8) (show (0:Int)<99 by decide);obtain ⟨n,hn⟩:∃n:Nat,dr / 8%99=(n:Int):=⟨(dr / 8%99).toNat,by lia⟩
   have U1:n<99:=by lia
   have R0:=Zrf n U1;refine WSs.step (Zz (i:=5) Z1.nd (Zp Wp Ze (Zab W4 (by rfl) T.cp PyProof.Rows.boot_str (Zb (Zp Yn (Zp Yo (pv 9) Zd) Zd) Za)))) (exR rfl (exQ rfl rfl ⟨⟨by decide,by decide⟩,_,_,rfl,rfl,(by show (0:Int)<99;decide),(n:Int),?_,Zwa n U1,.inr (.inl (exQ rfl rfl ⟨sz (by show 1+_<=1000;lia),?_⟩))⟩))
   ·show [V.int (dr / 8%99)]=[V.int (n:Int)];rw [hn]
   have d6:(("s" :Str)++Str.ofString (toString (n:Int))).length<=3:=by rw [PySem.Str.length_append];show 1+_<=3;lia
   refine WSs.step (Zz (i:=5) Z1.nd (Zp Wp (Zp Wp (pv 5) (Zn (K:=K) rfl (pv 2) (Zp Yo (pv 8) Zd))) (Zn (K:=K) rfl (pv 2) (Zp Yn (pv 8) Zd)))) (exR rfl (exR rfl (exR rfl (exQ rfl rfl ⟨⟨by decide,by decide⟩,.inr (.inr ⟨_,_,Zfx.getD (i / 26) 0,rfl,rfl,sz (by rw [Zh3];decide),?_,.inr (.inl (exQ rfl rfl ⟨sz ?_,_,rfl,_,rfl,_,_,rfl,rfl,(by show (0:Int)<26;decide),.inr (.inr ⟨_,_,Zfx.getD (i%26) 0,rfl,rfl,sz (by rw [Zh3];decide),?_,.inr (.inl (exQ rfl rfl ⟨sz ?_,?_⟩))⟩)⟩))⟩)⟩))))
   ·rw [Zm2];have:=Zii (n:=26) (l:=Zfx) (i:=(i:Int) / 26) rfl (by lia) (by lia);rw [show ((i:Int) / 26).toNat=i / 26 by lia] at this;exact this
   ·show _+1<=1000;lia
   ·rw [Zm2];have:=Zii (n:=26) (l:=Zfx) (i:=(i:Int)%26) rfl (by lia) (by lia);rw [show ((i:Int)%26).toNat=i%26 by lia] at this;exact this
   ·rw [PySem.Str.length_append];show _+1+1<=1000;lia
   show WSs _ _ _ [some (.ref pl),some (.int c),some (.str "abcdefghijklmnopqrstuvwxyz"),some (.ref le),o4,some (.str (Zcc n i)),some (.ref te),some (.ref lf),some (.int (i:Nat)),some (.int dr)] H5;let I7:=fun (σ:St) (H':Hp)=>∃nm,σ=[some (.ref pl),some (.int c),some (.str "abcdefghijklmnopqrstuvwxyz"),some (.ref le),o4,some (.str nm),some (.ref te),some (.ref lf),some (.int (i:Nat)),some (.int dr)]/\Same H5 H'/\(nm=e.1\/∃n,n<99/\nm=Zcc n i)/\nm∉sg.map Prod.fst
   refine WSs.cut I7 ?_ ?_
   ·have keep:∀{H':Hp},Same H5 H'->∃nm,[some (V.ref pl),some (.int c),some (.str "abcdefghijklmnopqrstuvwxyz"),some (.ref le),o4,some (.str (Zcc n i)),some (.ref te),some (.ref lf),some (.int (i:Nat)),some (.int dr)]=[some (.ref pl),some (.int c),some (.str "abcdefghijklmnopqrstuvwxyz"),some (.ref le),o4,some (.str nm),some (.ref te),some (.ref lf),some (.int (i:Nat)),some (.int dr)]/\Same H5 H'/\(nm=e.1\/∃n,n<99/\nm=Zcc n i)/\nm∉sg.map Prod.fst:=fun s6=>⟨_,rfl,s6,.inr ⟨n,U1,rfl⟩,ok.fresh hi600 z8 U1⟩
    refine WS.of (Z8 (PW.pt (Zmp (Zm (r:=Wo K) (Wv hr) (Zp Yn (Zp Yo (pv 1) Zd) Zd) Zd (Z0 _)) (Zia (Zm (r:=Zai K) (Za3 hr) (Zn (K:=K) rfl (pv 6) Zd) (Xu (N':=["_law_row"]) rfl (Z5.std 1 [] rfl (by trivial) (by trivial) rfl trivial rfl rfl trivial) (Ym (pv 7)) (fun _ _ _ _=>(Zan (i:=0) (by show (["_law_row"]:List Str).Nodup;decide +kernel))) (fun _ _ _ _=>Wl) (fun _ _ _ _=>(Zn (K:=K) rfl (pv 0) Zd))) (by with_unfolding_all rfl))))) Zv Zs) (exR rfl (exQ rfl rfl ⟨⟨by decide,by decide⟩,_,_,rfl,rfl,(by show (0:Int)<3;decide),.inl ⟨rfl,_,rfl,Ye (fun _=>?_) (fun _=>keep (Same.refl _))⟩⟩));refine (exR rfl (.inr (.inl ⟨te,_,_,.str e.1,rfl,rfl,SqT.of re5,rfl,_,rfl,lf,rfl,⟨_,SqL.of L6⟩,fun D hD=>?_⟩)));refine Zpt L6 M6 (by lia) hD (fun H6 s6 e6=>?qq) ?aa ?bb
    case aa=>rfl
    case bb=>rfl
    case qq =>
     refine .inl ⟨D,_,rfl,.inl (SqL.of e6),rfl,Wt _,_,rfl,?_⟩;rw [if_pos rfl,Zaq];refine Ye (fun hc=>?_) (fun _=>keep s6);have hc:e.1∉sg.map Prod.fst:=fun z=>by rw [decide_eq_true z] at hc;exact absurd hc (by decide)
     exact WSs.last (Zz (i:=5) Z1.nd (Zn (K:=K) rfl (pv 6) Zd)) (exR rfl (.inr (.inl ⟨te,_,_,.str e.1,rfl,rfl,SqT.of (s6.at re5),rfl,e.1,rfl,s6,.inl rfl,hc⟩)))
   rintro σ H6 ⟨nm,rfl,s6,O2,y8⟩;refine WSs.last (Xg (Zdc PySem.F.plainAttrs_list PySem.F.slot_list_append PySem.F.type_list_append Xf (pv 7) (Zb (Zi (Zb (pv 5) (Zb (Zn (K:=K) rfl (pv 6) Zd) (Zb (Zn (K:=K) rfl (pv 6) Zd) Za)))) Za))) (exR rfl ⟨.inl ⟨rfl,_,SqL.of (s6.at L6)⟩,_,rfl,_,rfl,.inr (.inl ⟨te,_,_,.str e.1,rfl,rfl,SqT.of (s6.at re5),rfl,_,rfl,.inr (.inl ⟨te,_,_,.str e.2,rfl,rfl,SqT.of (s6.at re5),rfl,szA,fun t H7 s7 n7 e7=>⟨lf,_,_,rfl,rfl,s7.at (s6.at L6),by rw [List.length_map];exact Zw (by lia),⟨_,_,_,_,rfl⟩,fun b o z=>?_,sg++[(nm,e.1,e.2)],⟨gs++[t],?_,?_⟩,ok.add he O2 y8 hl⟩⟩)⟩)⟩)
   ·rw [Zh (Zj z n3)];exact s7.at (s6.at (L9.at z))
   ·rw [Zf,List.map_append];rfl
   ·have off:∀{b:Addr} {xs:List V},H7 b=some (.tup xs)->(upd H7 lf (.lst (gs.map V.ref++[V.ref t]))) b=some (.tup xs):=fun {b xs} z=>by
     rw [Zh fun y=>by rw [y,s7.at (s6.at L6)] at z;cases z];exact z
    exact Paired.append (Paired.mapP M6 fun _ _ r=>off (s7.at (s6.at r))) (.cons (off e7) .nil)
  ·rintro σ H4 ⟨⟨o5',o6',o8,o9,rfl⟩,s4,sg,hsg,ok⟩;refine WSs.last (Zl (pv 7)) (exR rfl (q lf H4 sg (s2.trans s4) (s2.free n3) hsg ?_));rw [List.length_map,K5] at ok;exact ok
theorem Zfq(T:Tx K mg){k:Nat}(h:2<=k:=by decide):Zy P w K mg base CX0 k T.al.f T.al.fd ["_law_parts", "_law_cell"] (Zx9 K):=(Zeu T).mono h
def Zef(n:Nat):List (Str×Str×Str):=[("go", "g", "a"),("back", "h", "a"),("end",Wr (n-1), "b")]
def Zvl:Sp:=fun vs H Q _=>∃c:Int,vs=[.int c] /\
 ∀(t pl jl sl:Addr) (H':Hp) (n m:Nat),Same H H'->n∈[9,10,11,12,13,14]->1<=m->m<=3->H' t=some (.tup [.ref pl,.ref jl,.ref sl])->Zt H' pl (Za2 n)->Yd H' jl (Zrc n)->Zav H' sl ((Zef n).take m)->H pl=none->H jl=none->H sl=none->Q (.ref t) H'
theorem Zy3:∀k<20,(((k:Nat):Int).natAbs).log2<1920:=by trivial
theorem Yaj:∀k<20,(Zec k).length<=2:=by trivial
theorem Zpm{l D:Addr}{xs:List Str}{H1:Hp}{Q:VK}{σ:St}(hl:H1 l=some (.lst (xs.map V.str)))(hn:xs.length<=100)(hD:H1 D=none) (q:∀H',Same H1 H'->Zt H' D (xs.map fun x=>(("plain" :Str),x))->Q (.ref D) H') {fr:St->St} (B6:fr σ=[none]) {te:TE} (K3:te=Zvt (Zlc (tC (.str "plain")) (Zlc (Zkh 0) Zxt))) :
  Zdp (Itl K l) fr (Zdm 0) Zxz te Q σ H1 D:=by
 refine Xr (xs:=xs.map V.str) (fun i ys H'=>(∃ts:List Addr,ys=ts.map V.ref/\Paired (Zq H') ts ((xs.take i).map fun x=>(("plain" :Str),x)))/\H' D=some (.lst ys)/\Same H1 H') ⟨⟨[],rfl,.nil⟩,Zf,Same.new hD⟩ ?_ ?_ ?_
 ·rintro i ys H' _ ⟨_,_,sm⟩;exact SqL.of (sm.at hl)
 ·rintro k v ys H' hk ⟨⟨ts,rfl,d7⟩,A4,sm⟩;rw [List.getElem?_map] at hk;obtain ⟨y,hy,rfl⟩:=Option.map_eq_some_iff.mp hk;have c8:ts.length<=100:=by rw [Paired.length d7,List.length_map,List.length_take];lia
  unfold Zcj;rw [B6,K3];refine ⟨X5.set rfl,_,rfl,szA,fun t H2 s2 n2 e2=>⟨s2.at A4,by rw [List.length_map];exact Zw (by lia),⟨ts++[t],by rw [List.map_append];rfl,?_⟩,Zf,fun b o z=>?_⟩⟩
  ·rw [List.take_add_one,hy,List.map_append];have off:∀{b:Addr} {zs:List V},H2 b=some (.tup zs)->(upd H2 D (.lst (ts.map V.ref++[V.ref t]))) b=some (.tup zs):=fun {b zs} z=>by
    rw [Zh fun y=>by rw [y,s2.at A4] at z;cases z];exact z
   exact Paired.append (Paired.mapP d7 fun _ _ r=>off (s2.at r)) (.cons (off e2) .nil)
  ·rw [Zh (Zj z hD)];exact s2.at (sm.at z)
 ·rintro ys H6 ⟨⟨ts,rfl,d7⟩,M8,s6⟩;rw [List.length_map,List.take_length] at d7;exact q H6 s6 ⟨ts,M8,d7⟩
theorem Ztv(n:Nat):ixN (n+1) (-1)=some n:=by
 unfold ixN;rw [if_neg (by decide)];simp
 constructor <;>lia
theorem Zip{α:Type}(xs:List α)(x:α):atI (xs++[x]) (-1)=some x:=by
 unfold atI;rw [List.length_append,List.length_singleton,Ztv];simp
theorem Zos{n:Nat}(h:1<=n):atI (((List.range n).map Wr).map V.str) (-1)=some (.str (Wr (n-1))):=by
 obtain ⟨m,rfl⟩:∃m,n=m+1:=⟨n-1,by lia⟩
 rw [List.range_succ,List.map_append,List.map_append];exact Zip _ _
theorem Zuu{n k:Nat}(h:k<n):(((List.range n).map Wr).map V.str)[k]? =some (.str (Wr k)):=by
 rw [List.getElem?_map,List.getElem?_map,List.getElem?_range h]
 rfl
theorem Yc7:("p0" :Str)=Wr 0:=by trivial
theorem Zlz(T:Tx K mg):Zy P w K mg base CX0 1 T.bd.f T.bd.fd ["_law_cell"] Zvl:=by
 refine T.bd.F.okW X7 fun b7 A outer s H vs Q E hr h=>?_
 ·obtain ⟨c,rfl,q⟩:=h;intro X;have k0:=Int.emod_nonneg c (show (6:Int)≠0 by decide);have k1:=Int.emod_lt_of_pos c (show (0:Int)<6 by decide);obtain ⟨n,hn⟩:∃n:Nat,9+c%6=(n:Int):=⟨(9+c%6).toNat,by lia⟩
  have hn9:n∈[9,10,11,12,13,14]:=by
   have:n=9\/n=10\/n=11\/n=12\/n=13\/n=14:=by lia
   simpa using this
  have hnb:9<=n/\n<=14:=by lia
  refine WSs.step (Wq (i:=2) (N':=["_law_k"]) X7.nd rfl (Or.inl rfl) rfl (Z5.std 1 [] rfl (by trivial) (by trivial) rfl trivial rfl rfl trivial) (Zld rfl T.bU (Zb (Zp Wp Zd (Zp Yn (pv 0) Zd)) Za)) (fun _ _ _ _=>(Zan (i:=0) (by show (["_law_k"]:List Str).Nodup;decide +kernel))) (fun _ _ _ _=>Wl) (fun _ _ _ _=>(Zp Wp Ze (Zab W4 (by rfl) T.cp PyProof.Rows.boot_str (Zb (pv 0) Za))))) (exR rfl (exQ rfl rfl ⟨(by show (0:Int)<6;decide),.inl (exQ rfl rfl ⟨(n:Int),?_,by lia,by lia,fun D hD=>?_⟩)⟩))
  ·show [V.int (9+c%6)]=[V.int (n:Int)];rw [hn]
  refine Zfb (fun i ys H'=>ys=((List.range i).map Wr).map V.str/\H' D=some (.lst ys)/\Same H H') ⟨rfl,Zf,Same.new hD⟩ ?_ ?_
  ·rintro i ys H1 hi ⟨rfl,B7,s1⟩;have hi:i<n:=by lia
   unfold Zcj;refine ⟨X5.set rfl,_,rfl,(i:Int),?_,Zy3 i (by lia),.inr (.inl ⟨_,_,rfl,rfl,sz ?_,B7,?_,?_,Zf,fun b o z=>?_⟩)⟩
   ·show [V.int (0+(i:Int))]=[V.int (i:Int)];rw [Int.zero_add]
   ·have:=Yaj i (by lia);show 1+(Zec i).length<=1000;lia
   ·rw [List.length_map,List.length_map,List.length_range];exact Zw (by lia)
   ·rw [List.range_succ,List.map_append,List.map_append];rfl
   ·rw [Zh (Zj z hD)];exact s1.at z
  ·rintro ys H1 ⟨rfl,B7,s1⟩;rw [Int.toNat_natCast] at B7;have R3:(((List.range n).map Wr).map V.str).length=n:=by rw [List.length_map,List.length_map,List.length_range]
   refine WSs.step (Zz (i:=3) X7.nd (Zp Wp (Zp Wp (Zk (Zb (Zi (Zb Ze (Zb Ze Za))) Za)) (Xu (N':=["_law_name"]) rfl (Z5.std 1 [] rfl (by trivial) (by trivial) rfl trivial rfl rfl trivial) (Ym (pv 2)) (fun _ _ _ _=>(Zan (i:=0) (by show (["_law_name"]:List Str).Nodup;decide +kernel))) (fun _ _ _ _=>Wl) (fun _ _ _ _=>(Zi (Zb Ze (Zb (pv 0) Za)))))) (Zk (Zb (Zi (Zb Ze (Zb Ze Za))) Za)))) ⟨szA,fun t1 H2 s2 n2 e2=>⟨szA,fun l1 H3 s3 n3 e3=>(exR rfl ⟨D,rfl,⟨_,SqL.of (s3.at (s2.at B7))⟩,fun D2 p7=>?_⟩)⟩⟩;refine Zpm (xs:=(List.range n).map Wr) (s3.at (s2.at B7)) (by rw [List.length_map,List.length_range];lia) p7 (fun H4 s4 f4=>?qq) ?aa ?bb
   case aa=>rfl
   case bb=>rfl
   case qq =>
   obtain ⟨vs,hv,C2⟩:=f4;have hvl:vs.length=n:=by rw [Paired.length C2,List.length_map,List.length_map,List.length_range]
   refine .inr (.inr ⟨l1,D2,_,_,rfl,rfl,s4.at e3,hv,by rw [List.length_map];exact sz (by simp;lia),fun l2 H5 s5 n5 e5=>⟨szA,fun t2 H6 s6 n6 e6=>⟨szA,fun l3 H7 s7 n7 e7=>.inr (.inr ⟨l2,l3,_,_,rfl,rfl,s7.at (s6.at e5),e7,by rw [List.length_append,List.length_map];exact sz (by simp;lia),fun pl H8 s8 n8 e8=>?_⟩)⟩⟩⟩);have s48:=s5.trans (s6.trans (s7.trans s8));have s28:=s3.trans (s4.trans s48);have w9:=s2.trans s28;have hP:Zt H8 pl (Za2 n):=by
    refine ⟨[t1]++vs++[t2],by rw [e8,List.map_append,List.map_append];rfl,?_⟩;refine Paired.append (Paired.append (.cons (s28.at e2) .nil) (Paired.mapP (by rw [List.map_map] at C2;exact C2) fun _ _ r=>s48.at r)) (.cons ((s7.trans s8).at e6) .nil)
   have hpl0:H pl=none:=s1.free (s2.free (s3.free (s4.free (s5.free (s6.free (s7.free n8))))));have L0:=w9.at B7;have s08:=s1.trans w9;clear s2 s3 s4 s5 s6 s7 s8 s48 s28 w9 n2 n3 n5 n6 n7 n8 e2 e3 e5 e6 e7 e8 hv C2 p7 B7 s1;refine WSs.step (Zz (i:=4) X7.nd (Zk (Zb (Zi (Zb (Zi (Zb Ze (Zb Ze Za))) (Zb (Zi (Zb Ze (Zb Ze Za))) Za))) (Zb (Zi (Zb (Zi (Zb Ze (Zb Ze Za))) (Zb (Zi (Zb (Zn (K:=K) rfl (pv 2) (Zlq Zg3 Zd)) (Zb Ze Za))) Za))) Za)))) ⟨szA,fun a1 H9 s9 n9 e9=>⟨szA,fun a2 L4 j8 n10 J5=>⟨szA,fun j1 I0 k9 n11 V3=>⟨szA,fun b1 Q5 v5 n12 Q6=>?_⟩⟩⟩⟩;refine (exR rfl (exR rfl (.inl ⟨D,_,_,.str (Wr (n-1)),rfl,rfl,SqL.of (v5.at (k9.at (j8.at (s9.at L0)))),Zos (by lia),szA,fun b2 H13 p8 V4 S0=>⟨szA,fun j2 V2 o0 n14 L5=>⟨szA,fun jl H15 z7 n15 e15=>?_⟩⟩⟩)));have P2:=o0.trans z7;have P3:=p8.trans P2;have P4:=v5.trans P3;have P5:=k9.trans P4;have s915:=j8.trans P5;have s815:=s9.trans s915;have hjl8:H8 jl=none:=s9.free (j8.free (k9.free (v5.free (p8.free (o0.free n15)))));have hJ:Yd H15 jl (([((("g" :Str),("a" :Str)),(Wr 0,("a" :Str))),((("h" :Str),("a" :Str)),(Wr (n-1),("b" :Str)))]:List (Zc×Zc))++(List.range 0).map fun k=>((Wr k,("b" :Str)),(Wr (k+1),("a" :Str)))):=by
    refine ⟨[j1,j2],e15,.cons ⟨a1,a2,P4.at V3,s915.at e9,?_⟩ (.cons ⟨b1,b2,z7.at L5,P3.at Q6,P2.at S0⟩ .nil)⟩;have:=P5.at J5;rw [Yc7] at this;exact this
   clear s9 j8 k9 v5 p8 o0 z7 P2 P3 P4 P5 s915 n9 n10 n11 n12 V4 n14 n15 e9 J5 V3 Q6 S0 L5 e15;let I8:=fun (i:Nat) (σ:St) (H':Hp)=>(∃o1,σ=[some (.int c),o1,some (.ref D),some (.ref pl),some (.ref jl),none])/\Same H8 H'/\Yd H' jl (([((("g" :Str),("a" :Str)),(Wr 0,("a" :Str))),((("h" :Str),("a" :Str)),(Wr (n-1),("b" :Str)))]:List (Zc×Zc))++(List.range i).map fun k=>((Wr k,("b" :Str)),(Wr (k+1),("a" :Str))))
   refine WSs.step (Y8 PassesOwn.never rfl (Zce rfl T.bU (Zb Zd (Zb (Zu (r:=Xk K) Xo (by rfl) T.aZ PySem.boot_len (Zb (pv 2) Za)) Za))) (Yr (i:=1) X7.nd) Zv) (exR rfl (.inl ⟨D,_,rfl,.inl (SqL.of (s815.at L0)),1,(n:Int),?_,⟨by lia,by lia,by lia,by lia⟩,Zd1 (lo:=1) (n:=((n:Int)-1).toNat) I8 ⟨⟨_,rfl⟩,s815,hJ⟩ ?_ ?_⟩))
   ·rw [R3]
   ·rintro i σ H16 hi ⟨⟨o1,rfl⟩,u0,us,hu,i4⟩;have E3:i+1<n:=by lia
    have K5:us.length=2+i:=by rw [Paired.length i4,List.length_append,List.length_map,List.length_range];rfl
    have hat1:atI (((List.range n).map Wr).map V.str) (1+(i:Int)-1)=some (.str (Wr i)):=by
     rw [show (1:Int)+(i:Int)-1=((i:Nat):Int) by lia];exact Y4 (Zuu (by lia))
    have hat2:atI (((List.range n).map Wr).map V.str) (1+(i:Int))=some (.str (Wr (i+1))):=by
     rw [show (1:Int)+(i:Int)=((i+1:Nat):Int) by lia];exact Y4 (Zuu (by lia))
    refine WSs.last (Xg (Zdc PySem.F.plainAttrs_list PySem.F.slot_list_append PySem.F.type_list_append Xf (pv 4) (Zb (Zi (Zb (Zi (Zb (Zn (K:=K) rfl (pv 2) (Zp Zdn (pv 1) Zd)) (Zb Ze Za))) (Zb (Zi (Zb (Zn (K:=K) rfl (pv 2) (pv 1)) (Zb Ze Za))) Za))) Za))) (exR rfl ⟨.inl ⟨rfl,_,SqL.of hu⟩,_,rfl,_,rfl,_,_,rfl,rfl,.inl ⟨D,_,_,_,rfl,rfl,SqL.of (u0.at L0),hat1,szA,fun a1 H17 v7 n17 e17=>?_⟩⟩);refine (exR rfl (exR rfl (.inl ⟨D,_,_,_,rfl,rfl,SqL.of (v7.at (u0.at L0)),hat2,szA,fun a2 H18 w9 n18 e18=>⟨szA,fun j H19 C1 n19 e19=>⟨jl,_,_,rfl,rfl,C1.at (w9.at (v7.at hu)),by rw [List.length_map];exact Zw (by lia),⟨_,rfl⟩,fun b o z=>?_,us++[j],?_,?_⟩⟩⟩)))
    ·rw [Zh (Zj z hjl8)];exact C1.at (w9.at (v7.at (u0.at z)))
    ·rw [Zf,List.map_append];rfl
    ·have off:∀{b:Addr} {xs:List V},H19 b=some (.tup xs)->(upd H19 jl (.lst (us.map V.ref++[V.ref j]))) b=some (.tup xs):=fun {b xs} z=>by
      rw [Zh fun y=>by rw [y,C1.at (w9.at (v7.at hu))] at z;cases z];exact z
     rw [List.range_succ,List.map_append,<-List.append_assoc];exact Paired.append (Paired.mapP i4 fun _ _ ⟨a,b,r1,r2,r3⟩=>⟨a,b,off (C1.at (w9.at (v7.at r1))),off (C1.at (w9.at (v7.at r2))),off (C1.at (w9.at (v7.at r3)))⟩) (.cons ⟨a1,a2,off e19,off (C1.at (w9.at e17)),off (C1.at e18)⟩ .nil)
   rintro σ H16 ⟨⟨o1,rfl⟩,u0,hJ⟩;rw [show ((n:Int)-1).toNat=n-1 by lia] at hJ;refine WSs.step (Zz (i:=5) X7.nd (Zk (Zb (Zi (Zb Ze (Zb Ze (Zb Ze Za)))) (Zb (Zi (Zb Ze (Zb Ze (Zb Ze Za)))) (Zb (Zi (Zb Ze (Zb (Zn (K:=K) rfl (pv 2) (Zlq Zg3 Zd)) (Zb Ze Za)))) Za))))) ⟨szA,fun t1 H17 v7 n17 e17=>⟨szA,fun t2 H18 w9 n18 e18=>(exR rfl (exR rfl (.inl ⟨D,_,_,.str (Wr (n-1)),rfl,rfl,SqL.of (w9.at (v7.at (u0.at L0))),Zos (by lia),szA,fun t3 H19 C1 n19 e19=>⟨szA,fun s0 H20 s20 n20 e20=>?_⟩⟩)))⟩⟩;have m0:=Int.emod_nonneg (c / 6) (show (3:Int)≠0 by decide);have m1:=Int.emod_lt_of_pos (c / 6) (show (0:Int)<3 by decide);obtain ⟨m,hm⟩:∃m:Nat,1+c / 6%3=(m:Int):=⟨(1+c / 6%3).toNat,by lia⟩
   refine WSs.last (Zl (Zi (Zb (pv 3) (Zb (pv 4) (Zb (Xv (r:=Zf9 K) Zht (pv 5) Wj (X4 (Zp Wp Zd (Zp Yn (Zp Yo (pv 0) Zd) Zd)))) Za))))) (exR rfl (exR rfl (exR rfl (exR rfl (exQ rfl rfl ⟨⟨by decide,by decide⟩,_,_,rfl,rfl,(by show (0:Int)<3;decide),.inl (exQ rfl rfl ⟨(m:Int),?_,.inr (.inl ⟨s0,_,rfl,SqL.of e20,fun sl H21 s21 n21 e21=>⟨szA,fun t H22 s22 n22 e22=>?_⟩⟩)⟩)⟩)))))
   ·show V.int (1+c / 6%3)=V.int (m:Int);rw [hm]
   have K6:=s21.trans s22;have s1622:=v7.trans (w9.trans (C1.trans (s20.trans K6)));have s822:=u0.trans s1622;refine q t pl jl sl H22 n m (s08.trans s822) hn9 (by lia) (by lia) e22 (hP.mono s822) (hJ.mono s1622) ?_ hpl0 (s08.free hjl8) (s08.free (u0.free (v7.free (w9.free (C1.free (s20.free n21))))));rw [Zi9] at e21;have all:Paired (Zng H22) [t1,t2,t3] (Zef n):=.cons ((w9.trans (C1.trans (s20.trans K6))).at e17) (.cons ((C1.trans (s20.trans K6)).at e18) (.cons ((s20.trans K6).at e19) .nil));refine ⟨[t1,t2,t3].take m,by rw [s22.at e21,List.map_take];rfl,?_⟩;have:m=1\/m=2\/m=3:=by lia
   rcases this with rfl|rfl|rfl
   ·cases all with
    | cons r _=>exact .cons r .nil
   ·cases all with
    | cons r1 t=>cases t with
     | cons r2 _=>exact .cons r1 (.cons r2 .nil)
   ·exact all
theorem Zob(T:Tx K mg){k:Nat}(h:1<=k:=by decide):Zy P w K mg base CX0 k T.bd.f T.bd.fd ["_law_cell"] Zvl:=(Zlz T).mono h
def Zek(s:Str):Nat:=s.cps.toList.getLastD 0
theorem Zk0{x y:Str}(h:0<y.length):Zek (x++y)=Zek y:=by
 unfold Zek;rw [PySem.W.KT.app_list];have:y.cps.toList≠[]:=fun z=>by
  have:y.cps.toList.length=0:=by rw [z];rfl
  rw [Array.length_toList] at this;exact absurd h (by show ¬0<y.cps.size;lia)
 obtain ⟨ys,b,e⟩:=List.eq_nil_or_concat y.cps.toList |>.resolve_left this
 rw [e];simp
theorem Zor:∀k<100,Zek (Zec k)<58:=by trivial
theorem Zlg{kd:Str}{c:Int}{k:Nat}(h:k<100):Zek (Yk kd c k)<58:=by
 have h1:=Zor k h;have h2:=Zfj k h;unfold Yk;split <;>rw [Zk0 h2] <;>exact h1
theorem Zn1{j:Nat}(h:j<100):Zek (Wg j)<58:=by
 unfold Wg;rw [Zk0 (Zfj j h)];exact Zor j h
theorem Ztw{n k:Nat}:97<=Zek (Zcc n k):=by
 unfold Zek;rw [Zd3];have:=Zpy (k%26) (by lia);simp only [List.getLastD_concat];lia
theorem Zrm{n k:Nat}:2<=(Zcc n k).cps.toList.length:=by
 rw [Zd3,List.length_append,List.length_append];simp
theorem Zwn{s:Str}{n k:Nat} (h:s = "g" \/s = "h" \/Zek s<58):s≠Zcc n k:=fun z=>by
 rcases h with rfl|rfl|h
 ·have:=@Zrm n k;rw [<-z] at this;exact absurd this (by decide)
 ·have:=@Zrm n k;rw [<-z] at this;exact absurd this (by decide)
 ·have:=@Ztw n k;rw [<-z] at this;lia
theorem Zvk{ps:List Zc}{e:Zc}(h:e∈Xq ps):∃p∈ps,e.1=p.2:=by
 unfold Xq at h;obtain ⟨p,hp,he⟩:=List.mem_flatMap.mp h;refine ⟨p,hp,?_⟩;split at he
 ·obtain ⟨x,_,rfl⟩:=List.mem_map.mp he;rfl
 ·cases he
def nmY(s:Str):Prop:=s = "g" \/s = "h" \/Zlt s 63\/∃j,j<90/\s=Wg j
theorem nmY.sig{s:Str}{n k:Nat}(h:nmY s):s≠Zcc n k:=by
 refine Zwn ?_;rcases h with h|h|⟨kd,c,j,_,hj,rfl⟩|⟨j,hj,rfl⟩
 ·exact .inl h
 ·exact .inr (.inl h)
 ·exact .inr (.inr (Zlg (by lia)))
 ·exact .inr (.inr (Zn1 (by lia)))
def nmK(p:Zc):Prop:=p=((("gate" :Str),("g" :Str)):Zc)\/p=((("gate" :Str),("h" :Str)):Zc)\/Zlt p.2 63\/∃j,j<90/\p.2=Wg j
theorem nmK.nm{p:Zc}(h:nmK p):nmY p.2:=by
 rcases h with rfl|rfl|h|h
 ·exact .inl rfl
 ·exact .inr (.inl rfl)
 ·exact .inr (.inr (.inl h))
 ·exact .inr (.inr (.inr h))
structure Zg0(ps:List Zc)(js:List (Zc×Zc))(sg:List (Str×Str×Str)):Prop where
 net:Net ps js []
 len:ps.length<=39
 name:∀p∈ps,nmK p
 sigs:(∃B8,B8.Perm ps/\Zbv (Xq B8) (Xq B8).length sg)\/∃n m,n∈[9,10,11,12,13,14]/\ps=Za2 n/\sg=(Zef n).take m
theorem Net.perm'{ps B8:List Zc}{js R5:List (Zc×Zc)}(h:Net ps js [])(hp:B8.Perm ps)(hj:R5.Perm js):Net B8 R5 []:=by
 obtain ⟨a,b,c,d⟩:=h;rw [List.append_nil] at a;refine ⟨?_,(hp.map _).nodup_iff.mpr b,fun j hm=>c j (hj.mem_iff.mp hm),fun p hm=>d p (hp.mem_iff.mp hm)⟩;rw [List.append_nil];exact ((hj.flatMap_right _).trans a).trans (hp.flatMap_right _).symm
theorem Yam{k:Nat}(h:k<63):Zlt (Wr k) 63:=by
 refine ⟨"plain",0,k,by trivial,h,?_⟩;unfold Yk Wr;rw [if_pos (by decide)];rw [show (⟨#[("plain" :Str).cps.toList.getD 0 0]⟩:Str) = "p" by trivial]
theorem Zws{n:Nat}(hn:n<=14):∀p∈Za2 n,nmK p:=fun p hp=>by
 unfold Za2 at hp;rcases List.mem_append.mp hp with z|z
 ·rcases List.mem_append.mp z with y|y
  ·rw [List.mem_singleton] at y;rw [y];exact .inl rfl
  ·obtain ⟨k,hk,rfl⟩:=List.mem_map.mp y;rw [List.mem_range] at hk;exact .inr (.inr (.inl (Yam (by lia))))
 ·rw [List.mem_singleton] at z;rw [z];exact .inr (.inl rfl)
theorem Zup{n:Nat}(hn:n<=14):(Za2 n).length<=39:=by
 unfold Za2;rw [List.length_append,List.length_append,List.length_map,List.length_range];simp;lia
theorem Ya1{s:Str}{n m:Nat}(h:Zlt s n)(l:n<=m):Zlt s m:=let ⟨kd,c,k,a,b,e⟩:=h;⟨kd,c,k,a,by lia,e⟩
theorem Ybo{s:Str}{n:Nat}(h:nmD s n):Zlt s n:=by
 obtain ⟨kd,hk,c,k,a,e⟩:=h;refine ⟨kd,c,k,?_,a,e⟩;have:∀kd∈Xn,96<kd.cps.toList.getD 0 0/\kd.cps.toList.getD 0 0<123:=by trivial
 exact this kd hk
theorem Zv0{α β:Type}{R:α->β->Prop}{l1:List α}{l2:List β}(h:Paired R l1 l2):Paired R l1.reverse l2.reverse:=by
 induction h with
 | nil=>exact .nil
 | cons r _ ih=>rw [List.reverse_cons,List.reverse_cons];exact Paired.append ih (.cons r .nil)
theorem Zlo{α β:Type}{R:α->β->Prop}:∀(n:Nat) {l1:List α} {l2:List β},Paired R l1 l2->Paired R (l1.drop n) (l2.drop n)
 | 0,_,_,h=>h
 | _+1,_,_,.nil=>.nil
 | n+1,_,_,.cons _ t=>Zlo n t
theorem Zd6{α β:Type}{R:α->β->Prop}:∀(n:Nat) {l1:List α} {l2:List β},Paired R l1 l2->Paired R (l1.take n) (l2.take n)
 | 0,_,_,_=>.nil
 | _+1,_,_,.nil=>.nil
 | n+1,_,_,.cons r t=>.cons r (Zd6 n t)
def Ztq(K:Frag):Sp:=fun vs H Q _=>∃(cl:Addr) (c:Int) (cs:List Int),vs=[.ref cl,.int c]/\SqL K H cl (cs.map V.int)/\(∀c∈cs,0<=c)/\cs.length<=63 /\
 ∀(t pl jl sl:Addr) (H':Hp) (ps:List Zc) (js:List (Zc×Zc)) (sg:List (Str×Str×Str)),Same H H'->H' t=some (.tup [.ref pl,.ref jl,.ref sl])->Zt H' pl ps->Yd H' jl js->Zav H' sl sg->Zg0 ps js sg->Q (.ref t) H'
theorem Zhx(T:Tx K mg):Zy P w K mg base CX0 4 T.aE.f T.aE.fd ["_law_cells_here", "_law_cell"] (Ztq K):=by
 refine T.aE.F.okW Y2 fun b7 A outer s H vs Q E hr h=>?_
 ·obtain ⟨cl,c,cs,rfl,hS,hc0,B3,q⟩:=h;intro X;let I9:=fun (σ:St) (H':Hp)=>σ=[some (.ref cl),some (.int c),none,none,none,none]/\H'=H
  refine WSs.cut I9 ?_ ?_
  ·refine WS.of (Z8 (Zm (r:=Wo K) (Wv hr) (Zp Yn (pv 1) Zd) Zd (Z0 _)) Zv Zs) (exR rfl (exQ rfl rfl ⟨(by show (0:Int)<12;decide),.inl ⟨rfl,_,rfl,Ye (fun _=>?_) (fun _=>⟨rfl,rfl⟩)⟩⟩));refine WSs.last (Zl (Zr (Zob T) hr rfl T.dW T.bd.F.kp T.bd.b .nil Z2 (Zb (Zp Yo (pv 1) Zd) Za))) (exR rfl (exQ rfl rfl ⟨⟨by decide,by decide⟩,_,rfl,fun t pl jl sl H' n m s1 hn h1 h3 e hP hJ hG _ _ _=>q t pl jl sl H' _ _ _ s1 e hP hJ hG ⟨Zvg hn,Zup ?_,Zws ?_,.inr ⟨n,m,hn,rfl,rfl⟩⟩⟩))
   ·simp at hn;lia
   ·simp at hn;lia
  rintro σ H' ⟨rfl,hH'⟩;rw [hH'];refine WSs.step (Zz (i:=2) Y2.nd (Zr (Zn3 T) hr rfl T.dU T.ba.F.kp T.ba.b .nil Z2 (Zb (pv 0) Za))) (exR rfl ⟨cl,cs,rfl,hS,hc0,fun t H1 pl jl ps js s1 e1 hP hJ n1 n2 net len nm=>?_⟩);let I10:=fun (σ:St) (H':Hp)=>∃t pl jl ps js,σ=[some (.ref cl),some (.int c),some (.ref t),none,none,none]/\Same H H'/\H' t=some (.tup [.ref pl,.ref jl])/\Zt H' pl ps/\Yd H' jl js/\Net ps js []/\ps.length<=39/\∀p∈ps,nmK p
  refine WSs.cut I10 ?_ ?_
  ·refine WS.of (Z8 (Zm (r:=Wo K) (Wv hr) (Zp Yn (pv 1) Zd) Zd (Z0 _)) Zv Zs) (exR rfl (exQ rfl rfl ⟨(by show (0:Int)<3;decide),.inl ⟨rfl,_,rfl,Ye (fun _=>?_) (fun _=>⟨t,pl,jl,ps,js,rfl,s1,e1,hP,hJ,net,by lia,fun p hp=>?_⟩)⟩⟩))
   ·refine WSs.last (Zz (i:=2) Y2.nd (Zr (Zm5 T) hr rfl T.dz T.aW.F.kp T.aW.b .nil Z2 (Zb (pv 0) Za))) (exR rfl ⟨cl,cs,rfl,s1.seq hS,hc0,B3,fun t H2 pl jl ps js _ s2 e2 hP hJ _ _ net len nm=>⟨t,pl,jl,ps,js,rfl,s1.trans s2,e2,hP,hJ,net,len,fun p hp=>?_⟩⟩);rcases nm p hp with z|z
    ·exact .inr (.inr (.inl (Ybo z)))
    ·exact .inr (.inr (.inr z))
   ·rcases nm p hp with z|z|z
    ·exact .inl z
    ·exact .inr (.inl z)
    ·exact .inr (.inr (.inl (Ya1 z (by decide))))
  clear e1 hP hJ n1 n2 net len nm s1;rintro σ H1 ⟨t,pl,jl,ps,js,rfl,s1,e1,hP,hJ,net,len,nm⟩;refine WSs.step (Zuh (pv 2) (Zaz rfl (Z4 (Yr (i:=3) Y2.nd) (Z4 (Yr (i:=4) Y2.nd) Xl)))) (exR rfl ⟨t,_,rfl,SqT.of e1,rfl,_,_,rfl,_,_,rfl,rfl,?_⟩);obtain ⟨us,hu,i4⟩:=id hP;have K5:us.length=ps.length:=Paired.length i4;obtain ⟨mx,hmx,hm1⟩:∃mx:Int,(if ((us.map V.ref).length:Int) >1 then ((us.map V.ref).length:Int) else 1)=mx/\0<mx:=by
   refine (exR rfl ?_);split <;>lia
  have a0:=Int.emod_nonneg (c / 3) (show mx≠0 by lia);obtain ⟨U2,T2⟩:∃k:Nat,c / 3%mx=(k:Int):=⟨(c / 3%mx).toNat,by lia⟩
  refine WSs.step (Zz (i:=5) Y2.nd (Zp Yn (Zp Yo (pv 1) Zd) (Zu (Zs6 rfl) (by rfl) T.fB PyProof.Rows.boot_max (Zb Zd (Zb (Zu (r:=Xk K) Xo (by rfl) T.aZ PySem.boot_len (Zb (pv 3) Za)) Za))))) (exR rfl (exQ rfl rfl ⟨⟨by decide,by decide⟩,_,rfl,.inl ⟨pl,_,rfl,.inl (SqL.of hu),_,_,rfl,_,_,rfl,rfl,?_,?_⟩⟩))
  ·show (0:Int)<(if ((us.map V.ref).length:Int) >1 then ((us.map V.ref).length:Int) else 1);rw [hmx];exact hm1
  show WSs _ _ _ [some (.ref cl),some (.int c),some (.ref t),some (.ref pl),some (.ref jl),some (.int (c / 3%(if ((us.map V.ref).length:Int) >1 then ((us.map V.ref).length:Int) else 1)))] H1;rw [hmx,T2];let I11:=fun (σ:St) (H':Hp)=>∃V5 R5,σ=[some (.ref cl),some (.int c),some (.ref t),some (.ref pl),some (.ref V5),some (.int (U2:Int))]/\Same H1 H'/\Yd H' V5 R5/\R5.Perm js
  refine WSs.cut I11 ?_ ?_
  ·obtain ⟨ws,hw,hws⟩:=id hJ;refine WS.of (Z8 (Zm (r:=Wo K) (Wv hr) (Zp Yn (Zp Yo (pv 1) Zd) Zd) Zd (Z0 _)) Zv Zs) (exR rfl (exQ rfl rfl ⟨⟨by decide,by decide⟩,_,_,rfl,rfl,(by show (0:Int)<2;decide),.inl ⟨rfl,_,rfl,Ye (fun _=>?_) (fun _=>⟨jl,js,rfl,Same.refl _,hJ,List.Perm.refl _⟩)⟩⟩));refine WSs.last (Zz (i:=4) Y2.nd (Zzz (ops:=fun l r=>[l,r]) (pv 4) (X4 (Zlq Zg3 Zd)) (fun _ _=>by with_unfolding_all rfl))) (exR rfl (exR rfl (exR rfl ⟨jl,_,rfl,rfl,SqL.of hw,fun jr H2 s2 n2 e2=>⟨jr,js.reverse,rfl,s2,⟨ws.reverse,by rw [e2,List.map_reverse],?_⟩,List.reverse_perm _⟩⟩)));exact Zv0 (Paired.mapP hws fun _ _ r=>r.mono s2)
  rintro σ H2 ⟨V5,R5,rfl,s2,hJ',hjp⟩;refine WSs.last (Zl (Zi (Zb (Zp Wp (Xv (r:=Zf9 K) Zht (pv 3) (X4 (pv 5)) Wj) (Xv (r:=Zf9 K) Zht (pv 3) Wj (X4 (pv 5)))) (Zb (pv 4) (Zb (Zr (Zfq T) hr rfl T.ck T.al.F.kp T.al.b .nil Z2 (Zb (pv 3) (Zb (Zp Yo (pv 1) Zd) Za))) Za))))) (exR rfl (exR rfl (exR rfl (.inr (.inl ⟨pl,_,rfl,SqL.of (s2.at hu),fun la H3 s3 n3 e3=>(exR rfl (exR rfl (exR rfl (.inr (.inl ⟨pl,_,rfl,SqL.of (s3.at (s2.at hu)),fun lb H4 s4 n4 e4=>.inr (.inr ⟨la,lb,_,_,rfl,rfl,s4.at e3,e4,?_,fun lc H5 s5 n5 e5=>?_⟩)⟩)))))⟩)))))
  ·rw [Zbj,Zi9,List.length_drop,List.length_take,List.length_map];exact sz (by lia)
  have L9:=s3.trans (s4.trans s5);have z7:=s2.trans L9;refine (exR rfl (exR rfl (exR rfl (exQ rfl rfl ⟨⟨by decide,by decide⟩,pl,_,ps,rfl,hP.mono z7,by lia,fun n k e he _ _=>?_,fun sl H6 sg s6 n6 hG ok=>⟨szA,fun t' H7 s7 n7 e7=>?_⟩⟩))))
  ·obtain ⟨p,hp,e1⟩:=Zvk he;rw [e1];exact nmY.sig (nm p hp).nm
  rw [Zbj,Zi9,<-List.map_drop,<-List.map_take,<-List.map_append] at e5;have s57:=s6.trans s7;have rot:(ps.drop U2++ps.take U2).Perm ps:=by
   have:=List.perm_append_comm (l₁:=ps.drop U2) (l₂:=ps.take U2);rwa [List.take_append_drop] at this
  refine q t' lc V5 sl H7 (ps.drop U2++ps.take U2) R5 sg (s1.trans (z7.trans s57)) e7 ⟨us.drop U2++us.take U2,s57.at e5,?_⟩ (hJ'.mono (L9.trans s57)) (hG.mono s7) ⟨Net.perm' net rot hjp,?_,fun p hp=>nm p (rot.mem_iff.mp hp),.inl ⟨ps,rot.symm,ok⟩⟩
  ·have:=Paired.mapP i4 fun _ _ r=>Zq.mono (z7.trans s57) r
   exact Paired.append (Zlo _ this) (Zd6 _ this)
  ·rw [rot.length_eq];exact len
theorem Zij(T:Tx K mg){k:Nat}(h:4<=k:=by decide):Zy P w K mg base CX0 k T.aE.f T.aE.fd ["_law_cells_here", "_law_cell"] (Ztq K):=(Zhx T).mono h
def Zf2(c:Nat):Bool:=decide (97<=c) && decide (c<=122)
def anC(c:Nat):Bool:=Zf2 c || (decide (48<=c) && decide (c<=57))
def Wi(s:Str):Prop:=1<=s.length/\s.length<=6/\Zf2 (s.cps.toList.headD 0)=true/\s.cps.toList.all anC=true
theorem Zls:∀k<100,(Zec k).cps.toList.all anC=true:=by trivial
theorem Zmj:∀i<26,Zf2 (Zfx.getD i 0)=true:=by decide
theorem Zz4{c:Nat}(h:Zf2 c=true):anC c=true:=by unfold anC;rw [h];rfl
theorem Zbu{x y:Str}(hx:x.cps.toList.all anC=true)(hy:y.cps.toList.all anC=true):(x++y).cps.toList.all anC=true:=by
 rw [PySem.W.KT.app_list,List.all_append,hx,hy];rfl
theorem Zak{x y:Str}(h:0<x.length):(x++y).cps.toList.headD 0=x.cps.toList.headD 0:=by
 rw [PySem.W.KT.app_list];cases e:x.cps.toList with
 | nil =>
  have:x.cps.size=0:=by rw [<-Array.length_toList,e];rfl
  exact absurd h (by show ¬0<x.cps.size;lia)
 | cons a l=>rfl
theorem Zi2{c:Nat}(h:Zf2 c=true):(⟨#[c]⟩:Str).cps.toList.all anC=true:=by
 show ([c]:List Nat).all anC=true;simp [Zz4 h]
theorem Zxd{j:Nat}(h:j<100):Wi (Wg j):=by
 have h1:=Zfy j h;have h2:=Zfj j h;unfold Wg;refine ⟨?_,?_,?_,Zbu (by trivial) (Zls j h)⟩
 ·rw [PySem.Str.length_append];lia
 ·rw [PySem.Str.length_append,show ("e" :Str).length=1 by trivial];lia
 ·rw [Zak (by trivial)];decide +kernel
theorem Zw5{n k:Nat}(hn:n<99)(hk:k<600):Wi (Zcc n k):=by
 have h1:=Zrf n hn;have a1:=Zmj (k / 26) (by lia);have a2:=Zmj (k%26) (by lia);have hs:("s" :Str).length=1:=by trivial
 have h0:0<(("s" :Str)++Str.ofString (toString (n:Int))).length:=by rw [PySem.Str.length_append,hs];lia
 have hf:(Str.ofString (toString (n:Int))).cps.toList.all anC=true:=Zls n (by lia);unfold Zcc;refine ⟨?_,?_,?_,Zbu (Zbu (Zbu (by trivial) hf) (Zi2 a1)) (Zi2 a2)⟩
 ·rw [PySem.Str.length_append,PySem.Str.length_append];lia
 ·rw [PySem.Str.length_append,PySem.Str.length_append,PySem.Str.length_append,hs];show 1+_+1+1<=6;lia
 ·rw [Zak (by rw [PySem.Str.length_append];lia),Zak h0,Zak (by rw [hs];decide)];decide +kernel
theorem Ycx:Wi "g" :=⟨by trivial,by trivial,by trivial,by trivial⟩
theorem Ydp:Wi "h" :=⟨by trivial,by trivial,by trivial,by trivial⟩
theorem Zgz{i:Int}(h0:0<=i)(h1:i<26):Zf2 (Zck i)=true:=Zmj i.toNat (by lia)
theorem Zzu:∀m<3,(Zgf "0" m).cps.toList.all anC=true:=by trivial
theorem Ztc{kd:Str}{c:Int}{k:Nat}(h0:96<kd.cps.toList.getD 0 0/\kd.cps.toList.getD 0 0<123)(hk:k<100):Wi (Yk kd c k):=by
 have l2:=Za8 (kind:=kd) (c:=c) hk;refine ⟨by lia,Zsz hk,?_,?_⟩
 ·unfold Yk;split
  ·rw [Zak (by show 0<1;decide)];show Zf2 (kd.cps.toList.getD 0 0)=true;unfold Zf2;simp only [Bool.and_eq_true,decide_eq_true_eq];lia
  ·have a0:=Int.emod_nonneg (c / 3) (show (26:Int)≠0 by decide);have a1:=Int.emod_lt_of_pos (c / 3) (show (0:Int)<26 by decide);rw [Zak (by rw [PySem.Str.length_append,PySem.Str.length_append];show 0<1+1+_;lia),Zak (by rw [PySem.Str.length_append];show 0<1+1;decide),Zak (by show 0<1;decide)];exact Zgz a0 a1
 ·unfold Yk;split
  ·refine Zbu (Zi2 ?_) (Zls k hk);unfold Zf2;simp only [Bool.and_eq_true,decide_eq_true_eq];lia
  ·have a0:=Int.emod_nonneg (c / 3) (show (26:Int)≠0 by decide);have a1:=Int.emod_lt_of_pos (c / 3) (show (0:Int)<26 by decide);have b0:=Int.emod_nonneg (c / 78) (show (26:Int)≠0 by decide);have b1:=Int.emod_lt_of_pos (c / 78) (show (0:Int)<26 by decide);have c0:=Int.emod_nonneg (c / 2028) (show (3:Int)≠0 by decide);have c1:=Int.emod_lt_of_pos (c / 2028) (show (0:Int)<3 by decide);exact Zbu (Zbu (Zbu (Zi2 (Zgz a0 a1)) (Zi2 (Zgz b0 b1))) (Zzu _ (by lia))) (Zls k hk)
theorem nmY.ok{s:Str}(h:nmY s):Wi s:=by
 rcases h with rfl|rfl|⟨kd,c,j,h0,hj,rfl⟩|⟨j,hj,rfl⟩
 ·exact Ycx
 ·exact Ydp
 ·exact Ztc h0 (by lia)
 ·exact Zxd (by lia)
theorem Zih{ps:List Zc}{e:Zc}(h:e∈Xq ps):∃p∈ps,e.1=p.2/\p.1∈[("plain" :Str), "gate", "stop"]/\e.2∈Z6 p.1:=by
 unfold Xq at h;obtain ⟨p,hp,he⟩:=List.mem_flatMap.mp h
 by_cases z:p.1∈[("plain" :Str), "gate", "stop"]
 ·rw [if_pos z] at he;obtain ⟨x,hx,rfl⟩:=List.mem_map.mp he;exact ⟨p,hp,rfl,z,hx⟩
 ·rw [if_neg z] at he;cases he
theorem Zxo(k:Str):(Z6 k).Nodup:=by
 unfold Z6;split
 ·decide
 ·split
  ·decide
  ·split <;>decide
theorem Zq3:∀{ps:List Zc},(ps.map Prod.snd).Nodup->(Xq ps).Nodup
 | [],_=>List.nodup_nil
 | p ::ps,h=>by
  rw [List.map_cons,List.nodup_cons] at h;have ih:=Zq3 h.2;show ((if p.1∈[("plain" :Str), "gate", "stop"] then (Z6 p.1).map (fun x=>((p.2,x):Zc)) else [])++Xq ps).Nodup;refine List.nodup_append.mpr ⟨?_,ih,fun a ha b hb e=>?_⟩
  ·split
   ·exact List.Pairwise.map _ (fun a b h z=>h (Prod.mk.inj z).2) (Zxo p.1)
   ·exact List.nodup_nil
  ·subst e;obtain ⟨p',hp',e1,_⟩:=Zih hb;split at ha
   ·obtain ⟨x,_,rfl⟩:=List.mem_map.mp ha;exact h.1 (List.mem_map.mpr ⟨p',hp',e1.symm⟩)
   ·cases ha
structure Zjk(ps:List Zc)(sg:List (Str×Str×Str)):Prop where
 name:∀q∈sg,Wi q.1
 nd:(sg.map Prod.fst).Nodup
 one:(sg.map Prod.snd).Nodup
 at_:∀q∈sg,∃p∈ps,p.2=q.2.1/\p.1∈[("plain" :Str), "gate", "stop"]/\q.2.2∈Z6 p.1
 len:sg.length<=40
theorem Zbv.sigs{ps:List Zc}{sg:List (Str×Str×Str)}(h:Zbv (Xq ps) (Xq ps).length sg)(nd:(ps.map Prod.snd).Nodup)(nm:∀p∈ps,nmY p.2)(hl:ps.length<=45):Zjk ps sg:=by
 have sub:=h.at_;rw [List.take_length] at sub;have hb:=Zfn ps;have mem:∀q∈sg,((q.2.1,q.2.2):Zc)∈Xq ps:=fun q hq=>sub.subset (List.mem_map.mpr ⟨q,hq,rfl⟩)
 refine ⟨fun q hq=>?_,h.nd,List.Nodup.sublist sub (Zq3 nd),fun q hq=>?_,h.len⟩
 ·rcases h.name q hq with z|⟨n,k,a,b,c⟩
  ·obtain ⟨p,hp,e,_⟩:=Zih (mem q hq);rw [z,show q.2.1=p.2 from e];exact nmY.ok (nm p hp)
  ·rw [c];exact Zw5 a (by lia)
 ·obtain ⟨p,hp,e,k,m⟩:=Zih (mem q hq);exact ⟨p,hp,e.symm,k,m⟩
theorem Zjk.perm{ps B8:List Zc}{sg:List (Str×Str×Str)}(h:Zjk B8 sg)(hp:B8.Perm ps):Zjk ps sg :=
 ⟨h.name,h.nd,h.one,fun q hq=>let ⟨p,a,b⟩:=h.at_ q hq;⟨p,hp.mem_iff.mp a,b⟩,h.len⟩
theorem Zs8{n:Nat}(m:Nat)(hn:n∈[9,10,11,12,13,14]):Zjk (Za2 n) ((Zef n).take m):=by
 have h1:9<=n/\n<=14:=by simp at hn;lia
 have nd:∀n∈[9,10,11,12,13,14],((Zef n).map Prod.snd).Nodup:=by trivial
 have sub:=List.take_sublist m (Zef n);have row:∀q∈Zef n,Wi q.1/\∃p∈Za2 n,p.2=q.2.1/\p.1∈[("plain" :Str), "gate", "stop"]/\q.2.2∈Z6 p.1:=by
  intro q hq;unfold Zef at hq;simp only [List.mem_cons,List.mem_nil_iff,or_false] at hq;rcases hq with rfl|rfl|rfl
  ·exact ⟨⟨by trivial,by trivial,by trivial,by trivial⟩,("gate", "g"),by unfold Za2;simp,rfl,by decide,by decide⟩
  ·exact ⟨⟨by trivial,by trivial,by trivial,by trivial⟩,("gate", "h"),by unfold Za2;simp,rfl,by decide,by decide⟩
  ·have e1:Wi "end" :=⟨by trivial,by trivial,by trivial,by trivial⟩
   have e2:("plain" :Str)∈[("plain" :Str), "gate", "stop"]:=by decide
   have e3:("b" :Str)∈Z6 "plain" :=by decide
   exact ⟨e1,("plain",Wr (n-1)),by unfold Za2;exact List.mem_append_left _ (List.mem_append_right _ (List.mem_map.mpr ⟨n-1,List.mem_range.mpr (by lia),rfl⟩)),rfl,e2,e3⟩
 have nf:((Zef n).map Prod.fst).Nodup:=by
  show ([("go" :Str), "back", "end"]:List Str).Nodup
  decide +kernel
 refine ⟨fun q hq=>(row q (sub.subset hq)).1,List.Nodup.sublist (sub.map _) nf,List.Nodup.sublist (sub.map _) (nd n hn),fun q hq=>(row q (sub.subset hq)).2,?_⟩;have:=sub.length_le;exact Nat.le_trans this (by show 3<=40;decide)
theorem Zg0.sigsV{ps:List Zc}{js:List (Zc×Zc)}{sg:List (Str×Str×Str)}(h:Zg0 ps js sg):Zjk ps sg:=by
 rcases h.sigs with ⟨B8,hp,ok⟩|⟨n,m,hn,rfl,rfl⟩
 ·exact (ok.sigs ((hp.map _).nodup_iff.mpr h.net.nd) (fun p hm=>(h.name p (hp.mem_iff.mp hm)).nm) (by rw [hp.length_eq];have:=h.len;lia)).perm hp
 ·exact Zs8 m hn
def Zcu(K:Frag):Sp:=fun vs H Q _=>∃(x C dx:Addr) (nm:Str),vs=[.ref x,.str nm]/\H x=some (.ins C dx [])/\Cls K C/\Xt K C "name" /\Q .non (upd H x (.ins C dx [("name",.str nm)]))
theorem Zgn(T:Tx K mg):Zy P w K mg base CX0 1 T.ad.f T.ad.fd ["self", "name"] (Zcu K):=by
 refine T.ad.F.okW Zf8 fun b7 A outer s H vs Q E hr h=>?_
 ·obtain ⟨x,C,dx,nm,rfl,hx,c,n1,q⟩:=h;intro X;exact WSs.last (Zjm (pv 0) (pv 1) rfl) (exR rfl (exR rfl ⟨x,C,dx,[],rfl,hx,c,n1,by simp,q⟩))
theorem Xe(T:Tx K mg){k:Nat}(h:1<=k:=by decide):Zy P w K mg base CX0 k T.ad.f T.ad.fd ["self", "name"] (Zcu K):=(Zgn T).mono h
def Zdy(H:Hp)(C x:Addr)(nm:Str):Prop:=∃dx,H x=some (.ins C dx [("name",.str nm)])
def mrP(C:Addr):List V->Hp->VK->Prop:=fun vs H Q=>∃nm:Str,vs=[.str nm]/\∀x H',Same H H'->H x=none->Zdy H' C x nm->Q (.ref x) H'
theorem mkP{C:Addr}(c:Cls K C) (n:Xt K C "name"):∀vs H Q,mrP C vs H Q->∀x dx,H x=none->H dx=none->dx≠x->Zcu K (.ref x ::(vs++[])) (upd (upd H dx (.own x)) x (.ins C dx [])) (fun v H2=>v=.non/\Q (.ref x) H2) E0:=by
 rintro vs H Q ⟨nm,rfl,q⟩ x dx h1 h2 ne;refine ⟨x,C,dx,nm,rfl,Zf,c,n,rfl,q x _ (fun b o e=>?_) h1 ⟨dx,Zf⟩⟩;rw [Zh (Zj e h1),Zh (Zj e h1),Zh (Zj e h2)];exact e
abbrev Zqv(T:Tx K mg):List V->Hp->VK->Prop:=mrP T.bQ
theorem Zwk(T:Tx K mg):∀vs H Q,Zqv T vs H Q->∀x dx,H x=none->H dx=none->dx≠x->Zcu K (.ref x ::(vs++[])) (upd (upd H dx (.own x)) x (.ins T.bQ dx [])) (fun v H2=>v=.non/\Q (.ref x) H2) E0:=mkP T.eu T.cJ
abbrev Zog(T:Tx K mg):List V->Hp->VK->Prop:=mrP T.bG
theorem Zvc(T:Tx K mg):∀vs H Q,Zog T vs H Q->∀x dx,H x=none->H dx=none->dx≠x->Zcu K (.ref x ::(vs++[])) (upd (upd H dx (.own x)) x (.ins T.bG dx [])) (fun v H2=>v=.non/\Q (.ref x) H2) E0:=mkP T.dF T.cA
abbrev Zrp(T:Tx K mg):List V->Hp->VK->Prop:=mrP T.bA
theorem Zw3(T:Tx K mg):∀vs H Q,Zrp T vs H Q->∀x dx,H x=none->H dx=none->dx≠x->Zcu K (.ref x ::(vs++[])) (upd (upd H dx (.own x)) x (.ins T.bA dx [])) (fun v H2=>v=.non/\Q (.ref x) H2) E0:=mkP T.ez T.cK
abbrev Zq6(T:Tx K mg):List V->Hp->VK->Prop:=mrP T.bR
theorem Zxp(T:Tx K mg):∀vs H Q,Zq6 T vs H Q->∀x dx,H x=none->H dx=none->dx≠x->Zcu K (.ref x ::(vs++[])) (upd (upd H dx (.own x)) x (.ins T.bR dx [])) (fun v H2=>v=.non/\Q (.ref x) H2) E0:=mkP T.eA T.cL
abbrev Zks(T:Tx K mg):List V->Hp->VK->Prop:=mrP T.bn
theorem Zr8(T:Tx K mg):∀vs H Q,Zks T vs H Q->∀x dx,H x=none->H dx=none->dx≠x->Zcu K (.ref x ::(vs++[])) (upd (upd H dx (.own x)) x (.ins T.bn dx [])) (fun v H2=>v=.non/\Q (.ref x) H2) E0:=mkP T.cM T.cm
abbrev Zn5(T:Tx K mg):List V->Hp->VK->Prop:=mrP T.bH
theorem Zv2(T:Tx K mg):∀vs H Q,Zn5 T vs H Q->∀x dx,H x=none->H dx=none->dx≠x->Zcu K (.ref x ::(vs++[])) (upd (upd H dx (.own x)) x (.ins T.bH dx [])) (fun v H2=>v=.non/\Q (.ref x) H2) E0:=mkP T.dP T.cB
def Wu(T:Tx K mg)(k:Str)(C:Addr):Prop:=(k = "points" /\C=T.bn)\/(k = "cross" /\C=T.bH)\/(k = "gate" /\C=T.bR)\/(k = "stop" /\C=T.bA)\/(k = "plain" /\(C=T.bQ\/C=T.bG))
def Zuc(T:Tx K mg):Sp:=fun vs H Q _=>∃k nm:Str,vs=[.str k,.str nm]/\k∈Xn/\nm.length<=6/\∀(x C:Addr) (H':Hp),Same H H'->H x=none->Wu T k C->Zdy H' C x nm->Q (.ref x) H'
theorem Zl8(T:Tx K mg):Zy P w K mg base CX0 3 T.be.f T.be.fd ["_law_kind", "_law_name"] (Zuc T):=by
 refine T.be.F.okW Zl4 fun b7 A outer s H vs Q E hr h=>?_
 ·obtain ⟨k,nm,rfl,hk,hl,q⟩:=h;intro X;let I12:=fun (σ:St) (H':Hp)=>σ=[some (.str k),some (.str nm)]/\H'=H/\k ≠ "points"
  refine WSs.cut I12 ?_ ?_
  ·refine WS.of (Z8 (Zm (r:=Wo K) (Wv hr) (pv 0) Ze (Z0 _)) Zv Zs) (exR rfl (.inl ⟨rfl,_,rfl,Ye (fun hc=>?_) (fun hc=>⟨rfl,rfl,fun z=>hc (by rw [z];simp)⟩)⟩));have hc:k = "points" :=V.str.inj (of_decide_eq_true hc);exact WSs.last (Zl (Zbg (Zks T) T.eE (Xe T) hr rfl T.eM T.ad.b .nil Z2 (Zr8 T) (Zb (pv 1) Za))) (exR rfl ⟨nm,rfl,fun x H' s1 n1 o=>q x _ H' s1 n1 (.inl ⟨hc,rfl⟩) o⟩)
  rintro σ H1 ⟨rfl,hH1,nk0⟩;rw [hH1];let I13:=fun (σ:St) (H':Hp)=>σ=[some (.str k),some (.str nm)]/\H'=H/\k ≠ "cross"
  refine WSs.cut I13 ?_ ?_
  ·refine WS.of (Z8 (Zm (r:=Wo K) (Wv hr) (pv 0) Ze (Z0 _)) Zv Zs) (exR rfl (.inl ⟨rfl,_,rfl,Ye (fun hc=>?_) (fun hc=>⟨rfl,rfl,fun z=>hc (by rw [z];simp)⟩)⟩));have hc:k = "cross" :=V.str.inj (of_decide_eq_true hc);exact WSs.last (Zl (Zbg (Zn5 T) T.eN (Xe T) hr rfl T.fb T.ad.b .nil Z2 (Zv2 T) (Zb (pv 1) Za))) (exR rfl ⟨nm,rfl,fun x H' s1 n1 o=>q x _ H' s1 n1 (.inr (.inl ⟨hc,rfl⟩)) o⟩)
  rintro σ H2 ⟨rfl,hH2,nk1⟩;rw [hH2];let I14:=fun (σ:St) (H':Hp)=>σ=[some (.str k),some (.str nm)]/\H'=H/\k ≠ "gate"
  refine WSs.cut I14 ?_ ?_
  ·refine WS.of (Z8 (Zm (r:=Wo K) (Wv hr) (pv 0) Ze (Z0 _)) Zv Zs) (exR rfl (.inl ⟨rfl,_,rfl,Ye (fun hc=>?_) (fun hc=>⟨rfl,rfl,fun z=>hc (by rw [z];simp)⟩)⟩));have hc:k = "gate" :=V.str.inj (of_decide_eq_true hc);exact WSs.last (Zl (Zbg (Zq6 T) T.eZ (Xe T) hr rfl T.fw T.ad.b .nil Z2 (Zxp T) (Zb (pv 1) Za))) (exR rfl ⟨nm,rfl,fun x H' s1 n1 o=>q x _ H' s1 n1 (.inr (.inr (.inl ⟨hc,rfl⟩))) o⟩)
  rintro σ H3 ⟨rfl,hH3,nk2⟩;rw [hH3];let I15:=fun (σ:St) (H':Hp)=>σ=[some (.str k),some (.str nm)]/\H'=H/\k ≠ "stop"
  refine WSs.cut I15 ?_ ?_
  ·refine WS.of (Z8 (Zm (r:=Wo K) (Wv hr) (pv 0) Ze (Z0 _)) Zv Zs) (exR rfl (.inl ⟨rfl,_,rfl,Ye (fun hc=>?_) (fun hc=>⟨rfl,rfl,fun z=>hc (by rw [z];simp)⟩)⟩));have hc:k = "stop" :=V.str.inj (of_decide_eq_true hc);exact WSs.last (Zl (Zbg (Zrp T) T.eY (Xe T) hr rfl T.eU T.ad.b .nil Z2 (Zw3 T) (Zb (pv 1) Za))) (exR rfl ⟨nm,rfl,fun x H' s1 n1 o=>q x _ H' s1 n1 (.inr (.inr (.inr (.inl ⟨hc,rfl⟩)))) o⟩)
  rintro σ H4 ⟨rfl,hH4,nk3⟩;rw [hH4];have hp:k = "plain" :=by
   unfold Xn at hk;simp only [List.mem_cons,List.mem_nil_iff,or_false] at hk;rcases hk with z|z|z|z|z
   ·exact z
   ·exact absurd z nk0
   ·exact absurd z nk1
   ·exact absurd z nk2
   ·exact absurd z nk3
  let I16:=fun (σ:St) (H':Hp)=>σ=[some (.str k),some (.str nm)]/\Same H H'
  refine WSs.cut I16 ?_ ?_
  ·refine WS.of (Z8 (Zm (r:=Zhp K) (Zj0 hr) (Xv (r:=Zf9 K) Zht (pv 1) (X4 (Zlq Zg3 Zd)) Wj) (Zk (Zb Ze (Zb Ze Za))) (by with_unfolding_all rfl)) Zv Zs) (exR rfl (exR rfl (exR rfl (.inr (.inr ⟨nm,rfl,sz (by lia),szA,fun l H5 s5 n5 e5=>.inl ⟨l,_,rfl,.inl (SqL.of e5),rfl,rfl,_,rfl,Ye (fun _=>?_) (fun _=>⟨rfl,s5⟩)⟩⟩)))));exact WSs.last (Zl (Zbg (Zqv T) T.eW (Xe T) hr rfl T.fv T.ad.b .nil Z2 (Zwk T) (Zb (pv 1) Za))) (exR rfl ⟨nm,rfl,fun x H' s1 n1 o=>q x _ H' (s5.trans s1) (s5.free n1) (.inr (.inr (.inr (.inr ⟨hp,.inl rfl⟩)))) o⟩)
  rintro σ H5 ⟨rfl,s5⟩;exact WSs.last (Zl (Zbg (Zog T) T.eL (Xe T) hr rfl T.eX T.ad.b .nil Z2 (Zvc T) (Zb (pv 1) Za))) (exR rfl ⟨nm,rfl,fun x H' s1 n1 o=>q x _ H' (s5.trans s1) (s5.free n1) (.inr (.inr (.inr (.inr ⟨hp,.inr rfl⟩)))) o⟩)
theorem Zm8(T:Tx K mg){k:Nat}(h:3<=k:=by decide):Zy P w K mg base CX0 k T.be.f T.be.fd ["_law_kind", "_law_name"] (Zuc T):=(Zl8 T).mono h
section
variable {α β κ:Type} [DecidableEq κ] {f:α->κ} {R R':α->β->V->Prop} {kvs:List (κ×V)} {qs:List (α×β)}
def DP(f:α->κ)(R:α->β->V->Prop)(kvs:List (κ×V))(qs:List (α×β)):Prop:=Paired (fun (kv:κ×V) (q:α×β)=>kv.1=f q.1/\R q.1 q.2 kv.2) kvs qs
theorem DP.none(h:DP f R kvs qs)(inj:∀a b,f a=f b->a=b){a:α}(n:a∉qs.map Prod.fst):Yv kvs (f a)=none:=by
 unfold DP at h
 induction h with
 | nil=>rfl
 | cons r t ih =>
  rw [List.map_cons,List.mem_cons,not_or] at n;rw [Yz (fun z=>n.1 (inj _ _ (r.1.symm.trans z)).symm)];exact ih n.2
theorem DP.get(h:DP f R kvs qs)(inj:∀a b,f a=f b->a=b)(nd:(qs.map Prod.fst).Nodup){a:α}{b:β}(m:(a,b)∈qs):∃v,Yv kvs (f a)=some v/\R a b v:=by
 unfold DP at h
 induction h with
 | nil=>cases m
 | @cons kv q _ _ r t ih =>
  rw [List.map_cons,List.nodup_cons] at nd;rcases List.mem_cons.mp m with z|z
  ·rw [<-z] at r;exact ⟨_,X2 r.1,r.2⟩
  ·have:a≠q.1:=fun e=>nd.1 (by rw [<-e];exact List.mem_map.mpr ⟨_,z,rfl⟩)
   rw [Yz (fun e=>this (inj _ _ (r.1.symm.trans e)).symm)];exact ih nd.2 z
theorem DP.put(h:DP f R kvs qs){a:α}{b:β}{v:V}(n:Yv kvs (f a)=Option.none)(r:R a b v):DP f R (Ww kvs (f a) v) (qs++[(a,b)]):=by
 rw [Zds v n];exact Paired.snoc h ⟨rfl,r⟩
theorem DP.len(h:DP f R kvs qs):kvs.length=qs.length:=Paired.length h
theorem DP.mapR(h:DP f R kvs qs)(m:∀a b v,R a b v->R' a b v):DP f R' kvs qs:=Paired.mapP h fun _ _ z=>⟨z.1,m _ _ _ z.2⟩
end
def Yj(e:Zc):List Key:=[.inr e.1,.inr e.2]
theorem Y0(a b:Zc)(h:Yj a=Yj b):a=b:=by
 obtain ⟨a1,a2⟩:=a;obtain ⟨b1,b2⟩:=b;unfold Yj at h;simp only [List.cons.injEq,Sum.inr.injEq,and_true] at h;rw [h.1,h.2]
def Yc(s:Str):Key:=.inr s
theorem Zam(a b:Str)(h:Yc a=Yc b):a=b:=Sum.inr.inj h
def qP(ps:List Zc):List (Str×Str):=ps.map fun p=>(p.2,p.1)
def qA(ps:List Zc):List (Zc×Str):=ps.flatMap fun p=>(Z6 p.1).map fun e=>((p.2,e),p.1)
def qJ(js:List (Zc×Zc)):List (Zc×Zc):=js.flatMap fun j=>[(j.1,j.2),(j.2,j.1)]
def qS(sg:List (Str×Str×Str)):List (Str×Zc):=sg.map fun q=>(q.1,(q.2.1,q.2.2))
def qO(sg:List (Str×Str×Str)):List (Zc×Str):=sg.map fun q=>((q.2.1,q.2.2),q.1)
theorem Zjf(ps:List Zc):(qP ps).map Prod.fst=ps.map Prod.snd:=by unfold qP;rw [List.map_map];rfl
theorem Zmw(ps:List Zc):(qA ps).map Prod.fst=Z7 ps:=by
 unfold qA Z7;rw [List.map_flatMap];simp only [List.map_map]
 rfl
theorem Wd(js:List (Zc×Zc)):(qJ js).map Prod.fst=Yq js:=by
 unfold qJ Yq;rw [List.map_flatMap]
 rfl
theorem Zo0(sg:List (Str×Str×Str)):(qS sg).map Prod.fst=sg.map Prod.fst:=by unfold qS;rw [List.map_map];rfl
theorem Zgu(sg:List (Str×Str×Str)):(qO sg).map Prod.fst=sg.map Prod.snd:=by unfold qO;rw [List.map_map];rfl
def RP(T:Tx K mg)(H:Hp):Str->Str->V->Prop:=fun nm k v=>∃x C,v=.ref x/\Wu T k C/\Zdy H C x nm
def RA(T:Tx K mg)(H:Hp):Zc->Str->V->Prop:=fun e k v=>∃x C,v=.ref x/\Wu T k C/\Zdy H C x e.1
def RJ(H:Hp):Zc->Zc->V->Prop:=fun _ e v=>∃t,v=.ref t/\Zq H t e
def RS(H:Hp):Str->Zc->V->Prop:=fun _ e v=>∃t,v=.ref t/\Zq H t e
def RO:Zc->Str->V->Prop:=fun _ s v=>v=.str s
theorem Zdy.mono{H H':Hp}{C x:Addr}{nm:Str}(e:Same H H')(h:Zdy H C x nm):Zdy H' C x nm:=let ⟨dx,z⟩:=h;⟨dx,e.at z⟩
theorem RP.mono{T:Tx K mg}{H H':Hp}(e:Same H H')(a b:Str)(v:V)(h:RP T H a b v):RP T H' a b v:=let ⟨x,C,h1,h2,h3⟩:=h;⟨x,C,h1,h2,h3.mono e⟩
theorem RJ.mono{H H':Hp}(e:Same H H')(a b:Zc)(v:V)(h:RJ H a b v):RJ H' a b v:=let ⟨t,h1,h2⟩:=h;⟨t,h1,h2.mono e⟩
theorem RS.mono{H H':Hp}(e:Same H H')(a:Str)(b:Zc)(v:V)(h:RS H a b v):RS H' a b v:=let ⟨t,h1,h2⟩:=h;⟨t,h1,h2.mono e⟩
theorem Zh5{H:Hp}{t:Addr}{e:Zc}(h:Zq H t e):H t=some (.tup ((Yj e).map kV)):=h
abbrev Zt6:Str := "abcdefghijklmnopqrstuvwxyz"
abbrev Yah:Str := "0123456789"
theorem Zw1:∀c,c<128->(!(Builtin.Str.occurrences Zt6 ⟨#[c]⟩ 0 Zt6.length 1).isEmpty)=Zf2 c:=by trivial
theorem Ybw:∀c,c<128->(!(Builtin.Str.occurrences (Zt6++Yah) ⟨#[c]⟩ 0 (Zt6++Yah).length 1).isEmpty)=anC c:=by trivial
theorem Zte:Zt6.length+Yah.length<=sizeLine:=by rw [sizeLine_eq];decide +kernel
theorem Yco{c:Nat}(h:anC c=true):c<128:=by
 unfold anC Zf2 at h;simp at h;lia
def Zi6(x:Str):Bool:=(decide (1<=x.length) && decide (x.length<=6)) && (Zf2 (x.cps.toList.headD 0) && x.cps.toList.all anC)
theorem Wi.b{x:Str}(h:Wi x):Zi6 x=true:=by
 obtain ⟨h1,h2,h3,h4⟩:=h;unfold Zi6;rw [decide_eq_true h1,decide_eq_true h2,h3,h4]
 rfl
theorem Wi.low{x:Str}(h:Wi x):∀c∈x.cps.toList,c<128:=fun c hc=>Yco (List.all_eq_true.mp h.2.2.2 c hc)
def Zdu(K:Frag)(H:Hp)(v:V)(b:Bool):Prop:=(∃x:Str,v=.str x/\(∀c∈x.cps.toList,c<128)/\x.length<=100/\Zi6 x=b)\/(b=false/\∃t,W6 K H v t/\kitOne K t (.type "str")=some false)
theorem Wi.asked{K:Frag}{H:Hp}{x:Str}(h:Wi x):Zdu K H (.str x) true:=.inl ⟨x,rfl,h.low,by have:=h.2.1;lia,h.b⟩
def Zn6(K:Frag):Sp:=fun vs H Q _=>∃(v:V) (b:Bool),vs=[v]/\Zdu K H v b/\∀H',Same H H'->Q (.bl b) H'
theorem Zqe(T:Tx K mg):Zy P w K mg base CX0 1 T.aH.f T.aH.fd ["thing"] (Zn6 K):=by
 refine T.aH.F.okW Zo7 fun b7 A outer s H vs Q E hr h=>?_
 ·obtain ⟨v,b,rfl,hA,q⟩:=h;intro X;rcases hA with ⟨x,rfl,hasc,d6,hb⟩|⟨rfl,t,ty,k⟩
  ·have hx:x.cps.toList.length=x.length:=Array.length_toList;refine WSs.step (Z8 (Wc (Xb (Zu (r:=Zkg K) X6 (by rfl) T.aK PyProof.Rows.boot_isinstance (Zb (pv 0) (Zb (Zbt (v:=.ty "str") (by rfl) T.cp PyProof.Rows.boot_str rfl) Za))))) Zv Zs) (exR rfl ⟨_,_,true,_,rfl,W6.str x,.inl (exR rfl T.fM),_,rfl,Ye (fun z=>absurd z (by decide)) (fun _=>?_)⟩);refine WSs.step (Z8 (PW.pt (Zda (Zm (r:=Wo K) (Wv hr) (pv 0) Ze (Z0 _)) (Zbl (Zm Zi8 (Zu (r:=Xk K) Xo (by rfl) T.aZ PySem.boot_len (Zb (pv 0) Za)) (Zch (by rfl) T.cT) (Z0 _))))) Zv Zs) (exR rfl (.inl ⟨rfl,_,rfl,Ye (fun z=>?_) (fun z0=>(exR rfl (.inr (.inl ⟨x,rfl,sz (by lia),_,_,rfl,rfl,_,rfl,Ye (fun z=>?_) (fun z1=>?_)⟩))))⟩))
   ·have e:x=("" :Str):=V.str.inj (of_decide_eq_true z);have:b=false:=by rw [<-hb,e];decide +kernel
    rw [this] at q;exact WSs.last (Zl Zc9) (q H (Same.refl _))
   ·have z:(6:Int)<(x.length:Int):=of_decide_eq_true z;have:b=false:=by
     rw [<-hb];unfold Zi6;rw [decide_eq_false (show ¬x.length<=6 by lia),Bool.and_false]
     rfl
    rw [this] at q;exact WSs.last (Zl Zc9) (q H (Same.refl _))
   have h6:¬(6:Int)<(x.length:Int):=fun z=>z1 (decide_eq_true z)
   have z8:x.cps.toList≠[]:=fun z=>z0 (decide_eq_true (by
    have:x=("" :Str):=PyProof.Rows.ext_toList (z.trans (by trivial));rw [this]))
   obtain ⟨c,cs,E9⟩:∃c cs,x.cps.toList=c ::cs:=by
    cases e:x.cps.toList with
    | nil=>exact absurd e z8
    | cons c cs=>exact ⟨c,cs,rfl⟩
   have T0:1<=x.length:=by rw [<-hx,E9,List.length_cons];lia
   refine WSs.last (Zl (Zgd (W7 (r:=Zhp K) (Zj0 hr) (Zn (K:=K) rfl (pv 0) Zd) (Zjw (by rfl) T.dq) (by with_unfolding_all rfl)) (Zgw (Zu (r:=Ybd K) (Zsk rfl) (by rfl) T.fG PyProof.Rows.boot_all (Zb (Xu (N':=["sign"]) rfl (Z5.std 1 [] rfl (by trivial) (by trivial) rfl trivial rfl rfl trivial) (Zzb (pv 0)) (fun _ _ _ _=>(Zan (i:=0) (by show (["sign"]:List Str).Nodup;decide +kernel))) (fun _ _ _ _=>Wl) (fun _ _ _ _=>(W7 (r:=Zhp K) (Zj0 hr) (pv 0) (Zp Wp (Zjw (by rfl) T.dq) (Zjw (by rfl) T.eD)) (by with_unfolding_all rfl)))) Za))))) (exR rfl (.inr (.inr ⟨x,0,c,rfl,rfl,sz (by lia),by rw [E9];exact Y4 (j:=0) rfl,.inr (.inr (.inl (exQ rfl rfl (exR rfl ?_))))⟩)));rw [Zw1 c (hasc c (by rw [E9];exact List.mem_cons_self))];have hb2:b=(Zf2 c && x.cps.toList.all anC):=by
    rw [<-hb];unfold Zi6;rw [decide_eq_true T0,decide_eq_true (show x.length<=6 by lia),E9]
    rfl
   cases hL:Zf2 c with
   | false =>
    refine Zp0 ?_;rw [hb2,hL] at q;exact q H (Same.refl _)
   | true =>
    rw [hL,Bool.true_and] at hb2;refine Zhy ⟨_,rfl,x,rfl,?_,fun D hD=>?_⟩
    ·rw [Array.all_eq_true'];exact fun c hc=>decide_eq_true (hasc c (Array.mem_toList_iff.mpr hc))
    refine Zuj (fun i ys H'=>ys=(x.cps.toList.take i).map (fun c=>V.bl (anC c))/\H' D=some (.lst ys)/\Same H H') ⟨rfl,Zf,fun b' o e=>by rw [Zh (Zj e hD)];exact e⟩ ?_ ?_
    ·rintro i c' ys H' hi ⟨rfl,A4,sm⟩;have E3:x.cps.toList[i]? =some c':=by simpa using hi
     have hc':c'<128:=hasc c' (List.mem_of_getElem? E3);refine ⟨X5.set rfl,_,rfl,.inr (.inl ⟨_,_,rfl,rfl,Zte,.inr (.inr (.inl ⟨_,_,rfl,rfl,A4,?_,?_⟩))⟩)⟩
     ·rw [List.length_map,List.length_take,sizeLine_eq];lia
     ·rw [Ybw c' hc'];refine ⟨?_,Zf,fun b' o e=>?_⟩
      ·rw [List.take_add_one,E3];simp
      ·rw [Zh (Zj e hD)];exact sm b' o e
    ·rintro ys H' ⟨rfl,A4,sm⟩;refine ⟨D,(x.cps.toList.map anC),rfl,?_,?_⟩
     ·have e:(List.map anC x.cps.toList).map V.bl=List.map (fun c=>V.bl (anC c)) (List.take x.cps.size x.cps.toList):=by
       rw [List.map_map,List.take_of_length_le (by simp)]
       rfl
      rw [e];exact SqL.of A4
     ·have e:(List.map anC x.cps.toList).all id=b:=by rw [List.all_map,hb2];rfl
      rw [e];exact q H' sm
  ·refine WSs.step (Z8 (Wc (Xb (Zu (r:=Zkg K) X6 (by rfl) T.aK PyProof.Rows.boot_isinstance (Zb (pv 0) (Zb (Zbt (v:=.ty "str") (by rfl) T.cp PyProof.Rows.boot_str rfl) Za))))) Zv Zs) (exR rfl ⟨_,_,false,t,rfl,ty,.inl (exR rfl k),_,rfl,Ye (fun _=>?_) (fun z=>absurd rfl z)⟩);exact WSs.last (Zl Zc9) (q H (Same.refl _))
theorem Zd4(T:Tx K mg){k:Nat}(h:1<=k:=by decide):Zy P w K mg base CX0 k T.aH.f T.aH.fd ["thing"] (Zn6 K):=(Zqe T).mono h
def Zvw:Sp:=fun vs H Q _=>∃(s:Str) (d:Addr) (kvs:List (Key×V)),vs=[.str s,.ref d]/\Wi s/\H d=some (.dK kvs)/\Yv kvs (Yc s)=none/\∀H',Same H H'->Q .non H'
theorem Zjj(T:Tx K mg):Zy P w K mg base CX0 2 T.au.f T.au.fd ["name", "known"] Zvw:=by
 refine T.au.F.okW Zio fun b7 A outer s H vs Q E hr h=>?_
 ·obtain ⟨x,d,kvs,rfl,hn,hd,hv,q⟩:=h;intro X;refine WSs.step (Z8 (Wc (Xb (Zr (Zd4 T) hr rfl T.bZ T.aH.F.kp T.aH.b .nil Z2 (Zb (pv 0) Za)))) Zv Zs) (exR rfl ⟨_,true,rfl,hn.asked,fun H1 s1=>(exR rfl (Ye (fun z=>absurd z (by decide)) (fun _=>?_)))⟩);refine WSs.last (Z8 (Zm (r:=Zhp K) (Zj0 hr) (pv 0) (pv 1) (by with_unfolding_all rfl)) Zv Zs) (exR rfl (exR rfl (.inr (.inl ⟨d,_,rfl,Xy.k (k:=Yc x) (s1.at hd),_,rfl,Ye (fun z=>?_) (fun _=>q H1 s1)⟩))));rw [hv] at z;exact absurd z (by decide)
theorem Zem(T:Tx K mg){k:Nat}(h:2<=k:=by decide):Zy P w K mg base CX0 k T.au.f T.au.fd ["name", "known"] Zvw:=(Zjj T).mono h
def Zbq(k:Str):List Str:=if k = "points" then ["left", "right"] else [""]
def Zmh(k i7:Str):List (Str×Str):=if k = "points" then [("stem",i7)] else if k = "cross" then [("a", "b"),("c", "d")] else if k = "plain" then [("a", "b")] else [("", "a")]
def Zo4(k:Str):Bool:=decide (k∈[("plain" :Str), "gate", "stop"])
def Zr2(e:Str):List (Str×Str)->Str
 | [] => ""
 | (one,two) ::r=>if e=one then two else if e=two then one else Zr2 e r
def Xc(k e i7:Str):Str:=if i7∈Zbq k then Zr2 e (Zmh k i7) else ""
def Zyd(H:Hp)(p:Addr)(l:List (Str×Str)):Prop:=∃as:List Addr,H p=some (.lst (as.map V.ref))/\Paired (fun a (q:Str×Str)=>H a=some (.tup [.str q.1,.str q.2])) as l
def spL(xs:List V):Sp:=fun vs H Q _=>∃v,vs=[v]/\∀p H',Same H H'->H p=none->H' p=some (.lst xs)->Q (.ref p) H'
def spP(f:Str->List (Str×Str)):Sp:=fun vs H Q _=>∃v i7,vs=[v,.str i7]/\∀p H',Same H H'->Zyd H' p (f i7)->Q (.ref p) H'
def spB(b:Bool):Sp:=fun vs H Q _=>∃v,vs=[v]/\Q (.bl b) H
theorem Zfu(T:Tx K mg):Zy P w K mg base CX0 1 T.br.f T.br.fd ["self"] (spL ((["a", "b"]:List Str).map V.str)):=by
 refine T.br.F.okW Zms fun b7 A outer s H vs Q E hr h=>?_
 ·obtain ⟨v,rfl,k⟩:=h;intro X;exact WSs.last (Zl (Zk (Zb Ze (Zb Ze Za)))) ⟨szA,k⟩
theorem Wy(T:Tx K mg):Zy P w K mg base CX0 1 T.ar.f T.ar.fd ["self"] (spL (([""]:List Str).map V.str)):=by
 refine T.ar.F.okW Zm3 fun b7 A outer s H vs Q E hr h=>?_
 ·obtain ⟨v,rfl,k⟩:=h;intro X;exact WSs.last (Zl (Zk (Zb Ze Za))) ⟨szA,k⟩
theorem Zeo(T:Tx K mg):Zy P w K mg base CX0 1 T.bh.f T.bh.fd ["self", "lie"] (spP fun i7=>[("a", "b")]):=by
 refine T.bh.F.okW Zkd fun b7 A outer s H vs Q E hr h=>?_
 ·obtain ⟨v,i7,rfl,k⟩:=h;intro X;exact WSs.last (Zl (Zk (Zb (Zi (Zb Ze (Zb Ze Za))) Za))) ⟨szA,fun p1 H1 s1 n1 e1=>⟨szA,fun p2 H2 s2 n2 e2=>k p2 H2 (s1.trans s2) ⟨[p1],e2,.cons (s2.at e1) .nil⟩⟩⟩
theorem Zag(T:Tx K mg):Zy P w K mg base CX0 1 T.aw.f T.aw.fd ["self"] (spB true):=by
 refine T.aw.F.okW Zj3 fun b7 A outer s H vs Q E hr h=>?_
 ·obtain ⟨v,rfl,k⟩:=h;intro X;exact WSs.last (Zl Zc9) k
theorem Zf3(T:Tx K mg):Zy P w K mg base CX0 1 T.bt.f T.bt.fd ["self"] (spL ((["a"]:List Str).map V.str)):=by
 refine T.bt.F.okW Zml fun b7 A outer s H vs Q E hr h=>?_
 ·obtain ⟨v,rfl,k⟩:=h;intro X;exact WSs.last (Zl (Zk (Zb Ze Za))) ⟨szA,k⟩
theorem Zei(T:Tx K mg):Zy P w K mg base CX0 1 T.bi.f T.bi.fd ["self", "lie"] (spP fun i7=>[("", "a")]):=by
 refine T.bi.F.okW Zki fun b7 A outer s H vs Q E hr h=>?_
 ·obtain ⟨v,i7,rfl,k⟩:=h;intro X;exact WSs.last (Zl (Zk (Zb (Zi (Zb Ze (Zb Ze Za))) Za))) ⟨szA,fun p1 H1 s1 n1 e1=>⟨szA,fun p2 H2 s2 n2 e2=>k p2 H2 (s1.trans s2) ⟨[p1],e2,.cons (s2.at e1) .nil⟩⟩⟩
theorem Ziv(T:Tx K mg):Zy P w K mg base CX0 1 T.bB.f T.bB.fd ["self"] (spL ((["stem", "left", "right"]:List Str).map V.str)):=by
 refine T.bB.F.okW Zjs fun b7 A outer s H vs Q E hr h=>?_
 ·obtain ⟨v,rfl,k⟩:=h;intro X;exact WSs.last (Zl (Zk (Zb Ze (Zb Ze (Zb Ze Za))))) ⟨szA,k⟩
theorem Zjr(T:Tx K mg):Zy P w K mg base CX0 1 T.bC.f T.bC.fd ["self"] (spL ((["left", "right"]:List Str).map V.str)):=by
 refine T.bC.F.okW Zif fun b7 A outer s H vs Q E hr h=>?_
 ·obtain ⟨v,rfl,k⟩:=h;intro X;exact WSs.last (Zl (Zk (Zb Ze (Zb Ze Za)))) ⟨szA,k⟩
theorem Zhg(T:Tx K mg):Zy P w K mg base CX0 1 T.bu.f T.bu.fd ["self", "lie"] (spP fun i7=>[("stem",i7)]):=by
 refine T.bu.F.okW Zhz fun b7 A outer s H vs Q E hr h=>?_
 ·obtain ⟨v,i7,rfl,k⟩:=h;intro X;exact WSs.last (Zl (Zk (Zb (Zi (Zb Ze (Zb (pv 1) Za))) Za))) (exR rfl ⟨szA,fun p1 H1 s1 n1 e1=>⟨szA,fun p2 H2 s2 n2 e2=>k p2 H2 (s1.trans s2) ⟨[p1],e2,.cons (s2.at e1) .nil⟩⟩⟩)
theorem Zhr(T:Tx K mg):Zy P w K mg base CX0 1 T.bv.f T.bv.fd ["self"] (spB false):=by
 refine T.bv.F.okW Zhh fun b7 A outer s H vs Q E hr h=>?_
 ·obtain ⟨v,rfl,k⟩:=h;intro X;exact WSs.last (Zl Zc9) k
theorem Zkc(T:Tx K mg):Zy P w K mg base CX0 1 T.bK.f T.bK.fd ["self"] (spL ((["a", "b", "c", "d"]:List Str).map V.str)):=by
 refine T.bK.F.okW Zj9 fun b7 A outer s H vs Q E hr h=>?_
 ·obtain ⟨v,rfl,k⟩:=h;intro X;exact WSs.last (Zl (Zk (Zb Ze (Zb Ze (Zb Ze (Zb Ze Za)))))) ⟨szA,k⟩
theorem Zje(T:Tx K mg):Zy P w K mg base CX0 1 T.bD.f T.bD.fd ["self", "lie"] (spP fun i7=>[("a", "b"),("c", "d")]):=by
 refine T.bD.F.okW Zi5 fun b7 A outer s H vs Q E hr h=>?_
 ·obtain ⟨v,i7,rfl,k⟩:=h;intro X;exact WSs.last (Zl (Zk (Zb (Zi (Zb Ze (Zb Ze Za))) (Zb (Zi (Zb Ze (Zb Ze Za))) Za)))) ⟨szA,fun p1 H1 s1 n1 e1=>⟨szA,fun p2 H2 s2 n2 e2=>⟨szA,fun p3 H3 s3 n3 e3=>k p3 H3 (s1.trans (s2.trans s3)) ⟨[p1,p2],e3,.cons (s3.at (s2.at e1)) (.cons (s3.at e2) .nil)⟩⟩⟩⟩
theorem Ziw(T:Tx K mg):Zy P w K mg base CX0 1 T.bE.f T.bE.fd ["self"] (spB false):=by
 refine T.bE.F.okW Zix fun b7 A outer s H vs Q E hr h=>?_
 ·obtain ⟨v,rfl,k⟩:=h;intro X;exact WSs.last (Zl Zc9) k
theorem Wu.ends{T:Tx K mg}{k:Str}{C:Addr}(h:Wu T k C):∃f fd,Yh K C "ends" f/\Za1 K fd ["self"] []/\∀(P:Program) (w:World) (base:Heap) (j:Nat),1<=j->Zy P w K mg base CX0 j f fd ["self"] (spL ((Z6 k).map V.str)):=by
 rcases h with ⟨rfl,rfl⟩|⟨rfl,rfl⟩|⟨rfl,rfl⟩|⟨rfl,rfl⟩|⟨rfl,rfl|rfl⟩
 ·exact ⟨_,_,T.dh,T.bB.b,fun P w base j hj=>(Ziv T).mono hj⟩
 ·exact ⟨_,_,T.dQ,T.bK.b,fun P w base j hj=>(Zkc T).mono hj⟩
 ·exact ⟨_,_,T.eh,T.bt.b,fun P w base j hj=>(Zf3 T).mono hj⟩
 ·exact ⟨_,_,T.ef,T.bt.b,fun P w base j hj=>(Zf3 T).mono hj⟩
 ·exact ⟨_,_,T.dZ,T.br.b,fun P w base j hj=>(Zfu T).mono hj⟩
 ·exact ⟨_,_,T.dG,T.br.b,fun P w base j hj=>(Zfu T).mono hj⟩
theorem Wu.lies{T:Tx K mg}{k:Str}{C:Addr}(h:Wu T k C):∃f fd,Yh K C "lies" f/\Za1 K fd ["self"] []/\∀(P:Program) (w:World) (base:Heap) (j:Nat),1<=j->Zy P w K mg base CX0 j f fd ["self"] (spL ((Zbq k).map V.str)):=by
 rcases h with ⟨rfl,rfl⟩|⟨rfl,rfl⟩|⟨rfl,rfl⟩|⟨rfl,rfl⟩|⟨rfl,rfl|rfl⟩
 ·exact ⟨_,_,T.di,T.bC.b,fun P w base j hj=>(Zjr T).mono hj⟩
 ·exact ⟨_,_,T.dR,T.ar.b,fun P w base j hj=>(Wy T).mono hj⟩
 ·exact ⟨_,_,T.ei,T.ar.b,fun P w base j hj=>(Wy T).mono hj⟩
 ·exact ⟨_,_,T.eg,T.ar.b,fun P w base j hj=>(Wy T).mono hj⟩
 ·exact ⟨_,_,T.ee,T.ar.b,fun P w base j hj=>(Wy T).mono hj⟩
 ·exact ⟨_,_,T.dH,T.ar.b,fun P w base j hj=>(Wy T).mono hj⟩
theorem Wu.pairs{T:Tx K mg}{k:Str}{C:Addr}(h:Wu T k C):∃f fd,Yh K C "pairs" f/\Za1 K fd ["self", "lie"] []/\∀(P:Program) (w:World) (base:Heap) (j:Nat),1<=j->Zy P w K mg base CX0 j f fd ["self", "lie"] (spP (Zmh k)):=by
 rcases h with ⟨rfl,rfl⟩|⟨rfl,rfl⟩|⟨rfl,rfl⟩|⟨rfl,rfl⟩|⟨rfl,rfl|rfl⟩
 ·exact ⟨_,_,T.cN,T.bu.b,fun P w base j hj=>(Zhg T).mono hj⟩
 ·exact ⟨_,_,T.dk,T.bD.b,fun P w base j hj=>(Zje T).mono hj⟩
 ·exact ⟨_,_,T.dM,T.bi.b,fun P w base j hj=>(Zei T).mono hj⟩
 ·exact ⟨_,_,T.dI,T.bi.b,fun P w base j hj=>(Zei T).mono hj⟩
 ·exact ⟨_,_,T.dC,T.bh.b,fun P w base j hj=>(Zeo T).mono hj⟩
 ·exact ⟨_,_,T.de,T.bh.b,fun P w base j hj=>(Zeo T).mono hj⟩
theorem Wu.bears{T:Tx K mg}{k:Str}{C:Addr}(h:Wu T k C):∃f fd,Yh K C "bears" f/\Za1 K fd ["self"] []/\∀(P:Program) (w:World) (base:Heap) (j:Nat),1<=j->Zy P w K mg base CX0 j f fd ["self"] (spB (Zo4 k)):=by
 rcases h with ⟨rfl,rfl⟩|⟨rfl,rfl⟩|⟨rfl,rfl⟩|⟨rfl,rfl⟩|⟨rfl,rfl|rfl⟩
 ·exact ⟨_,_,T.cO,T.bv.b,fun P w base j hj=>(Zhr T).mono hj⟩
 ·exact ⟨_,_,T.dl,T.bE.b,fun P w base j hj=>(Ziw T).mono hj⟩
 ·exact ⟨_,_,T.dN,T.aw.b,fun P w base j hj=>(Zag T).mono hj⟩
 ·exact ⟨_,_,T.dJ,T.aw.b,fun P w base j hj=>(Zag T).mono hj⟩
 ·exact ⟨_,_,T.dD,T.aw.b,fun P w base j hj=>(Zag T).mono hj⟩
 ·exact ⟨_,_,T.df,T.aw.b,fun P w base j hj=>(Zag T).mono hj⟩
theorem Wu.cls{T:Tx K mg}{k:Str}{C:Addr}(h:Wu T k C):Cls K C/\Xt K C "name" /\Yh K C "leads" T.ak.f:=by
 rcases h with ⟨rfl,rfl⟩|⟨rfl,rfl⟩|⟨rfl,rfl⟩|⟨rfl,rfl⟩|⟨rfl,rfl|rfl⟩
 ·exact ⟨T.cM,T.cm,T.cP⟩
 ·exact ⟨T.dP,T.cB,T.dm⟩
 ·exact ⟨T.eA,T.cL,T.dO⟩
 ·exact ⟨T.ez,T.cK,T.dL⟩
 ·exact ⟨T.eu,T.cJ,T.dE⟩
 ·exact ⟨T.dF,T.cA,T.dg⟩
theorem Wu.stop{T:Tx K mg}{k:Str}{C x:Addr}{nm:Str}{H:Hp}(h:Wu T k C)(o:Zdy H C x nm):∃t,W6 K H (.ref x) t/\kitOne K t (.ref T.bA)=some (decide (k = "gate" \/k = "stop")):=by
 obtain ⟨dx,o⟩:=o;rcases h with ⟨rfl,rfl⟩|⟨rfl,rfl⟩|⟨rfl,rfl⟩|⟨rfl,rfl⟩|⟨rfl,rfl|rfl⟩
 ·exact ⟨_,W6.ins o T.cM T.eJ T.tG T.tK T.eK,T.eP⟩
 ·exact ⟨_,W6.ins o T.dP T.eS T.tG T.tK T.eT,T.fh⟩
 ·exact ⟨_,W6.ins o T.eA T.fq T.tG T.tK T.ft,T.fK⟩
 ·exact ⟨_,W6.ins o T.ez T.fm T.tG T.tK T.fo,T.fJ⟩
 ·exact ⟨_,W6.ins o T.eu T.fi T.tG T.tK T.fk,T.fH⟩
 ·exact ⟨_,W6.ins o T.dF T.eQ T.tG T.tK T.eR,T.fg⟩
def Zql(T:Tx K mg):Sp:=fun vs H Q _=>∃(k:Str) (a C:Addr) (nm e l:Str),vs=[.ref a,.str e,.str l]/\Wu T k C/\Zdy H C a nm/\∀H',Same H H'->Q (.str (Xc k e l)) H'
theorem Zka(T:Tx K mg):Zy P w K mg base CX0 2 T.ak.f T.ak.fd ["self", "end", "lie"] (Zql T):=by
 refine T.ak.F.okW Zb4 fun b7 A outer s H vs Q E hr h=>?_
 ·obtain ⟨k,a,C,nm,e,l,rfl,hC,⟨dx,ha⟩,q⟩:=h;intro X;obtain ⟨f1,d1,m1,b1,g1⟩:=hC.lies;obtain ⟨f2,d2,m2,b2,g2⟩:=hC.pairs;have cC:=hC.cls.1;refine WSs.step (Z8 (Zm (r:=Zai K) (Za3 hr) (pv 2) Zto (by with_unfolding_all rfl)) Zv Zs) (exR rfl (WE.of (Zdv (pv 0) cC m1 (g1 _ _ _ 1 (by decide)) hr b1 .nil Z2) (exR rfl ⟨a,dx,_,rfl,ha,rfl,_,rfl,fun p H1 s1 n1 e1=>.inl ⟨p,_,rfl,.inl (SqL.of e1),rfl,Wt _,_,rfl,?_⟩⟩)));rw [if_pos rfl,Zaq];refine Ye (fun hc=>?_) (fun hc=>?_)
  ·have hc:¬l∈Zbq k:=by simpa using hc
   refine WSs.last (Zl Ze) ?_;have:Xc k e l = "" :=by unfold Xc;rw [if_neg hc]
   rw [this] at q;exact q H1 s1
  ·have hc:l∈Zbq k:=by simpa using hc
   refine WSs.step (Y8 PassesOwn.never rfl (Ym Zto) (Zaz rfl (Z4 (Yr (i:=3) Zb4.nd) (Z4 (Yr (i:=4) Zb4.nd) Xl))) Zv) (WE.of (Za5 (pv 0) cC m2 (g2 _ _ _ 1 (by decide)) hr b2 .nil Z2 (Zb (pv 2) Za)) (exR rfl ⟨a,dx,_,rfl,s1.at ha,rfl,_,rfl,_,l,rfl,fun p2 H2 s2 e2=>?_⟩));obtain ⟨as,h1,h2⟩:=e2;let I17:=fun (i:Nat) (σ:St) (H':Hp)=>(∃o3 o4,σ=[some (.ref a),some (.str e),some (.str l),o3,o4])/\Same H2 H'/\Zr2 e ((Zmh k l).drop i)=Xc k e l
   refine ⟨p2,rfl,⟨_,SqL.of h1⟩,Xx (xs:=as.map V.ref) I17 ?_ ?_ ?_ ?_⟩
   ·refine ⟨⟨none,none,rfl⟩,Same.refl _,?_⟩;unfold Xc;rw [if_pos hc]
    rfl
   ·rintro i σ H' _ ⟨_,s3,_⟩;exact SqL.of (s3.at h1)
   ·rintro i x σ H' hx ⟨⟨o3,o4,rfl⟩,s3,hs⟩;rw [List.getElem?_map] at hx;obtain ⟨ai,hai,rfl⟩:=Option.map_eq_some_iff.mp hx;obtain ⟨⟨one,two⟩,hq,ht⟩:=Paired.get h2 hai;rw [Zjc hq] at hs;refine ⟨ai,_,rfl,SqT.of (s3.at ht),rfl,_,_,rfl,_,_,rfl,rfl,?_⟩;refine WSs.step (Z8 (Zm (r:=Wo K) (Wv hr) (pv 1) (pv 3) (Z0 _)) Zv Zs) (exR rfl (exR rfl (.inl ⟨rfl,_,rfl,Ye (fun hc=>?_) (fun hc=>?_)⟩)))
    ·have hc:e=one:=V.str.inj (of_decide_eq_true hc);refine WSs.last (Zl (pv 4)) (exR rfl ?_);unfold Zr2 at hs;rw [if_pos hc] at hs;rw [<-hs] at q;exact q _ (s1.trans (s2.trans s3))
    ·have hc:¬e=one:=fun z=>hc (decide_eq_true (by rw [z]))
     refine WSs.last (Z8 (Zm (r:=Wo K) (Wv hr) (pv 1) (pv 4) (Z0 _)) Zv Zs) (exR rfl (exR rfl (.inl ⟨rfl,_,rfl,Ye (fun L7=>?_) (fun L7=>?_)⟩)))
     ·have L7:e=two:=V.str.inj (of_decide_eq_true L7);refine WSs.last (Zl (pv 3)) (exR rfl ?_);unfold Zr2 at hs;rw [if_neg hc,if_pos L7] at hs;rw [<-hs] at q;exact q _ (s1.trans (s2.trans s3))
     ·have L7:¬e=two:=fun z=>L7 (decide_eq_true (by rw [z]))
      unfold Zr2 at hs;rw [if_neg hc,if_neg L7] at hs;exact ⟨⟨_,_,rfl⟩,s3,hs⟩
   ·rintro σ H' ⟨_,s3,hs⟩;refine WSs.last (Zl Ze) ?_;have e0:(Zmh k l).drop (as.map V.ref).length=[]:=by rw [List.length_map,Paired.length h2,List.drop_length]
    rw [e0] at hs;rw [<-hs] at q;exact q _ (s1.trans (s2.trans s3))
theorem Zlu(T:Tx K mg){k:Nat}(h:2<=k:=by decide):Zy P w K mg base CX0 k T.ak.f T.ak.fd ["self", "end", "lie"] (Zql T):=(Zka T).mono h
theorem _root_.L2.Same.upd0{H H':Hp}{d:Addr}{o:HO}(s:Same H H')(n:H d=none):Same H (upd H' d o):=fun b u e=>by rw [Zh (Zj e n)];exact s.at e
def PO(T:Tx K mg)(H:Hp)(x:Addr)(p:Zc):Prop:=∃C,Wu T p.1 C/\Zdy H C x p.2
theorem PO.mono{T:Tx K mg}{H H':Hp}{x:Addr}{p:Zc}(e:Same H H')(h:PO T H x p):PO T H' x p:=let ⟨C,h1,h2⟩:=h;⟨C,h1,h2.mono e⟩
def Zyr(T:Tx K mg):Sp:=fun vs H Q _=>∃(l:Addr) (xs:List Addr) (ps:List Zc),vs=[.ref l]/\H l=some (.lst (xs.map V.ref))/\Paired (PO T H) xs ps/\(ps.map Prod.snd).Nodup/\(∀p∈ps,Wi p.2)/\ps.length<=100 /\
 ∀(d:Addr) (kvs:List (Key×V)) (H':Hp),Same H H'->H d=none->H' d=some (.dK kvs)->DP Yc (RP T H) kvs (qP ps)->Q (.ref d) H'
theorem Zf5(T:Tx K mg):Zy P w K mg base CX0 3 T.ay.f T.ay.fd ["parts"] (Zyr T):=by
 refine T.ay.F.okW Zaf fun b7 A outer s H vs Q E hr h=>?_
 ·obtain ⟨l,xs,ps,rfl,hl,hx,nd,nm,len,q⟩:=h;intro X;have hxl:=Paired.length hx;refine WSs.step (Zz (i:=1) Zaf.nd Zgl) fun d H1 s1 n1 e1=>?_
  let I18:=fun (i:Nat) (σ:St) (H':Hp)=>(∃o,σ=[some (.ref l),some (.ref d),o])/\Same H H'/\∃kvs,H' d=some (.dK kvs)/\DP Yc (RP T H) kvs (qP (ps.take i))
  refine WSs.step (Y8 PassesOwn.never rfl (Ym (pv 0)) (Yr (i:=2) Zaf.nd) Zv) (exR rfl ⟨l,rfl,⟨_,SqL.of (s1.at hl)⟩,Xx (K:=K) (xs:=xs.map V.ref) I18 ⟨⟨none,rfl⟩,s1,[],e1,.nil⟩ ?_ ?_ ?_⟩)
  ·rintro i σ H' _ ⟨_,s2,_⟩;exact SqL.of (s2.at hl)
  ·rintro i v σ H2 hi ⟨⟨o,rfl⟩,s2,kvs,hd,hD⟩;rw [List.getElem?_map] at hi;obtain ⟨x,hxi,rfl⟩:=Option.map_eq_some_iff.mp hi;obtain ⟨p,hp,C,hC,dx,hO⟩:=Paired.get hx hxi;have hm:p∈ps:=List.mem_of_getElem? hp;have E5:=(List.getElem?_eq_some_iff.mp hp).1;have hn:Yv kvs (Yc p.2)=none:=hD.none Zam (by
    rw [Zjf,List.map_take];exact Zd7 nd (by rw [List.getElem?_map,hp];rfl))
   have Q9:kvs.length<=100:=by
    have:=hD.len;unfold qP at this;rw [List.length_map,List.length_take] at this;lia
   refine WSs.step (Xg (Zr (Zem T) hr rfl T.cc T.au.F.kp T.au.b .nil Z2 (Zb (Xz (pv 2) rfl) (Zb (pv 1) Za)))) (exR rfl ⟨x,C,dx,_,_,rfl,s2.at hO,hC.cls.1,hC.cls.2.1,rfl,_,rfl,p.2,d,kvs,rfl,nm p hm,hd,hn,fun H3 s3=>?_⟩);have p8:=s2.trans s3;refine WSs.last (Za6 (Xi hr) (pv 1) (Xz (pv 2) rfl) (pv 2) rfl) (exR rfl (exR rfl (exR rfl ⟨x,C,dx,_,_,rfl,p8.at hO,hC.cls.1,hC.cls.2.1,rfl,d,_,rfl,Zev.k (k:=Yc p.2) (s3.at hd) (Zw (by lia)),⟨_,rfl⟩,p8.upd0 n1,_,Zf,?_⟩)));have:qP (ps.take (i+1))=qP (ps.take i)++[(p.2,p.1)]:=by
    unfold qP;rw [List.take_add_one,hp,List.map_append]
    rfl
   rw [this];exact hD.put hn ⟨x,C,rfl,hC,dx,hO⟩
  ·rintro σ H2 ⟨⟨o,rfl⟩,s2,kvs,hd,hD⟩;rw [List.length_map,hxl,List.take_length] at hD;exact WSs.last (Zl (pv 1)) (exR rfl (q d kvs H2 s2 n1 hd hD))
theorem Zhj(T:Tx K mg){k:Nat}(h:3<=k:=by decide):Zy P w K mg base CX0 k T.ay.f T.ay.fd ["parts"] (Zyr T):=(Zf5 T).mono h
theorem _root_.L2.Same.frz{H H1:Hp}{d:Addr}{u:HO}(s:Same H H1):Same (upd H d u) (upd H1 d u):=fun b o e=>by
 by_cases z:b=d
 ·rw [z,Zf] at e ⊢;exact e
 ·rw [Zh z] at e ⊢;exact s.at e
def Zya(T:Tx K mg):Sp:=fun vs H Q _=>∃(d:Addr) (kvs:List (Key×V)) (ps:List Zc),vs=[.ref d]/\H d=some (.dK kvs)/\DP Yc (RP T H) kvs (qP ps)/\(ps.map Prod.snd).Nodup/\ps.length<=100 /\
 ∀(a:Addr) (ka:List (List Key×V)) (H':Hp),Same H H'->H a=none->H' a=some (.dT ka)->DP Yj (RA T H) ka (qA ps)->Q (.ref a) H'
theorem Zt0(ps:List Zc):(qA ps).length<=4 * ps.length:=by
 induction ps with
 | nil=>decide
 | cons p ps ih =>
  have:=Zid p.1;have e:qA (p ::ps)=(Z6 p.1).map (fun e=>((p.2,e),p.1))++qA ps:=rfl;rw [e,List.length_append,List.length_map,List.length_cons];lia
theorem Zq2{ps:List Zc}{i:Nat}{p:Zc}(h:ps[i]? =some p):qA (ps.take (i+1))=qA (ps.take i)++(Z6 p.1).map fun e=>((p.2,e),p.1):=by
 unfold qA;rw [List.take_add_one,h,List.flatMap_append];simp
theorem Zgi(T:Tx K mg):Zy P w K mg base CX0 2 T.az.f T.az.fd ["part_of"] (Zya T):=by
 refine T.az.F.okW Xp fun b7 A outer s H vs Q E hr h=>?_
 ·obtain ⟨d,kvs,ps,rfl,hd,hD,nd,len,q⟩:=h;intro X;have Q9:kvs.length=ps.length:=by have:=hD.len;unfold qP at this;rw [List.length_map] at this;exact this
  refine WSs.step (Zz (i:=1) Xp.nd Zd2) fun a H1 s1 n1 e1=>?_
  have had:a≠d:=fun z=>by rw [z,hd] at n1;cases n1
  refine WSs.step (Zxc (Y8 PassesOwn.never rfl (Zjx (pv 0)) (Zaz rfl (Z4 (Yr (i:=2) Xp.nd) (Z4 (Yr (i:=3) Xp.nd) Xl))) Zv)) (exR rfl ⟨d,_,rfl,s1.at hd,fun o nf=>Zsl (fun i σ H'=>(∃o2 o3 o4,σ=[some (.ref d),some (.ref a),o2,o3,o4])/\Same (upd H d (.frz o (.dK kvs))) H'/\∃ka,H' a=some (.dT ka)/\DP Yj (RA T H) ka (qA (ps.take i))) ⟨⟨none,none,none,rfl⟩,s1.frz,[],by rw [Zh had];exact e1,.nil⟩ ?_ ?_ ?_⟩)
  ·rintro i σ H' _ ⟨_,s2,_⟩;exact s2.at Zf
  ·rintro i kv σ H2 hi ⟨⟨o2,o3,o4,rfl⟩,s2,ka,ha,hA⟩ tp H3 s3 n3 e3;obtain ⟨⟨nm,kd⟩,hq,hk,x,C,hv,hC,dx,hO⟩:=Paired.get hD hi;have hp:ps[i]? =some (kd,nm):=by
    unfold qP at hq;rw [List.getElem?_map] at hq;obtain ⟨⟨p1,p2⟩,hp,e⟩:=Option.map_eq_some_iff.mp hq;rw [hp];simp only [Prod.mk.injEq] at e;rw [e.1,e.2]
   have E5:=(List.getElem?_eq_some_iff.mp hp).1;have hxd:x≠d:=fun z=>by rw [z,hd] at hO;cases hO
   have hOF:upd H d (.frz o (.dK kvs)) x=some (.ins C dx [("name",.str nm)]):=by rw [Zh hxd];exact hO
   obtain ⟨f1,d1,m1,b1,g1⟩:=hC.ends;have hk:kv.1=Sum.inr nm:=hk;rw [hk,hv] at e3;have hFa:upd H d (.frz o (.dK kvs)) a=none:=by rw [Zh had];exact n1
   refine ⟨tp,_,rfl,SqT.of e3,rfl,_,_,rfl,_,_,rfl,rfl,?_⟩;have s23:=s2.trans s3;refine WSs.last (Y8 PassesOwn.never rfl (Ym Zto) (Yr (i:=4) Xp.nd) Zv) (WE.of (Zdv (pv 3) hC.cls.1 m1 (g1 _ _ _ 1 (by decide)) hr b1 .nil Z2) (exR rfl ⟨x,dx,_,rfl,s23.at hOF,rfl,_,rfl,fun p H4 s4 n4 e4=>⟨p,rfl,⟨_,SqL.of e4⟩,Xx (K:=K) (xs:=(Z6 kd).map V.str) (fun j σ H'=>(∃o4,σ=[some (.ref d),some (.ref a),some (.str nm),some (.ref x),o4])/\Same (upd H d (.frz o (.dK kvs))) H'/\H' p=some (.lst ((Z6 kd).map V.str))/\∃ka,H' a=some (.dT ka)/\DP Yj (RA T H) ka (qA (ps.take i)++((Z6 kd).take j).map fun e=>((nm,e),kd))) ⟨⟨_,rfl⟩,s23.trans s4,e4,ka,s4.at (s3.at ha),by rw [List.take_zero,List.map_nil,List.append_nil];exact hA⟩ ?_ ?_ ?_⟩⟩))
   ·rintro j σ H' _ ⟨_,_,z,_⟩;exact SqL.of z
   ·rintro j v σ H5 hj ⟨⟨o4,rfl⟩,s5,hp5,ka5,ha5,hA5⟩;rw [List.getElem?_map] at hj;obtain ⟨e,he,rfl⟩:=Option.map_eq_some_iff.mp hj;have hlen5:ka5.length<=500:=by
     have h1:=hA5.len;have h2:=Zt0 (ps.take i);have h3:=Zid kd;rw [List.length_append,List.length_map,List.length_take] at h1;rw [List.length_take] at h2;lia
    have y8:Yv ka5 (Yj (nm,e))=none:=hA5.none Y0 (by
     have h1:(Z7 (ps.take (i+1))).Nodup:=Ws (by rw [List.map_take];exact nd.sublist (List.take_sublist _ _));rw [<-Zmw,Zq2 hp,List.map_append] at h1;rw [List.map_append];have ed:Z6 kd=(Z6 kd).take j++(e ::(Z6 kd).drop (j+1)):=by rw [<-Zjc he,List.take_append_drop]
     rw [show ((kd,nm):Zc).1=kd from rfl,ed,List.map_append,List.map_append,List.map_cons,List.map_cons,<-List.append_assoc,List.nodup_append] at h1;intro m;exact h1.2.2 _ m _ List.mem_cons_self rfl)
    refine WSs.last (Za6 (Xi hr) (pv 1) (Zi (Zb (pv 2) (Zb (pv 4) Za))) (pv 3) rfl) (exR rfl (exR rfl (exR rfl (exR rfl ⟨szA,fun t H6 s6 n6 e6=>⟨a,_,rfl,Zev.t (k:=Yj (nm,e)) (s6.at ha5) e6 (Zw (by lia)),⟨_,rfl⟩,(s5.trans s6).upd0 hFa,?_,_,Zf,?_⟩⟩))))
    ·rw [Zh (Zyh hp5 ha5 (fun z=>nomatch z))];exact s6.at hp5
    ·have:((Z6 kd).take (j+1)).map (fun e=>((nm,e),kd))=((Z6 kd).take j).map (fun e=>((nm,e),kd))++[((nm,e),kd)]:=by
      rw [List.take_add_one,he,List.map_append]
      rfl
     rw [this,<-List.append_assoc];exact hA5.put y8 ⟨x,C,rfl,hC,dx,hO⟩
   ·rintro σ H5 ⟨⟨o4,rfl⟩,s5,hp5,ka5,ha5,hA5⟩;rw [List.length_map,List.take_length] at hA5;refine ⟨⟨_,_,_,rfl⟩,s5,ka5,ha5,?_⟩;rw [Zq2 hp];exact hA5
  ·rintro σ H2 ⟨⟨o2,o3,o4,rfl⟩,s2,ka,ha,hA⟩;rw [Q9,List.take_length] at hA;refine ⟨d,o,_,s2.at Zf,nf,WSs.last (Zl (pv 1)) ⟨_,rfl,q a ka _ (s2.thaw hd) n1 ?_ hA⟩⟩;rw [Zh had];exact ha
theorem Zhv(T:Tx K mg){k:Nat}(h:2<=k:=by decide):Zy P w K mg base CX0 k T.az.f T.az.fd ["part_of"] (Zya T):=(Zgi T).mono h
def Zue:Sp:=fun vs H Q _=>∃(t:Addr) (u v:V),vs=[.ref t]/\H t=some (.tup [u,v])/\Q (.bl true) H
theorem Zpq(T:Tx K mg):Zy P w K mg base CX0 1 T.bo.f T.bo.fd ["thing"] Zue:=by
 refine T.bo.F.okW Zpe fun b7 A outer s H vs Q E hr h=>?_
 ·obtain ⟨t,u,v,rfl,ht,q⟩:=h;intro X;exact WSs.last (Zl (Zgd (Zu (r:=Zkg K) X6 (by rfl) T.aK PyProof.Rows.boot_isinstance (Zb (pv 0) (Zb (Zbt (v:=.ty "tuple") (by rfl) T.cF PyProof.Rows.boot_tuple rfl) Za))) (Zgw (W7 (r:=Wo K) (Wv hr) (Zu (r:=Xk K) Xo (by rfl) T.aZ PySem.boot_len (Zb (pv 0) Za)) Zd (Z0 _))))) (exR rfl ⟨_,_,true,_,rfl,W6.tup ht,.inl (exR rfl T.fL),_,rfl,Zhy (exR rfl (.inl ⟨t,_,rfl,.inr (SqT.of ht),.inl ⟨rfl,q⟩⟩))⟩)
theorem Zlh(T:Tx K mg){k:Nat}(h:1<=k:=by decide):Zy P w K mg base CX0 k T.bo.f T.bo.fd ["thing"] Zue:=(Zpq T).mono h
def Ybs:Sp:=fun vs H Q _=>∃(t d:Addr) (e:Zc) (kvs:List (List Key×V)),vs=[.ref t,.ref d]/\Zq H t e/\H d=some (.dT kvs)/\Q (.bl (Yv kvs (Yj e)).isSome) H
theorem Zns(T:Tx K mg):Zy P w K mg base CX0 2 T.af.f T.af.fd ["end", "ends"] Ybs:=by
 refine T.af.F.okW Znm fun b7 A outer s H vs Q E hr h=>?_
 ·obtain ⟨t,d,e,kvs,rfl,ht,hd,q⟩:=h;intro X;exact WSs.last (Zl (Zgd (Zr (Zlh T) hr rfl T.dn T.bo.F.kp T.bo.b .nil Z2 (Zb (pv 0) Za)) (Zgd (Zu (r:=Zkg K) X6 (by rfl) T.aK PyProof.Rows.boot_isinstance (Zb (Zn (K:=K) rfl (pv 0) Zd) (Zb (Zbt (v:=.ty "str") (by rfl) T.cp PyProof.Rows.boot_str rfl) Za))) (Zgd (Zu (r:=Zkg K) X6 (by rfl) T.aK PyProof.Rows.boot_isinstance (Zb (Zn (K:=K) rfl (pv 0) Zd) (Zb (Zbt (v:=.ty "str") (by rfl) T.cp PyProof.Rows.boot_str rfl) Za))) (Zgw (W7 (r:=Zhp K) (Zj0 hr) (pv 0) (pv 1) (by with_unfolding_all rfl))))))) (exR rfl ⟨t,_,_,rfl,ht,_,rfl,Zhy (exR rfl (ixT ht 0 rfl ⟨_,_,true,_,rfl,W6.str _,.inl (exR rfl T.fM),_,rfl,Zhy (exR rfl (ixT ht 1 rfl ⟨_,_,true,_,rfl,W6.str _,.inl (exR rfl T.fM),_,rfl,Zhy (exR rfl (exR rfl (.inr (.inl ⟨d,_,rfl,Xy.t (k:=Yj e) hd ht,q⟩))))⟩))⟩))⟩)
theorem Zac(T:Tx K mg){k:Nat}(h:2<=k:=by decide):Zy P w K mg base CX0 k T.af.f T.af.fd ["end", "ends"] Ybs:=(Zns T).mono h
def Yb6:Sp:=fun vs H Q _=>∃(t pa d a b:Addr) (e1 e2:Zc) (ka kd:List (List Key×V)),vs=[.ref t,.ref pa,.ref d]/\H t=some (.tup [.ref a,.ref b])/\Zq H a e1/\Zq H b e2/\H pa=some (.dT ka)/\H d=some (.dT kd) /\
 (Yv ka (Yj e1)).isSome=true/\(Yv ka (Yj e2)).isSome=true/\Yv kd (Yj e1)=none/\Yv kd (Yj e2)=none/\e1.1≠e2.1/\Q .non H
theorem Zjz(T:Tx K mg):Zy P w K mg base CX0 3 T.aL.f T.aL.fd ["join", "part_at", "joined"] Yb6:=by
 refine T.aL.F.okW Zdg fun b7 A outer s H vs Q E hr h=>?_
 ·obtain ⟨t,pa,d,a,b,e1,e2,ka,kd,rfl,ht,ha,hb,U3,hd,k1,k2,n1,n2,ne,q⟩:=h;intro X;refine WSs.step (Z8 (Wc (Xb (Zr (Zlh T) hr rfl T.dn T.bo.F.kp T.bo.b .nil Z2 (Zb (pv 0) Za)))) Zv Zs) (exR rfl ⟨t,_,_,rfl,ht,_,rfl,Ye (fun z=>absurd z (by decide)) (fun _=>?_)⟩);let I19:=fun (i:Nat) (σ:St) (H':Hp)=>(∃o,σ=[some (.ref t),some (.ref pa),some (.ref d),o])/\H'=H
  refine WSs.step (Y8 PassesOwn.never rfl (Zmo (pv 0)) (Yr (i:=3) Zdg.nd) Zv) (exR rfl ⟨t,rfl,⟨_,SqT.of ht⟩,Zwu (K:=K) (xs:=[.ref a,.ref b]) I19 ⟨⟨none,rfl⟩,rfl⟩ ?_ ?_ ?_⟩)
  ·rintro i σ H' _ ⟨_,rfl⟩;exact SqT.of ht
  ·rintro i v σ H' hi ⟨⟨o,rfl⟩,hH⟩;rw [hH];obtain ⟨x,e,rfl,hx,h1,h2⟩:∃x e,v=V.ref x/\Zq H x e/\(Yv ka (Yj e)).isSome=true/\Yv kd (Yj e)=none:=by
    match i,hi with
    | 0,hi=>cases hi;exact ⟨a,e1,rfl,ha,k1,n1⟩
    | 1,hi=>cases hi;exact ⟨b,e2,rfl,hb,k2,n2⟩
   refine WSs.step (Z8 (Wc (Xb (Zr (Zac T) hr rfl T.bN T.af.F.kp T.af.b .nil Z2 (Zb (pv 3) (Zb (pv 1) Za))))) Zv Zs) (exR rfl (exR rfl ⟨x,pa,e,ka,rfl,hx,U3,_,rfl,Ye (fun z=>?_) (fun _=>?_)⟩))
   ·rw [h1] at z;exact absurd z (by decide)
   refine WSs.last (Z8 (Zm (r:=Zhp K) (Zj0 hr) (pv 3) (pv 2) (by with_unfolding_all rfl)) Zv Zs) (exR rfl (exR rfl (.inr (.inl ⟨d,_,rfl,Xy.t (k:=Yj e) hd hx,_,rfl,Ye (fun z=>?_) (fun _=>⟨⟨_,rfl⟩,rfl⟩)⟩))));rw [h2] at z;exact absurd z (by decide)
  ·rintro σ H' ⟨⟨o,rfl⟩,hH⟩;rw [hH];refine WSs.last (Z8 (Zm (r:=Wo K) (Wv hr) (Zn (K:=K) rfl (Zn (K:=K) rfl (pv 0) Zd) Zd) (Zn (K:=K) rfl (Zn (K:=K) rfl (pv 0) Zd) Zd) (Z0 _)) Zv Zs) (exR rfl (ixT ht 0 rfl (ixT ha 0 rfl (exR rfl (ixT ht 1 rfl (ixT hb 0 rfl (.inl ⟨rfl,_,rfl,Ye (fun z=>?_) (fun _=>q)⟩)))))));exact absurd (V.str.inj (of_decide_eq_true z)) ne
theorem Zke(T:Tx K mg){k:Nat}(h:3<=k:=by decide):Zy P w K mg base CX0 k T.aL.f T.aL.fd ["join", "part_at", "joined"] Yb6:=(Zjz T).mono h
def Ycr:Sp:=fun vs H Q _=>∃(jl pa:Addr) (js:List (Zc×Zc)) (ka:List (List Key×V)),vs=[.ref jl,.ref pa]/\Yd H jl js/\H pa=some (.dT ka)/\(∀e∈Yq js,(Yv ka (Yj e)).isSome=true)/\ka.length=(Yq js).length/\(Yq js).Nodup/\(∀j∈js,j.1.1≠j.2.1)/\js.length<=300 /\
 ∀(d:Addr) (kj:List (List Key×V)) (H':Hp),Same H H'->H d=none->H' d=some (.dT kj)->DP Yj (RJ H) kj (qJ js)->Q (.ref d) H'
theorem Zib{js:List (Zc×Zc)}{i:Nat}{j:Zc×Zc}(h:js[i]? =some j):qJ (js.take (i+1))=qJ (js.take i)++[(j.1,j.2)]++[(j.2,j.1)]:=by
 unfold qJ;rw [List.take_add_one,h,List.flatMap_append];simp
theorem Zow(js:List (Zc×Zc)):(qJ js).length=2 * js.length:=by
 induction js with
 | nil=>rfl
 | cons j js ih =>
  have e:qJ (j ::js)=[(j.1,j.2),(j.2,j.1)]++qJ js:=rfl;rw [e,List.length_append,ih];simp only [List.length_cons,List.length_nil];lia
theorem Zik(T:Tx K mg):Zy P w K mg base CX0 4 T.aM.f T.aM.fd ["joins", "part_at"] Ycr:=by
 refine T.aM.F.okW Zba fun b7 A outer s H vs Q E hr h=>?_
 ·obtain ⟨jl,pa,js,ka,rfl,hJ,U3,hk,Q9,nd,apart,len,q⟩:=h;intro X;obtain ⟨ts,hl,d7⟩:=hJ;have A0:=Paired.length d7;refine WSs.step (Zz (i:=2) Zba.nd Zd2) fun d H1 s1 n1 e1=>?_
  let I20:=fun (i:Nat) (σ:St) (H':Hp)=>(∃o,σ=[some (.ref jl),some (.ref pa),some (.ref d),o])/\Same H H'/\∃kj,H' d=some (.dT kj)/\DP Yj (RJ H) kj (qJ (js.take i))
  refine WSs.step (Y8 PassesOwn.never rfl (Ym (pv 0)) (Yr (i:=3) Zba.nd) Zv) (exR rfl ⟨jl,rfl,⟨_,SqL.of (s1.at hl)⟩,Xx (K:=K) (xs:=ts.map V.ref) I20 ⟨⟨none,rfl⟩,s1,[],e1,.nil⟩ ?_ ?_ ?_⟩)
  ·rintro i σ H' _ ⟨_,s2,_⟩;exact SqL.of (s2.at hl)
  ·rintro i v σ H2 hi ⟨⟨o,rfl⟩,s2,kj,hd,hD⟩;rw [List.getElem?_map] at hi;obtain ⟨t,R6,rfl⟩:=Option.map_eq_some_iff.mp hi;obtain ⟨j,hj,a,b,ht,ha,hb⟩:=Paired.get d7 R6;have hm:j∈js:=List.mem_of_getElem? hj;have E5:=(List.getElem?_eq_some_iff.mp hj).1;have m1:j.1∈Yq js:=List.mem_flatMap.mpr ⟨j,hm,by simp⟩;have m2:j.2∈Yq js:=List.mem_flatMap.mpr ⟨j,hm,by simp⟩;have d6:kj.length<=600:=by
    have h1:=hD.len;rw [Zow,List.length_take] at h1;lia
   have N6:(Yq (js.take i)++[j.1]++[j.2]).Nodup:=by
    have h1:(Yq (js.take (i+1))).Nodup:=nd.sublist (by
     have:Yq js=Yq (js.take (i+1))++Yq (js.drop (i+1)):=by rw [<-Za7,List.take_append_drop]
     rw [this];exact List.sublist_append_left _ _)
    rw [<-Wd,Zib hj,List.map_append,List.map_append,Wd] at h1;exact h1
   have nd1:j.1∉Yq (js.take i):=fun z=>(List.nodup_append.mp (List.nodup_append.mp N6).1).2.2 _ z _ List.mem_cons_self rfl
   have nd2:j.2∉Yq (js.take i)++[j.1]:=fun z=>(List.nodup_append.mp N6).2.2 _ z _ List.mem_cons_self rfl
   have v1:Yv kj (Yj j.1)=none:=hD.none Y0 (by rw [Wd];exact nd1);have v2:Yv kj (Yj j.2)=none:=hD.none Y0 (by rw [Wd];exact fun z=>nd2 (List.mem_append_left _ z));refine WSs.step (Xg (Zr (Zke T) hr rfl T.cV T.aL.F.kp T.aL.b .nil Z2 (Zb (pv 3) (Zb (pv 1) (Zb (pv 2) Za))))) (exR rfl (exR rfl (exR rfl ⟨t,pa,d,a,b,j.1,j.2,ka,kj,rfl,s2.at ht,ha.mono s2,hb.mono s2,s2.at U3,hd,hk _ m1,hk _ m2,v1,v2,apart j hm,?_⟩)));have B7:DP Yj (RJ H) (Ww kj (Yj j.1) (.ref b)) (qJ (js.take i)++[(j.1,j.2)]):=hD.put v1 ⟨b,rfl,hb⟩;have T0:=Zal kj (Yj j.1) (.ref b);have v3:Yv (Ww kj (Yj j.1) (.ref b)) (Yj j.2)=none:=B7.none Y0 (by rw [List.map_append,Wd];exact nd2);refine WSs.step (Za6 (Xi hr) (pv 2) (Zn (K:=K) rfl (pv 3) Zd) (Zn (K:=K) rfl (pv 3) Zd) rfl) (exR rfl (ixT (s2.at ht) 1 rfl (exR rfl (exR rfl (ixT (s2.at ht) 0 rfl ⟨d,_,rfl,Zev.t (k:=Yj j.1) hd (Zh5 (ha.mono s2)) (Zw (by lia)),?_⟩)))));have s3:Same H (upd H2 d (.dT (Ww kj (Yj j.1) (.ref b)))):=s2.upd0 n1;refine WSs.last (Za6 (Xi hr) (pv 2) (Zn (K:=K) rfl (pv 3) Zd) (Zn (K:=K) rfl (pv 3) Zd) rfl) (exR rfl (ixT (s3.at ht) 0 rfl (exR rfl (exR rfl (ixT (s3.at ht) 1 rfl ⟨d,_,rfl,Zev.t (k:=Yj j.2) Zf (Zh5 (hb.mono s3)) (Zw (by lia)),⟨_,rfl⟩,s3.upd0 n1,_,Zf,?_⟩)))));rw [Zib hj];exact B7.put v3 ⟨a,rfl,ha⟩
  ·rintro σ H2 ⟨⟨o,rfl⟩,s2,kj,hd,hD⟩;rw [List.length_map,A0,List.take_length] at hD;have hlj:kj.length=ka.length:=by
    have h1:=hD.len;rw [Q9,h1,<-Wd,List.length_map]
   refine WSs.step (Z8 (Zm Zhb (Zu (r:=Zul) Zk1 (by rfl) T.aZ PySem.boot_len (Zb (pv 2) Za)) (Zu (r:=Zul) Zk1 (by rfl) T.aZ PySem.boot_len (Zb (pv 1) Za)) (Z0 _)) Zv Zs) (exR rfl ⟨d,kj,rfl,hd,_,rfl,pa,ka,rfl,s2.at U3,_,_,rfl,rfl,_,rfl,Ye (fun z=>?_) (fun _=>?_)⟩)
   ·have:(kj.length:Int)<(ka.length:Int):=of_decide_eq_true z;exact absurd this (by lia)
   exact WSs.last (Zl (pv 2)) (exR rfl (q d kj H2 s2 n1 hd hD))
theorem Zkn(T:Tx K mg){k:Nat}(h:4<=k:=by decide):Zy P w K mg base CX0 k T.aM.f T.aM.fd ["joins", "part_at"] Ycr:=(Zik T).mono h
def Ycg(T:Tx K mg):Sp:=fun vs H Q _=>∃(t pa l x C:Addr) (e:Zc) (k nm:Str) (ka:List (List Key×V)) (us:List Addr) (es:List Zc),vs=[.ref t,.ref pa,.ref l]/\Zq H t e/\H pa=some (.dT ka)/\Yv ka (Yj e)=some (.ref x)/\Wu T k C/\Zdy H C x nm/\Zo4 k=true /\
 H l=some (.lst (us.map V.ref))/\Paired (Zq H) us es/\e∉es/\Q .non H
theorem Zq4{a b:Zc}(h:trP a=trP b):a=b:=by
 obtain ⟨a1,a2⟩:=a;obtain ⟨b1,b2⟩:=b;unfold trP at h;simp only [Tr.tup.injEq,List.cons.injEq,Tr.str.injEq,and_true] at h;rw [h.1,h.2]
theorem Zjy(T:Tx K mg):Zy P w K mg base CX0 3 T.aN.f T.aN.fd ["end", "part_at", "ends_with_signals"] (Ycg T):=by
 refine T.aN.F.okW Zjv fun b7 A outer s H vs Q E hr h=>?_
 ·obtain ⟨t,pa,l,x,C,e,k,nm,ka,us,es,rfl,ht,U3,hv,hC,⟨dx,hO⟩,hb,hl,hu,z8,q⟩:=h;intro X;obtain ⟨f1,d1,m1,b1,g1⟩:=hC.bears;refine WSs.step (Z8 (Wc (Xb (Zr (Zac T) hr rfl T.bN T.af.F.kp T.af.b .nil Z2 (Zb (pv 0) (Zb (pv 1) Za))))) Zv Zs) (exR rfl (exR rfl ⟨t,pa,e,ka,rfl,ht,U3,_,rfl,Ye (fun z=>?_) (fun _=>?_)⟩))
  ·rw [hv] at z;exact absurd z (by simp)
  refine WSs.step (Z8 (Wc (Xb Zto)) Zv Zs) (WE.of (Zdv (Xm (Xi hr) (pv 1) (pv 0) (fun _ _=>rfl)) hC.cls.1 m1 (g1 _ _ _ 2 (by decide)) hr b1 .nil Z2) (exR rfl (exR rfl ⟨pa,_,rfl,by rw [<-hv];exact Xy.t (k:=Yj e) U3 ht,x,dx,_,rfl,hO,rfl,_,rfl,_,rfl,Ye (fun z=>?_) (fun _=>?_)⟩)))
  ·rw [hb] at z;exact absurd z (by decide)
  refine WSs.last (Z8 (Zm (r:=Zhp K) (Zj0 hr) (pv 0) (pv 2) (by with_unfolding_all rfl)) Zv Zs) (exR rfl (exR rfl (.inr (.inr (.inr ⟨l,1,trP e,es.map trP,us,rfl,SqL.of hl,by decide,Im.tup (n:=0) (SqT.of ht) (.cons (.str _) (.cons (.str _) .nil)),Znx hu,_,rfl,Ye (fun z=>?_) (fun _=>q)⟩)))));have z:trP e∈es.map trP:=of_decide_eq_true z;obtain ⟨e',V6,h'⟩:=List.mem_map.mp z;rw [Zq4 h'] at V6;exact absurd V6 z8
theorem Zkb(T:Tx K mg){k:Nat}(h:3<=k:=by decide):Zy P w K mg base CX0 k T.aN.f T.aN.fd ["end", "part_at", "ends_with_signals"] (Ycg T):=(Zjy T).mono h
theorem Zq.offD{H:Hp}{c t:Addr}{o:HO}{xs:List (Key×V)}{q:Zc}(h:Zq H t q)(hc:H c=some (.dK xs)):Zq (upd H c o) t q:=by
 unfold Zq at h ⊢;exact (Zh fun z=>by rw [z,hc] at h;cases h).trans h
def Ybx(T:Tx K mg):Sp:=fun vs H Q _=>∃(sl pa:Addr) (ts:List Addr) (sg:List (Str×Str×Str)) (ka:List (List Key×V)),vs=[.ref sl,.ref pa]/\H sl=some (.lst (ts.map V.ref))/\Paired (Zng H) ts sg/\H pa=some (.dT ka)/\(∀q∈sg,Wi q.1)/\(sg.map Prod.fst).Nodup/\(sg.map Prod.snd).Nodup/\sg.length<=100 /\
 (∀q∈sg,∃x C k,Yv ka (Yj (q.2.1,q.2.2))=some (.ref x)/\Wu T k C/\Zdy H C x q.2.1/\Zo4 k=true) /\
 ∀(d:Addr) (ks:List (Key×V)) (H':Hp),Same H H'->H d=none->H' d=some (.dK ks)->DP Yc (RS H') ks (qS sg)->Q (.ref d) H'
theorem Zxa{H:Hp}{ks:List (Key×V)}{qs:List (Str×Zc)}(h:DP Yc (RS H) ks qs):∃us:List Addr,ks.map (fun kv=>kv.2)=us.map V.ref/\Paired (Zq H) us (qs.map Prod.snd):=by
 unfold DP at h
 induction h with
 | nil=>exact ⟨[],rfl,.nil⟩
 | cons r _ ih =>
  obtain ⟨us,h1,h2⟩:=ih;obtain ⟨_,t,hv,ht⟩:=r;exact ⟨t ::us,by rw [List.map_cons,List.map_cons,h1,hv],.cons ht h2⟩
theorem Zol(T:Tx K mg):Zy P w K mg base CX0 4 T.bx.f T.bx.fd ["signals", "part_at"] (Ybx T):=by
 refine T.bx.F.okW Zao fun b7 A outer s H vs Q E hr h=>?_
 ·obtain ⟨sl,pa,ts,sg,ka,rfl,hl,d7,U3,O2,nd,one,len,hk,q⟩:=h;intro X;have A0:=Paired.length d7;refine WSs.step (Zz (i:=2) Zao.nd Zgl) fun d H1 s1 n1 e1=>?_
  let I21:=fun (i:Nat) (σ:St) (H':Hp)=>(∃o3 o4 o5,σ=[some (.ref sl),some (.ref pa),some (.ref d),o3,o4,o5])/\Same H H'/\∃ks,H' d=some (.dK ks)/\DP Yc (RS H') ks (qS (sg.take i))
  refine WSs.step (Y8 PassesOwn.never rfl (Ym (pv 0)) (Yr (i:=3) Zao.nd) Zv) (exR rfl ⟨sl,rfl,⟨_,SqL.of (s1.at hl)⟩,Xx (K:=K) (xs:=ts.map V.ref) I21 ⟨⟨none,none,none,rfl⟩,s1,[],e1,.nil⟩ ?_ ?_ ?_⟩)
  ·rintro i σ H' _ ⟨_,s2,_⟩;exact SqL.of (s2.at hl)
  ·rintro i v σ H2 hi ⟨⟨o3,o4,o5,rfl⟩,s2,ks,hd,hD⟩;rw [List.getElem?_map] at hi;obtain ⟨t,R6,rfl⟩:=Option.map_eq_some_iff.mp hi;obtain ⟨⟨nm,pn,en⟩,hg,ht⟩:=Paired.get d7 R6;have ht:H t=some (.tup [.str nm,.str pn,.str en]):=ht;have hm:((nm,pn,en):Str×Str×Str)∈sg:=List.mem_of_getElem? hg;have E5:=(List.getElem?_eq_some_iff.mp hg).1;obtain ⟨x,C,k,hv,hC,hO,hb⟩:=hk _ hm;have d6:ks.length<=100:=by
    have h1:=hD.len;unfold qS at h1;rw [List.length_map,List.length_take] at h1;lia
   have hn:Yv ks (Yc nm)=none:=hD.none Zam (by
    rw [Zo0,List.map_take];exact Zd7 nd (by rw [List.getElem?_map,hg];rfl))
   have he:((pn,en):Zc)∉(qS (sg.take i)).map Prod.snd:=by
    have:(qS (sg.take i)).map Prod.snd=(sg.map Prod.snd).take i:=by
     unfold qS;rw [List.map_map,List.map_take]
     rfl
    rw [this];exact Zd7 one (by rw [List.getElem?_map,hg];rfl)
   refine WSs.step (Zz (i:=4) Zao.nd (Zn (K:=K) rfl (pv 3) Zd)) (exR rfl (ixT (s2.at ht) 0 rfl ?_));refine WSs.step (Zz (i:=5) Zao.nd (Xv (r:=Zf9 K) Zht (pv 3) (X4 Zd) Wj)) (exR rfl (exR rfl (.inl ⟨t,_,rfl,SqT.of (s2.at ht),(show ¬(HT.sIx 3 0 (some 1)=0/\HT.sIx 3 3 none=3) by decide),fun te H3 s3 n3 e3=>?_⟩)));have p8:=s2.trans s3;have K3:Zq H3 te (pn,en):=e3;refine WSs.step (Xg (Zr (Zem T) hr rfl T.cc T.au.F.kp T.au.b .nil Z2 (Zb (pv 4) (Zb (pv 2) Za)))) (exR rfl (exR rfl ⟨nm,d,ks,rfl,O2 _ hm,s3.at hd,hn,fun H4 s4=>?_⟩));have o0:=p8.trans s4;have U4:DP Yc (RS H4) ks (qS (sg.take i)):=hD.mapR fun _ _ _ z=>RS.mono (s3.trans s4) _ _ _ z
   obtain ⟨us,i4,hup⟩:=Zxa U4;refine WSs.step (Xg (Zr (Zkb T) hr rfl T.cX T.aN.F.kp T.aN.b .nil Z2 (Zb (pv 5) (Zb (pv 1) (Zb (Zod rfl (by rfl) T.eG (pv 2)) Za))))) (exR rfl (exR rfl (exR rfl ⟨d,ks,rfl,.inl (s4.at (s3.at hd)),fun l H5 s5 n5 e5=>⟨te,pa,l,x,C,(pn,en),k,pn,ka,us,_,rfl,(K3.mono s4).mono s5,(o0.trans s5).at U3,hv,hC,hO.mono (o0.trans s5),hb,by rw [<-i4];exact e5,Paired.mapP hup fun _ _ r=>r.mono s5,he,?_⟩⟩)));have z7:=o0.trans s5;have hd5:H5 d=some (.dK ks):=s5.at (s4.at (s3.at hd));refine WSs.last (Za6 (Xi hr) (pv 2) (pv 4) (pv 5) rfl) (exR rfl (exR rfl (exR rfl ⟨d,_,rfl,Zev.k (k:=Yc nm) hd5 (Zw (by lia)),⟨_,_,_,rfl⟩,z7.upd0 n1,_,Zf,?_⟩)));have:qS (sg.take (i+1))=qS (sg.take i)++[(nm,(pn,en))]:=by
    unfold qS;rw [List.take_add_one,hg,List.map_append]
    rfl
   rw [this];have M8:DP Yc (RS (upd H5 d (.dK (Ww ks (Yc nm) (.ref te))))) ks (qS (sg.take i)):=U4.mapR fun _ _ _ ⟨u,z1,z2⟩=>⟨u,z1,(z2.mono s5).offD hd5⟩
   exact M8.put hn ⟨te,rfl,((K3.mono s4).mono s5).offD hd5⟩
  ·rintro σ H2 ⟨⟨o3,o4,o5,rfl⟩,s2,ks,hd,hD⟩;rw [List.length_map,A0,List.take_length] at hD;exact WSs.last (Zl (pv 2)) (exR rfl (q d ks H2 s2 n1 hd hD))
theorem Zp4(T:Tx K mg){k:Nat}(h:4<=k:=by decide):Zy P w K mg base CX0 k T.bx.f T.bx.fd ["signals", "part_at"] (Ybx T):=(Zol T).mono h
structure Ys(T:Tx K mg)(H:Hp)(x:Addr)(ps:List Zc)(js:List (Zc×Zc))(sg:List (Str×Str×Str)):Prop where
 ex:∃(dx po jo so si:Addr) (kp ks:List (Key×V)) (kj ko:List (List Key×V)),H x=some (.ins T.aJ dx [("part_of",.ref po),("joined",.ref jo),("post_of",.ref so),("signal_on",.ref si)]) /\
  H po=some (.dK kp)/\DP Yc (RP T H) kp (qP ps)/\H jo=some (.dT kj)/\DP Yj (RJ H) kj (qJ js)/\H so=some (.dK ks)/\DP Yc (RS H) ks (qS sg)/\H si=some (.dT ko)/\DP Yj RO ko (qO sg)
theorem Ys.mono{T:Tx K mg}{H H':Hp}{x:Addr}{ps:List Zc}{js:List (Zc×Zc)}{sg:List (Str×Str×Str)}(e:Same H H')(h:Ys T H x ps js sg):Ys T H' x ps js sg:=by
 obtain ⟨dx,po,jo,so,si,kp,ks,kj,ko,h1,h2,h3,h4,h5,h6,h7,h8,h9⟩:=h.ex;exact ⟨dx,po,jo,so,si,kp,ks,kj,ko,e.at h1,e.at h2,h3.mapR (RP.mono e),e.at h4,h5.mapR (RJ.mono e),e.at h6,h7.mapR (RS.mono e),e.at h8,h9⟩
def del(H:Hp)(x:Addr):Hp:=fun b=>if b=x then none else H b
theorem Ziu{H:Hp}{x:Addr}:del H x x=none:=if_pos rfl
theorem Zc4{H:Hp}{x b:Addr}{o:HO}(h:H b=some o)(n:b≠x):del H x b=some o:=(if_neg n).trans h
theorem W0{H:Hp}{x:Addr}{o:HO}:Same (del H x) (upd H x o):=fun b u e=>by
 unfold del at e
 by_cases z:b=x
 ·rw [if_pos z] at e;cases e
 ·rw [if_neg z] at e;rw [Zh z];exact e
theorem Zfr{G H:Hp}{x:Addr}(s:Same G H)(n:G x=none):Same G (del H x):=fun b u e=>Zc4 (s.at e) (Zj e n)
structure Yp(ps:List Zc)(js:List (Zc×Zc))(sg:List (Str×Str×Str)):Prop where
 net:Net ps js []
 len:ps.length<=40
 name:∀p∈ps,Wi p.2
 sigs:Zjk ps sg
theorem Zg0.v{ps:List Zc}{js:List (Zc×Zc)}{sg:List (Str×Str×Str)}(h:Zg0 ps js sg):Yp ps js sg:=⟨h.net,by have:=h.len;lia,fun p hp=>(h.name p hp).nm.ok,h.sigsV⟩
theorem Zo3(ps:List Zc):(Z7 ps).length<=4 * ps.length:=by rw [<-Zmw,List.length_map];exact Zt0 ps
theorem _root_.YM.Net.flat{ps:List Zc}{js:List (Zc×Zc)}(h:Net ps js []):(Yq js).Perm (Z7 ps):=by
 have:=h.perm;rw [List.append_nil] at this;exact this
theorem _root_.YM.Net.jlen{ps:List Zc}{js:List (Zc×Zc)}(h:Net ps js [])(l:ps.length<=40):js.length<=300:=by
 have h1:=h.flat.length_eq;have h2:=Zo3 ps;rw [<-Wd,List.length_map,Zow] at h1;lia
theorem Zz6{ps:List Zc}{p:Zc}{e:Str}(hp:p∈ps)(he:e∈Z6 p.1):((p.2,e),p.1)∈qA ps:=List.mem_flatMap.mpr ⟨p,hp,List.mem_map.mpr ⟨e,he,rfl⟩⟩
def Yak(T:Tx K mg):Sp:=fun vs H Q _=>∃(G:Hp) (x dx pl jl sl:Addr) (xs:List Addr) (ps:List Zc) (js:List (Zc×Zc)) (sg:List (Str×Str×Str)),vs=[.ref x,.ref pl,.ref jl,.ref sl]/\G x=none/\Same G H/\H x=some (.ins T.aJ dx []) /\
 G pl=some (.lst (xs.map V.ref))/\Paired (PO T G) xs ps/\Yd G jl js/\Zav G sl sg/\Yp ps js sg/\∀H',Same G H'->Ys T H' x ps js sg->Q .non H'
theorem Zey(T:Tx K mg):Zy P w K mg base CX0 5 T.ax.f T.ax.fd ["self", "parts", "joins", "signals"] (Yak T):=by
 refine T.ax.F.okW Wm fun b7 A outer s H vs Q E hr h=>?_
 ·obtain ⟨G,x,dx,pl,jl,sl,xs,ps,js,sg,rfl,hGx,s0,hx,j0,U5,w4,⟨ts,F4,d7⟩,yv,q⟩:=h;intro X;have hxl:=Paired.length U5;have A0:=Paired.length d7;have U6:=yv.len;have slen:=yv.sigs.len;refine WSs.step (Zz (i:=4) Wm.nd (Zcd (Zm Yac (pv 3) Zux (Z0 _)) (Zk Za) (pv 3))) (exR rfl ⟨rfl,_,rfl,Zp0 (exR rfl ?_)⟩);refine WSs.step (Z8 (PW.pt (Zda (Zm Zi8 (Zu (r:=Xk K) Xo (by rfl) T.aZ PySem.boot_len (Zb (pv 1) Za)) (Zch (by rfl) T.dS) (Z0 _)) (Zbl (Zm Zi8 (Zu (r:=Xk K) Xo (by rfl) T.aZ PySem.boot_len (Zb (pv 4) Za)) (Zch (by rfl) T.cU) (Z0 _))))) Zv Zs) (exR rfl (.inl ⟨pl,_,rfl,.inl (SqL.of (s0.at j0)),_,_,rfl,rfl,_,rfl,Ye (fun z=>?_) (fun _=>(exR rfl (.inl ⟨sl,_,rfl,.inl (SqL.of (s0.at F4)),_,_,rfl,rfl,_,rfl,Ye (fun z=>?_) (fun _=>?_)⟩)))⟩))
  ·have z:=of_decide_eq_true z;rw [List.length_map] at z;exact absurd z (by lia)
  ·have z:=of_decide_eq_true z;rw [List.length_map] at z;exact absurd z (by lia)
  refine WSs.step (Zjm (pv 0) (Zr (Zhj T) hr rfl T.cD T.ay.F.kp T.ay.b .nil Z2 (Zb (pv 1) Za)) rfl) (exR rfl ⟨pl,xs,ps,rfl,s0.at j0,Paired.mapP U5 fun _ _ r=>r.mono s0,yv.net.nd,yv.name,by lia,fun po kp H1 s1 m1 e1 dp=>(exR rfl ⟨x,_,dx,_,rfl,s1.at hx,T.ae,T.bF,by simp,?_⟩)⟩);have hpx:po≠x:=fun z=>by rw [z,hx] at m1;cases m1
  have g1:Same G (del H1 x):=Zfr (s0.trans s1) hGx;have dp1:DP Yc (RP T (del H1 x)) kp (qP ps):=dp.mapR fun a b v ⟨y,C,z1,z2,dy,z3⟩=>⟨y,C,z1,z2,dy,Zc4 (s1.at z3) fun z=>by rw [z,hx] at z3;cases z3⟩
  have ep1:del H1 x po=some (.dK kp):=Zc4 e1 hpx;refine WSs.step (Zz (i:=5) Wm.nd (Zr (Zhv T) hr rfl T.cE T.az.F.kp T.az.b .nil Z2 (Zb (Xz (pv 0) rfl) Za))) (exR rfl ⟨x,_,dx,_,_,rfl,Zf,T.ae,T.bF,rfl,po,kp,ps,rfl,W0.at ep1,dp1.mapR (RP.mono W0),yv.net.nd,by lia,fun pa ka H2 s2 m2 e2 da=>?_⟩);have S7:=s2.at Zf;have ep2:Same G H2:=(g1.trans W0).trans s2;have kaq:∀p∈ps,∀e∈Z6 p.1,∃v,Yv ka (Yj (p.2,e))=some v/\RA T _ (p.2,e) p.1 v:=fun p hp e he=>da.get Y0 (by rw [Zmw];exact Ws yv.net.nd) (Zz6 hp he)
  refine WSs.step (Zjm (pv 0) (Zr (Zkn T) hr rfl T.cW T.aM.F.kp T.aM.b .nil Z2 (Zb (pv 2) (Zb (pv 5) Za))) rfl) (exR rfl (exR rfl ⟨jl,pa,js,ka,rfl,w4.mono ep2,e2,fun e he=>?_,?_,?_,yv.net.apart,yv.net.jlen U6,fun jo kj H3 s3 m3 e3 dj=>(exR rfl ⟨x,_,dx,_,rfl,s3.at S7,T.ae,T.bL,(by show 1<1000;decide),?_⟩)⟩))
  ·have:=yv.net.flat.mem_iff.mp he;obtain ⟨p,hp,hm⟩:=List.mem_flatMap.mp this;obtain ⟨e',V6,rfl⟩:=List.mem_map.mp hm;obtain ⟨v,hv,_⟩:=kaq p hp e' V6;rw [hv];rfl
  ·rw [yv.net.flat.length_eq,<-Zmw,List.length_map];exact da.len
  ·exact yv.net.flat.nodup_iff.mpr (Ws yv.net.nd)
  have hjx:jo≠x:=fun z=>by rw [z,S7] at m3;cases m3
  have p8:Same (del H1 x) (del H3 x):=Zfr ((W0.trans s2).trans s3) Ziu;have ej3:del H3 x jo=some (.dT kj):=Zc4 e3 hjx;have hpax:pa≠x:=fun z=>by rw [z,S7] at e2;cases e2
  have epa:del H3 x pa=some (.dT ka):=Zc4 (s3.at e2) hpax;have dj3:DP Yj (RJ (del H3 x)) kj (qJ js):=dj.mapR fun a b v ⟨u,z1,z2⟩=>⟨u,z1,Zc4 (s3.at z2) fun z=>by rw [z] at z2;exact nomatch S7.symm.trans z2⟩
  have g3:Same G (del H3 x):=g1.trans p8;refine WSs.step (Zjm (pv 0) (Zr (Zp4 T) hr rfl T.er T.bx.F.kp T.bx.b .nil Z2 (Zb (pv 4) (Zb (pv 5) Za))) rfl) (exR rfl (exR rfl ⟨sl,pa,ts,sg,ka,rfl,W0.at (g3.at F4),Paired.mapP d7 fun _ _ r=>(g3.trans W0).at r,W0.at epa,yv.sigs.name,yv.sigs.nd,yv.sigs.one,by lia,fun g hg=>?_,fun so ks H4 s4 m4 e4 ds=>(exR rfl ⟨x,_,dx,_,rfl,s4.at Zf,T.ae,T.aS,(by show 2<1000;decide),?_⟩)⟩))
  ·obtain ⟨p,hp,h1,h2,h3⟩:=yv.sigs.at_ g hg;obtain ⟨v,hv,y,C,rfl,hC,dy,hO⟩:=kaq p hp g.2.2 h3;refine ⟨y,C,p.1,by rw [<-h1];exact hv,hC,⟨dy,?_⟩,decide_eq_true h2⟩;have hyx:y≠x:=fun z=>by rw [z,Zf] at hO;cases hO
   rw [Zh hyx,<-h1];exact s3.at (s2.at hO)
  have hsx:so≠x:=fun z=>by rw [z,Zf] at m4;cases m4
  have hx4:=s4.at (Zf (H:=H3) (a:=x));have s34:Same (del H3 x) (del H4 x):=Zfr (W0.trans s4) Ziu;have es4:del H4 x so=some (.dK ks):=Zc4 e4 hsx;have ds4:DP Yc (RS (del H4 x)) ks (qS sg):=ds.mapR fun a b v ⟨u,z1,z2⟩=>⟨u,z1,Zc4 z2 fun z=>by rw [z] at z2;exact nomatch hx4.symm.trans z2⟩
  refine WSs.last (Zjm (pv 0) (Zab (r:=Zve) (Zp1 rfl hr.units) (by rfl) T.ff PyProof.Rows.boot_dict (Zb (Zqr (Xu (N':=["name", "end"]) rfl (Z5.std 2 [] rfl (by trivial) (by trivial) rfl trivial rfl rfl trivial) (Zjx (Xz (pv 0) rfl)) (fun _ _ _ _=>(Zh9 (K:=K) (n:=2) rfl rfl (Z4 (Zan (i:=0) (by show (["name", "end"]:List Str).Nodup;decide +kernel)) (Z4 (Zan (i:=1) (by show (["name", "end"]:List Str).Nodup;decide +kernel)) Xl)))) (fun _ _ _ _=>Wl) (fun _ _ _ _=>(Zi (Zb (pv 1) (Zb (pv 0) Za)))))) Za)) rfl) (exR rfl ⟨x,_,dx,_,_,rfl,Zf,T.ae,T.aS,rfl,so,ks,rfl,W0.at es4,fun o nf D hD=>Zi7 (fun i ys H'=>Same (upd (upd H4 x (.ins T.aJ dx [("part_of",.ref po),("joined",.ref jo),("post_of",.ref so)])) so (.frz o (.dK ks))) H'/\H' D=some (.lst ys)/\∃tps:List Addr,ys=tps.map V.ref/\Paired (fun t (q:List Key×V)=>∃a,H' t=some (.tup [.ref a,q.2])/\H' a=some (.tup (q.1.map kV))) tps ((qO (sg.take i)).map fun q=>(Yj q.1,V.str q.2))) ⟨Same.new hD,Zf,[],rfl,.nil⟩ ?_ ?_ ?_⟩)
  ·rintro i ys H' _ ⟨z,_⟩;exact z.at Zf
  ·rintro i kv ys H5 hi ⟨s5,D5,tps,rfl,htp⟩ tp H6 s6 n6 e6;obtain ⟨⟨nm,e⟩,hq,hk,t,hv,ht⟩:=Paired.get ds4 hi;have hk:kv.1=Sum.inr nm:=hk;rw [hk,hv] at e6;have hg:sg[i]? =some (nm,e.1,e.2):=by
    unfold qS at hq;rw [List.getElem?_map] at hq;obtain ⟨⟨g1,g2,g3⟩,hg,e'⟩:=Option.map_eq_some_iff.mp hq;rw [hg];simp only [Prod.mk.injEq] at e';rw [<-e'.1,<-e'.2]
   have E5:=(List.getElem?_eq_some_iff.mp hg).1;have hto:t≠so:=fun z=>by rw [z] at ht;exact nomatch es4.symm.trans ht
   have htF:upd (upd H4 x (.ins T.aJ dx [("part_of",.ref po),("joined",.ref jo),("post_of",.ref so)])) so (.frz o (.dK ks)) t=some (.tup ((Yj e).map kV)):=by
    rw [Zh hto];exact W0.at ht
   have htl':tps.length<=100:=by
    have:=Paired.length htp;unfold qO at this;rw [List.length_map,List.length_map,List.length_take] at this;lia
   refine ⟨tp,_,rfl,SqT.of e6,rfl,_,_,rfl,_,_,rfl,rfl,(X5.set rfl).trans (X5.set rfl),_,rfl,_,rfl,szA,fun t' H7 s7 n7 e7=>⟨s7.at (s6.at D5),by rw [List.length_map];exact Zw (by lia),?_,Zf,tps++[t'],by rw [List.map_append];rfl,?_⟩⟩
   ·intro c u z;rw [Zh (Zj z hD)];exact s7.at (s6.at (s5.at z))
   ·have hD7:=s7.at (s6.at D5);have off:∀{c:Addr} {xs:List V} {u:HO},H7 c=some (.tup xs)->upd H7 D u c=some (.tup xs):=fun {c xs u} z=>(Zh fun y=>by rw [y,hD7] at z;cases z).trans z
    have:(qO (sg.take (i+1))).map (fun q=>(Yj q.1,V.str q.2))=(qO (sg.take i)).map (fun q=>(Yj q.1,V.str q.2))++[(Yj e,V.str nm)]:=by
     unfold qO;rw [List.take_add_one,hg,List.map_append,List.map_append]
     rfl
    rw [this];exact Paired.snoc (Paired.mapP htp fun _ _ ⟨a,z1,z2⟩=>⟨a,off (s7.at (s6.at z1)),off (s7.at (s6.at z2))⟩) ⟨t,off e7,off (s7.at (s6.at (s5.at htF)))⟩
  ·rintro ys H5 ⟨s5,D5,tps,rfl,htp⟩;have hks:ks.length=sg.length:=by
    have:=ds4.len;unfold qS at this;rw [List.length_map] at this;exact this
   rw [hks,List.take_length] at htp;have hso5:=s5.at Zf;have off:∀{c:Addr} {xs:List V} {u:HO},H5 c=some (.tup xs)->upd H5 so u c=some (.tup xs):=fun {c xs u} z=>(Zh fun y=>by rw [y,hso5] at z;cases z).trans z
   have sT:Same (upd H4 x (.ins T.aJ dx [("part_of",.ref po),("joined",.ref jo),("post_of",.ref so)])) (upd H5 so (.dK ks)):=s5.thaw (W0.at es4);refine ⟨so,o,_,hso5,nf,D,tps,_,rfl,?_,Paired.mapP htp fun _ _ ⟨a,z1,z2⟩=>⟨a,off z1,off z2⟩,?_,fun si H8 s8 n8 e8=>⟨_,rfl,x,_,dx,_,rfl,s8.at (sT.at Zf),T.ae,T.bq,(by show 3<1000;decide),?_⟩⟩
   ·rw [Zh fun y=>by rw [y,hso5] at D5;cases D5];exact D5
   ·rw [List.map_map];have e1:(qO sg).map (Prod.fst ∘ fun q=>(Yj q.1,V.str q.2))=((qO sg).map Prod.fst).map Yj:=by rw [List.map_map];rfl
    rw [e1,Zgu];exact yv.sigs.one.map Yj fun a b ne z=>ne (Y0 a b z)
   have hix:si≠x:=fun z=>by rw [z,sT.at Zf] at n8;cases n8
   have s48:Same (del H4 x) (del H8 x):=Zfr ((W0.trans sT).trans s8) Ziu;have ei8:del H8 x si=some (.dT ((qO sg).map fun q=>(Yj q.1,V.str q.2))):=Zc4 e8 hix;have f4:Same (del H4 x) (upd H8 x (.ins T.aJ dx [("part_of",.ref po),("joined",.ref jo),("post_of",.ref so),("signal_on",.ref si)])):=s48.trans W0;have f3:=s34.trans f4;have f1:=p8.trans f3;refine q _ (g1.trans f1) ⟨dx,po,jo,so,si,kp,ks,kj,_,Zf,f1.at ep1,dp1.mapR (RP.mono f1),f3.at ej3,dj3.mapR (RJ.mono f3),f4.at es4,ds4.mapR (RS.mono f4),W0.at ei8,?_⟩;have all:∀l:List (Zc×Str),DP Yj RO (l.map fun q=>(Yj q.1,V.str q.2)) l:=fun l=>by
    induction l with
    | nil=>exact .nil
    | cons p l ih=>exact .cons ⟨rfl,rfl⟩ ih
   exact all _
theorem Zf0(T:Tx K mg){k:Nat}(h:5<=k:=by decide):Zy P w K mg base CX0 k T.ax.f T.ax.fd ["self", "parts", "joins", "signals"] (Yak T):=(Zey T).mono h
def Zlm(T:Tx K mg):List V->Hp->VK->Prop:=fun vs H Q=>∃(pl jl sl:Addr) (xs:List Addr) (ps:List Zc) (js:List (Zc×Zc)) (sg:List (Str×Str×Str)),vs=[.ref pl,.ref jl,.ref sl]/\H pl=some (.lst (xs.map V.ref))/\Paired (PO T H) xs ps/\Yd H jl js/\Zav H sl sg/\Yp ps js sg/\∀x H',Same H H'->H x=none->Ys T H' x ps js sg->Q (.ref x) H'
theorem Ztg(T:Tx K mg):∀vs H Q,Zlm T vs H Q ->
  ∀x dx,H x=none->H dx=none->dx≠x->Yak T (.ref x ::(vs++[])) (upd (upd H dx (.own x)) x (.ins T.aJ dx [])) (fun v H2=>v=.non/\Q (.ref x) H2) E0:=by
 rintro vs H Q ⟨pl,jl,sl,xs,ps,js,sg,rfl,h1,h2,h3,h4,h5,q⟩ x dx hx hdx ne;refine ⟨H,x,dx,pl,jl,sl,xs,ps,js,sg,rfl,hx,fun b o e=>?_,Zf,h1,h2,h3,h4,h5,fun H' s t=>⟨rfl,q x H' s hx t⟩⟩;rw [Zh (Zj e hx),Zh (Zj e hdx)];exact e
def Zqo(T:Tx K mg):Sp:=fun vs H Q _=>∃(x:Addr) (nm k:Str) (ps:List Zc) (js:List (Zc×Zc)) (sg:List (Str×Str×Str)),vs=[.ref x,.str nm]/\Ys T H x ps js sg/\Yp ps js sg/\((k,nm):Zc)∈ps/\∀(y C:Addr) (H':Hp),Same H H'->Wu T k C->Zdy H' C y nm->Q (.ref y) H'
theorem Zhs(T:Tx K mg):Zy P w K mg base CX0 2 T.aR.f T.aR.fd ["self", "name"] (Zqo T):=by
 refine T.aR.F.okW Zhk fun b7 A outer s H vs Q E hr h=>?_
 ·obtain ⟨x,nm,k,ps,js,sg,rfl,tr,yv,hm,q⟩:=h;intro X;obtain ⟨dx,po,jo,so,si,kp,ks,kj,ko,h1,h2,h3,_⟩:=tr.ex;have hq:((nm,k):Str×Str)∈qP ps:=List.mem_map.mpr ⟨(k,nm),hm,rfl⟩;obtain ⟨v,hv,y,C,rfl,hC,hO⟩:=h3.get Zam (by rw [Zjf];exact yv.net.nd) hq;refine WSs.step (Z8 (PW.pt (Zda (Wc (Xb (Zr (Zd4 T) hr rfl T.bZ T.aH.F.kp T.aH.b .nil Z2 (Zb (pv 1) Za)))) (Zbl (Zm (r:=Zai K) (Za3 hr) (pv 1) (Xz (pv 0) rfl) (by with_unfolding_all rfl))))) Zv Zs) (exR rfl ⟨_,true,rfl,(yv.name _ hm).asked,fun H1 s1=>(exR rfl (Ye (fun z=>absurd z (by decide)) (fun _=>(exR rfl (exR rfl ⟨x,_,dx,_,_,rfl,s1.at h1,T.ae,T.bF,rfl,.inr (.inl ⟨po,_,rfl,Xy.k (k:=Yc nm) (s1.at h2),_,rfl,Ye (fun z=>?_) (fun _=>?_)⟩)⟩)))))⟩)
  ·rw [hv] at z;exact absurd z (by simp)
  exact WSs.last (Zl (Xm (Xi hr) (Xz (pv 0) rfl) (pv 1) (fun _ _=>rfl))) (exR rfl ⟨x,_,dx,_,_,rfl,s1.at h1,T.ae,T.bF,rfl,_,rfl,po,_,rfl,by rw [<-hv];exact Xy.k (k:=Yc nm) (s1.at h2),q y C H1 s1 hC (hO.mono s1)⟩)
theorem Ziz(T:Tx K mg){k:Nat}(h:2<=k:=by decide):Zy P w K mg base CX0 k T.aR.f T.aR.fd ["self", "name"] (Zqo T):=(Zhs T).mono h
def Zne(T:Tx K mg):Sp:=fun vs H Q _=>∃(x t:Addr) (e:Zc) (ps:List Zc) (js:List (Zc×Zc)) (sg:List (Str×Str×Str)),vs=[.ref x,.ref t]/\Ys T H x ps js sg/\Yp ps js sg/\Zq H t e /\
 ((e∈Z7 ps/\∀t' e',((e,e'):Zc×Zc)∈qJ js->Zq H t' e'->Q (.ref t') H)\/(e∉Z7 ps/\∀t' H',Same H H'->H t'=none->Zq H' t' ("", "")->Q (.ref t') H'))
theorem Zgx(T:Tx K mg):Zy P w K mg base CX0 3 T.ap.f T.ap.fd ["self", "end"] (Zne T):=by
 refine T.ap.F.okW Zg1 fun b7 A outer s H vs Q E hr h=>?_
 ·obtain ⟨x,t,e,ps,js,sg,rfl,tr,yv,ht,q⟩:=h;intro X;obtain ⟨dx,po,jo,so,si,kp,ks,kj,ko,h1,h2,h3,h4,h5,_⟩:=tr.ex;have nd:((qJ js).map Prod.fst).Nodup:=by rw [Wd];exact yv.net.flat.nodup_iff.mpr (Ws yv.net.nd)
  rcases q with ⟨hm,q⟩|⟨hm,q⟩
  ·have:e∈(qJ js).map Prod.fst:=by rw [Wd];exact yv.net.flat.mem_iff.mpr hm
   obtain ⟨⟨e0,e'⟩,hq,rfl⟩:=List.mem_map.mp this;obtain ⟨v,hv,t',rfl,ht'⟩:=h5.get Y0 nd hq;refine WSs.last (Zl (Zcd (Xb (Zr (Zac T) hr rfl T.bN T.af.F.kp T.af.b .nil Z2 (Zb (pv 1) (Zb (Xz (pv 0) rfl) Za)))) (Xm (Xi hr) (Xz (pv 0) rfl) (pv 1) (fun _ _=>rfl)) (Zi (Zb Ze (Zb Ze Za))))) (exR rfl (exR rfl ⟨x,_,dx,_,_,rfl,h1,T.ae,T.bL,rfl,t,jo,_,kj,rfl,ht,h4,_,rfl,?_⟩));rw [hv];exact Zhy ⟨_,rfl,x,_,dx,_,_,rfl,h1,T.ae,T.bL,rfl,_,rfl,jo,_,rfl,by rw [<-hv];exact Xy.t (k:=Yj e0) h4 ht,q t' e' hq ht'⟩
  ·have hv:Yv kj (Yj e)=none:=h5.none Y0 (by rw [Wd];exact fun z=>hm (yv.net.flat.mem_iff.mp z));refine WSs.last (Zl (Zcd (Xb (Zr (Zac T) hr rfl T.bN T.af.F.kp T.af.b .nil Z2 (Zb (pv 1) (Zb (Xz (pv 0) rfl) Za)))) (Xm (Xi hr) (Xz (pv 0) rfl) (pv 1) (fun _ _=>rfl)) (Zi (Zb Ze (Zb Ze Za))))) (exR rfl (exR rfl ⟨x,_,dx,_,_,rfl,h1,T.ae,T.bL,rfl,t,jo,_,kj,rfl,ht,h4,_,rfl,?_⟩));rw [hv];exact Zp0 ⟨szA,fun t' H' s' n' e'=>q t' H' s' n' e'⟩
theorem Zax(T:Tx K mg){k:Nat}(h:3<=k:=by decide):Zy P w K mg base CX0 k T.ap.f T.ap.fd ["self", "end"] (Zne T):=(Zgx T).mono h
def Ydv(sg:List (Str×Str×Str))(e:Zc):Bool:=decide (e∈sg.map Prod.snd)
def Zrh(T:Tx K mg):Sp:=fun vs H Q _=>∃(x t:Addr) (e:Zc) (ps:List Zc) (js:List (Zc×Zc)) (sg:List (Str×Str×Str)),vs=[.ref x,.ref t]/\Ys T H x ps js sg/\Yp ps js sg/\Zq H t e /\
 ∀nm:Str,((nm,e)∈qS sg/\Wi nm/\e∈sg.map Prod.snd)\/(nm = "" /\e∉sg.map Prod.snd)->Q (.str nm) H
theorem Zee(T:Tx K mg):Zy P w K mg base CX0 3 T.aq.f T.aq.fd ["self", "end"] (Zrh T):=by
 refine T.aq.F.okW Zed fun b7 A outer s H vs Q E hr h=>?_
 ·obtain ⟨x,t,e,ps,js,sg,rfl,tr,yv,ht,q⟩:=h;intro X;obtain ⟨dx,po,jo,so,si,kp,ks,kj,ko,h1,_,_,_,_,_,_,h8,h9⟩:=tr.ex;have nd:((qO sg).map Prod.fst).Nodup:=by rw [Zgu];exact yv.sigs.one
  by_cases hm:e∈sg.map Prod.snd
  ·obtain ⟨⟨nm,e1,e2⟩,hg,rfl⟩:=List.mem_map.mp hm;obtain ⟨v,hv,rfl⟩:=h9.get Y0 nd (a:=(e1,e2)) (b:=nm) (List.mem_map.mpr ⟨_,hg,rfl⟩);refine WSs.last (Zl (Zcd (Xb (Zr (Zac T) hr rfl T.bN T.af.F.kp T.af.b .nil Z2 (Zb (pv 1) (Zb (Xz (pv 0) rfl) Za)))) (Xm (Xi hr) (Xz (pv 0) rfl) (pv 1) (fun _ _=>rfl)) Ze)) (exR rfl (exR rfl ⟨x,_,dx,_,_,rfl,h1,T.ae,T.bq,rfl,t,si,_,ko,rfl,ht,h8,_,rfl,?_⟩));have hv':Yv ko (Yj (e1,e2))=some (.str nm):=hv;rw [show ((nm,e1,e2):Str×Str×Str).snd=(e1,e2) from rfl,hv'];exact Zhy ⟨_,rfl,x,_,dx,_,_,rfl,h1,T.ae,T.bq,rfl,_,rfl,si,_,rfl,by rw [<-hv'];exact Xy.t (k:=Yj (e1,e2)) h8 ht,q nm (.inl ⟨List.mem_map.mpr ⟨_,hg,rfl⟩,yv.sigs.name _ hg,hm⟩)⟩
  ·have hv:Yv ko (Yj e)=none:=h9.none Y0 (by rw [Zgu];exact hm);refine WSs.last (Zl (Zcd (Xb (Zr (Zac T) hr rfl T.bN T.af.F.kp T.af.b .nil Z2 (Zb (pv 1) (Zb (Xz (pv 0) rfl) Za)))) (Xm (Xi hr) (Xz (pv 0) rfl) (pv 1) (fun _ _=>rfl)) Ze)) (exR rfl (exR rfl ⟨x,_,dx,_,_,rfl,h1,T.ae,T.bq,rfl,t,si,_,ko,rfl,ht,h8,_,rfl,?_⟩));rw [hv];exact Zp0 (q _ (.inr ⟨rfl,hm⟩))
theorem Ze4(T:Tx K mg){k:Nat}(h:3<=k:=by decide):Zy P w K mg base CX0 k T.aq.f T.aq.fd ["self", "end"] (Zrh T):=(Zee T).mono h
abbrev S4:=Str×Str×Str×Str
def Y6(H:Hp)(t:Addr)(q:S4):Prop:=H t=some (.tup [.str q.1,.str q.2.1,.str q.2.2.1,.str q.2.2.2])
theorem Y6.mono{H H':Hp}{t:Addr}{q:S4}(e:Same H H')(h:Y6 H t q):Y6 H' t q:=e.at h
def Zfi(H:Hp)(l:Addr)(ss:List S4):Prop:=∃ts:List Addr,H l=some (.lst (ts.map V.ref))/\Paired (Y6 H) ts ss
def Zdo(k en:Str):List (Str×Str):=((Zbq k).map fun i7=>(Xc k en i7,i7)).filter fun o=>decide (o.1 ≠ "") || decide (k = "gate" \/k = "stop")
def W5(k nm en:Str):List S4:=(Zdo k en).map fun o=>(nm,en,o.1,o.2)
def Yb2:Sp:=fun vs H Q _=>∃(t:Addr) (q:S4),vs=[.ref t]/\Y6 H t q/\∀t' H',Same H H'->H t'=none->Zq H' t' (q.1,q.2.2.1)->Q (.ref t') H'
theorem Zj5(T:Tx K mg):Zy P w K mg base CX0 1 T.aC.f T.aC.fd ["step"] Yb2:=by
 refine T.aC.F.okW Zkl fun b7 A outer s H vs Q E hr h=>?_
 ·obtain ⟨t,q4,rfl,ht,q⟩:=h;intro X;exact WSs.last (Zl (Zi (Zb (Zn (K:=K) rfl (pv 0) Zd) (Zb (Zn (K:=K) rfl (pv 0) Zd) Za)))) (exR rfl (ixT ht 0 rfl (exR rfl (ixT ht 2 rfl ⟨szA,q⟩))))
theorem Zff(T:Tx K mg){k:Nat}(h:1<=k:=by decide):Zy P w K mg base CX0 k T.aC.f T.aC.fd ["step"] Yb2:=(Zj5 T).mono h
def Xw(sg:List (Str×Str×Str))(q:S4):Bool:=decide (q.2.2.1 = "") || decide (((q.1,q.2.2.1):Zc)∈sg.map Prod.snd)
def Ybj(T:Tx K mg):Sp:=fun vs H Q _=>∃(x t:Addr) (q:S4) (ps:List Zc) (js:List (Zc×Zc)) (sg:List (Str×Str×Str)),vs=[.ref x,.ref t]/\Ys T H x ps js sg/\Yp ps js sg/\Y6 H t q/\∀H',Same H H'->Q (.bl (Xw sg q)) H'
theorem Zqk{s:Str}(h:Wi s):s ≠ "" :=fun z=>by
 have:=h.1;rw [z] at this;exact absurd this (by decide)
theorem Zkp(T:Tx K mg):Zy P w K mg base CX0 4 T.aD.f T.aD.fd ["tracks", "step"] (Ybj T):=by
 refine T.aD.F.okW Zj2 fun b7 A outer s H vs Q E hr h=>?_
 ·obtain ⟨x,t,q4,ps,js,sg,rfl,tr,yv,ht,q⟩:=h;intro X;obtain ⟨dx,_,_,_,_,_,_,_,_,h1,_⟩:=tr.ex;refine WSs.last (Zl (Zy0 (W7 (r:=Wo K) (Wv hr) (Zn (K:=K) rfl (pv 1) Zd) Ze (Z0 _)) (Zgw (W7 (r:=Zfg K) (Zhf hr) (Za5 (pv 0) T.ae T.cg (Ze4 T) hr T.aq.b .nil Z2 (Zb (Zr (Zff T) hr rfl T.ci T.aC.F.kp T.aC.b .nil Z2 (Zb (pv 1) Za)) Za)) Ze (Z0 _))))) (exR rfl (ixT ht 2 rfl (.inl ⟨rfl,_,rfl,Ye (fun z=>?_) (fun z=>?_)⟩)))
  ·have z:q4.2.2.1 = "" :=V.str.inj (of_decide_eq_true z);have e:Xw sg q4=true:=by unfold Xw;rw [decide_eq_true z];rfl
   rw [e] at q;exact q H (Same.refl _)
  ·have z:¬q4.2.2.1 = "" :=fun y=>z (decide_eq_true (by rw [y]))
   refine (exR rfl ⟨x,dx,_,rfl,h1,rfl,_,rfl,t,q4,rfl,ht,fun t' H1 s1 n1 e1=>⟨x,t',_,ps,js,sg,rfl,tr.mono s1,yv,e1,fun nm hn=>.inl ⟨rfl,?_⟩⟩⟩);have e:Xw sg q4=!decide (V.str nm=V.str ""):=by
    unfold Xw;rw [decide_eq_false z];rcases hn with ⟨_,hn,hm⟩|⟨hn,hm⟩
    ·rw [decide_eq_true hm,decide_eq_false fun y=>Zqk hn (V.str.inj y)];rfl
    ·rw [decide_eq_false hm,hn];rfl
   rw [<-e];exact q H1 s1
theorem Zfe(T:Tx K mg){k:Nat}(h:4<=k:=by decide):Zy P w K mg base CX0 k T.aD.f T.aD.fd ["tracks", "step"] (Ybj T):=(Zkp T).mono h
theorem Zv3:∀k∈Xn,∀en∈Z6 k,(Zdo k en).length<2\/Zdo k en=[(("left" :Str),("left" :Str)),(("right" :Str),("right" :Str))]:=by trivial
theorem Zji:("right" :Str) ≠ "left" /\¬("right" :Str).cps.toList<("left" :Str).cps.toList:=by trivial
theorem Zmf(k:Str):(Zbq k).length<=2:=by unfold Zbq;split <;>decide
theorem Y6.off{H:Hp}{c t:Addr}{o:HO}{xs:List V}{q:S4}(h:Y6 H t q)(hc:H c=some (.lst xs)):Y6 (upd H c o) t q:=by
 unfold Y6 at h ⊢;exact (Zh fun z=>by rw [z,hc] at h;cases h).trans h
def Zyo(T:Tx K mg):Sp:=fun vs H Q _=>∃(x t:Addr) (nm en:Str) (ps:List Zc) (js:List (Zc×Zc)) (sg:List (Str×Str×Str)),vs=[.ref x,.ref t]/\Ys T H x ps js sg/\Yp ps js sg/\Zq H t (nm,en) /\
 ((∃k,((k,nm):Zc)∈ps/\en∈Z6 k/\∀l H',Same H H'->H l=none->Zfi H' l (W5 k nm en)->Q (.ref l) H')\/(((nm,en):Zc)∉Z7 ps/\∀l H',Same H H'->H l=none->H' l=some (.lst [])->Q (.ref l) H'))
theorem Zn4{ps:List Zc}{k nm en:Str}(h:((k,nm):Zc)∈ps)(he:en∈Z6 k):((nm,en):Zc)∈Z7 ps:=List.mem_flatMap.mpr ⟨(k,nm),h,List.mem_map.mpr ⟨en,he,rfl⟩⟩
theorem Ztd{ps:List Zc}{js:List (Zc×Zc)}{sg:List (Str×Str×Str)}(yv:Yp ps js sg){e:Zc}(h:e∈Z7 ps):e.1 ≠ "" :=by
 obtain ⟨p,hp,hm⟩:=List.mem_flatMap.mp h;obtain ⟨x,_,rfl⟩:=List.mem_map.mp hm;exact Zqk (yv.name p hp)
theorem Zj8(T:Tx K mg):Zy P w K mg base CX0 4 T.aT.f T.aT.fd ["tracks", "end"] (Zyo T):=by
 refine T.aT.F.okW We fun b7 A outer s H vs Q E hr h=>?_
 ·obtain ⟨x,t,nm,en,ps,js,sg,rfl,tr,yv,ht,q⟩:=h;intro X;obtain ⟨dx,_,_,_,_,_,_,_,_,h1,_⟩:=tr.ex;have imP:∀{H':Hp} {u:Addr} {e:Zc},Zq H' u e->Im K H' 1 (trP e) (.ref u):=fun {H' u e} h=>Im.tup (n:=0) (SqT.of h) (.cons (.str _) (.cons (.str _) .nil))
  have imN:∀H':Hp,Im K H' 1 (trP ("", "")) (.ref T.bY):=fun H'=>Im.tup (n:=0) (T.eI H') (.cons (.str _) (.cons (.str _) .nil))
  rcases q with ⟨k,hm,B4,q⟩|⟨hm,q⟩
  ·have D4:=yv.net.kind _ hm;refine WSs.step (Z8 (Zm (r:=Wo K) (Wv hr) (Za5 (pv 0) T.ae T.bO (Zax T) hr T.ap.b .nil Z2 (Zb (pv 1) Za)) (Zfl (v:=.ref T.bY) (by rfl) T.ej rfl) (Z0 _)) Zv Zs) (exR rfl ⟨x,dx,_,rfl,h1,rfl,_,rfl,x,t,(nm,en),ps,js,sg,rfl,tr,yv,ht,.inl ⟨Zn4 hm B4,fun t' e' V6 ht'=>.inr (.inl ⟨1,trP e',trP ("", ""),by decide,.inl ⟨_,_,rfl,rfl⟩,imP ht',imN _,_,rfl,Ye (fun z=>?_) (fun _=>?_)⟩)⟩⟩)
   ·have z:trP e'=trP ("", ""):=of_decide_eq_true z;have e1:e'∈Z7 ps:=yv.net.flat.mem_iff.mp (by
     obtain ⟨j,hj,hx⟩:=List.mem_flatMap.mp V6;refine List.mem_flatMap.mpr ⟨j,hj,?_⟩;simp only [List.mem_cons,Prod.mk.injEq,List.mem_nil_iff,or_false] at hx ⊢;rcases hx with ⟨_,y⟩|⟨_,y⟩
     ·exact .inr y
     ·exact .inl y)
    exact absurd (by rw [Zq4 z]) (Ztd yv e1)
   refine WSs.step (Zz (i:=2) We.nd (Zn (K:=K) rfl (pv 1) Zd)) (exR rfl (ixT ht 0 rfl ?_));refine WSs.step (Zz (i:=3) We.nd (Zn (K:=K) rfl (pv 1) Zd)) (exR rfl (ixT ht 1 rfl ?_));refine WSs.step (Zz (i:=4) We.nd (Za5 (pv 0) T.ae T.cQ (Ziz T) hr T.aR.b .nil Z2 (Zb (pv 2) Za))) (exR rfl ⟨x,dx,_,rfl,h1,rfl,_,rfl,x,nm,k,ps,js,sg,rfl,tr,yv,hm,fun y C H1 s1 hC hO=>?_⟩);obtain ⟨dy,hy⟩:=id hO;obtain ⟨f1,d1,m1,b1,g1⟩:=hC.lies;refine WSs.step (Wq (i:=5) (N':=["lie", "name", "entry", "part"]) We.nd rfl (Or.inl rfl) rfl (Z5.std 1 [2,3,4] rfl (by trivial) (by trivial) rfl ⟨rfl,rfl,rfl,trivial⟩ rfl rfl ⟨(exR rfl ⟨rfl,rfl⟩),(exR rfl ⟨rfl,rfl⟩),(exR rfl ⟨rfl,rfl⟩),trivial⟩) (Ym Zto) (fun _ _ _ _=>(Zan (i:=0) (by show (["lie", "name", "entry", "part"]:List Str).Nodup;decide +kernel))) (fun _ _ _ _=>Wl) (fun _ _ _ _=>(Zi (Zb (pv 1) (Zb (pv 2) (Zb (Za5 (pv 3) hC.cls.1 hC.cls.2.2 (Zlu T) hr T.ak.b .nil Z2 (Zb (pv 2) (Zb (pv 0) Za))) (Zb (pv 0) Za))))))) (WE.of (Zdv (pv 4) hC.cls.1 m1 (g1 _ _ _ 3 (by decide)) hr b1 .nil Z2) (exR rfl ⟨y,dy,_,rfl,hy,rfl,_,rfl,fun p H2 s2 n2 e2=>⟨p,rfl,⟨_,SqL.of e2⟩,fun D hD=>Xr (K:=K) (xs:=(Zbq k).map V.str) (fun i ys H'=>(∃ts:List Addr,ys=ts.map V.ref/\Paired (Y6 H') ts (((Zbq k).take i).map fun i7=>(nm,en,Xc k en i7,i7)))/\H' D=some (.lst ys)/\Same H2 H') ⟨⟨[],rfl,.nil⟩,Zf,Same.new hD⟩ ?_ ?_ ?_⟩⟩))
   ·rintro i ys H' _ ⟨_,_,sm⟩;exact SqL.of (sm.at e2)
   ·rintro i v ys H' hi ⟨⟨ts,rfl,d7⟩,A4,sm⟩;rw [List.getElem?_map] at hi;obtain ⟨i7,hl,rfl⟩:=Option.map_eq_some_iff.mp hi;have d6:ts.length<=2:=by
     have h1:=Paired.length d7;have h2:=Zmf k;rw [List.length_map,List.length_take] at h1;lia
    have K0:=sm.at (s2.at hy);refine ⟨X5.set rfl,_,rfl,_,rfl,_,rfl,y,dy,_,rfl,K0,rfl,_,rfl,_,rfl,k,y,C,nm,en,i7,rfl,hC,⟨dy,K0⟩,fun H3 s3=>⟨_,rfl,szA,fun t3 H4 s4 n4 e4=>⟨s4.at (s3.at A4),by rw [List.length_map];exact Zw (by lia),⟨ts++[t3],by rw [List.map_append];rfl,?_⟩,Zf,?_⟩⟩⟩
    ·rw [List.take_add_one,hl,List.map_append];refine Paired.append (Paired.mapP d7 fun _ _ r=>Y6.off ((r.mono s3).mono s4) (s4.at (s3.at A4))) (.cons (Y6.off e4 (s4.at (s3.at A4))) .nil)
    ·intro b o z;rw [Zh (Zj z hD)];exact s4.at (s3.at (sm.at z))
   ·rintro ys H3 ⟨⟨ts,rfl,d7⟩,hD3,s3⟩;rw [List.length_map,List.take_length] at d7;have hO3:Zdy H3 C y nm:=(hO.mono s2).mono s3;have hlts:=Paired.length d7;have J9:=Zmf k;rw [List.length_map] at hlts;refine WSs.last (Zl (Zu (r:=Zqt K) Znk (by rfl) T.cS PyProof.Rows.boot_sorted (Zb (Xu (N':=["step", "part"]) rfl (Z5.std 1 [4] rfl (by trivial) (by trivial) rfl ⟨rfl,trivial⟩ rfl rfl ⟨(exR rfl ⟨rfl,rfl⟩),trivial⟩) (Ym (pv 5)) (fun _ _ _ _=>(Zan (i:=0) (by show (["step", "part"]:List Str).Nodup;decide +kernel))) (fun _ _ _ _=>(Ze8 (PW.pt (Zda (Zm (r:=Zfg K) (Zhf hr) (Zn (K:=K) rfl (pv 0) Zd) Ze (Z0 _)) (Zbl (Xb (Zu (r:=Zkg K) X6 (by rfl) T.aK PyProof.Rows.boot_isinstance (Zb (pv 1) (Zb (Zfl (v:=.ref T.bA) (by rfl) T.eU rfl) Za))))))))) (fun _ _ _ _=>(pv 0))) Za))) (exR rfl ⟨D,rfl,⟨_,SqL.of hD3⟩,fun D2 p7=>Xr (K:=K) (xs:=ts.map V.ref) (fun i ys H'=>(∃us:List Addr,ys=us.map V.ref/\Paired (Y6 H3) us ((((Zbq k).take i).map fun i7=>(nm,en,Xc k en i7,i7)).filter fun s=>decide (s.2.2.1 ≠ "") || decide (k = "gate" \/k = "stop")))/\H' D2=some (.lst ys)/\Same H3 H') ⟨⟨[],rfl,.nil⟩,Zf,Same.new p7⟩ ?_ ?_ ?_⟩)
    ·rintro i ys H' _ ⟨_,_,sm⟩;exact SqL.of (sm.at hD3)
    ·rintro i v ys H4 hi ⟨⟨us,rfl,i4⟩,U4,s4⟩;rw [List.getElem?_map] at hi;obtain ⟨t4,R6,rfl⟩:=Option.map_eq_some_iff.mp hi;obtain ⟨q4,hq4,ht4⟩:=Paired.get d7 R6;rw [List.getElem?_map] at hq4;obtain ⟨i7,hl,rfl⟩:=Option.map_eq_some_iff.mp hq4;obtain ⟨ty,hty,hkit⟩:=hC.stop (hO3.mono s4);have d6:us.length<=2:=by
      have h1:=Paired.length i4;have h2:=List.length_filter_le (fun s:S4=>decide (s.2.2.1 ≠ "") || decide (k = "gate" \/k = "stop")) (((Zbq k).take i).map fun i7=>(nm,en,Xc k en i7,i7));rw [List.length_map,List.length_take] at h2;lia
     have keep:∀b:Bool,(decide (Xc k en i7 ≠ "") || decide (k = "gate" \/k = "stop"))=b->(if b=true then H4 D2=some (.lst (us.map V.ref))/\(us.map V.ref).length<sizeLine/\(∃us':List Addr,us.map V.ref++[.ref t4]=us'.map V.ref/\Paired (Y6 H3) us' ((((Zbq k).take (i+1)).map fun i7=>(nm,en,Xc k en i7,i7)).filter fun s=>decide (s.2.2.1 ≠ "") || decide (k = "gate" \/k = "stop")))/\upd H4 D2 (.lst (us.map V.ref++[.ref t4])) D2=some (.lst (us.map V.ref++[.ref t4]))/\Same H3 (upd H4 D2 (.lst (us.map V.ref++[.ref t4]))) else (∃us':List Addr,us.map V.ref=us'.map V.ref/\Paired (Y6 H3) us' ((((Zbq k).take (i+1)).map fun i7=>(nm,en,Xc k en i7,i7)).filter fun s=>decide (s.2.2.1 ≠ "") || decide (k = "gate" \/k = "stop")))/\H4 D2=some (.lst (us.map V.ref))/\Same H3 H4):=by
      intro b hb;rw [List.take_add_one,hl,List.map_append,List.filter_append];cases b with
      | true =>
       refine Zhy ⟨U4,by rw [List.length_map];exact Zw (by lia),⟨us++[t4],by rw [List.map_append];rfl,Paired.append i4 ?_⟩,Zf,fun b o z=>?_⟩
       ·have:List.filter (fun s:S4=>decide (s.2.2.1 ≠ "") || decide (k = "gate" \/k = "stop")) ((some i7).toList.map fun i7=>(nm,en,Xc k en i7,i7))=[(nm,en,Xc k en i7,i7)]:=List.filter_cons_of_pos (by show (decide (Xc k en i7 ≠ "") || decide (k = "gate" \/k = "stop"))=true;exact hb);rw [this];exact .cons ht4 .nil
       ·rw [Zh (Zj z p7)];exact s4.at z
      | false =>
       refine Zp0 ⟨⟨us,rfl,?_⟩,U4,s4⟩;have:List.filter (fun s:S4=>decide (s.2.2.1 ≠ "") || decide (k = "gate" \/k = "stop")) ((some i7).toList.map fun i7=>(nm,en,Xc k en i7,i7))=[]:=List.filter_cons_of_neg (by show ¬(decide (Xc k en i7 ≠ "") || decide (k = "gate" \/k = "stop"))=true;rw [hb];decide);rw [this,List.append_nil];exact i4
     refine ⟨X5.set rfl,_,rfl,(ixT (s4.at ht4) 2 rfl (.inl ⟨rfl,_,rfl,Ye (fun z=>?_) (fun z=>⟨_,rfl,_,_,_,ty,rfl,hty,.inr ⟨_,rfl,hkit⟩,_,rfl,?_⟩)⟩))⟩
     ·have kt:=keep true (by
       have:Xc k en i7 ≠ "" :=fun y=>by
        have y:V.str (Xc k en i7)=V.str "" :=by rw [y]
        rw [decide_eq_true y] at z;exact absurd z (by decide)
       rw [decide_eq_true this];rfl)
      rw [if_pos rfl] at kt;exact Zhy ⟨_,rfl,kt⟩
     ·have y:Xc k en i7 = "" :=by
       by_cases y:Xc k en i7 = ""
       ·exact y
       ·rw [decide_eq_false fun w=>y (V.str.inj w)] at z;exact absurd rfl z
      by_cases g:k = "gate" \/k = "stop"
      ·have kt:=keep true (by rw [decide_eq_true g,Bool.or_true]);rw [if_pos rfl] at kt;rw [decide_eq_true g] at kt ⊢;exact Zhy ⟨_,rfl,kt⟩
      ·have kt:=keep false (by rw [decide_eq_false g,decide_eq_false fun w=>w y];rfl);rw [if_neg (by decide)] at kt;rw [decide_eq_false g] at kt ⊢;exact Zp0 kt
    ·rintro ys H4 ⟨⟨us,rfl,i4⟩,U4,s4⟩;rw [List.length_map,hlts,List.take_length] at i4;have es:((Zbq k).map fun i7=>((nm,en,Xc k en i7,i7):S4)).filter (fun s:S4=>decide (s.2.2.1≠("" :Str)) || decide (k = "gate" \/k = "stop"))=W5 k nm en:=by
      unfold W5 Zdo;rw [List.filter_map,List.filter_map,List.map_map]
      rfl
     rw [es] at i4;have K5:=Paired.length i4;refine ⟨D2,us,rfl,U4,?_,fun l H5 s5 n5 e5=>q l H5 (s1.trans (s2.trans (s3.trans (s4.trans s5)))) (s1.free (s2.free (s3.free (s4.free n5)))) ⟨us,e5,Paired.mapP i4 fun _ _ r=>(r.mono s4).mono s5⟩⟩;rcases Zv3 k D4 en B4 with hf|hf
     ·unfold W5 at K5;rw [List.length_map] at K5;exact .inl (by lia)
     ·unfold W5 at i4;rw [hf] at i4;rcases i4 with _|⟨ha,_|⟨hb,⟨⟩⟩⟩
      exact .inr ⟨_,_,nm,en, "left", "left", "right", "right",rfl,s4.at ha,s4.at hb,Zji.1,Zji.2⟩
  ·refine WSs.step (Z8 (Zm (r:=Wo K) (Wv hr) (Za5 (pv 0) T.ae T.bO (Zax T) hr T.ap.b .nil Z2 (Zb (pv 1) Za)) (Zfl (v:=.ref T.bY) (by rfl) T.ej rfl) (Z0 _)) Zv Zs) (exR rfl ⟨x,dx,_,rfl,h1,rfl,_,rfl,x,t,(nm,en),ps,js,sg,rfl,tr,yv,ht,.inr ⟨hm,fun t' H1 s1 n1 e1=>.inr (.inl ⟨1,trP ("", ""),trP ("", ""),by decide,.inl ⟨_,_,rfl,rfl⟩,imP e1,imN _,_,rfl,Ye (fun _=>?_) (fun z=>absurd (decide_eq_true rfl) z)⟩)⟩⟩);exact WSs.last (Zl (Zk Za)) ⟨szA,fun l H2 s2 n2 e2=>q l H2 (s1.trans s2) (s1.free n2) e2⟩
theorem Zl3(T:Tx K mg){k:Nat}(h:4<=k:=by decide):Zy P w K mg base CX0 k T.aT.f T.aT.fd ["tracks", "end"] (Zyo T):=(Zj8 T).mono h
theorem Zdy.offL{H:Hp}{c x C:Addr}{o:HO}{xs:List V}{nm:Str}(h:Zdy H C x nm)(hc:H c=some (.lst xs)):Zdy (upd H c o) C x nm:=by
 obtain ⟨dx,h⟩:=h;exact ⟨dx,(Zh fun z=>by rw [z,hc] at h;cases h).trans h⟩
def Zgc(H:Hp)(t:Addr)(ps:List Zc)(js:List (Zc×Zc))(sg:List (Str×Str×Str)):Prop:=∃pl jl sl,H t=some (.tup [.ref pl,.ref jl,.ref sl])/\Zt H pl ps/\Yd H jl js/\Zav H sl sg
theorem Zgc.mono{H H':Hp}{t:Addr}{ps:List Zc}{js:List (Zc×Zc)}{sg:List (Str×Str×Str)}(e:Same H H')(h:Zgc H t ps js sg):Zgc H' t ps js sg:=let ⟨pl,jl,sl,h1,h2,h3,h4⟩:=h;⟨pl,jl,sl,e.at h1,h2.mono e,h3.mono e,h4.mono e⟩
def Zys(T:Tx K mg):Sp:=fun vs H Q _=>∃(t:Addr) (ps:List Zc) (js:List (Zc×Zc)) (sg:List (Str×Str×Str)),vs=[.ref t]/\Zgc H t ps js sg/\Yp ps js sg/\∀x H',Same H H'->H x=none->Ys T H' x ps js sg->Q (.ref x) H'
theorem Zjl(T:Tx K mg):Zy P w K mg base CX0 7 T.aQ.f T.aQ.fd ["_law_yard"] (Zys T):=by
 refine T.aQ.F.okW Zie fun b7 A outer s H vs Q E hr h=>?_
 ·obtain ⟨t,ps,js,sg,rfl,⟨pl,jl,sl,ht,⟨ts,j0,d7⟩,w4,F4⟩,yv,q⟩:=h;intro X;have A0:=Paired.length d7;have U6:=yv.len;refine WSs.last (Zl (Zbg (Zlm T) T.eF (Zf0 T) hr rfl T.eO T.ax.b .nil Z2 (Ztg T) (Zb (Xu (N':=["_law_kind", "_law_name"]) rfl (Z5.std 2 [] rfl (by trivial) (by trivial) rfl trivial rfl rfl trivial) (Ym (Zn (K:=K) rfl (pv 0) Zd)) (fun _ _ _ _=>(Zh9 (K:=K) (n:=2) rfl rfl (Z4 (Zan (i:=0) (by show (["_law_kind", "_law_name"]:List Str).Nodup;decide +kernel)) (Z4 (Zan (i:=1) (by show (["_law_kind", "_law_name"]:List Str).Nodup;decide +kernel)) Xl)))) (fun _ _ _ _=>Wl) (fun _ _ _ _=>(Zr (Zm8 T) hr rfl T.dX T.be.F.kp T.be.b .nil Z2 (Zb (pv 0) (Zb (pv 1) Za))))) (Zb (Zn (K:=K) rfl (pv 0) Zd) (Zb (Zn (K:=K) rfl (pv 0) Zd) Za))))) (exR rfl (ixT ht 0 rfl ⟨pl,rfl,⟨_,SqL.of j0⟩,fun D hD=>Xr (K:=K) (xs:=ts.map V.ref) (fun i ys H'=>(∃xs:List Addr,ys=xs.map V.ref/\Paired (PO T H') xs (ps.take i))/\H' D=some (.lst ys)/\Same H H') ⟨⟨[],rfl,.nil⟩,Zf,Same.new hD⟩ ?_ ?_ ?_⟩))
  ·rintro i ys H' _ ⟨_,_,sm⟩;exact SqL.of (sm.at j0)
  ·rintro i v ys H1 hi ⟨⟨xs,rfl,U5⟩,B7,s1⟩;rw [List.getElem?_map] at hi;obtain ⟨u,hu,rfl⟩:=Option.map_eq_some_iff.mp hi;obtain ⟨p,hp,hpu⟩:=Paired.get d7 hu;have hpu:H u=some (.tup [.str p.1,.str p.2]):=hpu;have hm:p∈ps:=List.mem_of_getElem? hp;have hxl:xs.length<=100:=by
    have:=Paired.length U5;rw [List.length_take] at this;lia
   refine ⟨u,_,rfl,SqT.of (s1.at hpu),rfl,_,_,rfl,_,_,rfl,rfl,(X5.set rfl).trans (X5.set rfl),_,rfl,_,rfl,p.1,p.2,rfl,yv.net.kind p hm,(yv.name p hm).2.1,fun x C H2 s2 n2 hC hO=>⟨s2.at B7,by rw [List.length_map];exact Zw (by lia),⟨xs++[x],by rw [List.map_append];rfl,?_⟩,Zf,fun b o z=>?_⟩⟩
   ·rw [List.take_add_one,hp];exact Paired.append (Paired.mapP U5 fun _ _ ⟨C,z1,z2⟩=>⟨C,z1,(z2.mono s2).offL (s2.at B7)⟩) (.cons ⟨C,hC,hO.offL (s2.at B7)⟩ .nil)
   ·rw [Zh (Zj z hD)];exact s2.at (s1.at z)
  ·rintro ys H1 ⟨⟨xs,rfl,U5⟩,B7,s1⟩;rw [List.length_map,A0,List.take_length] at U5;exact ⟨_,rfl,(ixT (s1.at ht) 1 rfl ⟨_,rfl,(ixT (s1.at ht) 2 rfl ⟨D,jl,sl,xs,ps,js,sg,rfl,B7,U5,w4.mono s1,F4.mono s1,yv,fun x H2 s2 n2 tr=>q x H2 (s1.trans s2) (s1.free n2) tr⟩)⟩)⟩
theorem Zj1(T:Tx K mg){k:Nat}(h:7<=k:=by decide):Zy P w K mg base CX0 k T.aQ.f T.aQ.fd ["_law_yard"] (Zys T):=(Zjl T).mono h
def RK:Str->Str->V->Prop:=fun _ k v=>v=.str k
def Zfs(a b c:Addr):List (Key×V):=[(Yc "kinds",.ref a),(Yc "joined",.ref b),(Yc "stands",.ref c)]
structure Zdf(H:Hp)(d:Addr)(ps:List Zc)(js:List (Zc×Zc))(sg:List (Str×Str×Str)):Prop where
 ex:∃(a b c:Addr) (kk:List (Key×V)) (kj D6:List (List Key×V)),H d=some (.dK (Zfs a b c))/\H a=some (.dK kk)/\DP Yc RK kk (qP ps)/\H b=some (.dT kj)/\DP Yj (RJ H) kj (qJ js)/\H c=some (.dT D6)/\DP Yj RO D6 (qO sg)
theorem Zdf.mono{H H':Hp}{d:Addr}{ps:List Zc}{js:List (Zc×Zc)}{sg:List (Str×Str×Str)}(e:Same H H')(h:Zdf H d ps js sg):Zdf H' d ps js sg:=by
 obtain ⟨a,b,c,kk,kj,D6,h1,h2,h3,h4,h5,h6,h7⟩:=h.ex;exact ⟨a,b,c,kk,kj,D6,e.at h1,e.at h2,h3,e.at h4,h5.mapR (RJ.mono e),e.at h6,h7⟩
def Zyl:Sp:=fun vs H Q _=>∃(t:Addr) (ps:List Zc) (js:List (Zc×Zc)) (sg:List (Str×Str×Str)),vs=[.ref t]/\Zgc H t ps js sg/\Yp ps js sg/\∀d H',Same H H'->H d=none->Zdf H' d ps js sg->Q (.ref d) H'
theorem Znj(T:Tx K mg):Zy P w K mg base CX0 1 T.bz.f T.bz.fd ["_law_yard"] Zyl:=by
 refine T.bz.F.okW Yy fun b7 A outer s H vs Q E hr h=>?_
 ·obtain ⟨t,ps,js,sg,rfl,⟨pl,jl,sl,ht,⟨ts,j0,d7⟩,⟨us,w4,i4⟩,⟨gs,F4,M6⟩⟩,yv,q⟩:=h;intro X;have A0:=Paired.length d7;have K5:=Paired.length i4;have hgl:=Paired.length M6;have U6:=yv.len;have jlen:=yv.net.jlen U6;have slen:=yv.sigs.len;have fnd:(Yq js).Nodup:=yv.net.flat.nodup_iff.mpr (Ws yv.net.nd);refine WSs.step (Zz (i:=1) Yy.nd Zd2) fun b H1 s1 n1 e1=>?_
  let I22:=fun (i:Nat) (σ:St) (H':Hp)=>(∃o2 o3,σ=[some (.ref t),some (.ref b),o2,o3,none,none,none,none,none,none])/\Same H H'/\∃kj,H' b=some (.dT kj)/\DP Yj (RJ H) kj (qJ (js.take i))
  refine WSs.step (Y8 PassesOwn.never rfl (Ym (Zn (K:=K) rfl (pv 0) Zd)) (Zaz rfl (Z4 (Yr (i:=2) Yy.nd) (Z4 (Yr (i:=3) Yy.nd) Xl))) Zv) (exR rfl (ixT (s1.at ht) 1 rfl ⟨jl,rfl,⟨_,SqL.of (s1.at w4)⟩,Xx (K:=K) (xs:=us.map V.ref) I22 ⟨⟨none,none,rfl⟩,s1,[],e1,.nil⟩ ?_ ?_ ?_⟩))
  ·rintro i σ H' _ ⟨_,s2,_⟩;exact SqL.of (s2.at w4)
  ·rintro i v σ H2 hi ⟨⟨o2,o3,rfl⟩,s2,kj,hb,hD⟩;rw [List.getElem?_map] at hi;obtain ⟨u,hui,rfl⟩:=Option.map_eq_some_iff.mp hi;obtain ⟨j,hj,a1,a2,hu,ha1,ha2⟩:=Paired.get i4 hui;have E5:=(List.getElem?_eq_some_iff.mp hj).1;have d6:kj.length<=600:=by
    have h1:=hD.len;rw [Zow,List.length_take] at h1;lia
   have N6:(Yq (js.take i)++[j.1]++[j.2]).Nodup:=by
    have h1:(Yq (js.take (i+1))).Nodup:=fnd.sublist (by
     have:Yq js=Yq (js.take (i+1))++Yq (js.drop (i+1)):=by rw [<-Za7,List.take_append_drop]
     rw [this];exact List.sublist_append_left _ _)
    rw [<-Wd,Zib hj,List.map_append,List.map_append,Wd] at h1;exact h1
   have nd1:j.1∉Yq (js.take i):=fun z=>(List.nodup_append.mp (List.nodup_append.mp N6).1).2.2 _ z _ List.mem_cons_self rfl
   have nd2:j.2∉Yq (js.take i)++[j.1]:=fun z=>(List.nodup_append.mp N6).2.2 _ z _ List.mem_cons_self rfl
   have v1:Yv kj (Yj j.1)=none:=hD.none Y0 (by rw [Wd];exact nd1);have B7:DP Yj (RJ H) (Ww kj (Yj j.1) (.ref a2)) (qJ (js.take i)++[(j.1,j.2)]):=hD.put v1 ⟨a2,rfl,ha2⟩;have T0:=Zal kj (Yj j.1) (.ref a2);have v3:Yv (Ww kj (Yj j.1) (.ref a2)) (Yj j.2)=none:=B7.none Y0 (by rw [List.map_append,Wd];exact nd2);refine ⟨u,_,rfl,SqT.of (s2.at hu),rfl,_,_,rfl,_,_,rfl,rfl,?_⟩;refine WSs.step (Za6 (Xi hr) (pv 1) (pv 2) (pv 3) rfl) (exR rfl (exR rfl (exR rfl ⟨b,_,rfl,Zev.t (k:=Yj j.1) hb (Zh5 (ha1.mono s2)) (Zw (by lia)),?_⟩)));have s3:Same H (upd H2 b (.dT (Ww kj (Yj j.1) (.ref a2)))):=s2.upd0 n1;refine WSs.last (Za6 (Xi hr) (pv 1) (pv 3) (pv 2) rfl) (exR rfl (exR rfl (exR rfl ⟨b,_,rfl,Zev.t (k:=Yj j.2) Zf (Zh5 (ha2.mono s3)) (Zw (by lia)),⟨_,_,rfl⟩,s3.upd0 n1,_,Zf,?_⟩)));rw [Zib hj];exact B7.put v3 ⟨a1,rfl,ha1⟩
  rintro σ H2 ⟨⟨o2,o3,rfl⟩,s2,kj,hb,hD⟩;rw [List.length_map,K5,List.take_length] at hD;refine WSs.step (Zz (i:=4) Yy.nd Zgl) fun a H3 s3 n3 e3=>?_
  have n3':=s2.free n3;have K1:=s2.trans s3;let I23:=fun (i:Nat) (σ:St) (H':Hp)=>(∃o5 o6,σ=[some (.ref t),some (.ref b),o2,o3,some (.ref a),o5,o6,none,none,none])/\Same H2 H'/\∃kk,H' a=some (.dK kk)/\DP Yc RK kk (qP (ps.take i))
  refine WSs.step (Y8 PassesOwn.never rfl (Ym (Zn (K:=K) rfl (pv 0) Zd)) (Zaz rfl (Z4 (Yr (i:=5) Yy.nd) (Z4 (Yr (i:=6) Yy.nd) Xl))) Zv) (exR rfl (ixT (K1.at ht) 0 rfl ⟨pl,rfl,⟨_,SqL.of (K1.at j0)⟩,Xx (K:=K) (xs:=ts.map V.ref) I23 ⟨⟨none,none,rfl⟩,s3,[],e3,.nil⟩ ?_ ?_ ?_⟩))
  ·rintro i σ H' _ ⟨_,s4,_⟩;exact SqL.of ((s2.trans s4).at j0)
  ·rintro i v σ H4 hi ⟨⟨o5,o6,rfl⟩,s4,kk,ha,hK⟩;rw [List.getElem?_map] at hi;obtain ⟨u,hui,rfl⟩:=Option.map_eq_some_iff.mp hi;obtain ⟨p,hp,hu⟩:=Paired.get d7 hui;have hu:H u=some (.tup [.str p.1,.str p.2]):=hu;have hn:Yv kk (Yc p.2)=none:=hK.none Zam (by
    rw [Zjf,List.map_take];exact Zd7 yv.net.nd (by rw [List.getElem?_map,hp];rfl))
   have Q9:kk.length<=100:=by
    have:=hK.len;unfold qP at this;rw [List.length_map,List.length_take] at this;lia
   refine ⟨u,_,rfl,SqT.of ((s2.trans s4).at hu),rfl,_,_,rfl,_,_,rfl,rfl,?_⟩;refine WSs.last (Za6 (Xi hr) (pv 4) (pv 6) (pv 5) rfl) (exR rfl (exR rfl (exR rfl ⟨a,_,rfl,Zev.k (k:=Yc p.2) ha (Zw (by lia)),⟨_,_,rfl⟩,s4.upd0 n3,_,Zf,?_⟩)));have:qP (ps.take (i+1))=qP (ps.take i)++[(p.2,p.1)]:=by
    unfold qP;rw [List.take_add_one,hp,List.map_append]
    rfl
   rw [this];exact hK.put hn rfl
  rintro σ H4 ⟨⟨o5,o6,rfl⟩,s4,kk,ha,hK⟩;rw [List.length_map,A0,List.take_length] at hK;refine WSs.step (Zz (i:=7) Yy.nd Zd2) fun c H5 s5 n5 e5=>?_
  have O1:=s2.trans s4;have s05:=O1.trans s5;let I24:=fun (i:Nat) (σ:St) (H':Hp)=>(∃o6 o8 o9,σ=[some (.ref t),some (.ref b),o2,o3,some (.ref a),o5,o6,some (.ref c),o8,o9])/\Same H4 H'/\∃D6,H' c=some (.dT D6)/\DP Yj RO D6 (qO (sg.take i))
  refine WSs.step (Y8 PassesOwn.never rfl (Ym (Zn (K:=K) rfl (pv 0) Zd)) (Zaz rfl (Z4 (Yr (i:=6) Yy.nd) (Z4 (Yr (i:=8) Yy.nd) (Z4 (Yr (i:=9) Yy.nd) Xl)))) Zv) (exR rfl (ixT (s05.at ht) 2 rfl ⟨sl,rfl,⟨_,SqL.of (s05.at F4)⟩,Xx (K:=K) (xs:=gs.map V.ref) I24 ⟨⟨_,_,_,rfl⟩,s5,[],e5,.nil⟩ ?_ ?_ ?_⟩))
  ·rintro i σ H' _ ⟨_,s6,_⟩;exact SqL.of ((O1.trans s6).at F4)
  ·rintro i v σ H6 hi ⟨⟨o6',o8,o9,rfl⟩,s6,D6,hc,hS⟩;rw [List.getElem?_map] at hi;obtain ⟨u,hui,rfl⟩:=Option.map_eq_some_iff.mp hi;obtain ⟨⟨g1,g2,g3⟩,hg,hu⟩:=Paired.get M6 hui;have hu:H u=some (.tup [.str g1,.str g2,.str g3]):=hu;have hn:Yv D6 (Yj (g2,g3))=none:=hS.none Y0 (by
    rw [Zgu,List.map_take];exact Zd7 yv.sigs.one (by rw [List.getElem?_map,hg];rfl))
   have Q9:D6.length<=100:=by
    have:=hS.len;unfold qO at this;rw [List.length_map,List.length_take] at this;lia
   refine ⟨u,_,rfl,SqT.of ((O1.trans s6).at hu),rfl,_,_,rfl,_,_,rfl,_,_,rfl,rfl,?_⟩;refine WSs.last (Za6 (Xi hr) (pv 7) (Zi (Zb (pv 8) (Zb (pv 9) Za))) (pv 6) rfl) (exR rfl (exR rfl (exR rfl (exR rfl ⟨szA,fun te H7 s7 n7 e7=>⟨c,_,rfl,Zev.t (k:=Yj (g2,g3)) (s7.at hc) e7 (Zw (by lia)),⟨_,_,_,rfl⟩,(s6.trans s7).upd0 n5,_,Zf,?_⟩⟩))));have:qO (sg.take (i+1))=qO (sg.take i)++[((g2,g3),g1)]:=by
    unfold qO;rw [List.take_add_one,hg,List.map_append]
    rfl
   rw [this];exact hS.put hn rfl
  rintro σ H6 ⟨⟨o6',o8,o9,rfl⟩,s6,D6,hc,hS⟩;rw [List.length_map,hgl,List.take_length] at hS;refine WSs.last (Zl (Zq8 (Zbn Ze (pv 4) (Zbn Ze (pv 1) (Zbn Ze (pv 7) Zra))) rfl rfl (by simp) (by show 3<=15;decide))) fun d hd=>?_
  refine (exR rfl (exR rfl (exR rfl ⟨Zf,(Zfs a b c),rfl,(by show 3<=15;decide),?_⟩)));have ne:Yc "joined" ≠ Yc "kinds" /\Yc "stands" ≠ Yc "kinds" /\Yc "stands" ≠ Yc "joined" :=by trivial
  have em:Zcw [] (Zfs a b c)=(Zfs a b c):=by
   show Ww (Ww (Ww [] (Yc "kinds") _) (Yc "joined") _) (Yc "stands") _=_;rw [Zds _ rfl,Zds _ (Yz (fun z=>ne.1 z.symm)),Zds _ (by
    show Yv [(Yc "kinds",V.ref a),(Yc "joined",V.ref b)] (Yc "stands")=none;rw [Yz (fun z=>ne.2.1 z.symm),Yz (fun z=>ne.2.2 z.symm)]
    rfl)]
   rfl
  rw [em,Zlw];have s46:=s6;have sE:Same H6 (upd H6 d (.dK (Zfs a b c))):=Same.new hd;exact q d _ ((O1.trans s6).trans sE) ((O1.trans s6).free hd) ⟨a,b,c,kk,kj,D6,Zf,sE.at (s6.at ha),hK,sE.at (s6.at (s4.at hb)),hD.mapR (RJ.mono ((O1.trans s6).trans sE)),sE.at hc,hS⟩
theorem Zpc(T:Tx K mg){k:Nat}(h:1<=k:=by decide):Zy P w K mg base CX0 k T.bz.f T.bz.fd ["_law_yard"] Zyl:=(Znj T).mono h
theorem Zwb{κ:Type}[DecidableEq κ]{l:List (κ×V)}{k:κ}(h:k∉l.map (·.1)):Yv l k=none:=by
 cases e:Yv l k with
 | none=>rfl
 | some v=>exact absurd (Zxv e) h
theorem Zk7:∀(l K8:List (Key×V)),((K8++l).map (·.1)).Nodup->Zcw K8 l=K8++l
 | [],K8,_=>by rw [List.append_nil];rfl
 | p ::l,K8,h=>by
  have hn:Yv K8 p.1=none:=Zwb fun m=>by
   rw [List.map_append,List.nodup_append] at h;exact h.2.2 _ m _ List.mem_cons_self rfl
  show Zcw (Ww K8 p.1 p.2) l=_;rw [Zds _ hn,Zk7 l _ (by rw [List.append_assoc];exact h),List.append_assoc]
  rfl
def swK:List (Key×V):=[(Yc "a",.str "b"),(Yc "b",.str "a"),(Yc "c",.str "d"),(Yc "d",.str "c")]
def sw(en:Str):Str:=if en = "a" then "b" else if en = "b" then "a" else if en = "c" then "d" else "c"
theorem Yal:(swK.map (·.1)).Nodup:=by
 show ([Yc "a",Yc "b",Yc "c",Yc "d"]:List Key).Nodup
 decide +kernel
theorem Yax:∀en∈[("a" :Str), "b", "c", "d"],Yv swK (Yc en)=some (.str (sw en)):=by
 intro en h;have ne:Yc "a" ≠ Yc "b" /\Yc "a" ≠ Yc "c" /\Yc "a" ≠ Yc "d" /\Yc "b" ≠ Yc "c" /\Yc "b" ≠ Yc "d" /\Yc "c" ≠ Yc "d" :=by trivial
 have sws:sw "a" = "b" /\sw "b" = "a" /\sw "c" = "d" /\sw "d" = "c" :=by trivial
 simp only [List.mem_cons,List.mem_nil_iff,or_false] at h;unfold swK;rcases h with rfl|rfl|rfl|rfl
 ·rw [X2 rfl,sws.1]
 ·rw [Yz ne.1,X2 rfl,sws.2.1]
 ·rw [Yz ne.2.1,Yz ne.2.2.2.1,X2 rfl,sws.2.2.1]
 ·rw [Yz ne.2.2.1,Yz ne.2.2.2.2.1,Yz ne.2.2.2.2.2,X2 rfl,sws.2.2.2]
theorem Zr5:Zdo "points" "stem" =[(("left" :Str),("left" :Str)),(("right" :Str),("right" :Str))]:=by trivial
theorem Zsq:∀en∈Z6 "points",en ≠ "stem" ->Zdo "points" en=[(("stem" :Str),en)]:=by trivial
theorem Zsw:∀k∈[("stop" :Str), "gate"],∀en∈Z6 k,Zdo k en=[(("" :Str),("" :Str))]:=by trivial
theorem Zw8:∀k∈Xn,k ≠ "points" ->k∉[("stop" :Str), "gate"]->∀en∈Z6 k,Zdo k en=[(sw en,("" :Str))]/\en∈[("a" :Str), "b", "c", "d"]:=by trivial
def Zye:Sp:=fun vs H Q _=>∃k en:Str,vs=[.str k,.str en]/\k∈Xn/\en∈Z6 k/\∀p H',Same H H'->H p=none->Zyd H' p (Zdo k en)->Q (.ref p) H'
theorem Zkf(T:Tx K mg):Zy P w K mg base CX0 1 T.aX.f T.aX.fd ["_law_kind", "_law_end"] Zye:=by
 refine T.aX.F.okW Zkq fun b7 A outer s H vs Q E hr h=>?_
 ·obtain ⟨k,en,rfl,hk,B4,q⟩:=h;intro X;have se:∀{a b:Str},decide (V.str a=V.str b)=true->a=b:=fun z=>V.str.inj (of_decide_eq_true z)
  have sn:∀{a b:Str},¬decide (V.str a=V.str b)=true->a≠b:=fun z y=>z (decide_eq_true (by rw [y]))
  let I25:=fun (σ:St) (H':Hp)=>σ=[some (.str k),some (.str en)]/\H'=H/\¬(k = "points" /\en = "stem")
  refine WSs.cut I25 ?_ ?_
  ·refine WS.of (Z8 (PW.pt (Zmp (Zm (r:=Wo K) (Wv hr) (pv 0) Ze (Z0 _)) (Zia (Zm (r:=Wo K) (Wv hr) (pv 1) Ze (Z0 _))))) Zv Zs) (exR rfl (.inl ⟨rfl,_,rfl,Ye (fun z=>(exR rfl (.inl ⟨rfl,_,rfl,Ye (fun z2=>?_) (fun z2=>⟨rfl,rfl,fun y=>sn z2 y.2⟩)⟩))) (fun z=>⟨rfl,rfl,fun y=>sn z y.1⟩)⟩));refine WSs.last (Zl (Zk (Zb (Zi (Zb Ze (Zb Ze Za))) (Zb (Zi (Zb Ze (Zb Ze Za))) Za)))) ⟨szA,fun p1 H1 s1 n1 e1=>⟨szA,fun p2 H2 s2 n2 e2=>⟨szA,fun p3 H3 s3 n3 e3=>q p3 H3 (s1.trans (s2.trans s3)) (s1.free (s2.free n3)) ?_⟩⟩⟩;rw [se z,se z2,Zr5];exact ⟨[p1,p2],e3,.cons (s3.at (s2.at e1)) (.cons (s3.at e2) .nil)⟩
  rintro σ H1 ⟨rfl,hH,hps⟩;rw [hH];refine WSs.step (Z8 (Zm (r:=Wo K) (Wv hr) (pv 0) Ze (Z0 _)) Zv Zs) (exR rfl (.inl ⟨rfl,_,rfl,Ye (fun z=>?_) (fun z=>?_)⟩))
  ·refine WSs.last (Zl (Zk (Zb (Zi (Zb Ze (Zb (pv 1) Za))) Za))) (exR rfl ⟨szA,fun p1 H1 s1 n1 e1=>⟨szA,fun p2 H2 s2 n2 e2=>q p2 H2 (s1.trans s2) (s1.free n2) ?_⟩⟩);have hkp:=se z;rw [hkp] at B4 ⊢;rw [Zsq en B4 fun y=>hps ⟨hkp,y⟩];exact ⟨[p1],e2,.cons (s2.at e1) .nil⟩
  have hkp:=sn z;refine WSs.step (Z8 (Zm (r:=Zhp K) (Zj0 hr) (pv 0) (Zk (Zb Ze (Zb Ze Za))) (by with_unfolding_all rfl)) Zv Zs) (exR rfl ⟨szA,fun l H2 s2 n2 e2=>.inl ⟨l,_,rfl,.inl (SqL.of e2),rfl,rfl,_,rfl,?_⟩⟩);have ein:inV (.str k) [.str "stop",.str "gate"]=decide (k∈[("stop" :Str), "gate"]):=Zaq k ["stop", "gate"];rw [if_neg (by decide),ein];refine Ye (fun z=>?_) (fun z=>?_)
  ·have z:=of_decide_eq_true z;refine WSs.last (Zl (Zk (Zb (Zi (Zb Ze (Zb Ze Za))) Za))) ⟨szA,fun p1 H3 s3 n3 e3=>⟨szA,fun p2 H4 s4 n4 e4=>q p2 H4 (s2.trans (s3.trans s4)) (s2.free (s3.free n4)) ?_⟩⟩;rw [Zsw k z en B4];exact ⟨[p1],e4,.cons (s4.at e3) .nil⟩
  ·have z:k∉[("stop" :Str), "gate"]:=fun y=>z (decide_eq_true y)
   obtain ⟨ho,he4⟩:=Zw8 k hk hkp z en B4;refine WSs.last (Zl (Zk (Zb (Zi (Zb (Xm (Xi hr) (Zq8 (Zbn Ze Ze (Zbn Ze Ze (Zbn Ze Ze (Zbn Ze Ze Zra)))) rfl rfl (by simp) (by show 4<=15;decide)) (pv 1) (fun _ _=>rfl)) (Zb Ze Za))) Za))) fun d hd=>⟨Zf,swK,rfl,(by show 4<=15;decide),_,rfl,d,_,rfl,by rw [Zk7 swK [] Yal,Zlw,<-Yax en he4];exact Xy.k (k:=Yc en) Zf,szA,fun p1 H3 s3 n3 e3=>⟨szA,fun p2 H4 s4 n4 e4=>?_⟩⟩
   rw [Zlw] at s3;have sd:Same H2 (upd H2 d (.dK (Zcw [] swK))):=Same.new hd;refine q p2 H4 (s2.trans (sd.trans (s3.trans s4))) (s2.free (sd.free (s3.free n4))) ?_;rw [ho];exact ⟨[p1],e4,.cons (s4.at e3) .nil⟩
theorem Zl5(T:Tx K mg){k:Nat}(h:1<=k:=by decide):Zy P w K mg base CX0 k T.aX.f T.aX.fd ["_law_kind", "_law_end"] Zye:=(Zkf T).mono h
theorem Zfd(a b c:Addr):Yv (Zfs a b c) (Yc "kinds")=some (.ref a)/\Yv (Zfs a b c) (Yc "joined")=some (.ref b)/\Yv (Zfs a b c) (Yc "stands")=some (.ref c):=by
 have ne:Yc "kinds" ≠ Yc "joined" /\Yc "kinds" ≠ Yc "stands" /\Yc "joined" ≠ Yc "stands" :=by trivial
 unfold Zfs;exact ⟨X2 rfl,by rw [Yz ne.1,X2 rfl],by rw [Yz ne.2.1,Yz ne.2.2,X2 rfl]⟩
def Zvj:Sp:=fun vs H Q _=>∃(d t:Addr) (k nm en:Str) (ps:List Zc) (js:List (Zc×Zc)) (sg:List (Str×Str×Str)),vs=[.ref d,.ref t]/\Zdf H d ps js sg/\Yp ps js sg/\Zq H t (nm,en)/\((k,nm):Zc)∈ps/\en∈Z6 k/\∀l H',Same H H'->H l=none->Zfi H' l (W5 k nm en)->Q (.ref l) H'
theorem Zmm(T:Tx K mg):Zy P w K mg base CX0 2 T.bf.f T.bf.fd ["_law_plan", "_law_end"] Zvj:=by
 refine T.bf.F.okW Zmk fun b7 A outer s H vs Q E hr h=>?_
 ·obtain ⟨d,t,k,nm,en,ps,js,sg,rfl,pn,yv,ht,hm,B4,q⟩:=h;intro X;obtain ⟨a,b,c,kk,kj,D6,h1,h2,h3,_⟩:=pn.ex;have ht:H t=some (.tup [.str nm,.str en]):=ht;obtain ⟨v,hv,rfl⟩:=h3.get Zam (by rw [Zjf];exact yv.net.nd) (a:=nm) (b:=k) (List.mem_map.mpr ⟨(k,nm),hm,rfl⟩);have D4:=yv.net.kind _ hm;refine WSs.last (Zl (Xu (N':=["_law_out", "_law_lie", "_law_end"]) rfl (Z5.std 2 [1] rfl (by trivial) (by trivial) rfl ⟨rfl,trivial⟩ rfl rfl ⟨(exR rfl ⟨rfl,rfl⟩),trivial⟩) (Ym (Zr (Zl5 T) hr rfl T.dA T.aX.F.kp T.aX.b .nil Z2 (Zb (Xm (Xi hr) (Xm (Xi hr) (pv 0) Ze (fun _ _=>rfl)) (Zn (K:=K) rfl (pv 1) Zd) (fun _ _=>rfl)) (Zb (Zn (K:=K) rfl (pv 1) Zd) Za)))) (fun _ _ _ _=>(Zh9 (K:=K) (n:=2) rfl rfl (Z4 (Zan (i:=0) (by show (["_law_out", "_law_lie", "_law_end"]:List Str).Nodup;decide +kernel)) (Z4 (Zan (i:=1) (by show (["_law_out", "_law_lie", "_law_end"]:List Str).Nodup;decide +kernel)) Xl)))) (fun _ _ _ _=>Wl) (fun _ _ _ _=>(Zi (Zb (Zn (K:=K) rfl (pv 2) Zd) (Zb (Zn (K:=K) rfl (pv 2) Zd) (Zb (pv 0) (Zb (pv 1) Za)))))))) (exR rfl ⟨d,_,rfl,by rw [<-(Zfd a b c).1];exact Xy.k (k:=Yc "kinds") h1,_,rfl,(ixT ht 0 rfl ⟨a,_,rfl,by rw [<-hv];exact Xy.k (k:=Yc nm) h2,_,rfl,(ixT ht 1 rfl ⟨k,en,rfl,D4,B4,fun p H1 s1 n1 ⟨as,hp,has⟩=>⟨p,rfl,⟨_,SqL.of hp⟩,fun D hD=>Xr (K:=K) (xs:=as.map V.ref) (fun i ys H'=>(∃ts:List Addr,ys=ts.map V.ref/\Paired (Y6 H') ts (((Zdo k en).take i).map fun o=>(nm,en,o.1,o.2)))/\H' D=some (.lst ys)/\Same H1 H') ⟨⟨[],rfl,.nil⟩,Zf,Same.new hD⟩ ?_ ?_ ?_⟩⟩)⟩)⟩)
  ·rintro i ys H' _ ⟨_,_,sm⟩;exact SqL.of (sm.at hp)
  ·rintro i v ys H2 hi ⟨⟨ts,rfl,d7⟩,p7,s2⟩;rw [List.getElem?_map] at hi;obtain ⟨u,hu,rfl⟩:=Option.map_eq_some_iff.mp hi;obtain ⟨o,ho,hou⟩:=Paired.get has hu;have d6:ts.length<=2:=by
    have h1:=Paired.length d7;have h2:=Zmf k;have h3:(Zdo k en).length<=(Zbq k).length:=by
     unfold Zdo;exact Nat.le_trans (List.length_filter_le _ _) (by rw [List.length_map];exact Nat.le_refl _)
    rw [List.length_map,List.length_take] at h1;lia
   have ht2:=s2.at (s1.at ht);refine ⟨u,_,rfl,SqT.of (s2.at hou),rfl,_,_,rfl,_,_,rfl,rfl,(X5.set rfl).trans (X5.set rfl),_,rfl,(ixT ht2 0 rfl ⟨_,rfl,(ixT ht2 1 rfl ⟨_,rfl,_,rfl,szA,fun t3 H3 s3 n3 e3=>⟨s3.at p7,by rw [List.length_map];exact Zw (by lia),⟨ts++[t3],by rw [List.map_append];rfl,?_⟩,Zf,fun b o z=>?_⟩⟩)⟩)⟩
   ·rw [List.take_add_one,ho,List.map_append];exact Paired.append (Paired.mapP d7 fun _ _ r=>Y6.off (r.mono s3) (s3.at p7)) (.cons (Y6.off e3 (s3.at p7)) .nil)
   ·rw [Zh (Zj z hD)];exact s3.at (s2.at z)
  ·rintro ys H2 ⟨⟨ts,rfl,d7⟩,p7,s2⟩;rw [List.length_map,Paired.length has,List.take_length] at d7;exact q D H2 (s1.trans s2) (s1.free hD) ⟨ts,p7,d7⟩
theorem Zon(T:Tx K mg){k:Nat}(h:2<=k:=by decide):Zy P w K mg base CX0 k T.bf.f T.bf.fd ["_law_plan", "_law_end"] Zvj:=(Zmm T).mono h
def Zym:Sp:=fun vs H Q _=>∃(d t:Addr) (q:S4) (ps:List Zc) (js:List (Zc×Zc)) (sg:List (Str×Str×Str)),vs=[.ref d,.ref t]/\Zdf H d ps js sg/\Yp ps js sg/\Y6 H t q/\∀H',Same H H'->Q (.bl (Xw sg q)) H'
theorem Zhw(T:Tx K mg):Zy P w K mg base CX0 1 T.aF.f T.aF.fd ["_law_plan", "_law_step"] Zym:=by
 refine T.aF.F.okW Zhq fun b7 A outer s H vs Q E hr h=>?_
 ·obtain ⟨d,t,q4,ps,js,sg,rfl,pn,yv,ht,q⟩:=h;intro X;obtain ⟨a,b,c,kk,kj,D6,h1,_,_,_,_,h6,h7⟩:=pn.ex;refine WSs.last (Zl (Zy0 (W7 (r:=Wo K) (Wv hr) (Zn (K:=K) rfl (pv 1) Zd) Ze (Z0 _)) (Zgw (W7 (r:=Zhp K) (Zj0 hr) (Zi (Zb (Zn (K:=K) rfl (pv 1) Zd) (Zb (Zn (K:=K) rfl (pv 1) Zd) Za))) (Xm (Xi hr) (pv 0) Ze (fun _ _=>rfl)) (by with_unfolding_all rfl))))) (exR rfl (ixT ht 2 rfl (.inl ⟨rfl,_,rfl,Ye (fun z=>?_) (fun z=>?_)⟩)))
  ·have z:q4.2.2.1 = "" :=V.str.inj (of_decide_eq_true z);have e:Xw sg q4=true:=by unfold Xw;rw [decide_eq_true z];rfl
   rw [e] at q;exact q H (Same.refl _)
  ·have z:¬q4.2.2.1 = "" :=fun y=>z (decide_eq_true (by rw [y]))
   refine (exR rfl (ixT ht 0 rfl (exR rfl (ixT ht 2 rfl ⟨szA,fun u H1 s1 n1 e1=>(exR rfl ⟨d,_,rfl,by rw [<-(Zfd a b c).2.2];exact Xy.k (k:=Yc "stands") (s1.at h1),.inr (.inl ⟨c,_,rfl,Xy.t (k:=Yj (q4.1,q4.2.2.1)) (s1.at h6) e1,?_⟩)⟩)⟩))));have e:(Yv D6 (Yj (q4.1,q4.2.2.1))).isSome=Xw sg q4:=by
    unfold Xw;rw [decide_eq_false z]
    by_cases hm:((q4.1,q4.2.2.1):Zc)∈sg.map Prod.snd
    ·obtain ⟨⟨nm,e⟩,hg,he⟩:=List.mem_map.mp hm;have he:e=(q4.1,q4.2.2.1):=he;obtain ⟨v,hv,_⟩:=h7.get Y0 (by rw [Zgu];exact yv.sigs.one) (a:=(q4.1,q4.2.2.1)) (b:=nm) (List.mem_map.mpr ⟨_,hg,by rw [<-he]⟩);rw [hv,decide_eq_true hm];rfl
    ·rw [h7.none Y0 (by rw [Zgu];exact hm),decide_eq_false hm];rfl
   rw [e];exact q H1 s1
theorem Zil(T:Tx K mg){k:Nat}(h:1<=k:=by decide):Zy P w K mg base CX0 k T.aF.f T.aF.fd ["_law_plan", "_law_step"] Zym:=(Zhw T).mono h
theorem Zg2{X:Cx}:Zbo (CXF X.prog X.w) X E0:=fun _ _ _ _ _ _ _ h=>by
 obtain ⟨_,_,_,_,_,_,_,_,_,_,h⟩:=h;exact h.elim
theorem Zdu.mono{H H':Hp}{v:V}{b:Bool}(s:Same H H')(h:Zdu K H v b)(hs:∀a,v=.ref a->∃xs,H a=some (.lst xs)\/H a=some (.tup xs)):Zdu K H' v b:=by
 rcases h with h|⟨hb,t,ty,k⟩
 ·exact .inl h
 ·refine .inr ⟨hb,t,?_,k⟩;cases ty with
  | non=>exact .non
  | bl x=>exact .bl x
  | int i=>exact .int i
  | str x=>exact .str x
  | flt x=>exact .flt x
  | lst z=>exact .lst (s.at z)
  | frz z =>
   obtain ⟨xs,e | e⟩:=hs _ rfl <;>rw [z] at e <;>cases e
  | tup z=>exact .tup (s.at z)
  | dK z=>exact .dK (s.at z)
  | dT z=>exact .dT (s.at z)
  | ins z c1 c2 c3 c4 c5=>exact .ins (s.at z) c1 c2 c3 c4 c5
def Zq5(T:Tx K mg):Sp:=fun vs H Q E=>∃(x:Addr) (v:V) (ps:List Zc) (js:List (Zc×Zc)) (sg:List (Str×Str×Str)),vs=[.ref x,v]/\Ys T H x ps js sg/\Yp ps js sg /\
  ((∃g:Str×Str×Str,v=.str g.1/\g∈sg/\∀(t:Addr) (H':Hp),Same H H'->Zq H' t g.2->Q (.ref t) H') \/
   (∃b,Zdu K H v b/\(∀nm,v=.str nm->nm∉sg.map Prod.fst)/\∀H',Same H H'->E (.ref T.bM) none H'))
theorem Zf6(T:Tx K mg):Zy P w K mg base (CXF P w) 2 T.aA.f T.aA.fd ["self", "signal"] (Zq5 T):=by
 refine T.aA.F.okX Zgo (fun vs H Q E h=>?_) (fun b7 A outer s H vs Q E hr h=>?_)
 ·obtain ⟨x,v,ps,js,sg,rfl,_⟩:=h
  rfl
 ·obtain ⟨x,v,ps,js,sg,rfl,tr,yv,h⟩:=h;obtain ⟨dx,po,jo,so,si,kp,ks,kj,ko,h1,_,_,_,_,h2,h3,_⟩:=tr.ex;rcases h with ⟨⟨nm,e⟩,rfl,hm,q⟩|⟨b,hA,hn,q⟩
  ·have hq:((nm,e):Str×Zc)∈qS sg:=List.mem_map.mpr ⟨(nm,e),hm,rfl⟩;obtain ⟨v,hv,t,rfl,hO⟩:=h3.get Zam (by rw [Zo0];exact yv.sigs.nd) hq;refine WSs.step (Z8 (PW.pt (Zda (Wc (Xb (Zr (Zd4 T) hr rfl T.bZ T.aH.F.kp T.aH.b .nil Z2 (Zb (pv 1) Za)))) (Zbl (Zm (r:=Zai K) (Za3 hr) (pv 1) (Xz (pv 0) rfl) (by with_unfolding_all rfl))))) Zv Zs) (exR rfl ⟨_,true,rfl,(yv.sigs.name _ hm).asked,fun H1 s1=>(exR rfl (Ye (fun z=>absurd z (by decide)) (fun _=>(exR rfl (exR rfl ⟨x,_,dx,_,_,rfl,s1.at h1,T.ae,T.aS,rfl,.inr (.inl ⟨so,_,rfl,Xy.k (k:=Yc nm) (s1.at h2),_,rfl,Ye (fun z=>?_) (fun _=>?_)⟩)⟩)))))⟩)
   ·rw [hv] at z;exact absurd z (by simp)
   exact WSs.last (Zl (Xm (Xi hr) (Xz (pv 0) rfl) (pv 1) (fun _ _=>rfl))) (exR rfl ⟨x,_,dx,_,_,rfl,s1.at h1,T.ae,T.aS,rfl,_,rfl,so,_,rfl,by rw [<-hv];exact Xy.k (k:=Yc nm) (s1.at h2),q t H1 s1 (hO.mono s1)⟩)
  ·refine WSs.step (Z8 (PW.pt (Zda (Wc (Xb (Zr (Zd4 T) hr rfl T.bZ T.aH.F.kp T.aH.b .nil Z2 (Zb (pv 1) Za)))) (Zbl (Zm (r:=Zai K) (Za3 hr) (pv 1) (Xz (pv 0) rfl) (by with_unfolding_all rfl))))) Zv Zs) (exR rfl ⟨_,b,rfl,hA,fun H1 s1=>(exR rfl (Ye (fun _=>?_) (fun z=>?_)))⟩)
   ·exact WSs.last (Znr T.cw PySem.F.excBase_ValueError rfl (Zb Ze Za)) ⟨szA,q H1 s1⟩
   ·obtain ⟨nm,rfl⟩:∃nm:Str,v=.str nm:=by
     rcases hA with ⟨nm,e,_⟩|⟨e,_⟩
     ·exact ⟨nm,e⟩
     ·rw [e] at z;exact absurd rfl z
    have hv:Yv ks (Yc nm)=none:=h3.none Zam (by rw [Zo0];exact hn nm rfl);refine (exR rfl (exR rfl ⟨x,_,dx,_,_,rfl,s1.at h1,T.ae,T.aS,rfl,.inr (.inl ⟨so,_,rfl,Xy.k (k:=Yc nm) (s1.at h2),_,rfl,Ye (fun _=>?_) (fun z=>?_)⟩)⟩))
    ·exact WSs.last (Znr T.cw PySem.F.excBase_ValueError rfl (Zb Ze Za)) ⟨szA,q H1 s1⟩
    ·rw [hv] at z;exact absurd rfl z
theorem Zdb(T:Tx K mg){k:Nat}(h:2<=k:=by decide):Zy P w K mg base (CXF P w) k T.aA.f T.aA.fd ["self", "signal"] (Zq5 T):=(Zf6 T).mono h
abbrev G3:=Str×Str×Str
def Zln(T:Tx K mg):Sp:=fun vs H Q _=>∃(x:Addr) (ps:List Zc) (js:List (Zc×Zc)) (sg:List G3),vs=[.ref x]/\Ys T H x ps js sg/\Yp ps js sg/\∀(V8:List G3) (l:Addr) (H':Hp),V8.Perm sg->Same H H'->H l=none->Zav H' l V8->Q (.ref l) H'
theorem Zfv(T:Tx K mg):Zy P w K mg base CX0 1 T.aB.f T.aB.fd ["self"] (Zln T):=by
 refine T.aB.F.okW Zfw fun b7 A outer s H vs Q E hr h=>?_
 ·obtain ⟨x,ps,js,sg,rfl,tr,yv,q⟩:=h;intro X;obtain ⟨dx,po,jo,so,si,kp,ks,kj,ko,h1,_,_,_,_,h6,h7,_⟩:=tr.ex;have hks:ks.length=sg.length:=by
   have:=h7.len;unfold qS at this;rw [List.length_map] at this;exact this
  have slen:=yv.sigs.len;refine WSs.last (Zl (Zu (r:=Zus K) (Zo6 hr.units) (by rfl) T.cS PyProof.Rows.boot_sorted (Zb (Zqr (Xu (N':=["name", "end"]) rfl (Z5.std 2 [] rfl (by trivial) (by trivial) rfl trivial rfl rfl trivial) (Zjx (Xz (pv 0) rfl)) (fun _ _ _ _=>(Zh9 (K:=K) (n:=2) rfl rfl (Z4 (Zan (i:=0) (by show (["name", "end"]:List Str).Nodup;decide +kernel)) (Z4 (Zan (i:=1) (by show (["name", "end"]:List Str).Nodup;decide +kernel)) Xl)))) (fun _ _ _ _=>Wl) (fun _ _ _ _=>(Zi (Zb (pv 0) (Zb (Zn (K:=K) rfl (pv 1) Zd) (Zb (Zn (K:=K) rfl (pv 1) Zd) Za))))))) Za))) (exR rfl ⟨x,_,dx,_,_,rfl,h1,T.ae,T.aS,rfl,so,ks,rfl,h6,fun o nf D hD=>Zi7 (fun i ys H'=>Same (upd H so (.frz o (.dK ks))) H'/\H' D=some (.lst ys)/\∃ts:List Addr,ys=ts.map V.ref/\Paired (Zng H') ts (sg.take i)) ⟨Same.new hD,Zf,[],rfl,.nil⟩ ?_ ?_ ?_⟩)
  ·rintro i ys H' _ ⟨z,_⟩;exact z.at Zf
  ·rintro i kv ys H2 hi ⟨s2,p7,ts,rfl,d7⟩ tp H3 s3 n3 e3;obtain ⟨⟨nm,e⟩,hq,hk,t,hv,ht⟩:=Paired.get h7 hi;have hk:kv.1=Sum.inr nm:=hk;rw [hk,hv] at e3;have hg:sg[i]? =some (nm,e.1,e.2):=by
    unfold qS at hq;rw [List.getElem?_map] at hq;obtain ⟨⟨g1,g2,g3⟩,hg,e'⟩:=Option.map_eq_some_iff.mp hq;rw [hg];simp only [Prod.mk.injEq] at e';rw [<-e'.1,<-e'.2]
   have E5:=(List.getElem?_eq_some_iff.mp hg).1;have hto:t≠so:=fun z=>by rw [z] at ht;exact nomatch h6.symm.trans ht
   have htF:upd H so (.frz o (.dK ks)) t=some (.tup [.str e.1,.str e.2]):=by
    rw [Zh hto];exact ht
   have A0:ts.length<=100:=by
    have:=Paired.length d7;rw [List.length_take] at this;lia
   have P6:=SqT.of (K:=K) (s3.at (s2.at htF));refine ⟨tp,_,rfl,SqT.of e3,rfl,_,_,rfl,_,_,rfl,rfl,(X5.set rfl).trans (X5.set rfl),_,rfl,_,rfl,.inr (.inl ⟨t,_,0,_,rfl,rfl,P6,Y4 (j:=0) rfl,_,rfl,.inr (.inl ⟨t,_,1,_,rfl,rfl,P6,Y4 (j:=1) rfl,szA,fun t' H4 s4 n4 e4=>⟨s4.at (s3.at p7),by rw [List.length_map];exact Zw (by lia),?_,Zf,ts++[t'],by rw [List.map_append];rfl,?_⟩⟩)⟩)⟩
   ·intro c u z;rw [Zh (Zj z hD)];exact s4.at (s3.at (s2.at z))
   ·have U4:=s4.at (s3.at p7);have off:∀{c:Addr} {xs:List V} {u:HO},H4 c=some (.tup xs)->upd H4 D u c=some (.tup xs):=fun {c xs u} z=>(Zh fun y=>by rw [y,U4] at z;cases z).trans z
    rw [List.take_add_one,hg];exact Paired.snoc (Paired.mapP d7 fun _ _ z=>off (s4.at (s3.at z))) (off e4)
  ·rintro ys H2 ⟨s2,p7,ts,rfl,d7⟩;rw [hks,List.take_length] at d7;have hso2:=s2.at Zf;have off:∀{c:Addr} {xs:List V} {u:HO},H2 c=some (.tup xs)->upd H2 so u c=some (.tup xs):=fun {c xs u} z=>(Zh fun y=>by rw [y,hso2] at z;cases z).trans z
   have sT:Same H (upd H2 so (.dK ks)):=s2.thaw h6;have hDn:H D=none:=by
    by_cases z:D=so
    ·rw [z,Zf] at hD;cases hD
    ·rw [Zh z] at hD;exact hD
   refine ⟨so,o,_,hso2,nf,?_⟩;refine ⟨D,ts,rfl,SqL.of ((Zh fun y=>by rw [y,hso2] at p7;cases p7).trans p7),fun t ht=>?_,fun y4 hp l H3 s3 n3 e3=>?_⟩
   ·obtain ⟨i,hi⟩:=List.getElem?_of_mem ht;obtain ⟨g,_,hg⟩:=Paired.get d7 hi;exact ⟨g.1,[g.2.1,g.2.2],off hg⟩
   ·obtain ⟨V8,p1,p2⟩:=Zkz hp d7;exact q V8 l H3 p1 (sT.trans s3) (sT.free n3) ⟨y4,e3,Paired.mapP p2 fun _ _ z=>s3.at (off z)⟩
theorem Zgm(T:Tx K mg){k:Nat}(h:1<=k:=by decide):Zy P w K mg base CX0 k T.aB.f T.aB.fd ["self"] (Zln T):=(Zfv T).mono h
def kindOf(ps:List Zc)(nm:Str):Option Str:=(ps.find? fun p=>decide (p.2=nm)).map Prod.fst
theorem Zl7{k nm:Str}:∀{ps:List Zc},(ps.map Prod.snd).Nodup->((k,nm):Zc)∈ps->kindOf ps nm=some k
 | p ::ps,nd,h=>by
  rw [List.map_cons,List.nodup_cons] at nd;unfold kindOf;rw [List.find?_cons];rcases List.mem_cons.mp h with z|z
  ·rw [<-z,decide_eq_true rfl];rfl
  ·rw [decide_eq_false fun e=>nd.1 (by rw [e];exact List.mem_map.mpr ⟨_,z,rfl⟩)];exact Zl7 nd.2 z
theorem Zcg{k nm:Str}{ps:List Zc}(h:kindOf ps nm=some k):((k,nm):Zc)∈ps:=by
 obtain ⟨p,hp,rfl⟩:=Option.map_eq_some_iff.mp h;have e:p.2=nm:=by simpa using List.find?_some hp
 rw [<-e];exact List.mem_of_find?_eq_some hp
def Xd(ps:List Zc)(nm en:Str):List S4:=match kindOf ps nm with
 | some k=>if en∈Z6 k then W5 k nm en else []
 | none=>[]
def bey(js:List (Zc×Zc))(e:Zc):Zc:=(((qJ js).find? fun q=>decide (q.1=e)).map Prod.snd).getD (("" :Str),("" :Str))
theorem Zic{α β:Type}[DecidableEq α]{a:α}{b:β}:∀{l:List (α×β)},(l.map Prod.fst).Nodup->(a,b)∈l->l.find? (fun q=>decide (q.1=a))=some (a,b)
 | x ::l,nd,h=>by
  rw [List.map_cons,List.nodup_cons] at nd;rw [List.find?_cons];rcases List.mem_cons.mp h with z|z
  ·rw [<-z,decide_eq_true rfl]
  ·rw [decide_eq_false fun e=>nd.1 (by rw [e];exact List.mem_map.mpr ⟨_,z,rfl⟩)];exact Zic nd.2 z
theorem Zsi{α β:Type}[DecidableEq α]{a:α}{l:List (α×β)}(h:a∉l.map Prod.fst):l.find? (fun q=>decide (q.1=a))=none :=
 List.find?_eq_none.mpr fun q hq z=>h (List.mem_map.mpr ⟨q,hq,of_decide_eq_true z⟩)
section
variable {ps:List Zc} {js:List (Zc×Zc)} {sg:List (Str×Str×Str)} {H:Hp} {Q:Addr->Hp->Prop}
theorem Zvs(yv:Yp ps js sg):((qJ js).map Prod.fst).Nodup:=by rw [Wd];exact yv.net.flat.nodup_iff.mpr (Ws yv.net.nd)
theorem Ztl(yv:Yp ps js sg){e:Zc}:e∈(qJ js).map Prod.fst↔e∈Z7 ps:=by rw [Wd];exact yv.net.flat.mem_iff
theorem Zv1(yv:Yp ps js sg){e e':Zc}(h:(e,e')∈qJ js):bey js e=e':=by unfold bey;rw [Zic (Zvs yv) h];rfl
theorem Zzy(yv:Yp ps js sg){e:Zc}(h:e∉Z7 ps):bey js e=((("" :Str),("" :Str)):Zc):=by unfold bey;rw [Zsi fun z=>h ((Ztl yv).mp z)];rfl
theorem Zzf(yv:Yp ps js sg){e:Zc}{Q1:Addr->Prop}(hQ:∀t',Q t' H->Q1 t')(h:∀t' H',Same H H'->Zq H' t' (bey js e)->Q t' H') :
  (e∈Z7 ps/\∀t' e',((e,e'):Zc×Zc)∈qJ js->Zq H t' e'->Q1 t')\/(e∉Z7 ps/\∀t' H',Same H H'->H t'=none->Zq H' t' ("", "")->Q t' H'):=by
 by_cases z:e∈Z7 ps
 ·exact .inl ⟨z,fun t' e' he ht=>hQ t' (h t' H (Same.refl _) (by rw [Zv1 yv he];exact ht))⟩
 ·exact .inr ⟨z,fun t' H' s _ ht=>h t' H' s (by rw [Zzy yv z];exact ht)⟩
theorem Zll{nm en:Str}(h:((nm,en):Zc)∈Z7 ps):∃k,((k,nm):Zc)∈ps/\en∈Z6 k:=by
 obtain ⟨p,hp,hm⟩:=List.mem_flatMap.mp h;obtain ⟨x,hx,e⟩:=List.mem_map.mp hm;cases e;exact ⟨p.1,hp,hx⟩
theorem Zz8(yv:Yp ps js sg){nm en:Str}(h:∀l H',Same H H'->Zfi H' l (Xd ps nm en)->Q l H') :
  (∃k,((k,nm):Zc)∈ps/\en∈Z6 k/\∀l H',Same H H'->H l=none->Zfi H' l (W5 k nm en)->Q l H')\/(((nm,en):Zc)∉Z7 ps/\∀l H',Same H H'->H l=none->H' l=some (.lst [])->Q l H'):=by
 by_cases z:((nm,en):Zc)∈Z7 ps
 ·obtain ⟨k,hk,he⟩:=Zll z;refine .inl ⟨k,hk,he,fun l H' s _ hl=>h l H' s ?_⟩;unfold Xd;rw [Zl7 yv.net.nd hk];dsimp only;rw [if_pos he];exact hl
 ·refine .inr ⟨z,fun l H' s _ hl=>h l H' s ?_⟩;have e:Xd ps nm en=[]:=by
   unfold Xd;cases hk:kindOf ps nm with
   | none=>rfl
   | some k=>exact if_neg fun he=>z (Zn4 (Zcg hk) he)
  rw [e];exact ⟨[],hl,.nil⟩
end
def Wb(q:S4):Tr:=.tup [.str q.1,.str q.2.1,.str q.2.2.1,.str q.2.2.2]
theorem Zqi{a b:S4}(h:Wb a=Wb b):a=b:=by
 obtain ⟨a1,a2,a3,a4⟩:=a;obtain ⟨b1,b2,b3,b4⟩:=b;unfold Wb at h;simp only [Tr.tup.injEq,List.cons.injEq,Tr.str.injEq,and_true] at h;obtain ⟨h1,h2,h3,h4⟩:=h;rw [h1,h2,h3,h4]
theorem Zqn{q:S4}{l:List S4}:decide (Wb q∈l.map Wb)=decide (q∈l):=by
 by_cases z:q∈l
 ·rw [decide_eq_true z,decide_eq_true (List.mem_map.mpr ⟨q,z,rfl⟩)]
 ·rw [decide_eq_false z,decide_eq_false fun y=>z (by obtain ⟨a,ha,e⟩:=List.mem_map.mp y;rw [<-Zqi e];exact ha)]
theorem Y6.im{H:Hp}{t:Addr}{q:S4}(h:Y6 H t q):Im K H 1 (Wb q) (.ref t):=Im.tup (n:=0) (SqT.of h) (.cons (.str _) (.cons (.str _) (.cons (.str _) (.cons (.str _) .nil))))
theorem Zu6{H:Hp}{ts:List Addr}{ss:List S4}(h:Paired (Y6 H) ts ss):Paired (Im K H 1) (ss.map Wb) (ts.map V.ref):=by
 induction h with
 | nil=>exact .nil
 | cons r _ ih=>exact .cons r.im ih
theorem Zw7{H:Hp}{ts:List Addr}{ss:List S4}(h:Paired (Y6 H) ts ss){j:Nat}(hj:j<ss.length):∃t q,ts[j]? =some t/\ss[j]? =some q/\Y6 H t q:=by
 have hl:=Paired.length h;obtain ⟨q,hq,r⟩:=Paired.get h (List.getElem?_eq_getElem (show j<ts.length by lia));exact ⟨_,q,List.getElem?_eq_getElem _,hq,r⟩
theorem Zuz:∀k∈Xn,∀en∈Z6 k,(Zdo k en).length<=2:=by trivial
theorem Zlp{ps:List Zc}{js:List (Zc×Zc)}{sg:List (Str×Str×Str)}(yv:Yp ps js sg){nm en:Str}:(Xd ps nm en).length<=2:=by
 unfold Xd;cases hk:kindOf ps nm with
 | none=>exact Nat.zero_le _
 | some k =>
  dsimp only;split
  ·unfold W5;rw [List.length_map];exact Zuz k (yv.net.kind _ (Zcg hk)) en (by assumption)
  ·exact Nat.zero_le _
def W3(H:Hp)(t:Addr)(sig:Str)(ss:List S4):Prop:=∃ts:List Addr,H t=some (.tup (.str sig ::ts.map V.ref))/\Paired (Y6 H) ts ss
theorem W3.mono{H H':Hp}{t:Addr}{sig:Str}{ss:List S4}(e:Same H H')(h:W3 H t sig ss):W3 H' t sig ss:=let ⟨ts,h1,h2⟩:=h;⟨ts,e.at h1,Paired.mapP h2 fun _ _ r=>r.mono e⟩
def Xs(e:Zc)(ss:List S4):Zc:=match ss.getLast? with
 | none=>e
 | some q=>(q.1,q.2.2.1)
def onL(ps:List Zc)(js:List (Zc×Zc))(e:Zc)(ss:List S4):List S4:=if 12<ss.length+1 then [] else (Xd ps (bey js (Xs e ss)).1 (bey js (Xs e ss)).2).filter fun q=>decide (q.1∉e.1 ::ss.map Prod.fst)
def Yce(T:Tx K mg):Sp:=fun vs H Q _=>∃(x t:Addr) (g:Str×Zc) (ss:List S4) (ps:List Zc) (js:List (Zc×Zc)) (sg:List (Str×Str×Str)),vs=[.ref x,.ref t]/\Ys T H x ps js sg/\Yp ps js sg/\(g:Str×Str×Str)∈sg/\W3 H t g.1 ss/\ss.length<=100/\∀l H',Same H H'->H l=none->Zfi H' l (onL ps js g.2 ss)->Q (.ref l) H'
def Ybp(T:Tx K mg):Sp:=fun vs H _ E=>∃(x t:Addr) (v:V) (b:Bool) (ps:List Zc) (js:List (Zc×Zc)) (sg:List (Str×Str×Str)),vs=[.ref x,.ref t]/\Ys T H x ps js sg/\Yp ps js sg/\H t=some (.tup [v])/\Zdu K H v b/\(∀nm,v=.str nm->nm∉sg.map Prod.fst)/\∀H',Same H H'->E (.ref T.bM) none H'
def Ych(T:Tx K mg):Sp:=fun vs H Q E=>Yce T vs H Q E\/Ybp T vs H Q E
theorem Znf(T:Tx K mg):Zy P w K mg base (CXF P w) 5 T.aI.f T.aI.fd ["tracks", "begun"] (Ych T):=by
 refine T.aI.F.okX Zaj (fun vs H Q E h=>?_) (fun b7 A outer s H vs Q E hr h=>?_)
 ·obtain ⟨x,t,g,ss,ps,js,sg,rfl,_⟩ | ⟨x,t,v,b,ps,js,sg,rfl,_⟩:=h <;>rfl
 ·rcases h with h|⟨x,t,v,b,ps,js,sg,rfl,tr,yv,ht,hA,hn,q⟩
  rotate_left
  ·obtain ⟨dx,_,_,_,_,_,_,_,_,h1,_⟩:=tr.ex;refine WSs.step (Z8 (Zm Zi8 (Zu (r:=Xk K) Xo (by rfl) T.aZ PySem.boot_len (Zb (pv 1) Za)) (Zch (by rfl) T.cq) (Z0 _)) Zv Zs) (exR rfl (.inl ⟨t,_,rfl,.inr (SqT.of ht),_,_,rfl,rfl,_,rfl,Ye (fun z=>absurd (of_decide_eq_true z) (by show ¬((1:Nat):Int) >12;decide)) (fun _=>?_)⟩));exact WSs.step (Zz (i:=2) Zaj.nd (Za5 (pv 0) T.ae T.bV (Zdb T) hr T.aA.b .nil Zfc (Zb (Zn (K:=K) rfl (pv 1) Zd) Za))) (exR rfl ⟨x,dx,_,rfl,h1,rfl,_,rfl,(ixT ht 0 rfl ⟨x,v,ps,js,sg,rfl,tr,yv,.inr ⟨b,hA,hn,q⟩⟩)⟩)
  obtain ⟨x,t,⟨sig,e⟩,ss,ps,js,sg,rfl,tr,yv,hg,⟨ts,ht,d7⟩,hz,q⟩:=h;have A0:=Paired.length d7;obtain ⟨dx,_,_,_,_,_,_,_,_,h1,_⟩:=tr.ex;have lt1:((V.str sig ::ts.map V.ref).length:Int)=((ss.length+1:Nat):Int):=by rw [List.length_cons,List.length_map,A0]
  refine WSs.step (Z8 (Zm Zi8 (Zu (r:=Xk K) Xo (by rfl) T.aZ PySem.boot_len (Zb (pv 1) Za)) (Zch (by rfl) T.cq) (Z0 _)) Zv Zs) (exR rfl (.inl ⟨t,_,rfl,.inr (SqT.of ht),_,_,rfl,rfl,_,rfl,Ye (fun z=>?_) (fun z=>?_)⟩))
  ·have z:12<ss.length+1:=by
    have:=of_decide_eq_true z;rw [lt1] at this;lia
   refine WSs.last (Zl (Zk Za)) ⟨szA,fun l H1 s1 n1 e1=>q l H1 s1 n1 ?_⟩;unfold onL;rw [if_pos z];exact ⟨[],e1,.nil⟩
  have z:¬12<ss.length+1:=fun y=>z (decide_eq_true (by rw [lt1];lia))
  refine WSs.step (Zz (i:=2) Zaj.nd (Za5 (pv 0) T.ae T.bV (Zdb T) hr T.aA.b .nil Zfc (Zb (Zn (K:=K) rfl (pv 1) Zd) Za))) (exR rfl ⟨x,dx,_,rfl,h1,rfl,_,rfl,(ixT ht 0 rfl ⟨x,.str sig,ps,js,sg,rfl,tr,yv,.inl ⟨(sig,e),rfl,hg,fun tp H1 s1 hp=>?_⟩⟩)⟩);have ht1:=s1.at ht;let I26:=fun (σ:St) (H':Hp)=>∃tl,σ=[some (.ref x),some (.ref t),some (.ref tp),some (.ref tl),none]/\Same H1 H'/\Zq H' tl (Xs e ss)
  refine WSs.cut I26 ?_ ?_
  ·refine WS.of (Zz (i:=3) Zaj.nd (Zcd (Zm (r:=Wo K) (Wv hr) (Zu (r:=Xk K) Xo (by rfl) T.aZ PySem.boot_len (Zb (pv 1) Za)) Zd (Z0 _)) (pv 2) (Zr (Zff T) hr rfl T.ci T.aC.F.kp T.aC.b .nil Z2 (Zb (Zn (K:=K) rfl (pv 1) (Zlq Zg3 Zd)) Za)))) (exR rfl (.inl ⟨t,_,rfl,.inr (SqT.of ht1),.inl ⟨rfl,_,rfl,Ye (fun y=>?_) (fun y=>?_)⟩⟩))
   ·have y:ss.length=0:=by
     have y:=V.int.inj (of_decide_eq_true y);rw [lt1] at y;lia
    refine (exR rfl ⟨tp,rfl,Same.refl _,?_⟩);rw [List.length_eq_zero_iff.mp y];exact hp
   ·have y:0<ss.length:=by
     rcases Nat.eq_zero_or_pos ss.length with v|v
     ·exact absurd (decide_eq_true (by rw [lt1,v];rfl)) y
     ·exact v
    obtain ⟨tq,qq,K7,A1,rq⟩:=Zw7 (Paired.mapP d7 fun _ _ r=>Y6.mono s1 r) (show ss.length-1<ss.length by lia);have hl:ss.getLast? =some qq:=by rw [List.getLast?_eq_getElem?];exact A1
    have la:atI (V.str sig ::ts.map V.ref) (-1)=some (.ref tq):=by
     obtain ⟨us,rfl⟩:∃us,ts=us++[tq]:=by
      refine ⟨ts.dropLast,?_⟩;have:ts.getLast? =some tq:=by rw [List.getLast?_eq_getElem?,A0];exact K7
      obtain ⟨us,rfl⟩:=List.getLast?_eq_some_iff.mp this;rw [List.dropLast_concat]
     rw [List.map_append,<-List.cons_append];exact Zip _ _
    refine (exR rfl (exR rfl (ixV ht1 la ⟨tq,qq,rfl,rq,fun t3 H3 s3 n3 e3=>⟨t3,rfl,s3,?_⟩⟩)));unfold Xs;rw [hl];exact e3
  rintro σ H2 ⟨tl,rfl,s2,hl⟩;have ht2:=s2.at ht1;have hts2:=Paired.mapP d7 fun _ _ r=>Y6.mono (s1.trans s2) r
  refine WSs.step (Zz (i:=4) Zaj.nd (Zp Wp (Zk (Zb (Zn (K:=K) rfl (pv 2) Zd) Za)) (Xu (N':=["step"]) rfl (Z5.std 1 [] rfl (by trivial) (by trivial) rfl trivial rfl rfl trivial) (Zmo (Xv (r:=Zf9 K) Zht (pv 1) (X4 Zd) Wj)) (fun _ _ _ _=>(Zan (i:=0) (by show (["step"]:List Str).Nodup;decide +kernel))) (fun _ _ _ _=>Wl) (fun _ _ _ _=>(Zn (K:=K) rfl (pv 0) Zd))))) (exR rfl (ixT (s2.at hp) 0 rfl ⟨szA,fun la H3 s3 n3 e3=>(exR rfl (exR rfl (.inl ⟨t,_,rfl,SqT.of (s3.at ht2),?_,fun t4 H4 s4 n4 e4=>⟨t4,rfl,⟨_,SqT.of e4⟩,fun D hD=>?_⟩⟩)))⟩))
  ·rintro ⟨y,_⟩;have:HT.sIx (V.str sig ::ts.map V.ref).length 0 (some 1)=1:=by
    unfold HT.sIx;simp
   rw [this] at y;cases y
  have e4:H4 t4=some (.tup (ts.map V.ref)):=by
   have e4:H4 t4=some (.tup (Ze2 (V.str sig ::ts.map V.ref) (some ((1:Nat):Int)) none)):=e4;rw [Zbj] at e4;exact e4
  refine Ziq (K:=K) (xs:=ts.map V.ref) (fun i ys H'=>ys=((ss.take i).map Prod.fst).map V.str/\H' D=some (.lst ys)/\Same H4 H') ⟨rfl,Zf,Same.new hD⟩ ?_ ?_ ?_
  ·rintro i ys H' _ ⟨_,_,sm⟩;exact SqT.of (sm.at e4)
  ·rintro i v ys H5 hi ⟨rfl,D5,s5⟩;rw [List.getElem?_map] at hi;obtain ⟨tq,K7,rfl⟩:=Option.map_eq_some_iff.mp hi;obtain ⟨qq,A1,rq⟩:=Paired.get hts2 K7;have r5:=rq.mono (s3.trans (s4.trans s5));refine ⟨X5.set rfl,_,rfl,(ixT r5 0 rfl ⟨D5,by rw [List.length_map,List.length_map,List.length_take];exact Zw (by lia),?_,Zf,fun b o y=>?_⟩)⟩
   ·rw [List.take_add_one,A1,List.map_append,List.map_append];rfl
   ·rw [Zh (Zj y hD)];exact s5.at y
  rintro ys H5 ⟨rfl,D5,s5⟩;rw [List.length_map,A0,List.take_length] at D5;refine .inr (.inr ⟨la,D,_,_,rfl,rfl,(s4.trans s5).at e3,D5,by rw [List.length_map,List.length_map];exact sz (by show 1+_<=_;lia),fun lp H6 s6 n6 e6=>?_⟩);have e6:H6 lp=some (.lst ((e.1 ::ss.map Prod.fst).map V.str)):=e6;have s26:=s3.trans (s4.trans (s5.trans s6));have u0:=s2.trans s26;have P7:=s1.trans u0;refine WSs.last (Zl (Xu (N':=["step", "passed"]) rfl (Z5.std 1 [4] rfl (by trivial) (by trivial) rfl ⟨rfl,trivial⟩ rfl rfl ⟨(exR rfl ⟨rfl,rfl⟩),trivial⟩) (Ym (Zr (Zl3 T) hr rfl T.du T.aT.F.kp T.aT.b .nil Z2 (Zb (pv 0) (Zb (Za5 (pv 0) T.ae T.bO (Zax T) hr T.ap.b .nil Z2 (Zb (pv 3) Za)) Za)))) (fun _ _ _ _=>(Zan (i:=0) (by show (["step", "passed"]:List Str).Nodup;decide +kernel))) (fun _ _ _ _=>(Ze8 (Zm (r:=Zai K) (Za3 hr) (Zn (K:=K) rfl (pv 0) Zd) (pv 1) (by with_unfolding_all rfl)))) (fun _ _ _ _=>(pv 0)))) (exR rfl (exR rfl ⟨x,dx,_,rfl,P7.at h1,rfl,_,rfl,x,tl,Xs e ss,ps,js,sg,rfl,tr.mono P7,yv,hl.mono s26,Zzf yv (fun _ z=>z) fun t7 H7 s7 e7=>⟨x,t7,_,_,ps,js,sg,rfl,tr.mono (P7.trans s7),yv,e7,Zz8 yv fun l8 H8 s8 ⟨us,h8,(i4:Paired (Y6 H8) us (Xd ps (bey js (Xs e ss)).1 (bey js (Xs e ss)).2))⟩=>⟨l8,rfl,⟨_,SqL.of h8⟩,fun D2 p7=>Xr (K:=K) (xs:=us.map V.ref) (fun i ys H'=>(∃ws:List Addr,ys=ws.map V.ref/\Paired (Y6 H8) ws (((Xd ps (bey js (Xs e ss)).1 (bey js (Xs e ss)).2).take i).filter fun q=>decide (q.1∉e.1 ::ss.map Prod.fst)))/\H' D2=some (.lst ys)/\Same H8 H') ⟨⟨[],rfl,.nil⟩,Zf,Same.new p7⟩ ?_ ?_ ?_⟩⟩⟩))
  ·rintro i ys H' _ ⟨_,_,sm⟩;exact SqL.of (sm.at h8)
  ·rintro i v ys H9 hi ⟨⟨ws,rfl,hws⟩,hD9,s9⟩;rw [List.getElem?_map] at hi;obtain ⟨tq,K7,rfl⟩:=Option.map_eq_some_iff.mp hi;obtain ⟨qq,A1,rq⟩:=Paired.get i4 K7;have K5:=Paired.length i4;have htqi:=(List.getElem?_eq_some_iff.mp K7).1;have few:(Xd ps (bey js (Xs e ss)).1 (bey js (Xs e ss)).2).length<=2:=Zlp yv;have hwl:=Paired.length hws;have R0:=List.length_filter_le (fun q:S4=>decide (q.1∉e.1 ::ss.map Prod.fst)) ((Xd ps (bey js (Xs e ss)).1 (bey js (Xs e ss)).2).take i);rw [List.length_take] at R0;refine ⟨X5.set rfl,_,rfl,(ixT (rq.mono s9) 0 rfl ⟨_,rfl,.inl ⟨lp,_,rfl,.inl (SqL.of ((s7.trans (s8.trans s9)).at e6)),rfl,Wt _,_,rfl,?_⟩⟩)⟩;rw [if_pos rfl,Zaq,List.take_add_one,A1,List.filter_append];refine Ye (fun y=>?_) (fun y=>?_)
   ·have y:qq.1∉e.1 ::ss.map Prod.fst:=fun v=>by rw [decide_eq_true v] at y;exact absurd y (by decide)
    refine (exR rfl ⟨hD9,by rw [List.length_map];exact Zw (by lia),⟨ws++[tq],by rw [List.map_append];rfl,Paired.append hws ?_⟩,Zf,fun b o v=>?_⟩)
    ·have:List.filter (fun q:S4=>decide (q.1∉e.1 ::ss.map Prod.fst)) (some qq).toList=[qq]:=List.filter_cons_of_pos (decide_eq_true y);rw [this];exact .cons rq .nil
    ·rw [Zh (Zj v p7)];exact s9.at v
   ·have y:¬qq.1∉e.1 ::ss.map Prod.fst:=fun v=>y (by rw [decide_eq_false v];rfl)
    refine ⟨⟨ws,rfl,?_⟩,hD9,s9⟩;have:List.filter (fun q:S4=>decide (q.1∉e.1 ::ss.map Prod.fst)) (some qq).toList=[]:=List.filter_cons_of_neg (by rw [decide_eq_false y];decide);rw [this,List.append_nil];exact hws
  ·rintro ys H9 ⟨⟨ws,rfl,hws⟩,hD9,s9⟩;rw [List.length_map,Paired.length i4,List.take_length] at hws;refine q D2 H9 (P7.trans (s7.trans (s8.trans s9))) (P7.free (s7.free (s8.free p7))) ⟨ws,hD9,?_⟩;unfold onL;rw [if_neg z];exact Paired.mapP hws fun _ _ r=>r.mono s9
theorem Ze0(T:Tx K mg){k:Nat}(h:5<=k:=by decide):Zy P w K mg base (CXF P w) k T.aI.f T.aI.fd ["tracks", "begun"] (Ych T):=(Znf T).mono h
section
variable (ps:List Zc) (js:List (Zc×Zc)) (sg:List (Str×Str×Str)) (e:Zc)
def goL:Nat->List S4->List (List S4)
 | 0,_=>[]
 | n+1,ss=>(onL ps js e ss).flatMap fun q=>if Xw sg q=true then [ss++[q]] else goL n (ss++[q])
def Zp3(ss:List S4)(q:S4):List (List S4):=if Xw sg q=true then [ss++[q]] else goL ps js sg e (13-(ss++[q]).length) (ss++[q])
def Zi3(ss:List S4):List (List S4):=goL ps js sg e (13-ss.length) ss
end
def wt(ss:List S4):Nat:=3 ^ (14-ss.length)
section
variable {ps:List Zc} {js:List (Zc×Zc)} {sg:List (Str×Str×Str)} {e:Zc}
theorem Zqq{ss:List S4}(h:12<=ss.length):onL ps js e ss=[]:=by unfold onL;rw [if_pos (by lia)]
theorem Zwd(ss:List S4):Zi3 ps js sg e ss=(onL ps js e ss).flatMap (Zp3 ps js sg e ss):=by
 unfold Zi3;rcases Nat.lt_or_ge ss.length 13 with z|z
 ·rw [show 13-ss.length=(12-ss.length)+1 by lia];show (onL ps js e ss).flatMap _=_;refine congrArg (fun f=>List.flatMap f (onL ps js e ss)) (funext fun q=>?_);unfold Zp3;rw [List.length_append];show _=if Xw sg q=true then [ss++[q]] else goL ps js sg e (13-(ss.length+1)) (ss++[q])
  rw [show 13-(ss.length+1)=12-ss.length by lia]
 ·rw [Zqq (by lia),show 13-ss.length=0 by lia]
  rfl
theorem Zrb:∀bs:List (List S4),bs.length<=(bs.map wt).sum
 | []=>Nat.le_refl _
 | b ::bs=>by
  have:=Zrb bs;have:1<=wt b:=Nat.one_le_pow _ _ (by decide);show bs.length+1<=wt b+(bs.map wt).sum;lia
theorem Zl1(yv:Yp ps js sg){ss:List S4}:(onL ps js e ss).length<=2:=by
 unfold onL;split
 ·exact Nat.zero_le _
 ·exact Nat.le_trans (List.length_filter_le _ _) (Zlp yv)
end
def Wa(H:Hp)(l:Addr)(sig:Str)(rs:List (List S4)):Prop:=∃ts:List Addr,H l=some (.lst (ts.map V.ref))/\Paired (fun t ss=>W3 H t sig ss) ts rs
theorem Wa.mono{H H':Hp}{l:Addr}{sig:Str}{rs:List (List S4)}(e:Same H H')(h:Wa H l sig rs):Wa H' l sig rs:=let ⟨ts,h1,h2⟩:=h;⟨ts,e.at h1,Paired.mapP h2 fun _ _ r=>r.mono e⟩
theorem W3.off{H:Hp}{c t:Addr}{o:HO}{xs:List V}{sig:Str}{ss:List S4}(h:W3 H t sig ss)(hc:H c=some (.lst xs)):W3 (upd H c o) t sig ss:=by
 obtain ⟨ts,h1,h2⟩:=h;exact ⟨ts,(Zh fun z=>by rw [z,hc] at h1;cases h1).trans h1,Paired.mapP h2 fun _ _ r=>r.off hc⟩
theorem Wa.off{H:Hp}{c l:Addr}{o:HO}{xs:List V}{sig:Str}{rs:List (List S4)}(h:Wa H l sig rs)(hc:H c=some (.lst xs))(n:l≠c):Wa (upd H c o) l sig rs:=let ⟨ts,h1,h2⟩:=h;⟨ts,(Zh n).trans h1,Paired.mapP h2 fun _ _ r=>r.off hc⟩
theorem Wa.add{H:Hp}{l t:Addr}{sig:Str}{ts:List Addr}{rs:List (List S4)}{ss:List S4}(hl:H l=some (.lst (ts.map V.ref)))(h:Paired (fun t ss=>W3 H t sig ss) ts rs)(r:W3 H t sig ss):Wa (upd H l (.lst (ts.map V.ref++[.ref t]))) l sig (rs++[ss]) :=
 ⟨ts++[t],by rw [Zf,List.map_append];rfl,Paired.append (Paired.mapP h fun _ _ r=>r.off hl) (.cons (r.off hl) .nil)⟩
def Zeb(ss:List S4):Ks:=ss.map fun q=>[q.1,q.2.1,q.2.2.1,q.2.2.2]
theorem Zoe{a b:List S4}(h:Zeb a=Zeb b):a=b:=List.map_inj_right (fun x y z=>by
 simp only [List.cons.injEq,and_true] at z;obtain ⟨a,b,c,d⟩:=x;obtain ⟨a',b',c',d'⟩:=y;obtain ⟨rfl,rfl,rfl,rfl⟩:=z
 rfl) |>.mp h
theorem Zzr{H:Hp}{u:Addr}{x y:S4}(h:Y6 H u x)(h2:Y6 H u y):x=y:=by
 have e:=h.symm.trans h2;obtain ⟨a,b,c,d⟩:=x;obtain ⟨a',b',c',d'⟩:=y;simp only [Option.some.injEq,HO.tup.injEq,List.cons.injEq,V.str.injEq,and_true] at e;obtain ⟨rfl,rfl,rfl,rfl⟩:=e
 rfl
theorem Zxe{H:Hp}{us:List Addr}{a b:List S4}(h:Paired (Y6 H) us a)(h':Paired (Y6 H) us b):a=b:=by
 induction h generalizing b with
 | nil=>cases h';rfl
 | cons r t ih=>cases h' with
  | cons r2 t2=>rw [Zzr r r2,ih t2]
theorem Zvx:∀{a b:List Addr},a.map V.ref=b.map V.ref->a=b:=fun h=>List.map_inj_right (fun _ _ z=>V.ref.inj z) |>.mp h
theorem W3.one{H:Hp}{t:Addr}{sig:Str}{a b:List S4}(h:W3 H t sig a)(h2:W3 H t sig b):a=b:=by
 obtain ⟨us,h1,h3⟩:=h;obtain ⟨vs,g1,g3⟩:=h2;rw [h1] at g1;have:=Zvx (List.cons.inj (HO.tup.inj (Option.some.inj g1))).2;subst this;exact Zxe h3 g3
open Classical in
noncomputable def rtF (H:Hp) (sig:Str) (t:Addr):Ks:=if h:∃ss,W3 H t sig ss then Zeb h.choose else []
theorem Zvv{H:Hp}{sig:Str}{t:Addr}{ss:List S4}(h:W3 H t sig ss):rtF H sig t=Zeb ss:=by
 have z:∃ss,W3 H t sig ss:=⟨ss,h⟩
 unfold rtF;rw [dif_pos z,z.choose_spec.one h]
theorem Zft{H:Hp}:∀{us:List Addr} {ss:List S4},Paired (Y6 H) us ss->Paired (fun u l=>H u=some (.tup (l.map V.str))) us (Zeb ss)
 | _,_,.nil=>.nil
 | _,_,.cons a r=>.cons a (Zft r)
theorem Zu1{H:Hp}{sig:Str}{ts:List Addr}{rs:List (List S4)}(h:Paired (fun t ss=>W3 H t sig ss) ts rs):∀t∈ts,∃us:List Addr,H t=some (.tup (.str sig ::us.map V.ref))/\Paired (fun u l=>H u=some (.tup (l.map V.str))) us (rtF H sig t):=fun t ht=>by
 obtain ⟨i,hi,rfl⟩:=List.getElem_of_mem ht;obtain ⟨ss,_,r⟩:=Paired.get h (List.getElem?_eq_getElem hi);rw [Zvv r];obtain ⟨us,r1,r2⟩:=r;exact ⟨us,r1,Zft r2⟩
theorem Zzg{H:Hp}{sig:Str}:∀{ts:List Addr} {rs:List (List S4)},Paired (fun t ss=>W3 H t sig ss) ts rs->ts.Pairwise (fun a b=>leK (rtF H sig a) (rtF H sig b))->(rs.map Zeb).Pairwise leK:=fun {ts rs} h w=>by
 have:ts.map (rtF H sig)=rs.map Zeb:=by
  clear w
  induction h with
  | nil=>rfl
  | cons a _ ih=>rw [List.map_cons,List.map_cons,Zvv a,ih]
 rw [<-this,List.pairwise_map];exact w
def Ybr(T:Tx K mg):Sp:=fun vs H Q _=>∃(x:Addr) (g:Str×Zc) (ps:List Zc) (js:List (Zc×Zc)) (sg:List (Str×Str×Str)),vs=[.ref x,.str g.1]/\Ys T H x ps js sg/\Yp ps js sg/\(g:Str×Str×Str)∈sg /\
 ∀l rs H',Same H H'->H l=none->Wa H' l g.1 rs->rs.Perm (Zi3 ps js sg g.2 [])->(rs.map Zeb).Pairwise leK->Q (.ref l) H'
def Ya4(T:Tx K mg):Sp:=fun vs H _ E=>∃(x:Addr) (v:V) (b:Bool) (ps:List Zc) (js:List (Zc×Zc)) (sg:List (Str×Str×Str)),vs=[.ref x,v]/\Ys T H x ps js sg/\Yp ps js sg/\Zdu K H v b/\(∀a,v=.ref a->∃xs,H a=some (.lst xs)\/H a=some (.tup xs))/\(∀nm,v=.str nm->nm∉sg.map Prod.fst)/\∀H',Same H H'->E (.ref T.bM) none H'
def Ya9(T:Tx K mg):Sp:=fun vs H Q E=>Ybr T vs H Q E\/Ya4 T vs H Q E
theorem Zja(T:Tx K mg):Zy P w K mg base (CXF P w) 6 T.aj.f T.aj.fd ["tracks", "signal"] (Ya9 T):=by
 refine T.aj.F.okX Yu (fun vs H Q E h=>?_) (fun b7 A outer s H vs Q E hr h=>?_)
 ·obtain ⟨x,g,ps,js,sg,rfl,_⟩ | ⟨x,v,b,ps,js,sg,rfl,_⟩:=h <;>rfl
 ·rcases h with h|⟨x,v,b,ps,js,sg,rfl,tr,yv,hA,hf,hn,q⟩
  rotate_left
  ·refine WSs.step (Zz (i:=2) Yu.nd (Zk Za)) ⟨szA,fun lf H1 s1 n1 e1=>?_⟩;refine WSs.step (Zz (i:=3) Yu.nd (Zk (Zb (Zi (Zb (pv 1) Za)) Za))) (exR rfl ⟨szA,fun t2 H2 s2 n2 e2=>⟨szA,fun lb H3 s3 n3 e3=>?_⟩⟩);have K1:=s1.trans (s2.trans s3);refine WSs.step (Znp PassesOwn.leaving (Znl (pv 3) (fun _=>rfl)) Zv) ⟨fun _ σ H'=>σ=[some (.ref x),some v,some (.ref lf),some (.ref lb),none,none]/\H'=H3,⟨0,rfl,rfl⟩,?_⟩;rintro n σ H4 ⟨rfl,rfl⟩;refine (exR rfl ⟨true,.inl ⟨_,SqL.of e3,rfl⟩,Ye (fun _=>?_) (fun z=>absurd rfl z)⟩);refine ⟨fun _ _=>False,fun _ _ h=>h.elim,?_⟩;refine WSs.step (Zz (i:=4) Yu.nd (Zqb PySem.F.plainAttrs_list PySem.F.slot_list_pop PySem.F.type_list_pop Zv7 (pv 3))) (exR rfl ⟨.inl ⟨rfl,_,SqL.of e3⟩,lb,_,.ref t2,rfl,rfl,e3,rfl,?_⟩);have sm:Same H (upd H4 lb (.lst ([V.ref t2]:List V).dropLast)):=K1.upd0 (s1.free (s2.free n3));have ne:t2≠lb:=fun z=>by rw [z] at e2;rw [e2] at n3;cases n3
   exact WSs.last (Y8 PassesOwn.leaving rfl (Ym (Zr (Ze0 T) hr rfl T.ce T.aI.F.kp T.aI.b .nil Zfc (Zb (pv 0) (Zb (pv 4) Za)))) (Yr (i:=5) Yu.nd) Zv) (exR rfl (exR rfl (.inr ⟨x,t2,v,b,ps,js,sg,rfl,tr.mono sm,yv,(Zh ne).trans (s3.at e2),hA.mono sm hf,hn,fun H' s'=>q H' (sm.trans s')⟩)))
  obtain ⟨x,⟨sig,e⟩,ps,js,sg,rfl,tr,yv,hg,q⟩:=h;refine WSs.step (Zz (i:=2) Yu.nd (Zk Za)) ⟨szA,fun lf H1 s1 n1 e1=>?_⟩;refine WSs.step (Zz (i:=3) Yu.nd (Zk (Zb (Zi (Zb (pv 1) Za)) Za))) (exR rfl ⟨szA,fun t2 H2 s2 n2 e2=>⟨szA,fun lb H3 s3 n3 e3=>?_⟩⟩);have nfb:lf≠lb:=fun z=>by rw [z] at e1;rw [s2.at e1] at n3;cases n3
  have nlb:H lb=none:=s1.free (s2.free n3);have K1:=s1.trans (s2.trans s3);let I27:=fun (σ:St) (H':Hp)=>(∃o3 o4 o5,σ=[some (.ref x),some (.str sig),some (.ref lf),o3,o4,o5])/\Same H H'/\∃rs,Wa H' lf sig rs/\rs.Perm (Zi3 ps js sg e [])
  refine WSs.cut I27 ?_ ?_
  ·refine WS.of (Znp PassesOwn.leaving (Znl (pv 3) (fun _=>rfl)) Zv) ⟨fun n σ H'=>∃rs bs o4 o5,n=(bs.map wt).sum/\σ=[some (.ref x),some (.str sig),some (.ref lf),some (.ref lb),o4,o5]/\Same H H'/\Wa H' lf sig rs/\Wa H' lb sig bs/\rs.length+(bs.map wt).sum<=4782969/\(∀b∈bs,b.length<=12)/\(rs++bs.flatMap (Zi3 ps js sg e)).Perm (Zi3 ps js sg e []),⟨_,[],[[]],none,none,rfl,rfl,K1,⟨[],s3.at (s2.at e1),.nil⟩,⟨[t2],e3,.cons ⟨[],s3.at e2,.nil⟩ .nil⟩,by trivial,fun b hb=>by rw [List.mem_singleton.mp hb];exact Nat.zero_le _,by simp⟩,?_⟩;rintro n σ H4 ⟨rs,bs,o4,o5,rfl,rfl,s4,K2,⟨ts,hlb,d7⟩,hsum,d6,m6⟩;have A0:=Paired.length d7;refine (exR rfl ⟨!(ts.map V.ref).isEmpty,.inl ⟨_,SqL.of hlb,rfl⟩,?_⟩);refine Ye (fun z=>?_) (fun z=>⟨⟨_,_,_,rfl⟩,s4,rs,K2,?_⟩);rotate_left
   ·have z:ts.length=0:=by
     cases ts with
     | nil=>rfl
     | cons a as=>exact absurd rfl z
    have:bs=[]:=List.length_eq_zero_iff.mp (by lia);rw [this] at m6;simpa using m6
   have z:0<ts.length:=by
    cases ts with
    | nil=>exact absurd z (by decide)
    | cons a as=>exact Nat.succ_pos _
   obtain ⟨ta,hta⟩:∃ta,ts[ts.length-1]? =some ta:=⟨_,List.getElem?_eq_getElem (by lia)⟩
   obtain ⟨ah,hah,ra⟩:=Paired.get d7 hta;obtain ⟨us,rfl⟩:=List.getLast?_eq_some_iff.mp (show ts.getLast? =some ta by rw [List.getLast?_eq_getElem?];exact hta);obtain ⟨b1,rfl⟩:=List.getLast?_eq_some_iff.mp (show bs.getLast? =some ah by rw [List.getLast?_eq_getElem?,<-A0];exact hah);rw [List.map_append,List.sum_append] at hsum;have hal:ah.length<=12:=d6 ah (List.mem_append_right _ List.mem_cons_self);obtain ⟨B,hB⟩:∃B,B=3 ^ (13-ah.length):=⟨_,rfl⟩
   have hB1:1<=B:=by rw [hB];exact Nat.one_le_pow _ _ (by decide)
   have hwt:(List.map wt [ah]).sum=3 * B:=by
    show wt ah+0=_;unfold wt;rw [hB,Nat.add_zero,show 14-ah.length=(13-ah.length)+1 by lia,Nat.pow_succ,Nat.mul_comm]
   rw [hwt] at hsum;refine ⟨fun σ' H'=>∃B2 y7 o4 o5,(y7.map wt).sum<=(b1.map wt).sum+2 * B/\σ'=[some (.ref x),some (.str sig),some (.ref lf),some (.ref lb),o4,o5]/\Same H H'/\Wa H' lf sig B2/\Wa H' lb sig y7/\B2.length+(y7.map wt).sum<=4782969/\(∀b∈y7,b.length<=12)/\(B2++y7.flatMap (Zi3 ps js sg e)).Perm (Zi3 ps js sg e []),fun σ' H' ⟨B2,y7,p4,p5,h1,h2,h3⟩=>⟨_,?_,B2,y7,p4,p5,rfl,h2,h3⟩,?_⟩
   ·rw [List.map_append,List.sum_append,hwt];lia
   have hlu:H4 lb=some (.lst ((us++[ta]).map V.ref)):=hlb;refine WSs.step (Zz (i:=4) Yu.nd (Zqb PySem.F.plainAttrs_list PySem.F.slot_list_pop PySem.F.type_list_pop Zv7 (pv 3))) (exR rfl ⟨.inl ⟨rfl,_,SqL.of hlb⟩,lb,_,.ref ta,rfl,rfl,hlb,?_,?_⟩)
   ·rw [List.map_append,List.length_append,List.length_map];show (us.map V.ref++[V.ref ta])[us.length+1-1]? =_;rw [Nat.add_sub_cancel,List.getElem?_append_right (by rw [List.length_map];exact Nat.le_refl _),List.length_map,Nat.sub_self]
    rfl
   have el:upd H4 lb (.lst ((us++[ta]).map V.ref).dropLast) lb=some (.lst (us.map V.ref)):=by rw [Zf,List.map_append];exact congrArg (fun l=>some (HO.lst l)) (List.dropLast_concat)
   have hts':Paired (fun t ss=>W3 H4 t sig ss) us b1:=by
    have:=Zd6 us.length d7;rwa [List.take_left,show us.length=b1.length by have:=A0;rw [List.length_append,List.length_append] at this;simpa using this,List.take_left] at this
   have hrs5:=K2.off (o:=.lst ((us++[ta]).map V.ref).dropLast) hlb nfb;have ra5:=ra.off (o:=.lst ((us++[ta]).map V.ref).dropLast) hlb;have hbs5:Wa (upd H4 lb (.lst ((us++[ta]).map V.ref).dropLast)) lb sig b1:=⟨us,el,Paired.mapP hts' fun _ _ r=>r.off hlb⟩
   have s5:Same H (upd H4 lb (.lst ((us++[ta]).map V.ref).dropLast)):=s4.upd0 nlb;generalize upd H4 lb (.lst ((us++[ta]).map V.ref).dropLast)=H5 at hrs5 ra5 hbs5 s5;refine WSs.last (Y8 PassesOwn.leaving rfl (Ym (Zr (Ze0 T) hr rfl T.ce T.aI.F.kp T.aI.b .nil Zfc (Zb (pv 0) (Zb (pv 4) Za)))) (Yr (i:=5) Yu.nd) Zv) (exR rfl (exR rfl (.inl ⟨x,ta,(sig,e),ah,ps,js,sg,rfl,tr.mono s5,yv,hg,ra5,by lia,fun l6 H6 s6 n6 ⟨vs,h6,C2⟩=>⟨l6,rfl,⟨_,SqL.of h6⟩,Xx (K:=K) (xs:=vs.map V.ref) (fun i σ H'=>∃B2 y7 o5,(y7.map wt).sum<=(b1.map wt).sum+i * B/\B2.length+(y7.map wt).sum<=rs.length+(b1.map wt).sum+i * B/\σ=[some (.ref x),some (.str sig),some (.ref lf),some (.ref lb),some (.ref ta),o5]/\Same H H'/\H' l6=some (.lst (vs.map V.ref))/\Paired (Y6 H') vs (onL ps js e ah)/\W3 H' ta sig ah/\Wa H' lf sig B2/\Wa H' lb sig y7/\(∀b∈y7,b.length<=12)/\(B2++y7.flatMap (Zi3 ps js sg e)++((onL ps js e ah).drop i).flatMap (Zp3 ps js sg e ah)).Perm (Zi3 ps js sg e [])) ⟨rs,b1,o5,by lia,by lia,rfl,s5.trans s6,h6,C2,ra5.mono s6,hrs5.mono s6,hbs5.mono s6,fun b hb=>d6 b (List.mem_append_left _ hb),?_⟩ ?_ ?_ ?_⟩⟩)))
   ·rw [List.drop_zero,<-Zwd];rw [List.flatMap_append,<-List.append_assoc] at m6;simpa using m6
   ·rintro i σ H' _ ⟨_,_,_,_,_,_,_,h,_⟩;exact SqL.of h
   ·rintro i v σ H7 hi ⟨B2,y7,o5',w1,w2,rfl,s7,h7,hv7,ra7,hr7,hb7,hl7,U7⟩;rw [List.getElem?_map] at hi;obtain ⟨tq,K7,rfl⟩:=Option.map_eq_some_iff.mp hi;obtain ⟨qq,A1,rq⟩:=Paired.get hv7 K7;have few:=Zl1 (e:=e) (ss:=ah) yv;have E5:=(List.getElem?_eq_some_iff.mp A1).1;have hah12:ah.length<12:=by
     rcases Nat.lt_or_ge ah.length 12 with y|y
     ·exact y
     ·rw [Zqq y] at E5;exact absurd E5 (Nat.not_lt_zero _)
    have hdrop:(onL ps js e ah).drop i=qq ::(onL ps js e ah).drop (i+1):=by
     rw [List.drop_eq_getElem_cons E5];rw [List.getElem?_eq_getElem E5] at A1;rw [Option.some.inj A1]
    rw [hdrop,List.flatMap_cons] at U7;have hwn:wt (ah++[qq])=B:=by
     unfold wt;rw [hB,List.length_append];show 3 ^ (14-(ah.length+1))=_;rw [show 14-(ah.length+1)=13-ah.length by lia]
    have nl6:l6≠lf/\l6≠lb:=⟨fun v=>(let ⟨_,k,_⟩:=hrs5;nomatch (v ▸ n6).symm.trans k),fun v=>(let ⟨_,k,_⟩:=hbs5;nomatch (v ▸ n6).symm.trans k)⟩
    have iB:(i+1) * B=i * B+B:=by rw [Nat.add_mul,Nat.one_mul]
    have sB:i * B<=1 * B:=Nat.mul_le_mul_right _ (by lia);have tup:∀{H8:Hp},Same H7 H8->∀{t8:Addr},H8 t8=some (.tup [.ref tq])->∀{Q':VK},(∀t9 H9,Same H8 H9->W3 H9 t9 sig (ah++[qq])->Q' (.ref t9) H9)->Zuk K (.ref ta) (.ref t8) H8 Q':=fun {H8} s8 {t8} e8 {Q'} k=>by
     obtain ⟨ws,g1,g2⟩:=ra7.mono s8;have hwl:=Paired.length g2;refine ⟨ta,t8,_,_,rfl,rfl,SqT.of g1,SqT.of e8,by simp,by simp,by rw [List.length_cons,List.length_map,hwl];exact sz (by show _+1+1<=_;lia),fun t9 H9 s9 n9 e9=>k t9 H9 s9 ⟨ws++[tq],?_,?_⟩⟩
     ·rw [e9,List.map_append];rfl
     ·exact Paired.append (Paired.mapP g2 fun _ _ r=>r.mono s9) (.cons ((rq.mono s8).mono s9) .nil)
    refine WSs.last (Z8 (Xb (Zr (Zfe T) hr rfl T.cj T.aD.F.kp T.aD.b .nil Z2 (Zb (pv 0) (Zb (pv 5) Za)))) Zv Zv) (exR rfl (exR rfl ⟨x,tq,qq,ps,js,sg,rfl,tr.mono s7,yv,rq,fun H8 s8=>(exR rfl (Ye (fun y=>?_) (fun y=>?_)))⟩))
    ·obtain ⟨fs,f1,f2⟩:=hr7.mono s8;refine WSs.last (Xg (Zdc PySem.F.plainAttrs_list PySem.F.slot_list_append PySem.F.type_list_append Xf (pv 2) (Zb (Zp Znn (pv 4) (Zi (Zb (pv 5) Za))) Za))) (exR rfl ⟨.inl ⟨rfl,_,SqL.of f1⟩,_,rfl,_,rfl,szA,fun t8 H9 s9 n9 e9=>tup (s8.trans s9) e9 fun t9 L4 j8 V7=>⟨lf,_,_,rfl,rfl,(s9.trans j8).at f1,?_,?_⟩⟩)
     ·have R0:=Paired.length f2;rw [List.length_map,sizeLine_eq,R0];lia
     have w5:=s8.trans (s9.trans j8);have fe:=(s9.trans j8).at f1;have hone:Zp3 ps js sg e ah qq=[ah++[qq]]:=by unfold Zp3;rw [if_pos y]
     rw [hone] at U7;refine ⟨B2++[ah++[qq]],y7,some (.ref tq),by lia,by rw [List.length_append];show _+1+_<=_;lia,rfl,(s7.trans w5).upd0 n1,(Zh nl6.1).trans (w5.at h7),Paired.mapP hv7 fun _ _ r=>(r.mono w5).off fe,(ra7.mono w5).off fe,Wa.add fe (Paired.mapP f2 fun _ _ r=>r.mono (s9.trans j8)) V7,(hb7.mono w5).off fe nfb.symm,hl7,List.Perm.trans ?_ U7⟩;rw [List.append_assoc,List.append_assoc,List.append_assoc];refine List.Perm.append_left B2 ?_;rw [<-List.append_assoc,<-List.append_assoc];exact List.Perm.append_right _ List.perm_append_comm
    ·obtain ⟨fs,f1,f2⟩:=hb7.mono s8;refine WSs.last (Xg (Zdc PySem.F.plainAttrs_list PySem.F.slot_list_append PySem.F.type_list_append Xf (pv 3) (Zb (Zp Znn (pv 4) (Zi (Zb (pv 5) Za))) Za))) (exR rfl ⟨.inl ⟨rfl,_,SqL.of f1⟩,_,rfl,_,rfl,szA,fun t8 H9 s9 n9 e9=>tup (s8.trans s9) e9 fun t9 L4 j8 V7=>⟨lb,_,_,rfl,rfl,(s9.trans j8).at f1,?_,?_⟩⟩)
     ·have R0:=Paired.length f2;have:=Zrb y7;rw [List.length_map,sizeLine_eq,R0];lia
     have w5:=s8.trans (s9.trans j8);have fe:=(s9.trans j8).at f1;have hone:Zp3 ps js sg e ah qq=Zi3 ps js sg e (ah++[qq]):=by unfold Zp3;rw [if_neg y];rfl
     rw [hone] at U7;have hsm:((y7++[ah++[qq]]).map wt).sum=(y7.map wt).sum+B:=by rw [List.map_append,List.sum_append];show _+(wt (ah++[qq])+0)=_;rw [hwn,Nat.add_zero]
     refine ⟨B2,y7++[ah++[qq]],some (.ref tq),by lia,by lia,rfl,(s7.trans w5).upd0 nlb,(Zh nl6.2).trans (w5.at h7),Paired.mapP hv7 fun _ _ r=>(r.mono w5).off fe,(ra7.mono w5).off fe,(hr7.mono w5).off fe nfb,Wa.add fe (Paired.mapP f2 fun _ _ r=>r.mono (s9.trans j8)) V7,fun b hb=>?_,?_⟩
     ·rcases List.mem_append.mp hb with v|v
      ·exact hl7 b v
      ·rw [List.mem_singleton.mp v,List.length_append];show _+1<=_;lia
     ·rw [List.flatMap_append,List.flatMap_singleton,<-List.append_assoc,List.append_assoc];exact U7
   ·rintro σ H7 ⟨B2,y7,o5',w1,w2,rfl,s7,h7,hv7,ra7,hr7,hb7,hl7,U7⟩;have few:=Zl1 (e:=e) (ss:=ah) yv;have hvl:=Paired.length hv7;rw [List.length_map,hvl] at w1 w2 U7;rw [List.drop_length] at U7;have sB:(onL ps js e ah).length * B<=2 * B:=Nat.mul_le_mul_right _ few;exact ⟨B2,y7,_,_,by lia,rfl,s7,hr7,hb7,by lia,hl7,by simpa using U7⟩
  rintro σ H4 ⟨⟨o3,o4,o5,rfl⟩,s4,rs,⟨ts,h1,h2⟩,hp⟩;refine WSs.last (Zl (Zu (r:=Zu8 K) (Zqg hr.units) (by rfl) T.cS PyProof.Rows.boot_sorted (Zb (pv 2) Za))) (exR rfl ⟨lf,ts,sig,rtF H4 sig,rfl,SqL.of h1,Zu1 h2,fun y4 hp' hw l5 H5 s5 n5 e5=>?_⟩);obtain ⟨B2,p1,p2⟩:=Zkz hp' h2;exact q l5 B2 H5 (s4.trans s5) (s4.free n5) ⟨y4,e5,Paired.mapP p2 fun _ _ r=>r.mono s5⟩ (p1.trans hp) (Zzg p2 hw)
theorem Zb9(T:Tx K mg){k:Nat}(h:6<=k:=by decide):Zy P w K mg base (CXF P w) k T.aj.f T.aj.fd ["tracks", "signal"] (Ya9 T):=(Zja T).mono h
def asQ:Tr->Option S4
 | .tup [.str a,.str b,.str c,.str d]=>some (a,b,c,d)
 | _=>none
theorem Yad{t:Tr}{q:S4}(h:asQ t=some q):t=Wb q:=by
 unfold asQ at h;split at h
 ·cases h;rfl
 ·cases h
section
variable (ps:List Zc) (js:List (Zc×Zc)) (sg:List (Str×Str×Str)) (e:Zc)
def Wf:List S4->List Tr->Bool
 | _,[]=>false
 | ss,t ::r=>match asQ t with
  | none=>false
  | some q=>decide (q∈onL ps js e ss) && (if Xw sg q=true then r.isEmpty else Wf (ss++[q]) r)
def Zg4:List Tr->Bool
 | .str s ::t ::r=>match sg.find? (fun g=>decide (g.1=s)) with
  | none=>false
  | some g=>Wf ps js sg g.2 [] (t ::r)
 | _=>false
end
def Zmv(K:Frag)(H:Hp)(t:Tr)(v:V):Prop:=Im K H 3 t v/\∀q,t=Wb q->∃a,v=.ref a/\Y6 H a q
def Yb9(K:Frag)(H:Hp)(v:V):Option (List Tr)->Prop
 | none=>∃t,W6 K H v t/\kitOne K t (.type "tuple")=some false
 | some ts=>∃a xs,v=.ref a/\H a=some (.tup xs)/\Paired (Zmv K H) ts xs/\ts.length<=40
def Ybb(ps:List Zc)(js:List (Zc×Zc))(sg:List (Str×Str×Str)):Option (List Tr)->Bool
 | none=>false
 | some ts=>Zg4 ps js sg ts
theorem Y6.im3{H:Hp}{u:Addr}{q:S4}(h:Y6 H u q):Im K H 3 (Wb q) (.ref u):=Im.tup (n:=2) (SqT.of h) (.cons (.str _) (.cons (.str _) (.cons (.str _) (.cons (.str _) .nil))))
theorem Zmv.mono{H H':Hp}{t:Tr}{v:V}(e:Same H H')(h:Zmv K H t v):Zmv K H' t v:=⟨h.1.mono e,fun q z=>let ⟨a,h1,h2⟩:=h.2 q z;⟨a,h1,h2.mono e⟩⟩
def Ycl(ss:List Str):Tr->Bool
 | .str s=>decide (s∈ss)
 | _=>false
theorem Zp2{v:V}(h:∀s,eqV (.str s) v=false):∀l:List Str,inV v (l.map V.str)=false
 | []=>rfl
 | s ::l=>by
  show (eqV (.str s) v || inV v (l.map V.str))=false;rw [h,Zp2 h l]
  rfl
theorem Znb{H:Hp}{n:Nat}{t:Tr}{v:V}{D:Addr}{ss:List Str}{Q:VK}(h:Im K H n t v)(hD:H D=some (.lst (ss.map V.str)))(q:Q (.bl (!Ycl ss t)) H):Zme K v (.ref D) H Q:=by
 cases h with
 | non=>exact .inl (.inl (.inl ⟨D,_,rfl,.inl (SqL.of hD),rfl,Wt _,by rw [if_pos rfl,Zp2 fun _=>rfl];exact q⟩))
 | int i=>exact .inl (.inl (.inl ⟨D,_,rfl,.inl (SqL.of hD),rfl,Wt _,by rw [if_pos rfl,Zp2 fun _=>rfl];exact q⟩))
 | str x=>exact .inl (.inl (.inl ⟨D,_,rfl,.inl (SqL.of hD),rfl,Wt _,by rw [if_pos rfl,Zaq];exact q⟩))
 | tupI h1 _=>exact .inr ⟨D,_,_,ss,rfl,rfl,SqL.of hD,h1,q⟩
 | lstI h1 _=>exact .inl (.inr ⟨D,_,_,ss,rfl,rfl,SqL.of hD,h1,q⟩)
theorem Zwg{H:Hp}{ts:List Addr}{ss:List S4}(h:Paired (Y6 H) ts ss):Paired (Im K H 3) (ss.map Wb) (ts.map V.ref):=by
 induction h with
 | nil=>exact .nil
 | cons r _ ih=>exact .cons r.im3 ih
theorem Zuq{H:Hp}:∀{ss:List S4} {vs:List V},Paired (Zmv K H) (ss.map Wb) vs->∃as:List Addr,vs=as.map V.ref/\Paired (Y6 H) as ss
 | [],_,.nil=>⟨[],rfl,.nil⟩
 | q ::ss,_,.cons r t=>by
  obtain ⟨as,rfl,h⟩:=Zuq t;obtain ⟨a,rfl,h'⟩:=r.2 q rfl;exact ⟨a ::as,rfl,.cons h' h⟩
def Zyy(T:Tx K mg):Sp:=fun vs H Q _=>∃(x:Addr) (v:V) (o:Option (List Tr)) (ps:List Zc) (js:List (Zc×Zc)) (sg:List (Str×Str×Str)),vs=[.ref x,v]/\Ys T H x ps js sg/\Yp ps js sg/\Yb9 K H v o/\∀H',Same H H'->Q (.bl (Ybb ps js sg o)) H'
theorem Zom(T:Tx K mg):Zy P w K mg base CX0 6 T.bw.f T.bw.fd ["tracks", "thing"] (Zyy T):=by
 refine T.bw.F.okW Zg7 fun b7 A outer s H vs Q E hr h=>?_
 ·obtain ⟨x,v,o,ps,js,sg,rfl,tr,yv,ho,q⟩:=h;intro X;cases o with
  | none =>
   obtain ⟨t,h1,h2⟩:=ho;refine WSs.step (Z8 (PW.pt (Zda (Wc (Xb (Zu (r:=Zkg K) X6 (by rfl) T.aK PyProof.Rows.boot_isinstance (Zb (pv 1) (Zb (Zbt (v:=.ty "tuple") (by rfl) T.cF PyProof.Rows.boot_tuple rfl) Za))))) (Zbl (Zm Zhb (Zu (r:=Xk K) Xo (by rfl) T.aZ PySem.boot_len (Zb (pv 1) Za)) Zd (Z0 _))))) Zv Zs) (exR rfl ⟨_,_,false,t,rfl,h1,.inl (exR rfl h2),_,rfl,Zhy (Zhy ?_)⟩);exact WSs.last (Zl Zc9) (q H (Same.refl _))
  | some ts =>
  obtain ⟨a,xs,rfl,ha,d7,h40⟩:=ho;have hl:=Paired.length d7;have q:∀H',Same H H'->Q (.bl (Zg4 ps js sg ts)) H':=q;refine WSs.step (Z8 (PW.pt (Zda (Wc (Xb (Zu (r:=Zkg K) X6 (by rfl) T.aK PyProof.Rows.boot_isinstance (Zb (pv 1) (Zb (Zbt (v:=.ty "tuple") (by rfl) T.cF PyProof.Rows.boot_tuple rfl) Za))))) (Zbl (Zm Zhb (Zu (r:=Xk K) Xo (by rfl) T.aZ PySem.boot_len (Zb (pv 1) Za)) Zd (Z0 _))))) Zv Zs) (exR rfl ⟨_,_,true,_,rfl,W6.tup ha,.inl (exR rfl T.fL),_,rfl,Zp0 (exR rfl (.inl ⟨a,_,rfl,.inr (SqT.of ha),_,_,rfl,rfl,_,rfl,Ye (fun z=>?_) (fun z=>?_)⟩))⟩)
  ·have z:ts.length<2:=by
    have:=of_decide_eq_true z;lia
   refine WSs.last (Zl Zc9) ?_;have:Zg4 ps js sg ts=false:=by
    rcases ts with _|⟨t,_|⟨t',r⟩⟩
    ·rfl
    ·cases t <;>rfl
    ·exact absurd z (by show ¬r.length+1+1<2;lia)
   rw [this] at q;exact q H (Same.refl _)
  have z:¬xs.length<2:=fun y=>z (decide_eq_true (by lia))
  obtain ⟨dx,_,_,_,_,_,_,_,_,h1,_⟩:=tr.ex;obtain ⟨t0,t1,r,rfl⟩:∃t0 t1 r,ts=t0 ::t1 ::r:=by
   rcases ts with _|⟨t,_|⟨t',r⟩⟩
   ·exact absurd (by rw [<-hl];show 0<2;lia) z
   ·exact absurd (by rw [<-hl];show 1<2;lia) z
   ·exact ⟨_,_,_,rfl⟩
  obtain ⟨v0,hv0,i0⟩:=Paired.get d7 (i:=0) rfl;refine WSs.step (Z8 (Zm (r:=Zme K) (Zxu hr) (Zn (K:=K) rfl (pv 1) Zd) (Xu (N':=["signal"]) rfl (Z5.std 1 [] rfl (by trivial) (by trivial) rfl trivial rfl rfl trivial) (Ym (Zdv (pv 0) T.ae T.cv (Zgm T) hr T.aB.b .nil Z2)) (fun _ _ _ _=>(Zan (i:=0) (by show (["signal"]:List Str).Nodup;decide +kernel))) (fun _ _ _ _=>Wl) (fun _ _ _ _=>(Zn (K:=K) rfl (pv 0) Zd))) (by with_unfolding_all rfl)) Zv Zs) (exR rfl (.inr (.inl ⟨a,_,0,v0,rfl,rfl,SqT.of ha,Y4 (j:=0) hv0,_,rfl,x,dx,_,rfl,h1,rfl,x,ps,js,sg,rfl,tr,yv,fun V8 l1 H1 hp s1 n1 ⟨gs,e1,M6⟩=>⟨l1,rfl,⟨_,SqL.of e1⟩,fun D hD=>Xr (K:=K) (xs:=gs.map V.ref) (fun i ys H'=>ys=((V8.take i).map Prod.fst).map V.str/\H' D=some (.lst ys)/\Same H1 H') ⟨rfl,Zf,Same.new hD⟩ ?_ ?_ ?_⟩⟩)))
  ·rintro i ys H' _ ⟨_,_,sm⟩;exact SqL.of (sm.at e1)
  ·rintro i v ys H2 hi ⟨rfl,p7,s2⟩;rw [List.getElem?_map] at hi;obtain ⟨tg,htg,rfl⟩:=Option.map_eq_some_iff.mp hi;obtain ⟨g,hg,rg⟩:=Paired.get M6 htg;refine ⟨X5.set rfl,_,rfl,(ixT (s2.at rg) 0 rfl ⟨p7,?_,?_,Zf,fun b o y=>?_⟩)⟩
   ·have:=(List.getElem?_eq_some_iff.mp hg).1;have:=hp.length_eq;have:=yv.sigs.len;rw [List.length_map,List.length_map,List.length_take];exact Zw (by lia)
   ·rw [List.take_add_one,hg,List.map_append,List.map_append];rfl
   ·rw [Zh (Zj y hD)];exact s2.at y
  rintro ys H2 ⟨rfl,p7,s2⟩;rw [List.length_map,Paired.length M6,List.take_length] at p7;have s02:=s1.trans s2;refine Znb (i0.mono s02).1 p7 ⟨_,rfl,Ye (fun y=>?_) (fun y=>?_)⟩
  ·refine WSs.last (Zl Zc9) ?_;have:Zg4 ps js sg (t0 ::t1 ::r)=false:=by
    cases t0 with
    | str nm =>
     show (match sg.find? (fun g=>decide (g.1=nm)) with
      | none=>false
      | some g=>Wf ps js sg g.2 [] (t1 ::r))=false
     rw [List.find?_eq_none.mpr fun g hg e=>?_];have y:decide (nm∈V8.map Prod.fst)=false:=(Bool.not_eq_true' _).mp y;exact absurd ((hp.map _).mem_iff.mpr (List.mem_map.mpr ⟨g,hg,of_decide_eq_true e⟩)) (of_decide_eq_false y)
    | non=>rfl
    | int _=>rfl
    | tup _=>rfl
    | lst _=>rfl
   rw [this] at q;exact q H2 s02
  obtain ⟨nm,rfl,O2⟩:∃nm,t0=.str nm/\nm∈V8.map Prod.fst:=by
   cases t0 with
   | str nm=>exact ⟨nm,rfl,by simpa [Ycl] using y⟩
   | non=>exact absurd rfl y
   | int _=>exact absurd rfl y
   | tup _=>exact absurd rfl y
   | lst _=>exact absurd rfl y
  obtain rfl:v0=.str nm:=by cases i0.1;rfl
  obtain ⟨⟨nm',e⟩,hg,rfl⟩:=List.mem_map.mp ((hp.map _).mem_iff.mp O2);have hrt:Zg4 ps js sg (.str nm' ::t1 ::r)=Wf ps js sg e [] (t1 ::r):=by
   show (match sg.find? (fun g=>decide (g.1=nm')) with
    | none=>false
    | some g=>Wf ps js sg g.2 [] (t1 ::r))=_
   rw [Zic yv.sigs.nd hg]
  rw [hrt] at q;have U5:xs.length=r.length+2:=hl.symm;have h40:r.length+2<=40:=h40;obtain ⟨vs,rfl⟩:∃vs,xs=.str nm' ::vs:=by
   cases xs with
   | nil=>cases hv0
   | cons v vs=>exact ⟨vs,by rw [Option.some.inj hv0]⟩
  have C2:Paired (Zmv K H) (t1 ::r) vs:=by cases d7;assumption
  have hvl:=Paired.length C2;let I28:=fun (σ:St) (H':Hp)=>Same H H'/\Wf ps js sg e [] (t1 ::r)=false
  refine WSs.cut I28 ?_ ?_
  ·refine WS.of (Y8 PassesOwn.never rfl (Zce rfl T.bU (Zb Zd (Zb (Zu (r:=Xk K) Xo (by rfl) T.aZ PySem.boot_len (Zb (pv 1) Za)) Za))) (Yr (i:=2) Zg7.nd) Zv) (exR rfl (.inl ⟨a,_,rfl,.inr (SqT.of (s02.at ha)),1,_,rfl,⟨by decide,by decide,by lia,by lia⟩,?_⟩));rw [show ((((V.str nm' ::vs).length:Nat):Int)-1).toNat=(t1 ::r).length by rw [List.length_cons,hvl];lia];let I29:=fun (i:Nat) (σ:St) (H':Hp)=>∃ss o,σ=[some (.ref x),some (.ref a),o]/\Same H H'/\(t1 ::r).take i=ss.map Wb/\ss.length=i/\Wf ps js sg e [] (t1 ::r)=Wf ps js sg e ss ((t1 ::r).drop i)
   refine Zd1 I29 ⟨[],none,rfl,s02,rfl,rfl,rfl⟩ ?_ ?_
   ·rintro i σ H3 hi ⟨ss,o,rfl,s3,N1,F4,hwk⟩;obtain ⟨t,r',hdr⟩:∃t r',(t1 ::r).drop i=t ::r':=by
     rw [List.drop_eq_getElem_cons hi];exact ⟨_,_,rfl⟩
    have R6:(t1 ::r)[i]? =some t:=by
     have:=congrArg (fun l=>l[0]?) hdr;simpa using this
    have hr'l:(t1 ::r).length=i+1+r'.length:=by
     have:=congrArg List.length hdr;rw [List.length_drop,List.length_cons (as:=r')] at this;lia
    have hdr1:(t1 ::r).drop (i+1)=r':=by
     rw [<-List.drop_drop,hdr]
     rfl
    obtain ⟨v,hv,iv⟩:=Paired.get C2 R6;have av:atI (V.str nm' ::vs) (1+(i:Nat):Int)=some v:=by
     rw [show (1+(i:Nat):Int)=((i+1:Nat):Int) by lia];exact Y4 hv
    obtain ⟨as,has,hS⟩:=Zuq (H:=H) (ss:=ss) (vs:=vs.take i) (by rw [<-N1];exact Zd6 i C2);rw [hdr] at hwk;have e1i:(1+(i:Nat):Int)=((i+1:Nat):Int):=by lia
    refine WSs.step (Z8 (Zm (r:=Zai K) (Za3 hr) (Zn (K:=K) rfl (pv 1) (pv 2)) (Zr (Ze0 T) hr rfl T.ce T.aI.F.kp T.aI.b .nil Zg2 (Zb (pv 0) (Zb (Xv (r:=Zf9 K) Zht (pv 1) Wj (X4 (pv 2))) Za))) (by with_unfolding_all rfl)) Zv Zs) (exR rfl (exR rfl (.inr (.inl ⟨a,_,_,v,rfl,rfl,SqT.of (s3.at ha),av,_,rfl,_,rfl,_,rfl,_,rfl,.inl ⟨a,_,rfl,SqT.of (s3.at ha),?_,fun t4 H4 s4 n4 e4=>.inl ⟨x,t4,(nm',e),ss,ps,js,sg,rfl,tr.mono (s3.trans s4),yv,hg,⟨as,?_,Paired.mapP hS fun _ _ r=>Y6.mono (s3.trans s4) r⟩,?_,fun l5 H5 s5 n5 ⟨us,h5,i4⟩=>.inr (.inr ⟨l5,3,t,(onL ps js e ss).map Wb,us,rfl,SqL.of h5,by decide,(iv.mono (s3.trans (s4.trans s5))).1,Zwg i4,(exR rfl ?_)⟩)⟩⟩⟩))))
    ·rintro ⟨_,y⟩;rw [e1i,HT.sIx_nat,List.length_cons,<-hvl] at y;lia
    ·rw [e1i,Zi9] at e4;rw [e4,<-has]
     rfl
    ·have:i<r.length+1:=hi;lia
    have s5':=s3.trans (s4.trans s5);rw [if_pos rfl];refine Ye (fun y=>?_) (fun y=>?_)
    ·refine WSs.last (Zl Zc9) ?_;have y:decide (t∈(onL ps js e ss).map Wb)=false:=(Bool.not_eq_true' _).mp y;have:Wf ps js sg e ss (t ::r')=false:=by
      rw [Wf];cases hq:asQ t with
      | none=>rfl
      | some qq =>
       rw [Yad hq,Zqn] at y;show (decide (qq∈onL ps js e ss) && _)=false;rw [y]
       rfl
     rw [hwk,this] at q;exact q H5 s5'
    have y:t∈(onL ps js e ss).map Wb:=by
     have:decide (t∈(onL ps js e ss).map Wb)=true:=by
      cases d:decide (t∈(onL ps js e ss).map Wb) with
      | true=>rfl
      | false=>rw [d] at y;exact absurd rfl y
     exact of_decide_eq_true this
    obtain ⟨qq,A1,rfl⟩:=List.mem_map.mp y;obtain ⟨tq,rfl,rq⟩:=iv.2 qq rfl;have hstep:Wf ps js sg e ss (Wb qq ::r')=if Xw sg qq=true then r'.isEmpty else Wf ps js sg e (ss++[qq]) r':=by
     show (decide (qq∈onL ps js e ss) && _)=_;rw [decide_eq_true A1]
     rfl
    refine WSs.last (Z8 (Xb (Zr (Zfe T) hr rfl T.cj T.aD.F.kp T.aD.b .nil Z2 (Zb (pv 0) (Zb (Zn (K:=K) rfl (pv 1) (pv 2)) Za)))) Zv Zs) (exR rfl (exR rfl (exR rfl (.inr (.inl ⟨a,_,_,_,rfl,rfl,SqT.of (s5'.at ha),av,x,tq,qq,ps,js,sg,rfl,tr.mono s5',yv,rq.mono s5',fun H6 s6=>(exR rfl (Ye (fun y=>?_) (fun y=>?_)))⟩)))))
    ·refine WSs.last (Zl (W7 (r:=Wo K) (Wv hr) (pv 2) (Zp Zdn (Zu (r:=Xk K) Xo (by rfl) T.aZ PySem.boot_len (Zb (pv 1) Za)) Zd) (Z0 _))) (exR rfl (exR rfl (.inl ⟨a,_,rfl,.inr (SqT.of (s5'.trans s6 |>.at ha)),_,_,rfl,rfl,.inl ⟨rfl,?_⟩⟩)));have:decide (V.int (1+(i:Nat))=V.int (((V.str nm' ::vs).length:Nat)-1))=r'.isEmpty:=by
      rw [List.length_cons,<-hvl,hr'l];cases r' with
      | nil=>exact decide_eq_true (by congr 1;show _=((i+1+0+1:Nat):Int)-1;lia)
      | cons b bs=>exact decide_eq_false fun z=>by have z:=V.int.inj z;rw [List.length_cons] at z;lia
     rw [this];rw [hwk,hstep,if_pos y] at q;exact q H6 (s5'.trans s6)
    ·refine ⟨ss++[qq],_,rfl,s5'.trans s6,?_,?_,?_⟩
     ·rw [List.take_add_one,R6,N1,List.map_append];rfl
     ·rw [List.length_append,F4];rfl
     ·rw [hwk,hstep,if_neg y,hdr1]
   ·rintro σ H3 ⟨ss,o,rfl,s3,N1,F4,hwk⟩;refine ⟨s3,hwk.trans ?_⟩;rw [List.drop_length]
    rfl
  rintro σ H3 ⟨s3,h3⟩;rw [h3] at q;exact WSs.last (Zl Zc9) (q H3 s3)
theorem Zpi(T:Tx K mg){k:Nat}(h:6<=k:=by decide):Zy P w K mg base CX0 k T.bw.f T.bw.fd ["tracks", "thing"] (Zyy T):=(Zom T).mono h
section
variable {ps:List Zc} {js:List (Zc×Zc)} {sg:List (Str×Str×Str)} {e:Zc}
inductive Pre(ps:List Zc)(js:List (Zc×Zc))(sg:List (Str×Str×Str))(e:Zc):List S4->Prop where
 | nil:Pre ps js sg e []
 | snoc {ss:List S4} {q:S4}:Pre ps js sg e ss->q∈onL ps js e ss->Xw sg q=false->Pre ps js sg e (ss++[q])
theorem Zk8{ss:List S4}{q:S4}{r:List Tr}:Wf ps js sg e ss (Wb q ::r)=(decide (q∈onL ps js e ss) && (if Xw sg q=true then r.isEmpty else Wf ps js sg e (ss++[q]) r)):=rfl
theorem Zug{ss:List S4}(h:Pre ps js sg e ss):∀r,Wf ps js sg e [] (ss.map Wb++r)=Wf ps js sg e ss r:=by
 induction h with
 | nil=>intro r;rfl
 | @snoc ss q _ hq he ih =>
  intro r;rw [List.map_append,List.append_assoc,ih];show Wf ps js sg e ss (Wb q ::r)=_;rw [Zk8,decide_eq_true hq,he]
  rfl
def Zmy(ps:List Zc)(js:List (Zc×Zc))(sg:List (Str×Str×Str))(e:Zc)(r:List S4):Prop:=∃ss q,r=ss++[q]/\Pre ps js sg e ss/\q∈onL ps js e ss/\Xw sg q=true
theorem Zvn:∀(n:Nat) {ss:List S4},Pre ps js sg e ss->∀r∈goL ps js sg e n ss,Zmy ps js sg e r
 | 0,_,_,_,h=>nomatch h
 | n+1,ss,p,r,h=>by
  obtain ⟨q,hq,h⟩:=List.mem_flatMap.mp h;split at h
  ·rename_i z;rw [List.mem_singleton.mp h];exact ⟨ss,q,rfl,p,hq,z⟩
  ·rename_i z;exact Zvn n (p.snoc hq (by simpa using z)) r h
theorem Zur{ss:List S4}(h:Pre ps js sg e ss):∀{j:Nat} {q:S4},ss[j]? =some q->Pre ps js sg e (ss.take j)/\q∈onL ps js e (ss.take j)/\Xw sg q=false:=by
 induction h with
 | nil=>intro j q h;cases h
 | @snoc ss q' p hq he ih =>
  intro j q hj;rcases Nat.lt_or_ge j ss.length with z|z
  ·rw [List.getElem?_append_left z] at hj;rw [List.take_append_of_le_length (by lia)];exact ih hj
  ·have hj':=(List.getElem?_eq_some_iff.mp hj).1;rw [List.length_append,List.length_singleton] at hj';obtain rfl:j=ss.length:=by lia
   rw [List.getElem?_concat_length] at hj;cases hj;rw [List.take_left];exact ⟨p,hq,he⟩
theorem Zmy.at{r:List S4}(h:Zmy ps js sg e r){j:Nat}{q:S4}(hj:r[j]? =some q):Pre ps js sg e (r.take j)/\q∈onL ps js e (r.take j):=by
 obtain ⟨ss,q',rfl,p,hq,he⟩:=h;rcases Nat.lt_or_ge j ss.length with z|z
 ·rw [List.getElem?_append_left z] at hj;rw [List.take_append_of_le_length (by lia)];have:=Zur p hj;exact ⟨this.1,this.2.1⟩
 ·have hj':=(List.getElem?_eq_some_iff.mp hj).1;rw [List.length_append,List.length_singleton] at hj';obtain rfl:j=ss.length:=by lia
  rw [List.getElem?_concat_length] at hj;cases hj;rw [List.take_left];exact ⟨p,hq⟩
theorem Zmy.yes{r:List S4}(h:Zmy ps js sg e r):Wf ps js sg e [] (r.map Wb)=true:=by
 obtain ⟨ss,q',rfl,p,hq,he⟩:=h;rw [List.map_append,Zug p];show Wf ps js sg e ss (Wb q' ::[])=true;rw [Zk8,decide_eq_true hq,he]
 rfl
theorem Zqf{ss:List S4}{q:S4}(h:q∈onL ps js e ss):q∈Xd ps (bey js (Xs e ss)).1 (bey js (Xs e ss)).2/\q.1∉e.1 ::ss.map Prod.fst/\ss.length<12:=by
 unfold onL at h;split at h
 ·cases h
 ·rename_i z;have:=List.mem_filter.mp h;exact ⟨this.1,of_decide_eq_true this.2,by lia⟩
end
section
variable {ps:List Zc} {js:List (Zc×Zc)} {sg:List (Str×Str×Str)} {e:Zc}
theorem Zo9(yv:Yp ps js sg){sig:Str}(h:((sig,e):Str×Zc)∈sg):∀l,Zg4 ps js sg (.str sig ::l)=Wf ps js sg e [] l
 | []=>rfl
 | t ::r=>by
  show (match sg.find? (fun g=>decide (g.1=sig)) with
   | none=>false
   | some g=>Wf ps js sg g.2 [] (t ::r))=_
  rw [Zic yv.sigs.nd h]
theorem nmK.far{p:Zc}{s:Str}(h:nmK p)(hs:58<=Zek s) (hg:s ≠ "g") (hh:s ≠ "h"):p.2≠s:=fun z=>by
 rcases h with rfl|rfl|⟨kd,c,j,_,hj,e⟩|⟨j,hj,e⟩
 ·exact hg z.symm
 ·exact hh z.symm
 ·have:=Zlg (kd:=kd) (c:=c) (show j<100 by lia);rw [<-e,z] at this;lia
 ·have:=Zn1 (show j<100 by lia);rw [<-e,z] at this;lia
theorem Zvf:∀n∈[9,10,11,12,13,14],∀g∈Zef n,g.1 ≠ "none" :=by trivial
theorem Zud(n k:Nat):Zcc n k ≠ "none" :=fun z=>by
 have:=congrArg (fun s:Str=>s.cps.toList[0]?) z;simp only [Zd3] at this;rw [List.append_assoc,PySem.W.KT.app_list,List.append_assoc] at this;exact absurd this (by rw [show (("s" :Str).cps.toList)=[115] from by trivial];simp;decide +kernel)
theorem Zwf(yo:Zg0 ps js sg):∀g∈sg,g.1 ≠ "none" :=fun g hg z=>by
 rcases yo.sigs with ⟨B8,_,so⟩|⟨n,m,hn,_,rfl⟩
 ·rcases so.name g hg with y|⟨n,k,_,_,y⟩
  ·obtain ⟨p,hp,e,_⟩:=yo.v.sigs.at_ g hg;exact (yo.name p hp).far (s := "none") (by trivial) (by trivial) (by trivial) (by rw [e,<-y,z])
  ·exact Zud n k (by rw [<-y,z])
 ·exact Zvf n hn g (List.mem_of_mem_take hg) z
end
section
variable {ps:List Zc} {js:List (Zc×Zc)} {sg:List (Str×Str×Str)} {e:Zc}
theorem Zxn:∀k∈Xn,∀en∈Z6 k,Zdo k en≠[]/\∀o∈Zdo k en,o.1 ≠ "" ->o.1∈Z6 k:=by trivial
theorem Zyx(yv:Yp ps js sg){a:Zc}(h:a∈Z7 ps):(a,bey js a)∈qJ js:=by
 obtain ⟨⟨a',b⟩,hb,rfl⟩:=List.mem_map.mp ((Ztl yv).mpr h);rw [Zv1 yv hb];exact hb
theorem Zw2(yv:Yp ps js sg){g:Str×Zc}(h:(g:Str×Str×Str)∈sg):g.2∈Z7 ps:=by
 obtain ⟨p,hp,e,_,hk⟩:=yv.sigs.at_ _ h;exact List.mem_flatMap.mpr ⟨p,hp,List.mem_map.mpr ⟨_,hk,by rw [e]⟩⟩
theorem Zuy(yv:Yp ps js sg){nm en:Str}{q:S4}(hq:q∈Xd ps nm en)(hb:Xw sg q=false):((q.1,q.2.2.1):Zc)∈Z7 ps:=by
 unfold Xd at hq;cases hk:kindOf ps nm with
 | none=>rw [hk] at hq;cases hq
 | some k =>
  rw [hk] at hq;dsimp only at hq;split at hq
  ·rename_i z;obtain ⟨o,ho,rfl⟩:=List.mem_map.mp hq;have hp:=Zcg hk;refine List.mem_flatMap.mpr ⟨_,hp,List.mem_map.mpr ⟨o.1,(Zxn k (yv.net.kind _ hp) _ z).2 o ho fun y=>?_,rfl⟩⟩;unfold Xw at hb;rw [decide_eq_true (show (o.1:Str) = "" from y)] at hb;cases hb
  ·cases hq
theorem Zo5(yv:Yp ps js sg){k nm en:Str}(hk:((k,nm):Zc)∈ps)(hek:en∈Z6 k):Xd ps nm en=W5 k nm en:=by
 unfold Xd;rw [Zl7 yv.net.nd hk];dsimp only;rw [if_pos hek]
end
theorem Zr3{H:Hp}{d:Addr}{ps:List Zc}{js:List (Zc×Zc)}{sg:List (Str×Str×Str)}(pn:Zdf H d ps js sg)(yv:Yp ps js sg){a:Zc}(ha:a∈Z7 ps):∃(kp:List (Key×V)) (b:Addr) (kj:List (List Key×V)) (t:Addr),H d=some (.dK kp)/\Yv kp (Yc "joined")=some (.ref b)/\H b=some (.dT kj)/\Yv kj (Yj a)=some (.ref t)/\Zq H t (bey js a):=by
 obtain ⟨p1,p2,p3,kk,kj,D6,h1,_,_,h4,h5,_⟩:=pn.ex;obtain ⟨v,hv,t,rfl,ht⟩:=h5.get Y0 (Zvs yv) (Zyx yv ha);exact ⟨_,p2,kj,t,h1,(Zfd p1 p2 p3).2.1,h4,hv,ht⟩
section
variable {ps:List Zc} {js:List (Zc×Zc)} {sg:List (Str×Str×Str)} {e:Zc}
theorem Zmy.more{r:List S4}(h:Zmy ps js sg e r){j:Nat}{q:S4}(hj:r[j]? =some q):Xw sg q=decide (j+1=r.length)/\r.length<=12:=by
 obtain ⟨ss,q',rfl,hp,hq,hb⟩:=h;have hl:=(Zqf hq).2.2;rw [List.length_append];refine ⟨?_,by show ss.length+1<=12;lia⟩;rcases Nat.lt_or_ge j ss.length with z|z
 ·rw [List.getElem?_append_left z] at hj;rw [(Zur hp hj).2.2,decide_eq_false (by show ¬j+1=ss.length+1;lia)]
 ·have c8:=(List.getElem?_eq_some_iff.mp hj).1;rw [List.length_append] at c8;have c8:j<ss.length+1:=c8;have:j=ss.length:=by lia
  subst this;rw [List.getElem?_concat_length] at hj;rw [<-Option.some.inj hj,hb,decide_eq_true (by rfl)]
end
def Zu4:Sp:=fun vs H Q _=>∃(t:Addr) (sig:Str) (ss:List S4) (q:S4),vs=[.ref t]/\W3 H t sig (ss++[q])/\Q (.str q.1) H
theorem W3.last{H:Hp}{t:Addr}{sig:Str}{ss:List S4}{q:S4}(h:W3 H t sig (ss++[q])):∃(ts:List Addr) (u:Addr),H t=some (.tup ((.str sig ::ts.map V.ref)++[.ref u]))/\Y6 H u q/\ts.length=ss.length:=by
 obtain ⟨us,h1,h2⟩:=h;have hl:=Paired.length h2;obtain ⟨u,hu,r⟩:=Paired.get' h2 (i:=ss.length) (b:=q) List.getElem?_concat_length;rw [List.length_append] at hl;obtain ⟨ts,rfl⟩:=List.getLast?_eq_some_iff.mp (show us.getLast? =some u by rw [List.getLast?_eq_getElem?,hl];exact hu);rw [List.length_append] at hl;exact ⟨ts,u,by rw [h1,List.map_append];rfl,r,by have:ts.length+1=ss.length+1:=hl;lia⟩
theorem Zpl(T:Tx K mg):Zy P w K mg base CX0 1 T.bI.f T.bI.fd ["route"] Zu4:=by
 refine T.bI.F.okW Zpf fun b7 A outer s H vs Q E hr h=>?_
 ·obtain ⟨t,sig,ss,qq,rfl,ht,q⟩:=h;intro X;obtain ⟨ts,u,h1,h2,_⟩:=ht.last;have h2:H u=some (.tup [.str qq.1,.str qq.2.1,.str qq.2.2.1,.str qq.2.2.2]):=h2;exact WSs.last (Zl (Zn (K:=K) rfl (Zn (K:=K) rfl (pv 0) (Zlq Zg3 Zd)) Zd)) (exR rfl (exR rfl (ixV h1 (Zip _ _) (ixT h2 0 rfl q))))
theorem Zr1(T:Tx K mg){k:Nat}(h:1<=k:=by decide):Zy P w K mg base CX0 k T.bI.f T.bI.fd ["route"] Zu4:=(Zpl T).mono h
def Zdd(ss:List S4):List Zc:=(ss.filter fun q=>!decide (q.2.2.2=("" :Str))).map fun q=>(q.1,q.2.2.2)
theorem Zk2{ss:List S4}{i:Nat}{qq:S4}(A1:ss[i]? =some qq):Zdd (ss.take (i+1))=Zdd (ss.take i)++(if qq.2.2.2=("" :Str) then [] else [(qq.1,qq.2.2.2)]):=by
 unfold Zdd;rw [List.take_add_one,A1,List.filter_append,List.map_append];congr 1
 by_cases z:qq.2.2.2=("" :Str) <;>simp [z]
def Zro:Sp:=fun vs H Q _=>∃(t:Addr) (sig:Str) (ss:List S4),vs=[.ref t]/\W3 H t sig ss/\ss.length<=12/\∀l H',Same H H'->H l=none->Zt H' l (Zdd ss)->Q (.ref l) H'
theorem Zp9(T:Tx K mg):Zy P w K mg base CX0 2 T.bJ.f T.bJ.fd ["route"] Zro:=by
 refine T.bJ.F.okW Zqc fun b7 A outer s H vs Q E hr h=>?_
 ·obtain ⟨t,sig,ss,rfl,⟨ts,ht,d7⟩,hs,q⟩:=h;intro X;have A0:=Paired.length d7;refine WSs.last (Zl (Xu (N':=["step"]) rfl (Z5.std 1 [] rfl (by trivial) (by trivial) rfl trivial rfl rfl trivial) (Zmo (Xv (r:=Zf9 K) Zht (pv 0) (X4 Zd) Wj)) (fun _ _ _ _=>(Zan (i:=0) (by show (["step"]:List Str).Nodup;decide +kernel))) (fun _ _ _ _=>(Ze8 (Zm (r:=Zfg K) (Zhf hr) (Zn (K:=K) rfl (pv 0) Zd) Ze (Z0 _)))) (fun _ _ _ _=>(Zi (Zb (Zn (K:=K) rfl (pv 0) Zd) (Zb (Zn (K:=K) rfl (pv 0) Zd) Za)))))) (exR rfl (exR rfl (.inl ⟨t,_,rfl,SqT.of ht,?_,fun t4 H4 s4 n4 e4=>⟨t4,rfl,⟨_,SqT.of e4⟩,fun D hD=>?_⟩⟩)))
  ·rintro ⟨y,_⟩;have:HT.sIx (V.str sig ::ts.map V.ref).length 0 (some 1)=1:=by
    unfold HT.sIx;simp
   rw [this] at y;cases y
  have e4:H4 t4=some (.tup (ts.map V.ref)):=by
   have e4:H4 t4=some (.tup (Ze2 (V.str sig ::ts.map V.ref) (some ((1:Nat):Int)) none)):=e4;rw [Zbj] at e4;exact e4
  refine Ziq (K:=K) (xs:=ts.map V.ref) (fun i ys H'=>(∃us:List Addr,ys=us.map V.ref/\Paired (Zq H') us (Zdd (ss.take i)))/\H' D=some (.lst ys)/\Same H4 H') ⟨⟨[],rfl,.nil⟩,Zf,Same.new hD⟩ ?_ ?_ ?_
  ·rintro i ys H' _ ⟨_,_,sm⟩;exact SqT.of (sm.at e4)
  ·rintro i v ys H5 hi ⟨⟨us,rfl,i4⟩,D5,s5⟩;rw [List.getElem?_map] at hi;obtain ⟨tq,K7,rfl⟩:=Option.map_eq_some_iff.mp hi;obtain ⟨qq,A1,rq⟩:=Paired.get d7 K7;have r5:H5 tq=some (.tup [.str qq.1,.str qq.2.1,.str qq.2.2.1,.str qq.2.2.2]):=(s4.trans s5).at rq;have K5:=Paired.length i4;have hlr:(Zdd (ss.take i)).length<=12:=by
    unfold Zdd;rw [List.length_map];exact Nat.le_trans (List.length_filter_le _ _) (Nat.le_trans (List.length_take_le' _ _) hs)
   have N1:=Zk2 A1;refine ⟨X5.set rfl,_,rfl,(ixT r5 3 rfl (.inl ⟨rfl,_,rfl,Ye (fun z=>?_) (fun z=>?_)⟩))⟩
   ·have z:qq.2.2.2≠("" :Str):=fun y=>by rw [y,decide_eq_true rfl] at z;cases z
    refine (exR rfl (ixT r5 0 rfl (exR rfl (ixT r5 3 rfl ⟨szA,fun t6 H6 s6 n6 e6=>⟨s6.at D5,by rw [List.length_map];exact Zw (by lia),⟨us++[t6],by rw [List.map_append];rfl,?_⟩,Zf,fun b o y=>?_⟩⟩))))
    ·rw [N1,if_neg z];exact Paired.append (Paired.mapP i4 fun _ _ r=>Zq.offL (r.mono s6) (s6.at D5)) (.cons (Zq.offL (q:=(qq.1,qq.2.2.2)) e6 (s6.at D5)) .nil)
    ·rw [Zh (Zj y hD)];exact (s5.trans s6).at y
   ·have z:qq.2.2.2=("" :Str):=Classical.byContradiction fun y=>z (by rw [decide_eq_false fun x=>y (V.str.inj x)];rfl)
    exact ⟨⟨us,rfl,by rw [N1,if_pos z,List.append_nil];exact i4⟩,D5,s5⟩
  rintro ys H5 ⟨⟨us,rfl,i4⟩,D5,s5⟩;rw [List.length_map,A0,List.take_length] at i4;exact q D H5 (s4.trans s5) (s4.free hD) ⟨us,D5,i4⟩
theorem Zr4(T:Tx K mg){k:Nat}(h:2<=k:=by decide):Zy P w K mg base CX0 k T.bJ.f T.bJ.fd ["route"] Zro:=(Zp9 T).mono h
def Zqw:Sp:=fun vs H Q _=>∃(d t tr:Addr) (g:Str×Zc) (r:List S4) (ps:List Zc) (js:List (Zc×Zc)) (sg:List (Str×Str×Str)),vs=[.ref d,.ref t,.ref tr]/\Zdf H d ps js sg/\Yp ps js sg/\(g:Str×Str×Str)∈sg/\W3 H t g.1 r/\Zmy ps js sg g.2 r/\H tr=some (.tup [.str g.1,.str g.2.1,.str g.2.2])/\∀H',Same H H'->Q (.bl true) H'
theorem Zj7(T:Tx K mg):Zy P w K mg base CX0 3 T.aY.f T.aY.fd ["_law_plan", "_law_route", "_law_row"] Zqw:=by
 refine T.aY.F.okW Wh fun b7 A outer s H vs Q E hr h=>?_
 ·obtain ⟨d,t,tr,⟨sig,e⟩,r,ps,js,sg,rfl,pn,yv,hg,⟨ts,ht,d7⟩,P8,htr,q⟩:=h;intro X;have A0:=Paired.length d7;have he:e∈Z7 ps:=Zw2 yv hg;obtain ⟨kp,b,kj,t0,k1,k2,k3,k4,k5⟩:=Zr3 pn yv he;refine WSs.step (Zz (i:=3) Wh.nd (Xm (Xi hr) (Xm (Xi hr) (pv 0) Ze (fun _ _=>rfl)) (Zi (Zb (Zn (K:=K) rfl (pv 2) Zd) (Zb (Zn (K:=K) rfl (pv 2) Zd) Za))) (fun _ _=>rfl))) (exR rfl ⟨d,_,rfl,by rw [<-k2];exact Xy.k (k:=Yc "joined") k1,_,rfl,(ixT htr 1 rfl (exR rfl (ixT htr 2 rfl ⟨szA,fun u H1 s1 n1 e1=>⟨b,_,rfl,by rw [<-k4];exact Xy.t (k:=Yj e) (s1.at k3) e1,?_⟩⟩)))⟩);refine WSs.step (Zz (i:=4) Wh.nd (Zk (Zb (Zn (K:=K) rfl (pv 2) Zd) Za))) (exR rfl (ixT (s1.at htr) 1 rfl ⟨szA,fun lm H2 s2 n2 e2=>?_⟩));have s02:=s1.trans s2;have nlm:H lm=none:=s1.free n2;have h12:r.length<=12/\1<=r.length:=by
   obtain ⟨ss,q',rfl,_⟩:=id P8;exact ⟨(P8.more (j:=ss.length) List.getElem?_concat_length).2,by rw [List.length_append];exact Nat.succ_pos _⟩
  refine WSs.step (Y8 PassesOwn.never rfl (Zce rfl T.bU (Zb Zd (Zb (Zu (r:=Xk K) Xo (by rfl) T.aZ PySem.boot_len (Zb (pv 1) Za)) Za))) (Yr (i:=5) Wh.nd) Zv) (exR rfl (.inl ⟨t,_,rfl,.inr (SqT.of (s02.at ht)),1,_,rfl,⟨by decide,by decide,by rw [List.length_cons,List.length_map];lia,by rw [List.length_cons,List.length_map];lia⟩,?_⟩));rw [show ((((V.str sig ::ts.map V.ref).length:Nat):Int)-1).toNat=r.length by rw [List.length_cons,List.length_map,A0];lia];let I30:=fun (i:Nat) (σ:St) (H':Hp)=>(∃o3 o5,σ=[some (.ref d),some (.ref t),some (.ref tr),o3,some (.ref lm),o5]/\(i<r.length->∃ti,o3=some (.ref ti)/\Zq H' ti (bey js (Xs e (r.take i)))))/\Same H H'/\H' lm=some (.lst ((e.1 ::(r.take i).map Prod.fst).map V.str))
  refine Zd1 I30 ⟨⟨_,_,rfl,fun _=>⟨t0,rfl,k5.mono s02⟩⟩,s02,e2⟩ ?_ ?_
  ·rintro i σ H3 hi ⟨⟨o3,o5,rfl,h3⟩,s3,hlm⟩;obtain ⟨ti,rfl,R6⟩:=h3 hi;obtain ⟨qq,A1⟩:∃qq,r[i]? =some qq:=⟨_,List.getElem?_eq_getElem hi⟩
   obtain ⟨tq,K7,rq⟩:=Paired.get' d7 A1;have rq3:H3 tq=some (.tup [.str qq.1,.str qq.2.1,.str qq.2.2.1,.str qq.2.2.2]):=s3.at rq;have ron:=(P8.at A1).2;obtain ⟨o1,o2,o3⟩:=Zqf ron;have av:atI (V.str sig ::ts.map V.ref) (1+(i:Nat):Int)=some (.ref tq):=by
    rw [show (1+(i:Nat):Int)=((i+1:Nat):Int) by lia];exact Y4 (by show (ts.map V.ref)[i]? =_;rw [List.getElem?_map,K7];rfl)
   have P6:=s3.at ht;have U8:bey js (Xs e (r.take i))∈Z7 ps:=by
    cases hk:kindOf ps (bey js (Xs e (r.take i))).1 with
    | none=>unfold Xd at o1;rw [hk] at o1;cases o1
    | some k =>
     unfold Xd at o1;rw [hk] at o1;dsimp only at o1;split at o1
     ·exact List.mem_flatMap.mpr ⟨_,Zcg hk,List.mem_map.mpr ⟨_,by assumption,rfl⟩⟩
     ·cases o1
   obtain ⟨k,hk,hek⟩:=Zll (nm:=(bey js (Xs e (r.take i))).1) (en:=(bey js (Xs e (r.take i))).2) U8;have C3:=Zo5 yv hk hek;refine WSs.step (Z8 (PW.pt (Zda (Zm (r:=Zai K) (Za3 hr) (Zn (K:=K) rfl (pv 1) (pv 5)) (Zr (Zon T) hr rfl T.dY T.bf.F.kp T.bf.b .nil Z2 (Zb (pv 0) (Zb (pv 3) Za))) (by with_unfolding_all rfl)) (Zbl (Zm (r:=Zhp K) (Zj0 hr) (Zn (K:=K) rfl (Zn (K:=K) rfl (pv 1) (pv 5)) Zd) (pv 4) (by with_unfolding_all rfl))))) Zv Zs) (exR rfl (exR rfl (ixV P6 av (exR rfl (exR rfl ⟨d,ti,k,(bey js (Xs e (r.take i))).1,(bey js (Xs e (r.take i))).2,ps,js,sg,rfl,pn.mono s3,yv,R6,hk,hek,fun l4 H4 s4 n4 ⟨us,h4,i4⟩=>.inr (.inr ⟨l4,1,Wb qq,(W5 k (bey js (Xs e (r.take i))).1 (bey js (Xs e (r.take i))).2).map Wb,us,rfl,SqL.of h4,by decide,Y6.im (s4.at rq3),Zu6 i4,_,rfl,?_⟩)⟩)))));rw [if_pos rfl,Zqn,<-C3,decide_eq_true o1];refine Ye (fun z=>nomatch z) (fun _=>⟨_,rfl,_,rfl,(ixV (s4.at P6) av (ixT (s4.at rq3) 0 rfl ⟨_,rfl,.inl ⟨lm,_,rfl,.inl (SqL.of (s4.at hlm)),rfl,Wt _,_,rfl,?_⟩⟩))⟩);rw [if_neg (by decide),Zaq,decide_eq_false o2];refine Ye (fun z=>nomatch z) (fun _=>?_);have O1:=s3.trans s4;have hmore:=(P8.more A1).1;refine WSs.step (Z8 (Zm (r:=Zfg K) (Zhf hr) (Zr (Zil T) hr rfl T.cH T.aF.F.kp T.aF.b .nil Z2 (Zb (pv 0) (Zb (Zn (K:=K) rfl (pv 1) (pv 5)) Za))) (W7 (r:=Wo K) (Wv hr) (pv 5) (Zp Zdn (Zu (r:=Xk K) Xo (by rfl) T.aZ PySem.boot_len (Zb (pv 1) Za)) Zd) (Z0 _)) (Z0 _)) Zv Zs) (exR rfl (exR rfl (exR rfl (ixV (s4.at P6) av ⟨d,tq,qq,ps,js,sg,rfl,pn.mono O1,yv,s4.at rq3,fun H5 s5=>(exR rfl (exR rfl (.inl ⟨t,_,rfl,.inr (SqT.of (s5.at (s4.at P6))),?_⟩)))⟩))));have eb:Xw sg qq=decide (V.int (1+(i:Nat))=V.int ((((V.str sig ::ts.map V.ref).length:Nat):Int)-1)):=by
    rw [hmore,List.length_cons,List.length_map,A0];exact decide_eq_decide.mpr ⟨fun z=>by rw [<-z];congr 1;lia,fun z=>by have:=V.int.inj z;lia⟩
   refine (exQ rfl rfl (.inl ⟨rfl,.inl ⟨rfl,_,rfl,Ye (fun z=>absurd z (by rw [eb,decide_eq_true rfl];decide)) (fun _=>?_)⟩⟩));have s35:=s4.trans s5;have hlm5:=s35.at hlm;refine WSs.step (Xg (Zdc PySem.F.plainAttrs_list PySem.F.slot_list_append PySem.F.type_list_append Xf (pv 4) (Zb (Zn (K:=K) rfl (Zn (K:=K) rfl (pv 1) (pv 5)) Zd) Za))) (exR rfl ⟨.inl ⟨rfl,_,SqL.of hlm5⟩,_,rfl,_,rfl,(ixV (s35.at P6) av (ixT (s35.at rq3) 0 rfl ⟨lm,_,_,rfl,rfl,hlm5,?_,?_⟩))⟩)
   ·rw [List.length_map,List.length_cons,List.length_map,List.length_take];exact Zw (by lia)
   have P7:Same H (upd H5 lm (.lst ((e.1 ::(r.take i).map Prod.fst).map V.str++[.str qq.1]))):=(s3.trans s35).upd0 nlm;have el:upd H5 lm (.lst ((e.1 ::(r.take i).map Prod.fst).map V.str++[.str qq.1])) lm=some (.lst ((e.1 ::(r.take (i+1)).map Prod.fst).map V.str)):=by
    rw [Zf,List.take_add_one,A1,List.map_append];show _=some (HO.lst ((e.1 ::((r.take i).map Prod.fst++[qq.1])).map V.str));rw [<-List.cons_append,List.map_append]
    rfl
   generalize upd H5 lm (.lst ((e.1 ::(r.take i).map Prod.fst).map V.str++[.str qq.1]))=H6 at P7 el;obtain ⟨p1,p2,p3,kk,kj',D6,m1,_,_,m4,m5,_⟩:=(pn.mono P7).ex;have ht6:=P7.at ht;have rq6:H6 tq=some (.tup [.str qq.1,.str qq.2.1,.str qq.2.2.1,.str qq.2.2.2]):=P7.at rq;refine WSs.last (Zz (i:=3) Wh.nd (Zvd (Xi hr) (Xm (Xi hr) (pv 0) Ze (fun _ _=>rfl)) (Zi (Zb (Zn (K:=K) rfl (Zn (K:=K) rfl (pv 1) (pv 5)) Zd) (Zb (Zn (K:=K) rfl (Zn (K:=K) rfl (pv 1) (pv 5)) Zd) Za))) ⟨rfl,rfl,rfl,rfl⟩)) (exR rfl ⟨d,_,rfl,by rw [<-(Zfd p1 p2 p3).2.1];exact Xy.k (k:=Yc "joined") m1,p2,rfl,.inr ⟨_,.inl m4⟩,_,rfl,_,rfl,(ixV ht6 av (ixT rq6 0 rfl (exR rfl (exR rfl (ixV ht6 av (ixT rq6 2 rfl ⟨szA,fun u7 H7 s7 n7 e7=>⟨_,Xy.t (k:=Yj (qq.1,qq.2.2.1)) (s7.at m4) e7,⟨_,_,rfl,fun z=>?_⟩,P7.trans s7,s7.at el⟩⟩))))))⟩);have hb:Xw sg qq=false:=by rw [hmore];exact decide_eq_false (by lia)
   have hse:=Zuy yv o1 hb;have htk1:r.take (i+1)=r.take i++[qq]:=by rw [List.take_add_one,A1];rfl
   have F3:Xs e (r.take (i+1))=(qq.1,qq.2.2.1):=by unfold Xs;rw [htk1,List.getLast?_concat]
   obtain ⟨v,hv,t',rfl,ht'⟩:=m5.get Y0 (Zvs yv) (Zyx yv hse);exact ⟨t',by rw [hv];rfl,by rw [F3];exact ht'.mono s7⟩
  ·rintro σ H3 ⟨⟨o3,o5,rfl,_⟩,s3,_⟩;have P6:=s3.at ht;refine WSs.last (Zl (Zgd (W7 (r:=Wo K) (Wv hr) (Zn (K:=K) rfl (pv 1) Zd) (Zn (K:=K) rfl (pv 2) Zd) (Z0 _)) (Zgw (Ztk Zyi Zyi Zd (Zp Zdn (Zu (r:=Xk K) Xo (by rfl) T.aZ PySem.boot_len (Zb (pv 1) Za)) Zd) Zd)))) (exR rfl (ixT P6 0 rfl (exR rfl (ixT (s3.at htr) 0 rfl (.inl ⟨rfl,?_⟩)))));rw [decide_eq_true rfl];refine (exR rfl ?_);rw [if_pos rfl];have hl:(((V.str sig ::ts.map V.ref).length:Nat):Int)-1=(r.length:Int):=by rw [List.length_cons,List.length_map,A0];lia
   refine (exR rfl (.inl ⟨t,_,rfl,.inr (SqT.of P6),_,_,rfl,rfl,_,_,rfl,rfl,_,rfl,?_⟩));rw [hl,decide_eq_true (show (1:Int)<=(r.length:Int) by lia),if_pos rfl];refine (exQ rfl rfl ?_);show Q (.bl (decide ((((V.str sig ::ts.map V.ref).length:Nat):Int)-1<=12))) H3;rw [hl,decide_eq_true (show (r.length:Int)<=12 by lia)];exact q H3 s3
theorem Zm6(T:Tx K mg){k:Nat}(h:3<=k:=by decide):Zy P w K mg base CX0 k T.aY.f T.aY.fd ["_law_plan", "_law_route", "_law_row"] Zqw:=(Zj7 T).mono h
def Zu0(T:Tx K mg):Sp:=fun vs H Q _=>∃(x:Addr) (v:V) (b:Bool) (ps:List Zc) (js:List (Zc×Zc)) (sg:List (Str×Str×Str)),vs=[.ref x,v]/\Ys T H x ps js sg/\Yp ps js sg/\Zdu K H v b/\(∀a,v=.ref a->∃xs,H a=some (.lst xs)\/H a=some (.tup xs))/\(∀nm,v=.str nm->nm∉sg.map Prod.fst)/\∀H',Same H H'->Q (.bl true) H'
theorem Zhe(T:Tx K mg):Zy P w K mg base CX0 7 T.aG.f T.aG.fd ["_law_tracks_here", "_law_odd"] (Zu0 T):=by
 refine T.aG.F.okW Zhn fun b7 A outer s H vs Q E hr h=>?_
 ·obtain ⟨x,v,b,ps,js,sg,rfl,tr,yv,hA,hf,hn,q⟩:=h;intro X;let I31:=fun (_:St) (_:Hp)=>False
  refine WSs.cut I31 (WS.try (x := "BadName") (Ex:=fun cls _ H'=>cls=.ref T.bM/\Same H H') (R:=fun H'=>Same H H') T.cw rfl rfl rfl rfl rfl (fun _ _ _ h=>h) ?_ ?_) (fun _ _ h=>h.elim)
  ·intro pn xe hp;exact WSs.last (Xg (Zr (Zb9 T) hr rfl T.bT T.aj.F.kp T.aj.b .nil hp (Zb (pv 0) (Zb (pv 1) Za)))) (exR rfl (exR rfl (.inr ⟨x,v,b,ps,js,sg,rfl,tr,yv,hA,hf,hn,fun H' s'=>⟨rfl,s'⟩⟩)))
  ·rintro ea σ' H' s1;exact WSs.last (Zl Zc9) (q H' s1)
theorem Zi1(T:Tx K mg){k:Nat}(h:7<=k:=by decide):Zy P w K mg base CX0 k T.aG.f T.aG.fd ["_law_tracks_here", "_law_odd"] (Zu0 T):=(Zhe T).mono h
def trR(sig:Str)(ss:List S4):Tr:=.tup (.str sig ::ss.map Wb)
theorem Im.pair{H:Hp}{n:Nat}{α:Type}{R:Addr->α->Prop}{f:α->Tr}{ts:List Addr}{xs:List α}(h:Paired R ts xs)(hR:∀a x,R a x->Im K H n (f x) (.ref a)):Paired (Im K H n) (xs.map f) (ts.map V.ref):=by
 induction h with
 | nil=>exact .nil
 | cons r _ ih=>exact .cons (hR _ _ r) ih
theorem Wa.im{H:Hp}{l:Addr}{sig:Str}{rs:List (List S4)}(h:Wa H l sig rs):Im K H 3 (.lst (rs.map (trR sig))) (.ref l):=by
 obtain ⟨ts,h1,h2⟩:=h;exact Im.lst (n:=2) (SqL.of h1) (Im.pair h2 fun t ss ⟨us,g1,g2⟩=>Im.tup (n:=1) (SqT.of g1) (.cons (.str _) (Zu6 g2)))
theorem Zy9(x:Str){H:Hp}:Zmv K H (.str x) (.str x):=⟨.str _,fun q z=>by unfold Wb at z;cases z⟩
theorem Ycq{H:Hp}{a:Addr}{q:S4}(h:Y6 H a q):Zmv K H (Wb q) (.ref a):=⟨h.im3,fun q' z=>⟨a,rfl,Zqi z ▸ h⟩⟩
theorem Zy4{H:Hp}{as:List Addr}{ss:List S4}(h:Paired (Y6 H) as ss):Paired (Zmv K H) (ss.map Wb) (as.map V.ref):=by
 induction h with
 | nil=>exact .nil
 | cons r _ ih=>exact .cons (Ycq r) ih
theorem W3.th{H:Hp}{t:Addr}{sig:Str}{ss:List S4}(h:W3 H t sig ss)(hs:ss.length<=12):Yb9 K H (.ref t) (some (.str sig ::ss.map Wb)):=let ⟨ts,h1,h2⟩:=h;⟨t,_,rfl,h1,.cons (Zy9 _) (Zy4 h2),by rw [List.length_cons,List.length_map];lia⟩
theorem Zt7:∀k∈Xn,∀en∈Z6 k,∀o∈Zdo k en,(!decide (o.2=("" :Str)))=decide (k=("points" :Str)):=by trivial
theorem Zt3{ps:List Zc}{js:List (Zc×Zc)}{sg:List (Str×Str×Str)}(yv:Yp ps js sg){nm en:Str}{q:S4}(h:q∈Xd ps nm en):∃k,((k,q.1):Zc)∈ps/\(!decide (q.2.2.2=("" :Str)))=decide (k=("points" :Str)):=by
 unfold Xd at h;cases hk:kindOf ps nm with
 | none=>rw [hk] at h;cases h
 | some k =>
  rw [hk] at h;dsimp only at h;split at h
  ·rename_i z;obtain ⟨o,ho,rfl⟩:=List.mem_map.mp h;have hp:=Zcg hk;exact ⟨k,hp,Zt7 k (yv.net.kind _ hp) _ z o ho⟩
  ·cases h
theorem Zx6:∀k∈Xn,∀en∈Z6 k,(Zdo k en).Nodup:=by trivial
section
variable {ps:List Zc} {js:List (Zc×Zc)} {sg:List (Str×Str×Str)} {e:Zc}
theorem Zt2(yv:Yp ps js sg){nm en:Str}:(Xd ps nm en).Nodup:=by
 unfold Xd;cases hk:kindOf ps nm with
 | none=>exact .nil
 | some k =>
  dsimp only;split
  ·rename_i z;refine List.pairwise_map.mpr ((Zx6 k (yv.net.kind _ (Zcg hk)) _ z).imp fun h y=>h ?_);simp only [Prod.mk.injEq] at y;exact Prod.ext y.2.2.1 y.2.2.2
  ·exact .nil
theorem Zni{α β:Type}{f:α->List β}{B:Nat}:∀{l:List α},(∀x∈l,(f x).length<=B)->(l.flatMap f).length<=l.length * B
 | [],_=>Nat.zero_le _
 | x ::l,h=>by
  rw [List.flatMap_cons,List.length_append,List.length_cons,Nat.add_mul,Nat.one_mul];have:=h x List.mem_cons_self;have:=Zni fun y hy=>h y (List.mem_cons_of_mem x hy)
  lia
theorem Zq9(yv:Yp ps js sg):∀(n:Nat) {ss:List S4},(goL ps js sg e n ss).length<=2 ^ n
 | 0,_=>Nat.zero_le _
 | n+1,ss=>by
  refine Nat.le_trans (Zni (B:=2 ^ n) fun q _=>?_) (by rw [Nat.pow_succ,Nat.mul_comm];exact Nat.mul_le_mul_left _ (Zl1 yv));split
  ·exact Nat.one_le_two_pow
  ·exact Zq9 yv n
theorem Zrr:∀(n:Nat) {ss r:List S4},r∈goL ps js sg e n ss->∃q l,r=ss++q ::l
 | 0,_,_,h=>nomatch h
 | n+1,ss,r,h=>by
  obtain ⟨q,_,h⟩:=List.mem_flatMap.mp h;split at h
  ·exact ⟨q,[],List.mem_singleton.mp h⟩
  ·obtain ⟨q',l,rfl⟩:=Zrr n h;exact ⟨q,q' ::l,by rw [List.append_assoc];rfl⟩
theorem Zu7(yv:Yp ps js sg):∀(n:Nat) {ss:List S4},(goL ps js sg e n ss).Nodup
 | 0,_=>.nil
 | n+1,ss=>by
  have hd:∀q r,r∈(if Xw sg q=true then [ss++[q]] else goL ps js sg e n (ss++[q]))->r[ss.length]? =some q:=fun q r h=>by
   split at h
   ·rw [List.mem_singleton.mp h];exact List.getElem?_concat_length
   ·obtain ⟨q',l,rfl⟩:=Zrr n h;rw [List.append_assoc,List.getElem?_append_right (Nat.le_refl _),Nat.sub_self];rfl
  refine List.pairwise_flatMap.mpr ⟨fun q _=>?_,?_⟩
  ·split
   ·exact List.pairwise_singleton _ _
   ·exact Zu7 yv n
  ·have:(onL ps js e ss).Nodup:=by
    unfold onL;split
    ·exact .nil
    ·exact (Zt2 yv).filter _
   refine this.imp fun h x hx y hy z=>h ?_
   have h1:=hd _ x hx;rw [z,hd _ y hy] at h1;exact (Option.some.inj h1).symm
end
theorem Zr6{rs:List (List S4)}(h:(rs.map Zeb).Pairwise leK)(nd:rs.Nodup){k:Nat}{x y:List S4}(hx:rs[k]? =some x)(hy:rs[k+1]? =some y):ltK (Zeb x) (Zeb y)=true:=by
 obtain ⟨h1,rfl⟩:=List.getElem?_eq_some_iff.mp hx;obtain ⟨h2,rfl⟩:=List.getElem?_eq_some_iff.mp hy;have le:=List.pairwise_iff_getElem.mp (List.pairwise_map.mp h) k (k+1) h1 h2 (Nat.lt_succ_self _);have ne:=List.pairwise_iff_getElem.mp nd k (k+1) h1 h2 (Nat.lt_succ_self _);cases g:ltK (Zeb rs[k]) (Zeb rs[k+1]) with
 | true=>rfl
 | false=>exact absurd (Zoe (Zmi.one _ _ g le)) ne
def Zqs(K:Frag):Sp:=fun vs H Q _=>∃(a:Addr) (ns:List Int),vs=[.ref a]/\SqL K H a (ns.map V.int)/\ns.length<=63/\∀H',Q (.bl true) H'
theorem Zy1{f:Addr}{fd:FuncData} (F:Fun K "law" "law" Zfo f fd) (T:Tx K mg):Zy P w K mg base CX0 9 f fd ["_law_script"] (Zqs K):=by
 refine F.okW Zbz fun b7 A outer s H vs Q E hr h=>?_
 ·obtain ⟨a,ns,rfl,hS,hns,q⟩:=h;intro X;refine WSs.step (Zz (i:=1) Zbz.nd (Zr (Zij T) hr rfl T.cG T.aE.F.kp T.aE.b .nil Z2 (Zb (Zr (Zm1 T) hr rfl T.dv T.aU.F.kp T.aU.b .nil Z2 (Zb (pv 0) (Zb Zd (Zb Zd Za)))) (Zb (Zr (Zdj T) hr rfl T.bW T.am.F.kp T.am.b .nil Z2 (Zb (pv 0) (Zb Zd Za))) Za)))) (exR rfl ⟨a,ns,2,16,rfl,hS,hns,by decide,by decide,fun cl H1 cs s1 n1 e1 hc B3=>(exR rfl ⟨a,ns,0,rfl,s1.seq hS,cl,_,cs,rfl,SqL.of e1,fun c h=>(hc c h).1,B3,fun t pl jl sl H2 ps js sg s2 ht hP hJ hG yo=>?_⟩)⟩);have hya:Zgc H2 t ps js sg:=⟨pl,jl,sl,ht,hP,hJ,hG⟩
  have yv:=yo.v;refine WSs.step (Zz (i:=2) Zbz.nd (Zr (Zj1 T) hr rfl T.cZ T.aQ.F.kp T.aQ.b .nil Z2 (Zb (pv 1) Za))) (exR rfl ⟨t,ps,js,sg,rfl,hya,yv,fun x H3 s3 n3 tr=>?_⟩);refine WSs.step (Zz (i:=3) Zbz.nd (Zr (Zpc T) hr rfl T.et T.bz.F.kp T.bz.b .nil Z2 (Zb (pv 1) Za))) (exR rfl ⟨t,ps,js,sg,rfl,hya.mono s3,yv,fun d H4 s4 n4 pn=>?_⟩);have s24:=s3.trans s4;obtain ⟨gs,hgl,M6⟩:=hG.mono s24;have ht:=s24.at ht;have tr:=tr.mono s4;have hS:=(s1.trans (s2.trans s24)).seq hS;let I32:=fun (i:Nat) (σ:St) (H':Hp)=>(∃o4 o5 o6 o7 o8 o9,σ=[some (.ref a),some (.ref t),some (.ref x),some (.ref d),o4,o5,o6,o7,o8,o9])/\Same H4 H'
  refine WSs.step (Y8 PassesOwn.never rfl (Ym (Zn (K:=K) rfl (pv 1) Zd)) (Yr (i:=4) Zbz.nd) Zv) (exR rfl (ixT ht 2 rfl ⟨sl,rfl,⟨_,SqL.of hgl⟩,Xx (K:=K) (xs:=gs.map V.ref) I32 ⟨⟨none,none,none,none,none,none,rfl⟩,Same.refl _⟩ ?_ ?_ ?_⟩))
  ·rintro i σ H' _ ⟨_,sm⟩;exact SqL.of (sm.at hgl)
  ·rintro i v σ H5 hi ⟨⟨o4,o5,o6,o7,o8,o9,rfl⟩,s5⟩;rw [List.getElem?_map] at hi;obtain ⟨tg,htg,rfl⟩:=Option.map_eq_some_iff.mp hi;obtain ⟨⟨sig,e⟩,hg,rg⟩:=Paired.get M6 htg;have hg:=List.mem_of_getElem? hg;have rg:H5 tg=some (.tup [.str sig,.str e.1,.str e.2]):=s5.at rg;refine WSs.step (Zz (i:=5) Zbz.nd (Zr (Zb9 T) hr rfl T.bT T.aj.F.kp T.aj.b .nil Zg2 (Zb (pv 2) (Zb (Zn (K:=K) rfl (pv 4) Zd) Za)))) (exR rfl (exR rfl (ixT rg 0 rfl (.inl ⟨x,(sig,e),ps,js,sg,rfl,tr.mono s5,yv,hg,fun lf rs H6 s6 n6 ⟨fs,f1,f2⟩ m6 hup=>?_⟩))));have hok:∀r∈rs,Zmy ps js sg e r:=fun r hr=>Zvn 13 .nil r (m6.mem_iff.mp hr)
   have R0:=Paired.length f2;have s46:=s5.trans s6;let I33:=fun (i:Nat) (σ:St) (H':Hp)=>(∃o6 o7 o8 o9,σ=[some (.ref a),some (.ref t),some (.ref x),some (.ref d),some (.ref tg),some (.ref lf),o6,o7,o8,o9])/\Same H6 H'
   refine WSs.step (Y8 PassesOwn.never rfl (Ym (pv 5)) (Yr (i:=6) Zbz.nd) Zv) (exR rfl ⟨lf,rfl,⟨_,SqL.of f1⟩,Xx (K:=K) (xs:=fs.map V.ref) I33 ⟨⟨_,_,_,_,rfl⟩,Same.refl _⟩ ?_ ?_ ?_⟩)
   ·rintro i σ H' _ ⟨_,sm⟩;exact SqL.of (sm.at f1)
   ·rintro i v σ H7 hi ⟨⟨o6,o7,o8,o9,rfl⟩,s7⟩;rw [List.getElem?_map] at hi;obtain ⟨tt,htt,rfl⟩:=Option.map_eq_some_iff.mp hi;obtain ⟨ss,hss,rt⟩:=Paired.get f2 htt;have P8:=hok ss (List.mem_of_getElem? hss);have h12:ss.length<=12:=by
     obtain ⟨s',q',rfl,_⟩:=id P8;exact (P8.more (j:=s'.length) List.getElem?_concat_length).2
    have rt7:=rt.mono s7;obtain ⟨us,hu,i4⟩:=id rt7;have M9:=s46.trans s7;have s57:=s6.trans s7;refine WSs.step (Z8 (PW.pt (Zda (Wc (Xb (Zu (r:=Zkg K) X6 (by rfl) T.aK PyProof.Rows.boot_isinstance (Zb (pv 6) (Zb (Zbt (v:=.ty "tuple") (by rfl) T.cF PyProof.Rows.boot_tuple rfl) Za))))) (Zda (Wc (Xb (Zr (Zm6 T) hr rfl T.dB T.aY.F.kp T.aY.b .nil Z2 (Zb (pv 3) (Zb (pv 6) (Zb (pv 4) Za)))))) (Zbl (Wc (Xb (Zr (Zpi T) hr rfl T.ek T.bw.F.kp T.bw.b .nil Z2 (Zb (pv 2) (Zb (pv 6) Za))))))))) Zv Zs) (exR rfl ⟨_,_,true,_,rfl,W6.tup hu,.inl (exR rfl T.fL),_,rfl,Ye (fun z=>absurd z (by decide)) (fun _=>(exR rfl (exR rfl (exR rfl ⟨d,tt,tg,(sig,e),ss,ps,js,sg,rfl,pn.mono M9,yv,hg,rt7,P8,s57.at rg,fun H8 s8=>(exR rfl (Ye (fun z=>absurd z (by decide)) (fun _=>(exR rfl (exR rfl ⟨x,.ref tt,some (.str sig ::ss.map Wb),ps,js,sg,rfl,tr.mono (M9.trans s8),yv,(rt7.mono s8).th h12,fun H9 s9=>(exR rfl ?_)⟩)))))⟩))))⟩);rw [show Ybb ps js sg (some (.str sig ::ss.map Wb))=true from (Zo9 yv hg _).trans P8.yes];refine Ye (fun z=>absurd z (by decide)) (fun _=>?_);have s79:=s8.trans s9;have hu9:=s79.at hu;refine WSs.step (Wq (i:=7) (N':=["_law_step", "_law_plan"]) Zbz.nd rfl (Or.inl rfl) rfl (Z5.std 1 [3] rfl (by trivial) (by trivial) rfl ⟨rfl,trivial⟩ rfl rfl ⟨(exR rfl ⟨rfl,rfl⟩),trivial⟩) (Zmo (Xv (r:=Zf9 K) Zht (pv 6) (X4 Zd) Wj)) (fun _ _ _ _=>(Zan (i:=0) (by show (["_law_step", "_law_plan"]:List Str).Nodup;decide +kernel))) (fun _ _ _ _=>(Ze8 (Zm (r:=Wo K) (Wv hr) (Xm (Xi hr) (Xm (Xi hr) (pv 1) Ze (fun _ _=>rfl)) (Zn (K:=K) rfl (pv 0) Zd) (fun _ _=>rfl)) Ze (Z0 _)))) (fun _ _ _ _=>(Zi (Zb (Zn (K:=K) rfl (pv 0) Zd) (Zb (Zn (K:=K) rfl (pv 0) Zd) Za))))) (exR rfl (exR rfl (.inl ⟨tt,_,rfl,SqT.of hu9,?_,fun t4 L4 j8 n10 J5=>⟨t4,rfl,⟨_,SqT.of J5⟩,fun D hD=>?_⟩⟩)))
    ·rintro ⟨y,_⟩;have:HT.sIx (V.str sig ::us.map V.ref).length 0 (some 1)=1:=by
      unfold HT.sIx;simp
     rw [this] at y;cases y
    have J5:L4 t4=some (.tup (us.map V.ref)):=by
     have J5:L4 t4=some (.tup (Ze2 (V.str sig ::us.map V.ref) (some ((1:Nat):Int)) none)):=J5;rw [Zbj] at J5;exact J5
    have K5:=Paired.length i4;have w5:=s79.trans j8;obtain ⟨k1,k2,k3,kk,kj,D6,m1,m2,m3,_⟩:=(pn.mono (M9.trans w5)).ex;refine Ziq (K:=K) (xs:=us.map V.ref) (fun i ys H'=>(∃vs:List Addr,ys=vs.map V.ref/\Paired (Zq H') vs (Zdd (ss.take i)))/\H' D=some (.lst ys)/\Same L4 H') ⟨⟨[],rfl,.nil⟩,Zf,Same.new hD⟩ ?_ ?_ ?_
    ·rintro i ys H' _ ⟨_,_,sm⟩;exact SqT.of (sm.at J5)
    ·rintro i v ys I0 hi ⟨⟨vs,rfl,C2⟩,M2,k9⟩;rw [List.getElem?_map] at hi;obtain ⟨tq,K7,rfl⟩:=Option.map_eq_some_iff.mp hi;obtain ⟨qq,A1,rq⟩:=Paired.get i4 K7;have r11:I0 tq=some (.tup [.str qq.1,.str qq.2.1,.str qq.2.2.1,.str qq.2.2.2]):=(w5.trans k9).at rq;obtain ⟨k,hk,P9⟩:=Zt3 yv (Zqf (P8.at A1).2).1;obtain ⟨v,hv,rfl⟩:=m3.get Zam (by rw [Zjf];exact yv.net.nd) (a:=qq.1) (b:=k) (List.mem_map.mpr ⟨(k,qq.1),hk,rfl⟩);have hvl:=Paired.length C2;have hlr:(Zdd (ss.take i)).length<=12:=by
      unfold Zdd;rw [List.length_map];exact Nat.le_trans (List.length_filter_le _ _) (Nat.le_trans (List.length_take_le' _ _) h12)
     have N1:=Zk2 A1;refine ⟨X5.set rfl,_,rfl,d,_,rfl,by rw [<-(Zfd k1 k2 k3).1];exact Xy.k (k:=Yc "kinds") (k9.at m1),_,rfl,(ixT r11 0 rfl ⟨k1,_,rfl,by rw [<-hv];exact Xy.k (k:=Yc qq.1) (k9.at m2),.inl ⟨rfl,_,rfl,Ye (fun z=>?_) (fun z=>?_)⟩⟩)⟩
     ·have z:qq.2.2.2≠("" :Str):=fun y=>by
       rw [y,decide_eq_true rfl] at P9;rw [V.str.inj (of_decide_eq_true z),decide_eq_true rfl] at P9;cases P9
      refine (exR rfl (ixT r11 0 rfl (exR rfl (ixT r11 3 rfl ⟨szA,fun t6 Q5 v5 n12 Q6=>⟨v5.at M2,by rw [List.length_map];exact Zw (by lia),⟨vs++[t6],by rw [List.map_append];rfl,?_⟩,Zf,fun b o y=>?_⟩⟩))))
      ·rw [N1,if_neg z];exact Paired.append (Paired.mapP C2 fun _ _ r=>Zq.offL (r.mono v5) (v5.at M2)) (.cons (Zq.offL (q:=(qq.1,qq.2.2.2)) Q6 (v5.at M2)) .nil)
      ·rw [Zh (Zj y hD)];exact (k9.trans v5).at y
     ·have z:qq.2.2.2=("" :Str):=Classical.byContradiction fun y=>by
       rw [decide_eq_false y] at P9;exact z (decide_eq_true (by rw [of_decide_eq_true P9.symm]))
      exact ⟨⟨vs,rfl,by rw [N1,if_pos z,List.append_nil];exact C2⟩,M2,k9⟩
    rintro ys I0 ⟨⟨vs,rfl,C2⟩,M2,k9⟩;rw [List.length_map,K5,List.take_length] at C2;have s711:=w5.trans k9;obtain ⟨s',q',K9,_⟩:=id P8;have rt11:=rt7.mono s711;obtain ⟨ts2,u2,g1,g2,g3⟩:=(K9 ▸ rt11:W3 I0 tt sig (s'++[q'])).last;have g2:I0 u2=some (.tup [.str q'.1,.str q'.2.1,.str q'.2.2.1,.str q'.2.2.2]):=g2;have av2:atI ((V.str sig ::ts2.map V.ref)++[.ref u2]) (((((V.str sig ::ts2.map V.ref)++[V.ref u2]).length:Nat):Int)-1)=some (.ref u2):=by
     rw [List.length_append,show ((((V.str sig ::ts2.map V.ref).length+[V.ref u2].length:Nat):Int)-1)=(((V.str sig ::ts2.map V.ref).length:Nat):Int) by show (((_+1:Nat):Int)-1)=_;lia];exact Y4 List.getElem?_concat_length
    refine WSs.last (Z8 (PW.pt (Zda (Zm (r:=Zfg K) (Zhf hr) (Zr (Zr1 T) hr rfl T.eB T.bI.F.kp T.bI.b .nil Z2 (Zb (pv 6) Za)) (Zn (K:=K) rfl (Zn (K:=K) rfl (pv 6) (Zp Zdn (Zu (r:=Xk K) Xo (by rfl) T.aZ PySem.boot_len (Zb (pv 6) Za)) Zd)) Zd) (Z0 _)) (Zbl (Zm (r:=Zfg K) (Zhf hr) (Zr (Zr4 T) hr rfl T.eC T.bJ.F.kp T.bJ.b .nil Z2 (Zb (pv 6) Za)) (pv 7) (Z0 _))))) Zv Zs) (exR rfl ⟨tt,sig,s',q',rfl,K9 ▸ rt11,_,rfl,_,rfl,.inl ⟨tt,_,rfl,.inr (SqT.of g1),_,_,rfl,rfl,(ixV g1 av2 (ixT g2 0 rfl (.inl ⟨rfl,_,rfl,Ye (fun z=>absurd z (by rw [decide_eq_true rfl];decide)) (fun _=>?_)⟩)))⟩⟩);refine (exR rfl ⟨tt,sig,ss,rfl,rt11,h12,fun l12 Q5 v5 n12 hl12=>(exR rfl (.inr (.inl ⟨2,.lst ((Zdd ss).map trP),.lst ((Zdd ss).map trP),by decide,.inr ⟨_,_,rfl,rfl⟩,Zt.im hl12,Zt.im ⟨vs,v5.at M2,Paired.mapP C2 fun _ _ r=>r.mono v5⟩,_,rfl,Ye (fun z=>absurd z (by rw [if_pos rfl,decide_eq_true rfl];decide)) (fun _=>⟨⟨_,_,_,_,rfl⟩,s7.trans (s711.trans v5)⟩)⟩)))⟩)
   rintro σ H7 ⟨⟨o6,o7,o8,o9,rfl⟩,s7⟩;have nd:rs.Nodup:=m6.nodup_iff.mpr (Zu7 yv 13);have fz:fs.length<=8192:=by rw [R0,m6.length_eq];exact Zq9 yv 13
   refine WSs.step (Y8 PassesOwn.never rfl (Zce rfl T.bU (Zb Zd (Zb (Zu (r:=Xk K) Xo (by rfl) T.aZ PySem.boot_len (Zb (pv 5) Za)) Za))) (Yr (i:=8) Zbz.nd) Zv) (exR rfl (.inl ⟨lf,_,rfl,.inl (SqL.of (s7.at f1)),1,_,rfl,⟨by decide,by decide,by rw [List.length_map];lia,by rw [List.length_map];lia⟩,?_⟩));let I34:=fun (i:Nat) (σ:St) (H':Hp)=>(∃o6 o7 o8 o9,σ=[some (.ref a),some (.ref t),some (.ref x),some (.ref d),some (.ref tg),some (.ref lf),o6,o7,o8,o9])/\Same H6 H'
   refine Zd1 I34 ⟨⟨_,_,_,_,rfl⟩,s7⟩ ?_ ?_
   ·rintro i σ H8 hi ⟨⟨o6,o7,o8,o9,rfl⟩,s8⟩;rw [List.length_map] at hi;have hi:i+1<rs.length:=by lia
    obtain ⟨x1,hx1⟩:∃x1,rs[i]? =some x1:=⟨_,List.getElem?_eq_getElem (by lia)⟩
    obtain ⟨x2,S7⟩:∃x2,rs[i+1]? =some x2:=⟨_,List.getElem?_eq_getElem hi⟩
    obtain ⟨t1,ht1,us1,a1,a2⟩:=Paired.get' f2 hx1;obtain ⟨t2,ht2,us2,b1,b2⟩:=Paired.get' f2 S7;have av1:atI (fs.map V.ref) ((1+(i:Nat):Int)-1)=some (.ref t1):=by
     rw [show ((1+(i:Nat):Int)-1)=((i:Nat):Int) by lia];exact Y4 (by rw [List.getElem?_map,ht1];rfl)
    have av2:atI (fs.map V.ref) (1+(i:Nat):Int)=some (.ref t2):=by
     rw [show (1+(i:Nat):Int)=((i+1:Nat):Int) by lia];exact Y4 (by rw [List.getElem?_map,ht2];rfl)
    refine WSs.last (Z8 (Wc (Zm (Yaa hr.units) (Zn (K:=K) rfl (pv 5) (Zp Zdn (pv 8) Zd)) (Zn (K:=K) rfl (pv 5) (pv 8)) (Z0 _))) Zv Zs) (exR rfl (exR rfl (exQ rfl rfl (.inl ⟨lf,_,_,.ref t1,rfl,rfl,SqL.of (s8.at f1),av1,_,rfl,_,rfl,.inl ⟨lf,_,_,.ref t2,rfl,rfl,SqL.of (s8.at f1),av2,t1,t2,sig,us1,us2,Zeb x1,Zeb x2,rfl,rfl,s8.at a1,s8.at b1,Zft (Paired.mapP a2 fun _ _ r=>Y6.mono s8 r),Zft (Paired.mapP b2 fun _ _ r=>Y6.mono s8 r),_,rfl,?_⟩⟩))));rw [Zr6 hup nd hx1 S7];exact Ye (fun z=>absurd z (by decide)) (fun _=>⟨⟨_,_,_,_,rfl⟩,s8⟩)
   rintro σ H8 ⟨⟨o6,o7,o8,o9,rfl⟩,s8⟩;refine WSs.step (Zz (i:=9) Zbz.nd (Zab (r:=Zyt K) Zoy (by rfl) T.eG PyProof.Rows.boot_list (Zb (pv 5) Za))) (exR rfl ⟨lf,_,rfl,.inl (SqL.of (s8.at f1)),fun lc H9 s9 n9 e9=>?_⟩);have f9:=s9.at (s8.at f1);refine WSs.step (Xg (Zqb PySem.F.plainAttrs_list PySem.F.slot_list_clear PySem.F.type_list_clear Zt4 (pv 5))) (exR rfl ⟨.inl ⟨rfl,_,SqL.of f9⟩,lf,_,rfl,rfl,f9,?_⟩);have ncf:lc≠lf:=fun z=>by rw [z,s8.at f1] at n9;cases n9
   have sA:Same H4 (upd H9 lf (.lst [])):=(s46.trans (s8.trans s9)).upd0 (s5.free n6);have sB:Same H5 (upd H9 lf (.lst [])):=(s6.trans (s8.trans s9)).upd0 n6;have rc:Wa (upd H9 lf (.lst [])) lc sig rs:=⟨fs,(Zh ncf).trans e9,Paired.mapP f2 fun _ _ r=>(r.mono (s8.trans s9)).off f9⟩
   generalize upd H9 lf (.lst [])=L4 at sA sB rc;refine WSs.last (Z8 (Zm (r:=Zfg K) (Zhf hr) (Zr (Zb9 T) hr rfl T.bT T.aj.F.kp T.aj.b .nil Zg2 (Zb (pv 2) (Zb (Zn (K:=K) rfl (pv 4) Zd) Za))) (pv 9) (Z0 _)) Zv Zs) (exR rfl (exR rfl (ixT (sB.at rg) 0 rfl (.inl ⟨x,(sig,e),ps,js,sg,rfl,tr.mono sA,yv,hg,fun l11 rs2 I0 k9 n11 rt2 p2 up2=>(exR rfl (.inr (.inl ⟨3,.lst (rs2.map (trR sig)),.lst (rs.map (trR sig)),by decide,.inr ⟨_,_,rfl,rfl⟩,rt2.im,(rc.mono k9).im,_,rfl,?_⟩)))⟩))));have Q6:rs2=rs:=List.map_inj_right (fun _ _ z=>Zoe z) |>.mp (Zu9 ((p2.trans m6.symm).map Zeb) up2 hup)
   subst Q6;rw [decide_eq_true rfl];exact Ye (fun z=>nomatch z) (fun _=>⟨⟨_,_,_,_,_,_,rfl⟩,sA.trans k9⟩)
  ·rintro σ H5 ⟨⟨o4,o5,o6,o7,o8,o9,rfl⟩,s5⟩;obtain ⟨j,hj,hj6⟩:=Zh7 (a:=Zim ns 1) (n:=6) (by decide);refine WSs.last (Zl (Zr (Zi1 T) hr rfl T.cI T.aG.F.kp T.aG.b .nil Z2 (Zb (pv 2) (Zb (Zn (K:=K) rfl (Zk (Zb Ze (Zb Ze (Zb Ze (Zb Zux (Zb (Zk (Zb Ze Za)) (Zb Zd Za))))))) (Zp Yn (Zr (Zdj T) hr rfl T.bW T.am.F.kp T.am.b .nil Z2 (Zb (pv 0) (Zb Zd Za))) Zd)) Za)))) (exR rfl ⟨szA,fun l1 H6 s6 n6 e6=>⟨szA,fun lo H7 s7 n7 e7=>?_⟩⟩);have M9:=s5.trans (s6.trans s7);have nonm:∀{y:Str},Zi6 y=false->y∉sg.map Prod.fst:=fun {y} z m=>by
    obtain ⟨g,hg,rfl⟩:=List.mem_map.mp m;rw [(yv.sigs.name _ hg).b] at z;cases z
   have txt:∀{y:Str} {b:Bool},(∀c∈y.cps.toList,c<128)->y.length<=100->Zi6 y=b->y∉sg.map Prod.fst->∃b,Zdu K H7 (.str y) b/\(∀a,V.str y=.ref a->∃xs,H7 a=some (.lst xs)\/H7 a=some (.tup xs))/\∀nm,V.str y=.str nm->nm∉sg.map Prod.fst:=fun h1 h2 h3 h4=>⟨_,.inl ⟨_,rfl,h1,h2,h3⟩,(fun _ z=>nomatch z),fun nm z=>V.str.inj z ▸ h4⟩
   obtain ⟨v,hv,b,hA,hf,hn⟩:∃v,[V.str "none",.str "",.str "g s",.non,.ref l1,.int 5][j]? =some v/\∃b,Zdu K H7 v b/\(∀a,v=.ref a->∃xs,H7 a=some (.lst xs)\/H7 a=some (.tup xs))/\∀nm,v=.str nm->nm∉sg.map Prod.fst:=by
    have:j=0\/j=1\/j=2\/j=3\/j=4\/j=5:=by lia
    rcases this with rfl|rfl|rfl|rfl|rfl|rfl
    ·exact ⟨_,rfl,txt (b:=true) (by trivial) (by trivial) (by trivial) fun m=>by
      obtain ⟨g,hg,z⟩:=List.mem_map.mp m;exact Zwf yo g hg z⟩
    ·exact ⟨_,rfl,txt (b:=false) (by trivial) (by trivial) (by trivial) (nonm (by trivial))⟩
    ·exact ⟨_,rfl,txt (b:=false) (by trivial) (by trivial) (by trivial) (nonm (by trivial))⟩
    ·exact ⟨_,rfl,false,.inr ⟨rfl,_,.non,T.fN⟩,(fun _ z=>nomatch z),fun _ z=>nomatch z⟩
    ·exact ⟨_,rfl,false,.inr ⟨rfl,_,.lst (s7.at e6),T.fP⟩,fun a z=>⟨[.str "s"],.inl (by rw [<-V.ref.inj z];exact s7.at e6)⟩,fun _ z=>nomatch z⟩
    ·exact ⟨_,rfl,false,.inr ⟨rfl,_,.int _,T.fO⟩,(fun _ z=>nomatch z),fun _ z=>nomatch z⟩
   refine (exR rfl ⟨a,ns,1,rfl,M9.seq hS,_,_,rfl,rfl,(by show (0:Int)<6;decide),.inl ⟨lo,_,_,v,rfl,rfl,SqL.of e7,?_,x,v,b,ps,js,sg,rfl,tr.mono M9,yv,hA,hf,hn,fun H' _=>q H'⟩⟩);have hj:Zim ns 1%6=(j:Int):=hj;rw [hj];exact Y4 hv
end
end K22
end
namespace K22
open PySem L2 NM YM
section
end
theorem Ybu{α:Type}{us:List α}(h:us.length=1):∃a,us=[a]:=by
 rcases us with _|⟨a,_|_⟩ <;>first|exact ⟨_,rfl⟩|cases h
theorem Zyg{α:Type}{us:List α}(h:us.length=2):∃a b,us=[a,b]:=by
 rcases us with _|⟨a,_|⟨b,_|_⟩⟩ <;>first|exact ⟨_,_,rfl⟩|cases h
theorem Zts{α:Type}{us:List α}(h:us.length=3):∃a b c,us=[a,b,c]:=by
 rcases us with _|⟨a,_|⟨b,_|⟨c,_|_⟩⟩⟩ <;>first|exact ⟨_,_,_,rfl⟩|cases h
theorem Zyn{α:Type}{us:List α}(h:us.length=4):∃a b c d,us=[a,b,c,d]:=by
 rcases us with _|⟨a,_|⟨b,_|⟨c,_|⟨d,_|_⟩⟩⟩⟩ <;>first|exact ⟨_,_,_,_,rfl⟩|cases h
def NI(K:Frag)(x:Str)(f:Addr):Prop:=nsIn K mainGlobals x=some (some (.ref f))
inductive FG(K:Frag)(f:Addr)(x:Str)(st:Stmt):Prop
 | mk {oc od kV dc pm an cd ct sl} (a:nsIn K mainGlobals x=some (some (.ref f))) (l:K.lookup f=some ⟨oc,od,.func (fnOf x x (Xh st) (Yw st) (Zg st) .none kV dc pm an cd ct),sl⟩) (e:codeIn K cd x=true) (k:keepIn K (.ref f)=true)
inductive FM(K:Frag)(f c:Addr)(x q:Str)(st:Stmt):Prop
 | mk {oc od kV dc pm an cd ct sl} (a:findIn K (.ref c) x=some (some (.ref f))) (l:K.lookup f=some ⟨oc,od,.func (fnOf x q (Xh st) (Yw st) (Zg st) .none kV dc pm an cd ct),sl⟩) (e:codeIn K cd q=true) (k:keepIn K (.ref f)=true)
theorem FG.ex{K:Frag}{f:Addr}{x:Str}{st:Stmt}(h:FG K f x st):∃fd,Fun K x x st f fd:=let ⟨_,l,e,k⟩:=h;⟨_,Zpr l e k⟩
theorem FM.ex{K:Frag}{f c:Addr}{x q:Str}{st:Stmt}(h:FM K f c x q st):∃fd,Fun K x q st f fd:=let ⟨_,l,e,k⟩:=h;⟨_,Zpr l e k⟩
theorem FG.m{K:Frag}{f:Addr}{x:Str}{st:Stmt}{h:Heap}{mg:Str->Option Value}(X:K.In h)(G:h.Ns mainGlobals mg)(h:FG K f x st):mg x=some (.ref f):=let ⟨a,_,_,_⟩:=h;mg_of X G a
noncomputable def Zbk {K:Frag} {f:Addr} {x q:Str} {st:Stmt} {p1:Str} (h:∃fd,Fun K x q st f fd) (b:∀kV u8 pm an b7 ct a1,bindArgs (fnOf x q (Xh st) (Yw st) (Zg st) .none kV u8 pm an b7 ct) ⟨[a1],[]⟩=pure ([p1].zip [a1]):=by intros;rfl):Dn K x q st [p1]:=⟨f,Classical.choose h,Classical.choose_spec h,(Classical.choose_spec h).binds fun _ _ _ _ _ _ _ hl=>by obtain ⟨_,rfl⟩:=Ybu hl;exact b _ _ _ _ _ _ _⟩
noncomputable def W8 {K:Frag} {f:Addr} {x q:Str} {st:Stmt} {p1 p2:Str} (h:∃fd,Fun K x q st f fd) (b:∀kV u8 pm an b7 ct a1 a2,bindArgs (fnOf x q (Xh st) (Yw st) (Zg st) .none kV u8 pm an b7 ct) ⟨[a1,a2],[]⟩=pure ([p1,p2].zip [a1,a2]):=by intros;rfl):Dn K x q st [p1,p2]:=⟨f,Classical.choose h,Classical.choose_spec h,(Classical.choose_spec h).binds fun _ _ _ _ _ _ _ hl=>by obtain ⟨_,_,rfl⟩:=Zyg hl;exact b _ _ _ _ _ _ _ _⟩
noncomputable def Zv9 {K:Frag} {f:Addr} {x q:Str} {st:Stmt} {p1 p2 p3:Str} (h:∃fd,Fun K x q st f fd) (b:∀kV u8 pm an b7 ct a1 a2 a3,bindArgs (fnOf x q (Xh st) (Yw st) (Zg st) .none kV u8 pm an b7 ct) ⟨[a1,a2,a3],[]⟩=pure ([p1,p2,p3].zip [a1,a2,a3]):=by intros;rfl):Dn K x q st [p1,p2,p3]:=⟨f,Classical.choose h,Classical.choose_spec h,(Classical.choose_spec h).binds fun _ _ _ _ _ _ _ hl=>by obtain ⟨_,_,_,rfl⟩:=Zts hl;exact b _ _ _ _ _ _ _ _ _⟩
noncomputable def Yc6 {K:Frag} {f:Addr} {x q:Str} {st:Stmt} {p1 p2 p3 p4:Str} (h:∃fd,Fun K x q st f fd) (b:∀kV u8 pm an b7 ct a1 a2 a3 a4,bindArgs (fnOf x q (Xh st) (Yw st) (Zg st) .none kV u8 pm an b7 ct) ⟨[a1,a2,a3,a4],[]⟩=pure ([p1,p2,p3,p4].zip [a1,a2,a3,a4]):=by intros;rfl):Dn K x q st [p1,p2,p3,p4]:=⟨f,Classical.choose h,Classical.choose_spec h,(Classical.choose_spec h).binds fun _ _ _ _ _ _ _ hl=>by obtain ⟨_,_,_,_,rfl⟩:=Zyn hl;exact b _ _ _ _ _ _ _ _ _ _⟩
theorem all_mk{l:PySem.W.OpenLaw}{w:World}{K:Frag}{h:Heap}{mg:Str->Option Value}{fa f0 f1 f2 f3 f4 f5 f6 f7 f8 f9 f10 f11 f12 f13 f14 f15 f16 f17 f18 f19 f20 f21 f22 f23 f24 f25 f26 f27 f28 f29 f30 f31 f32 f33 f34 f35 f36 f37 f38 f39 f40 f41 f42 f43 f44 f45 f46 f47 f48 f49 f50 f51 f52 f53 f54 f55 f56 f57 f58 f59 i6 i9 g9 m9 d5 d9 b9 w6 n0:Addr}(X:K.In h)(G:h.Ns mainGlobals mg) (hfa:mg "law" =some (.ref fa)) {od5 an5:Option Addr} {sl5:Array (Option Value)} {oc5 kV5 dc5 pm5 cd5 ct5:Value} {td5:Addr} {dod5:Option Addr} {dsl5:Array (Option Value)} {doc5:Value} {dn5:Nat} {dtk5:Tok} {od33 an33:Option Addr} {sl33:Array (Option Value)} {oc33 kV33 dc33 pm33 cd33 ct33:Value} {td33:Addr} {dod33:Option Addr} {dsl33:Array (Option Value)} {doc33:Value} {dn33:Nat} {od59 an59:Option Addr} {sl59:Array (Option Value)} {oc59 kV59 dc59 pm59 cd59 ct59:Value} {F9:Tok} {G0:Tok} {y9:Tok} {B9:Tok} {z6:Tok} {C0:Tok} {x8:Addr} {G9:Option Addr} {H0:Array (Option Value)} {M3:Nat} {E1 E2:Tok}
  (z_aa:NI K "Part" i6) (z_ab:NI K "Plain" i9) (z_ac:NI K "Stop" g9) (z_ad:NI K "Gate" m9) (z_ae:NI K "Points" d5) (z_af:NI K "Cross" d9) (z_ag:NI K "Tracks" b9) (z_ah:NI K "YardError" w6) (z_ai:NI K "BadName" n0) (l0:FG K f0 "is_name" Zf7) (l1:FM K f1 i6 "__init__" "Part.__init__" Zas) (l2:FM K f2 i6 "ends" "Part.ends" Zd0) (l3:FM K f3 i6 "lies" "Part.lies" Zdh) (l4:FM K f4 i6 "pairs" "Part.pairs" Zco) (l6:FM K f6 i6 "bears" "Part.bears" Zcm) (l7:FM K f7 g9 "ends" "Stop.ends" Zdq) (l8:FM K f8 g9 "pairs" "Stop.pairs" Zc8) (l9:FM K f9 d5 "ends" "Points.ends" Zbx) (l10:FM K f10 d5 "lies" "Points.lies" Zb2) (l11:FM K f11 d5 "pairs" "Points.pairs" Za9) (l12:FM K f12 d5 "bears" "Points.bears" Zbp) (l13:FM K f13 d9 "ends" "Cross.ends" Zc7) (l14:FM K f14 d9 "pairs" "Cross.pairs" Zbw) (l15:FM K f15 d9 "bears" "Cross.bears" Zb7) (l16:FG K f16 "steps_into" Zcs) (l17:FG K f17 "end_behind" Zcq) (l18:FG K f18 "ends_there" Zc2) (l19:FG K f19 "steps_on" Ze1) (l20:FG K f20 "routes_from" Zb0) (l21:FG K f21 "is_route" Ze7) (l22:FG K f22 "goal_of" Zga) (l23:FG K f23 "lies_of" Zgb) (l24:FG K f24 "is_pair" Zgr) (l25:FG K f25 "is_known" Zer) (l26:FG K f26 "refuse_name" Zby) (l27:FG K f27 "parts_by_name" Zay) (l28:FG K f28 "ends_to_parts" Zaw) (l29:FG K f29 "refuse_join" Zb1) (l30:FG K f30 "joined_ends" Zb5) (l31:FG K f31 "refuse_post" Zb6) (l32:FG K f32 "posts_of" Zes) (l34:FM K f34 b9 "named" "Tracks.named" Zbe) (l35:FM K f35 b9 "beyond" "Tracks.beyond" Zau) (l36:FM K f36 b9 "signal_at" "Tracks.signal_at" Wn) (l37:FM K f37 b9 "signals" "Tracks.signals" Zaa) (l38:FM K f38 b9 "end_of" "Tracks.end_of" Zar) (l39:FG K f39 "_law_mixed" Zcn) (l40:FG K f40 "_law_cell_at" Zbh) (l41:FG K f41 "_law_cells" Zcy) (l42:FG K f42 "_law_ends" Zdi) (l43:FG K f43 "_law_name_by" Zbb) (l44:FG K f44 "_law_block" Zc0) (l45:FG K f45 "_law_line" Zdl) (l46:FG K f46 "_law_closed" Zb3) (l47:FG K f47 "_law_drawn" Zcz) (l48:FG K f48 "_law_signals_by" Wx) (l49:FG K f49 "_law_long" Zde) (l50:FG K f50 "_law_yard_by" Zbm) (l51:FG K f51 "_law_part" Zdt) (l52:FG K f52 "_law_tracks" Zb8) (l53:FG K f53 "_law_map" Zeq) (l54:FG K f54 "_law_leads" Zcx) (l55:FG K f55 "_law_into" Zdw) (l56:FG K f56 "_law_ends_so" Zbd) (l57:FG K f57 "_law_walks" Zct) (l58:FG K f58 "_law_refused" Zbf) (a5:findIn K (.ref i6) "leads" =some (some (.ref f5))) (l5:K.lookup f5=some ⟨oc5,od5,.func (fnOf "leads" "Part.leads" (Xh X9) (Yw X9) (Zg X9) (.ref td5) kV5 dc5 pm5 an5 cd5 ct5),sl5⟩) (ld5:K.lookup td5=some ⟨doc5,dod5,.seq #[.str "" dtk5] dn5,dsl5⟩) (e5:codeIn K cd5 "Part.leads" =true) (k5:keepIn K (.ref f5)=true) (a33:findIn K (.ref b9) "__init__" =some (some (.ref f33))) (l33:K.lookup f33=some ⟨oc33,od33,.func (fnOf "__init__" "Tracks.__init__" (Xh Y1) (Yw Y1) (Zg Y1) (.ref td33) kV33 dc33 pm33 an33 cd33 ct33),sl33⟩) (ld33:K.lookup td33=some ⟨doc33,dod33,.seq #[.none] dn33,dsl33⟩) (e33:codeIn K cd33 "Tracks.__init__" =true) (k33:keepIn K (.ref f33)=true) (a59:nsIn K mainGlobals "law" =some (some (.ref f59))) (l59:K.lookup f59=some ⟨oc59,od59,.func (fnOf "law" "law" (Xh Zfo) (Yw Zfo) (Zg Zfo) .none kV59 dc59 pm59 an59 cd59 ct59),sl59⟩) (e59:codeIn K cd59 "law" =true) (k59:keepIn K (.ref f59)=true) (z_aj:Cls K i6) (z_ak:Cls K i9) (z_al:Cls K g9) (z_am:Cls K m9) (z_an:Cls K d5) (z_ao:Cls K d9) (z_ap:Cls K b9) (z_aq:Mk K i6 f1) (z_ar:Mk K i9 f1) (z_as:Mk K g9 f1) (z_at:Mk K m9 f1) (z_au:Mk K d5 f1) (z_av:Mk K d9 f1) (z_aw:Mk K b9 f33) (z_ax:Yh K i6 "ends" f2) (z_ay:Yh K i6 "lies" f3) (z_az:Yh K i6 "pairs" f4) (z_a0:Yh K i6 "bears" f6) (z_a1:Yh K i6 "leads" f5) (z_a2:Yh K i9 "ends" f2) (z_a3:Yh K i9 "lies" f3) (z_a4:Yh K i9 "pairs" f4) (z_a5:Yh K i9 "bears" f6) (z_a6:Yh K i9 "leads" f5) (z_a7:Yh K g9 "ends" f7) (z_a8:Yh K g9 "lies" f3) (z_a9:Yh K g9 "pairs" f8) (z_ba:Yh K g9 "bears" f6) (z_bb:Yh K g9 "leads" f5) (z_bc:Yh K m9 "ends" f7) (z_bd:Yh K m9 "lies" f3) (z_be:Yh K m9 "pairs" f8) (z_bf:Yh K m9 "bears" f6) (z_bg:Yh K m9 "leads" f5) (z_bh:Yh K d5 "ends" f9) (z_bi:Yh K d5 "lies" f10) (z_bj:Yh K d5 "pairs" f11) (z_bk:Yh K d5 "bears" f12) (z_bl:Yh K d5 "leads" f5) (z_bm:Yh K d9 "ends" f13) (z_bn:Yh K d9 "lies" f3) (z_bo:Yh K d9 "pairs" f14) (z_bp:Yh K d9 "bears" f15) (z_bq:Yh K d9 "leads" f5) (z_br:Yh K b9 "named" f34) (z_bs:Yh K b9 "beyond" f35) (z_bt:Yh K b9 "signal_at" f36) (z_bu:Yh K b9 "signals" f37) (z_bv:Yh K b9 "end_of" f38) (z_bw:findIn K (.ref i6) "name" =some none) (z_bx:findIn K (.ref i9) "name" =some none) (z_by:findIn K (.ref g9) "name" =some none) (z_bz:findIn K (.ref m9) "name" =some none) (z_b0:findIn K (.ref d5) "name" =some none) (z_b1:findIn K (.ref d9) "name" =some none) (z_b2:findIn K (.ref b9) "part_of" =some none) (z_b3:findIn K (.ref b9) "joined" =some none) (z_b4:findIn K (.ref b9) "post_of" =some none) (z_b5:findIn K (.ref b9) "signal_on" =some none) (z_b6:nsIn K mainGlobals "len" =some none) (z_b7:nsIn K mainGlobals "range" =some none) (z_b8:nsIn K mainGlobals "isinstance" =some none) (z_b9:nsIn K mainGlobals "list" =some none) (z_ca:nsIn K mainGlobals "dict" =some none) (z_cb:nsIn K mainGlobals "tuple" =some none) (z_cc:nsIn K mainGlobals "str" =some none) (z_cd:nsIn K mainGlobals "enumerate" =some none) (z_ce:nsIn K mainGlobals "max" =some none) (z_cf:nsIn K mainGlobals "min" =some none) (z_cg:nsIn K mainGlobals "sum" =some none) (z_ch:nsIn K mainGlobals "sorted" =some none) (z_ci:nsIn K mainGlobals "all" =some none) (z_cj:nsIn K mainGlobals "LETTERS" =some (some (.str "abcdefghijklmnopqrstuvwxyz" F9))) (z_ck:nsIn K mainGlobals "FIGURES" =some (some (.str "0123456789" G0))) (z_cl:nsIn K mainGlobals "LONGEST_NAME" =some (some (.int 6 y9))) (z_cm:nsIn K mainGlobals "MOST_PARTS" =some (some (.int 40 B9))) (z_cn:nsIn K mainGlobals "MOST_SIGNALS" =some (some (.int 40 z6))) (z_co:nsIn K mainGlobals "MOST_STEPS" =some (some (.int 12 C0))) (z_cp:nsIn K mainGlobals "NO_END" =some (some (.ref x8))) (z_cq:K.lookup x8=some ⟨.type "tuple",G9,.seq #[.str "" E1,.str "" E2] M3,H0⟩) (tG:PySem.W.specialIn K (.builtin "object.__class__") "__get__" =some (some (.builtin "getset_descriptor.__get__"))) (tK:PySem.W.takesIn K (.builtin "object.__class__")=some true) (z_cr:findIn K (.ref i6) "__class__" =some (some (.builtin "object.__class__"))) (z_cs:findIn K (.ref i9) "__class__" =some (some (.builtin "object.__class__"))) (z_ct:findIn K (.ref g9) "__class__" =some (some (.builtin "object.__class__"))) (z_cu:findIn K (.ref m9) "__class__" =some (some (.builtin "object.__class__"))) (z_cv:findIn K (.ref d5) "__class__" =some (some (.builtin "object.__class__"))) (z_cw:findIn K (.ref d9) "__class__" =some (some (.builtin "object.__class__"))) (z_cx:PySem.W.mroIn K i6 (.type "object")=some true) (z_cy:PySem.W.mroIn K i9 (.type "object")=some true) (z_cz:PySem.W.mroIn K g9 (.type "object")=some true) (z_c0:PySem.W.mroIn K m9 (.type "object")=some true) (z_c1:PySem.W.mroIn K d5 (.type "object")=some true) (z_c2:PySem.W.mroIn K d9 (.type "object")=some true) (z_c3:kitOne K (.type "tuple") (.type "tuple")=some true) (z_c4:kitOne K (.type "str") (.type "str")=some true) (z_c5:kitOne K (.type "NoneType") (.type "tuple")=some false) (z_c6:kitOne K (.type "int") (.type "tuple")=some false) (z_c7:kitOne K (.type "str") (.type "tuple")=some false) (z_c8:kitOne K (.type "list") (.type "tuple")=some false) (z_c9:kitOne K (.type "bool") (.type "tuple")=some false) (z_da:kitOne K (.ref i6) (.ref g9)=some false) (z_db:kitOne K (.ref i9) (.ref g9)=some false) (z_dc:kitOne K (.ref g9) (.ref g9)=some true) (z_dd:kitOne K (.ref m9) (.ref g9)=some true) (z_de:kitOne K (.ref d5) (.ref g9)=some false) (z_df:kitOne K (.ref d9) (.ref g9)=some false) (z_dg:kitOne K (.type "NoneType") (.type "str")=some false) (z_dh:kitOne K (.type "int") (.type "str")=some false) (z_di:kitOne K (.type "list") (.type "str")=some false) (z_dj:PySem.W.kitCls K (.ref n0) (.ref n0)=some true) (z_dk:kitOne K (.ref n0) (.type "BaseException")=some true) (z_dl:PySem.W.excIn K w6 [.type "ValueError",.type "Exception",.type "BaseException",.type "object"] "ValueError.__new__" =true) (z_dm:PySem.W.excIn K n0 [.type "ValueError",.type "Exception",.type "BaseException",.type "object"] "ValueError.__new__" =true)
  :∃fd:FuncData,(∀(s:Shared) (v:Value),BindsTo s fd ⟨[v],[]⟩ [("_law_script",v)])/\∀base:Heap,K.In base->base.Ns mainGlobals mg->Zy l.prog w K mg base CX0 9 fa fd ["_law_script"] (Zqs K):=by
 have e:=hfa.symm.trans (mg_of X G a59);cases e;have T:Tx K mg:=⟨Zbk l0.ex,l0.m X G,W8 l1.ex,Zbk l2.ex,Zbk l3.ex,W8 l4.ex,⟨f5,_,_,Zrs (st:=X9) l5 e5 k5,fun s us KX hl=>by
   rw [List.append_nil] at hl ⊢;obtain ⟨_,_,_,rfl⟩:=Zts hl;exact BindsTo.of_defaults rfl (KX _ _ ld5) rfl rfl rfl,.str "" dtk5,⟨dtk5,rfl⟩,fun s us KX hl=>by
   have h2:us.length=2:=by simpa using hl
   obtain ⟨_,_,rfl⟩:=Zyg h2;exact BindsTo.of_defaults rfl (KX _ _ ld5) rfl rfl rfl⟩,Zbk l6.ex,Zbk l7.ex,W8 l8.ex,Zbk l9.ex,Zbk l10.ex,W8 l11.ex,Zbk l12.ex,Zbk l13.ex,W8 l14.ex,Zbk l15.ex,W8 l16.ex,l16.m X G,Zbk l17.ex,l17.m X G,W8 l18.ex,l18.m X G,W8 l19.ex,l19.m X G,W8 l20.ex,l20.m X G,W8 l21.ex,l21.m X G,Zbk l22.ex,l22.m X G,Zbk l23.ex,l23.m X G,Zbk l24.ex,l24.m X G,W8 l25.ex,l25.m X G,W8 l26.ex,l26.m X G,Zbk l27.ex,l27.m X G,Zbk l28.ex,l28.m X G,Zv9 l29.ex,l29.m X G,W8 l30.ex,l30.m X G,Zv9 l31.ex,l31.m X G,W8 l32.ex,l32.m X G,⟨f33,_,_,Zrs (st:=Y1) l33 e33 k33,fun s us KX hl=>by
   rw [List.append_nil] at hl ⊢;obtain ⟨_,_,_,_,rfl⟩:=Zyn hl;exact BindsTo.of_defaults rfl (KX _ _ ld33) rfl rfl rfl,.none,rfl,fun s us KX hl=>by
   have h2:us.length=3:=by simpa using hl
   obtain ⟨_,_,_,rfl⟩:=Zts h2;exact BindsTo.of_defaults rfl (KX _ _ ld33) rfl rfl rfl⟩,W8 l34.ex,W8 l35.ex,W8 l36.ex,Zbk l37.ex,W8 l38.ex,W8 l39.ex,l39.m X G,W8 l40.ex,l40.m X G,Zv9 l41.ex,l41.m X G,Zbk l42.ex,l42.m X G,Zv9 l43.ex,l43.m X G,W8 l44.ex,l44.m X G,Zbk l45.ex,l45.m X G,Yc6 l46.ex,l46.m X G,Zbk l47.ex,l47.m X G,W8 l48.ex,l48.m X G,Zbk l49.ex,l49.m X G,W8 l50.ex,l50.m X G,W8 l51.ex,l51.m X G,Zbk l52.ex,l52.m X G,Zbk l53.ex,l53.m X G,W8 l54.ex,l54.m X G,W8 l55.ex,l55.m X G,W8 l56.ex,l56.m X G,Zv9 l57.ex,l57.m X G,W8 l58.ex,l58.m X G,i6,mg_of X G z_aa,z_aj,z_bw,z_aq,z_ax,z_ay,z_az,z_a0,z_a1,i9,mg_of X G z_ab,z_ak,z_bx,z_ar,z_a2,z_a3,z_a4,z_a5,z_a6,g9,mg_of X G z_ac,z_al,z_by,z_as,z_a7,z_a8,z_a9,z_ba,z_bb,m9,mg_of X G z_ad,z_am,z_bz,z_at,z_bc,z_bd,z_be,z_bf,z_bg,d5,mg_of X G z_ae,z_an,z_b0,z_au,z_bh,z_bi,z_bj,z_bk,z_bl,d9,mg_of X G z_af,z_ao,z_b1,z_av,z_bm,z_bn,z_bo,z_bp,z_bq,b9,mg_of X G z_ag,z_ap,z_b2,z_b3,z_b4,z_b5,z_aw,z_br,z_bs,z_bt,z_bu,z_bv,w6,mg_of X G z_ah,n0,mg_of X G z_ai,PySem.W.mg_none_of X G z_b6,PySem.W.mg_none_of X G z_b7,PySem.W.mg_none_of X G z_b8,PySem.W.mg_none_of X G z_b9,PySem.W.mg_none_of X G z_ca,PySem.W.mg_none_of X G z_cb,PySem.W.mg_none_of X G z_cc,PySem.W.mg_none_of X G z_cd,PySem.W.mg_none_of X G z_ce,PySem.W.mg_none_of X G z_cf,PySem.W.mg_none_of X G z_cg,PySem.W.mg_none_of X G z_ch,PySem.W.mg_none_of X G z_ci,z_c3,z_c4,z_c5,z_c6,z_c7,z_c8,z_c9,z_da,z_db,z_dc,z_dd,z_de,z_df,z_dg,z_dh,z_di,z_dj,z_dk,Zn9 (mg_of X G z_ah) z_dl,Zn9 (mg_of X G z_ai) z_dm,⟨_,mg_of X G z_cj⟩,⟨_,mg_of X G z_ck⟩,⟨_,mg_of X G z_cl⟩,⟨_,mg_of X G z_cm⟩,⟨_,mg_of X G z_cn⟩,⟨_,mg_of X G z_co⟩,x8,mg_of X G z_cp,fun H=>.inr ⟨_,_,_,z_cq,rfl,rfl,by simp [sizeLine_eq],.cons ⟨_,rfl⟩ (.cons ⟨_,rfl⟩ .nil)⟩,tG,tK,z_cr,z_cx,z_cs,z_cy,z_ct,z_cz,z_cu,z_c0,z_cv,z_c1,z_cw,z_c2⟩
 exact ⟨fnOf "law" "law" (Xh Zfo) (Yw Zfo) (Zg Zfo) .none kV59 dc59 pm59 an59 cd59 ct59,fun s v=>.of_eq rfl,fun base _ _=>Zy1 (Zpr (st:=Zfo) l59 e59 k59) T⟩
theorem walk{l:PySem.W.OpenLaw}{q:Program}{C5:List Str}{XP:(Str->Option Value)->Heap->Prop}{YP:World->Heap->Prop}{d:DefRec}{K:Params->Frag}(hn:l.most=some 63)(hdf:d.params.defaults=[])
  (hY:∀(w:World) (h:Heap),YP w h->(K w.params).In h)
  (F:∀(w:World) (mg:Str->Option Value) (fa:Addr) (h:Heap),(K w.params).In h->h.Ns mainGlobals mg->mg d.name=some (.ref fa) ->
   ∃fd:FuncData,(∀(s:Shared) (u:Value),BindsTo s fd ⟨[u],[]⟩ [("_law_script",u)])/\∀base:Heap,(K w.params).In base->base.Ns mainGlobals mg->Zy l.prog w (K w.params) mg base CX0 9 fa fd ["_law_script"] (Zqs (K w.params))) :
  PySem.W.WalkO q C5 XP YP l.row.toRowW d [] (fun f vs=>PySem.call f vs) :=
 L2.walk_of (n:=63) (k:=9) (x := "_law_script") (CX:=fun _=>CX0) (sp:=fun w=>Zqs (K w.params)) hn (by decide) hdf ⟨rfl,by decide,by decide⟩ hY F (fun _ _ a ns hl _ hS=>⟨a,ns,rfl,hS,hl,fun _=>rfl⟩) fun _ _ _ _ _ z=>z
end K22
namespace PySem.W.Fast
def tw10996096674702827294:=True
def tw6405937596859019403:=True
def tw5160734773409949999:=True
def tw4654556277288719980:=True
def tw5878642727646423366:=True
def tw14703371092227046942:=True
def tw5612363209002704682:=True
def tw9402958629258304489:=True
def tw8565247107510444541:=True
def tw15599577454089249542:=True
def tw14955022731542146394:=True
def tw5044024124923134355:=True
def tw7751380915483189273:=True
def tw9529745481750280335:=True
def tw11554800615724706123:=True
def tw16606546463642890119:=True
def tw2990440377100237989:=True
def tw5488410288284064533:=True
def tw10987483645988253218:=True
def tw13302902638791218988:=True
def tw14122415216612404526:=True
def tw6607102351172398316:=True
def tw17600804627712518419:=True
def tw14614214782558473361:=True
def tw3498023794163661507:=True
def tw2543052938782417114:=True
def tw13509099561900476957:=True
def tw14572914423351069154:=True
def tw3879164145417014750:=True
def tw5358434755696212074:=True
def tw551509865562506284:=True
def tw1183161684744253333:=True
def tw1019008027209539470:=True
def tw3859345650940341044:=True
def tw16469607728362858585:=True
def tw16467640009686231783:=True
def tw12732212679689113:=True
def tw9416667751010320055:=True
def tw12987973446281234503:=True
def tw1406743549769122934:=True
def tw17659041921052168344:=True
def tw2500338732543461505:=True
def tw14783315677600444199:=True
def tw10030532443477618212:=True
def tw6531085375965844035:=True
def tw14316217975411074538:=True
def tw12749947749559027873:=True
def tw5262020457443324754:=True
def tw1568715210306336674:=True
def tw8220825991448280359:=True
def tw17170873132291644064:=True
def tw9937426670530222083:=True
def tw4945472353343936364:=True
def tw16877745670328845905:=True
def tw8083614555556276693:=True
def tw15275265352138345580:=True
def tw7358542125241933268:=True
def tw14589493036677857052:=True
def tw377336138864046991:=True
def tw510994286882990233:=True
def tw3644014527840893474:=True
def tw2269464250170277569:=True
def tw2148689258919346321:=True
def tw15119279514532100458:=True
def tw3789409053712341944:=True
def tw7644410451273352441:=True
def tw11509815760822987256:=True
def tw14154978585706230776:=True
def tw11728607527378690165:=True
def tw3070734694740015443:=True
def tw15581271195206886063:=True
def tw8609075913331955657:=True
def tw9946541777332586064:=True
def tw4069658700496505958:=True
def tw13512009515159257495:=True
def tw4584600857175423218:=True
def tw16568255829869200991:=True
def tw6553900913565143934:=True
def tw2331297101536313341:=True
def tw4303519603027821552:=True
def tw12593225763654446363:=True
def tw2304846115136443958:=True
def tw1031500158029101736:=True
def tw1651494881180224385:=True
def tw10484440065199207645:=True
def tw6104832134890544244:=True
def tw15958527192718343423:=True
def tw12692162642318585363:=True
def tw1197472801726264933:=True
def tw1079863055113216909:=True
def tw5454573945076997417:=True
def tw3290888943839109312:=True
def tw18386054982837558320:=True
def tw1002650440364805146:=True
def tw15389747822706781680:=True
def tw1784746534079152315:=True
def tw6599157924159047611:=True
def tw5610083914318718922:=True
def tw407392298714122956:=True
def tw3477165320405990646:=True
def tw8214573109986067965:=True
def tw12046216282735291593:=True
def tw16942035260729879204:=True
def tw7521075541680392878:=True
def tw9444082521918705098:=True
def tw9736725572154664669:=True
def tw465993468477164104:=True
def tw2761403041025116912:=True
def tw4947668048787298199:=True
def tw10321401783566204046:=True
def tw2900626543624713798:=True
def tw7108014825415953672:=True
def tw16521831753799696401:=True
def tw12681495270859373833:=True
def tw12746918802680838039:=True
def tw10169225330860312191:=True
def tw2773763478023597546:=True
def tw8708255321239786564:=True
def tw408398628221000195:=True
def tw12509958739049896836:=True
def tw7526296617345733147:=True
def tw14209148820639079187:=True
def tw3654212362981702767:=True
def tw15349082004750665515:=True
def tw17364989409327868206:=True
def tw6763074461791393910:=True
def tw8472829317606682404:=True
def tw2347098100183309650:=True
def tw4804540778024116235:=True
def tw16439259249378379887:=True
def tw7592956640155265085:=True
def tw14272868129485398078:=True
def tw8363583705253793180:=True
def tw1962521984822296802:=True
def tw1680414691260784743:=True
def tw18288702655557215758:=True
def tw3636191916686014829:=True
def tw13968194340702475938:=True
def tw3772347042482943393:=True
def tw16883065801590791170:=True
def tw300776106521983869:=True
def tw3137748906177286173:=True
def tw6124141471713369183:=True
def tw10579493529209209350:=True
def tw3777651798034149507:=True
def tw17769932898812089591:=True
def tw8843417530715556231:=True
def tw5930261465544908882:=True
def tw15598407325599558:=True
def tw17571639879364493279:=True
def tw9469374355648360824:=True
def tw3772751171222608327:=True
def tw10869016576152135300:=True
def tw8607692582523124203:=True
def tw9634946704735055460:=True
def tw12576972967164194024:=True
def tw156172742859062103:=True
def tw7965182983316700721:=True
def tw508098635009320262:=True
def tw6623926318482460943:=True
def tw4672008573225061201:=True
def tw10680198155668562878:=True
def tw7200473627304028413:=True
def tw5579823075675783308:=True
def tw15366480339854931935:=True
def tw12907526978346352448:=True
def tw137833584034575056:=True
def tw8332304728325445741:=True
def tw15427177839352211158:=True
def tw1446210895040185880:=True
def tw190990850297724877:=True
def tw7478759109906694215:=True
def tw461220372296212014:=True
def tw13013137107252687591:=True
def tw4017094683134390956:=True
def tw14199089489643447581:=True
def tw4020444311844233635:=True
def tw10165509728320933459:=True
def tw6252314624021679706:=True
def tw9378040918465060919:=True
def tw4671263737559757295:=True
def tw9557259889407728207:=True
def tw16357995974786034619:=True
def tw727896789506841367:=True
def tw1878794060804879710:=True
def tw16930631411350856064:=True
def tw10507600929936020567:=True
def tw10403409701951399641:=True
def tw2687897294835372571:=True
def tw15421635959226806394:=True
def tw17900204807558189154:=True
def tw3439377831006462059:=True
def tw6900437470196518433:=True
def tw4628089534150450191:=True
def tw13742712513903671437:=True
def tw5251625446534249204:=True
def tw16282789265928233080:=True
def tw9271361667526593792:=True
def tw9599843348370231467:=True
def tw16658973949342588030:=True
def tw12701603106781687681:=True
def tw7719265750078797774:=True
def tw134619266044495116:=True
def tw7223557704094306192:=True
def tw6537765275103470977:=True
def tw6092212432881171372:=True
def tw16870977636295112329:=True
def tw7078638575897857365:=True
def tw18336655229586051337:=True
def tw8778663213856856341:=True
def tw13000567755783973008:=True
def tw6287948415469364706:=True
def tw11140911487758342425:=True
def tw14485766181359050373:=True
def tw19504346509107401:=True
def tw11210906855805572656:=True
def tw3602227983126873196:=True
def tw4840496103188143703:=True
def tw17932933779868992563:=True
def tw1692611735996811089:=True
def tw10785119400544187537:=True
def tw6170014947075015607:=True
def tw11442451591194796061:=True
def tw16796759026449483272:=True
def tw1419841302065981129:=True
def tw13082689381029632:=True
def tw13999884752536855904:=True
def tw2528543454152803544:=True
def tw9614345926847606774:=True
def tw17112385099698625099:=True
def tw5717793236387622928:=True
def tw14157544246121756734:=True
def tw14599419070811928052:=True
def tw12015858707826167728:=True
def tw10419043250701935092:=True
def tw6276370809633860132:=True
def tw11029317544173318315:=True
def tw18056200440968907124:=True
def tw454233647635595362:=True
def tw17132313245172306328:=True
def tw14585489222380180672:=True
def tw12855120033978541794:=True
def tw852006453695329127:=True
def tw10484600376629384497:=True
def tw9552145683506529696:=True
def tw18010895112616908458:=True
def tw10930406461680938994:=True
def tw12502732809526799054:=True
def tw6444994547728556118:=True
def tw12230145639647913151:=True
def tw17391423003157289026:=True
def tw594423129406753852:=True
def tw8746797537967768411:=True
def tw14982965062686991741:=True
def tw4147381804474591385:=True
def tw15241190713401590526:=True
def tw16699691425423662315:=True
def tw17443973823926940158:=True
def tw5186999198653283013:=True
def tw15476606662824491950:=True
def tw17586847924664806435:=True
def tw5951189449368023578:=True
def tw6287580412583105397:=True
def tw1820550456322917843:=True
def tw16946892121062183450:=True
def tw3012487973583057472:=True
def tw16118834971230619262:=True
def tw12099935504332750645:=True
def tw14165818494441939517:=True
def tw5040506031679997511:=True
def tw9291235556982869539:=True
def tw4386358225513359713:=True
def tw7640076045849728303:=True
def tw11186917549665804753:=True
def tw12869887690922411755:=True
def tw12379735404458203377:=True
def tw17481682980723009174:=True
def tw2958029637487219988:=True
def tw9542295691823284375:=True
def tw7828653148275608395:=True
def tw1645286734609613463:=True
def tw5260296297335901832:=True
def tw7913690221374626876:=True
def tw11915284207807170038:=True
def tw2193175786338458628:=True
def tw12878870735464676300:=True
def tw5957256183086506627:=True
def tw9643141330227275334:=True
def tw486914460007597675:=True
def tw523390738592588782:=True
def tw17486273863643555767:=True
def tw1684064957838838630:=True
def tw11851437072087604190:=True
def tw4815249679046780755:=True
def tw80958661299626712:=True
def tw7475685850311838622:=True
def tw8176388708022806436:=True
def tw9066434775130211368:=True
def tw14246746208275401261:=True
def tw16070062133437613361:=True
def tw4991690236152882827:=True
def tw10807934875784261313:=True
def tw16282740608885635715:=True
def tw572201979110260316:=True
def tw11772569446564892319:=True
def tw1217021401276969816:=True
def tw8841542638546262285:=True
def tw6560501517238247682:=True
def tw3772502991076893311:=True
def tw3400674896713233243:=True
def tw9577599656257913872:=True
def tw1530145222754952081:=True
def tw16791429945119416403:=True
def tw15232728107010877109:=True
def tw3564980866833441945:=True
def tw1697784086657732918:=True
def tw2358180572709795050:=True
def tw14424667514046525623:=True
def tw361454921844733517:=True
def tw15145769673887979346:=True
def tw1355451608570376189:=True
def tw14592383285099697512:=True
def tw17349608905123510495:=True
def tw6094616703797698569:=True
def tw6758881688330773012:=True
def tw10790155109247761830:=True
def tw4597634108502040990:=True
def tw16728142456587785084:=True
def tw13505234380540318998:=True
def tw5333109896958838464:=True
def tw4266302051322406658:=True
def tw7803277133377857389:=True
def tw18309292922993148619:=True
def tw13588153783677421831:=True
def tw7868429453988555465:=True
def tw12423753753254654481:=True
def tw17388576793504963542:=True
def tw7231238381103883158:=True
def tw8665138833659862193:=True
def tw14905892991433248025:=True
def tw4371139337750552457:=True
def tw12282855082566384284:=True
def tw12496216887253504188:=True
def tw14757015997269056052:=True
def tw17474641219759614415:=True
def tw12606167183652576691:=True
def tw9299464860526481980:=True
def tw11797366760579344418:=True
def tw245717242667534766:=True
def tw8195942156178891092:=True
def tw9485607151246042889:=True
def tw8280276840781970363:=True
def tw9145897749213727823:=True
def tw16779087066566728878:=True
def tw11091178885478435062:=True
def tw3936115421167649382:=True
def tw9717037650535639114:=True
def tw8876503699033230184:=True
def tw8868377521146602715:=True
def tw532625086625079941:=True
def tw7711479910350447802:=True
def tw17928961433266854466:=True
def tw15905266484902689205:=True
def tw8575790015282514294:=True
def tw16059200044695487583:=True
def tw9274278232565060667:=True
def tw10881488189258046718:=True
def tw1368252486088082678:=True
def tw16378091247836630195:=True
def tw13936431355490416698:=True
def tw15295232129898476443:=True
def tw8737812090200431718:=True
def tw15682928495381042367:=True
def tw14991152325450346232:=True
def tw3625235226931182634:=True
def tw12049915054979698819:=True
def tw12075344678517416150:=True
def tw7850220818371913437:=True
def tw12128923972713541293:=True
def tw16140992048956692098:=True
def tw2226243110320293402:=True
def tw17651277695591042550:=True
def tw1291414158472308038:=True
def tw10514086801398101992:=True
def tw13242431684109886215:=True
def tw9675850109395921675:=True
def tw1443982780140665110:=True
def tw1419806327888564171:=True
def tw7380660689199980828:=True
def tw13202612131582230434:=True
def tw7523370102529254192:=True
def tw7036731519515729315:=True
def tw16556457445557817336:=True
def tw13500092913627321963:=True
def tw4983596142639981634:=True
def tw4304171371705983184:=True
def tw15369205242166351532:=True
def tw6158432216560311576:=True
def tw16770944086264072287:=True
def tw6684003913705387075:=True
def tw4529628049864385813:=True
def tw4037575060990908057:=True
def tw5841359262914891599:=True
def tw14716110182049192425:=True
def tw13626730266821261490:=True
def tw5280318708432403246:=True
def tw7334096964247313381:=True
def tw13329284127090288621:=True
def tw1665990553746821302:=True
def tw18374078243592675978:=True
def tw6463607977780243240:=True
def tw10924039302361241849:=True
def tw5367170160329134383:=True
def tw227017239557620630:=True
def tw9561901882309445985:=True
def tw12074347895308004869:=True
def tw12934388630803026282:=True
def tw13227256186150368470:=True
def tw13497829280251336021:=True
def tw2838207732044627074:=True
def tw9970915885398433119:=True
def tw4595449167417205380:=True
def tw8073698348082139437:=True
def tw248421611293525167:=True
def tw16224691193512650990:=True
def tw16064804127460571538:=True
def tw14529163755307439482:=True
def tw3438962998160109587:=True
def tw18027279290112674629:=True
def tw17001935441956839538:=True
def tw7987864954915152717:=True
def tw11746938411192197084:=True
def tw11877579537633573986:=True
def tw16931638521396452534:=True
def tw2010908897149191467:=True
def tw3072889185036521481:=True
def tw5747427034775633558:=True
def tw13668508264813516043:=True
def tw11706983003167100219:=True
def tw2837040914664677733:=True
def tw12821692994183552042:=True
def tw10257929023946198777:=True
def tw7962657542867940690:=True
def tw14332876211549215592:=True
def tw12532666612535671784:=True
def tw8416121797262788505:=True
def tw587924941290695709:=True
def tw12637063491777171499:=True
def tw5658315766837216762:=True
def tw12568331852187719615:=True
def tw8216387220945601408:=True
def tw13443552320305653864:=True
def tw9660719651343355779:=True
def tw12635247505149933937:=True
def tw4276364832298188985:=True
def tw929880494184737255:=True
def tw18042293043785041501:=True
def tw16383863207916123769:=True
def tw1185532886075340198:=True
def tw5119112649194211491:=True
def tw2470035119697053563:=True
def tw5596671403730030791:=True
def tw3496193808367775243:=True
def tw5542548314394002152:=True
def tw15791142828768642336:=True
def tw16217934145326044071:=True
def tw11533721075123823639:=True
def tw2882196584704240127:=True
def tw5504806980665059699:=True
def tw756662179479948045:=True
def tw1291195486446533814:=True
def tw15125719076826499493:=True
def tw3516401185053315849:=True
def tw5584791526974083749:=True
def tw1636095049017289303:=True
def tw12579791335303210746:=True
def tw4340273394785388379:=True
def tw16085668263337177743:=True
def tw11757102926980982837:=True
def tw7279893608973534326:=True
def tw10988784421037239864:=True
def tw8876040909498240424:=True
def tw18010098968129473204:=True
def tw7147920517296803030:=True
def tw6718825010569445214:=True
def tw7290242727991167712:=True
def tw1877277724045614094:=True
def tw16308167451593991958:=True
def tw8862687915250709218:=True
def tw976481029410946577:=True
def tw11062350682764902571:=True
def tw13310434624852478189:=True
def tw12762460121730939639:=True
def tw14273977627518688606:=True
end PySem.W.Fast
open PySem PySem.W PyProof.Rows
set_option maxRecDepth 100000 in
set_option maxHeartbeats 0 in
theorem PySem.Challenge.cw_yardkeep_k22_routes_walked_holds : PySem.Challenge.rw_yardkeep_k22_routes_walked.Holds := by
  w_on; o_law; k_head; (case hw=>w_witness2)
  k_fill
  refine K22.walk (l:=PySem.Challenge.rw_yardkeep_k22_routes_walked) rfl rfl (fun w h Y=>PySem.W.kIn_of Y) ?F
  case F =>
    intro w mg fa h KX G hmg
    refine' K22.all_mk KX G hmg ?q0a ?q0b ?q0c ?q0d ?q0e ?q0f ?q0g ?q0h ?q0i ?q0j ?q0k ?q0l ?q0m ?q0n ?q0o ?q0p ?q0q ?q0r ?q0s ?q0t ?q0u ?q0v ?q0w ?q0x ?q0y ?q0z ?q00 ?q01 ?q02 ?q03 ?q04 ?q05 ?q06 ?q07 ?q08 ?q09 ?q1a ?q1b ?q1c ?q1d ?q1e ?q1f ?q1g ?q1h ?q1i ?q1j ?q1k ?q1l ?q1m ?q1n ?q1o ?q1p ?q1q ?q1r ?q1s ?q1t ?q1u ?q1v ?q1w ?q1x ?q1y ?q1z ?q10 ?q11 ?q12 ?q13 ?q14 ?q15 ?q16 ?q17 ?q18 ?q19 ?q2a ?q2b ?q2c ?q2d ?q2e ?q2f ?q2g ?q2h ?q2i ?q2j ?q2k ?q2l ?q2m ?q2n ?q2o ?q2p ?q2q ?q2r ?q2s ?q2t ?q2u ?q2v ?q2w ?q2x ?q2y ?q2z ?q20 ?q21 ?q22 ?q23 ?q24 ?q25 ?q26 ?q27 ?q28 ?q29 ?q3a ?q3b ?q3c ?q3d ?q3e ?q3f ?q3g ?q3h ?q3i ?q3j ?q3k ?q3l ?q3m ?q3n ?q3o ?q3p ?q3q ?q3r ?q3s ?q3t ?q3u ?q3v ?q3w ?q3x ?q3y ?q3z ?q30 ?q31 ?q32 ?q33 ?q34 ?q35 ?q36 ?q37 ?q38 ?q39 ?q4a ?q4b ?q4c ?q4d ?q4e ?q4f ?q4g ?q4h ?q4i ?q4j ?q4k ?q4l ?q4m ?q4n ?q4o ?q4p ?q4q ?q4r ?q4s ?q4t ?q4u ?q4v ?q4w ?q4x ?q4y ?q4z ?q40 ?q41 ?q42 ?q43 ?q44 ?q45 ?q46 ?q47 ?q48 ?q49 ?q5a ?q5b ?q5c ?q5d ?q5e ?q5f ?q5g ?q5h ?q5i ?q5j ?q5k ?q5l ?q5m ?q5n
    case q0a|q0b|q0c|q0d|q0e|q0f|q0g|q0h|q0i=>(delta K22.NI;k_is)
    case q0j|q0k|q0l|q0m|q0n|q0o|q0p|q0q|q0r|q0s|q0t|q0u|q0v|q0w|q0x|q0y|q0z|q00|q01|q02|q03|q04|q05|q06|q07|q08|q09|q1a|q1b|q1c|q1d|q1e|q1f|q1g|q1h|q1i|q1j|q1k|q1l|q1m|q1n|q1o|q1p|q1q|q1r|q1s|q1t|q1u|q1v|q1w|q1x|q1y|q1z|q10|q11|q12|q13=>(refine' ⟨?xqz,?xqa,?xqb,?xqc⟩;(case xqz=>k_is);(case xqa=>k_is);(case xqb=>k_is);(case xqc=>k_is))
    case q14|q15|q16|q17|q18|q19|q2a|q2b|q2c|q2d|q2e|q2f|q2g|q2h=>k_is
    case q2i|q2j|q2k|q2l|q2m|q2n|q2o|q2p|q2q|q2r|q2s|q2t|q2u|q2v=>refine ⟨?_,?_,?_,?_⟩<;>k_is
    case q2w|q2x|q2y|q2z|q20|q21|q22|q23|q24|q25|q26|q27|q28|q29|q3a|q3b|q3c|q3d|q3e|q3f|q3g|q3h|q3i|q3j|q3k|q3l|q3m|q3n|q3o|q3p|q3q|q3r|q3s|q3t|q3u=>refine ⟨?_,?_,?_⟩<;>k_is
    case q3v|q3w|q3x|q3y|q3z|q30|q31|q32|q33|q34|q35|q36|q37|q38|q39|q4a|q4b|q4c|q4d|q4e|q4f|q4g|q4h|q4i|q4j|q4k|q4l|q4m|q4n|q4o|q4p|q4q|q4r|q4s|q4t|q4u|q4v|q4w|q4x|q4y|q4z|q40|q41|q42|q43=>k_is
    case q44|q45|q46|q47|q48|q49|q5a|q5b|q5c|q5d|q5e|q5f|q5g|q5h|q5i|q5j=>kit_is
    case q5k=>kernel_rfl
    case q5l=>kit_is
    case q5m|q5n=>k_exc
