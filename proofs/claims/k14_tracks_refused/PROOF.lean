import PyProof.Rows.All
import Wide.All
import OpenK.AllK
import Wide.FinOn
import Lean
import PyProof.EqAt
import PyProof.EqKinds
import PyProof.TupleCall
import PyProof.NeKinds
import KE.KEqDict
import KE.KPairComp
import PyProof.EnumStmt
import PyProof.EnumMake
import PyProof.Rows.EnumRows
import KE.KDictList
import PyProof.ListRange
import PyProof.StationsW
import PyProof.Rows.SortStr
import KE.KDictSum
import PyProof.InstStoreFacts
import KE.KIsAll
import PyProof.ExcAttrAll.ValueError
import PyProof.ExcClass2
import PyProof.RulesAs
import KE.KDictOf
import PyProof.IsiH_list
import PyProof.StrOps2
import PyProof.FitsStr
import PyProof.SumWalkG
import KE.KRevSl
import KE.KLam
import KE.KNestM
import PyProof.Rows.TupAssign
import PySem.Challenge.RW_yardkeep_k14_tracks_refused
set_option Elab.async false
set_option linter.all false
set_option maxRecDepth 100000
set_option maxHeartbeats 4000000
open PySem.W (Frag kitOne keepIn findIn nsIn mg_of fnOf codeIn)
namespace L2
open PySem PySem.Spec PyProof.Rows
abbrev Key:=Sum Int Str
def Zhz:Key→Value→Bool
 | .inl k,v=>Value.isInt k v
 | .inr x,v=>Value.isStrOf x v
def Zyf(w:World):Key→Int
 | .inl k=>hashInt k
 | .inr x=>hashStr w x
theorem Xg:∀{k:Key} {v:Value},Zhz k v=true→(∃i t,k=Sum.inl i∧v=Value.int i t)∨(∃x t,k=Sum.inr x∧v=Value.str x t)
 | .inl i,v,h=>by
  obtain ⟨t,e⟩:=Value.isInt_shape (k:=i) (v:=v) h
  exact .inl ⟨i,t,rfl,e⟩
 | .inr x,v,h=>by
  obtain ⟨t,e⟩:=Value.isStrOf_shape (x:=x) (v:=v) h
  exact .inr ⟨x,t,rfl,e⟩
theorem Zpy(i:Int)(t:Tok):Zhz (.inl i) (.int i t)=true:=by simp [Zhz,Value.isInt]
theorem Zo9(x:Str)(t:Tok):Zhz (.inr x) (.str x t)=true:=by simp [Zhz,Value.isStrOf]
theorem Zvg(a b:Int):decide ((Sum.inl a:Key)=Sum.inl b)=(a ==b):=by
 by_cases e:a=b
 ·subst e;simp
 ·have h:¬(Sum.inl a:Key)=Sum.inl b:=fun q=>e (Sum.inl.inj q)
  rw [decide_eq_false h]
  exact (beq_eq_false_iff_ne.mpr e).symm
theorem Zu8(a b:Str):decide ((Sum.inr a:Key)=Sum.inr b)=decide (a=b):=by
 by_cases e:a=b
 ·subst e;simp
 ·have h:¬(Sum.inr a:Key)=Sum.inr b:=fun q=>e (Sum.inr.inj q)
  rw [decide_eq_false h,decide_eq_false e]
theorem Zup(a:Int)(b:Str):decide ((Sum.inl a:Key)=Sum.inr b)=false:=decide_eq_false (fun q=>nomatch q)
theorem Zvc(a:Str)(b:Int):decide ((Sum.inr a:Key)=Sum.inl b)=false:=decide_eq_false (fun q=>nomatch q)
def Ym(prog:Program)(w:World):PySem.KeyKind prog w Key where
 is:=Zhz
 hash:=Zyf w
 inj:=fun v a b ha hb=>by
  rcases Xg ha with ⟨i,t,rfl,rfl⟩|⟨x,t,rfl,rfl⟩
  ·rcases Xg hb with ⟨j,u,rfl,e⟩|⟨y,u,rfl,e⟩
   ·injection e with e1 _;rw [e1]
   ·exact nomatch e
  ·rcases Xg hb with ⟨j,u,rfl,e⟩|⟨y,u,rfl,e⟩
   ·exact nomatch e
   ·injection e with e1 _;rw [e1]
 byValue:=fun k v h=>by
  rcases Xg h with ⟨i,t,rfl,rfl⟩|⟨x,t,rfl,rfl⟩ <;>rfl
 pyHash:=fun hv h=>by
  rcases Xg hv with ⟨i,t,rfl,rfl⟩|⟨x,t,rfl,rfl⟩
  ·exact wpAny_pyHash_int h
  ·exact wpAny_pyHash_str h
 eqBool:=fun hu hv h=>by
  rcases Xg hu with ⟨i,t,rfl,rfl⟩|⟨x,t,rfl,rfl⟩
  ·rcases Xg hv with ⟨j,u,rfl,rfl⟩|⟨y,u,rfl,rfl⟩
   ·rw [Zvg] at h;exact wpAny_eqBool_int h
   ·rw [Zup] at h;exact SeqAt.EqAt.int_str i t y u _ _ _ _ h
  ·rcases Xg hv with ⟨j,u,rfl,rfl⟩|⟨y,u,rfl,rfl⟩
   ·rw [Zvc] at h;exact SeqAt.EqAt.str_int x t j u _ _ _ _ h
   ·rw [Zu8] at h;exact wpAny_eqBool_str h
 «strs» :=fun k x t v h=>by
  rcases Xg h with ⟨i,u,rfl,e⟩|⟨y,u,rfl,e⟩
  ·exact nomatch e
  ·injection e with e1 _
   subst e1
   cases v <;>rfl
theorem Zlu(prog:Program)(w:World)(i:Int)(t:Tok):(Ym prog w).is (.inl i) (.int i t)=true:=Zpy i t
theorem Zml(prog:Program)(w:World)(x:Str)(t:Tok):(Ym prog w).is (.inr x) (.str x t)=true:=Zo9 x t
end L2
namespace L2
open PySem PySem.Spec PyProof.Rows
inductive V where
 | non | bl (b:Bool) | int (i:Int) | str (x:Str) | byt (b:Array UInt8) | flt (b:UInt64) | ref (a:Addr) | ty (n:String)
 deriving DecidableEq
def Yo:V→Value→Prop
 | .non,u=>u=Value.none
 | .bl b,u=>u=Value.bool b
 | .int i,u=>∃t,u=Value.int i t
 | .str x,u=>∃t,u=Value.str x t
 | .byt b,u=>∃t,u=Value.bytes b t
 | .flt b,u=>∃t,u=Value.float b t
 | .ref a,u=>u=Value.ref a
 | .ty n,u=>u=Value.type n
abbrev Yd:List V→List Value→Prop:=Paired Yo
theorem Yd.length{xs:List V}{us:List Value}(r:Yd xs us):xs.length=us.length:=Paired.length r
theorem Yd.get:∀{xs:List V} {us:List Value} {i:Nat} {x:V},Yd xs us→xs[i]? =some x→∃u,us[i]? =some u∧Yo x u
 | _,_,_,_,.nil,e=>by simp at e
 | _,_,0,_,.cons r _,e=>by simp at e;subst e;exact ⟨_,rfl,r⟩
 | _,_,i+1,x,.cons _ t,e=>by
  obtain ⟨u,h1,h2⟩:=Yd.get (i:=i) (x:=x) t (by simpa using e)
  exact ⟨u,by simpa using h1,h2⟩
theorem Yd.set{x:V}{u:Value}(r:Yo x u):∀{xs:List V} {us:List Value} (i:Nat),Yd xs us→Yd (xs.set i x) (us.set i u)
 | _,_,_,.nil=>.nil
 | _,_,0,.cons _ t=>.cons r t
 | _,_,i+1,.cons q t=>.cons q (Yd.set r i t)
theorem Yd.append:∀{xs ys:List V} {us ws:List Value},Yd xs us→Yd ys ws→Yd (xs++ys) (us++ws)
 | _,_,_,_,.nil,s=>s
 | _,_,_,_,.cons r t,s=>.cons r (Yd.append t s)
theorem Yd.take:∀{xs:List V} {us:List Value} (n:Nat),Yd xs us→Yd (xs.take n) (us.take n)
 | _,_,0,_=>.nil
 | _,_,_+1,.nil=>.nil
 | _,_,n+1,.cons r t=>.cons r (Yd.take n t)
theorem Yd.drop:∀{xs:List V} {us:List Value} (n:Nat),Yd xs us→Yd (xs.drop n) (us.drop n)
 | _,_,0,r=>r
 | _,_,_+1,.nil=>.nil
 | _,_,n+1,.cons _ t=>Yd.drop n t
def Zde:Option V→Option Value→Prop
 | some v,some u=>Yo v u
 | none,none=>True
 | _,_=>False
def KV{κ:Type}:List (κ×V)→List (κ×Value)→Prop:=Paired fun (p:κ×V) (q:κ×Value)=>p.1=q.1∧Yo p.2 q.2
def kV:Key→V
 | .inl i=>.int i
 | .inr x=>.str x
inductive HO where
  | lst (xs:List V)
  | tup (xs:List V)
  | dK (kvs:List (Key×V)) | dT (kvs:List (List Key×V))
  | set (S:Int→Bool) (n:Nat)
  | ins (C dx:Addr) (fs:List (Str×V))
  | own (x:Addr)
  | xd (fs:List (Str×V))
  | met (f x:Addr)
  | rng (lo hi:Int)
  | frz (o:Obj) (u:HO)
  | tbl (ps:Array Value)
  | ext (φ:Heap→Prop)
abbrev Hp:=Addr→Option HO
def upd(H:Hp)(a:Addr)(o:HO):Hp:=fun b=>if b=a then some o else H b
theorem Zj{H:Hp}{a:Addr}{o:HO}:upd H a o a=some o:=by unfold upd;rw [if_pos rfl]
theorem Zi{H:Hp}{a b:Addr}{o:HO}(h:b≠a):upd H a o b=H b:=by unfold upd;rw [if_neg h]
theorem Zuj{H:Hp}{a b:Addr}{o u:HO}(h:H a=some o)(h':H b=some u)(d:o≠u):a≠b:=by
 intro e;subst e;rw [h] at h';exact d (Option.some.inj h')
theorem Zh{H:Hp}{a b:Addr}{o:HO}(h:H a=some o)(h':H b=none):a≠b:=by
 intro e;subst e;rw [h] at h';cases h'
section
variable (P:Program) (w:World)
def Yu(H:Hp)(h:Heap)(a:Addr):HO→Prop
 | .lst xs=>xs.length≤sizeLine∧∃(its:List Value) (n:Nat),Yd xs its∧h.get? a=some { cls:=.type "list",data:=.seq its.toArray n }
 | .tup xs=>xs.length≤sizeLine∧∃its:List Value,Yd xs its∧IsTup h a its.toArray
 | .dK kvs=>kvs.length≤sizeLine∧(a ==sysModules)=false∧∃vs,KV kvs vs∧h.DictOf (Ym P w) a vs
 | .dT kvs=>kvs.length≤sizeLine∧(a ==sysModules)=false∧∃xs:List (List Key×Addr×Value),
   Paired (fun (p:List Key×V) (q:List Key×Addr×Value)=>p.1=q.1∧H q.2.1=some (.tup (p.1.map kV))∧Yo p.2 q.2.2) kvs xs ∧
   ∃o es ep,h.get? a=some o∧o.ExactDict∧o.data=.dict es ep∧es.toList=xs.map (entryOfKey (tupleKind (Ym P w)))∧(xs.map (·.1)).Nodup
 | .set S n=>h.SetOf (intKind P w) a S n
 | .ins C dx fs=>H dx=some (.own a)∧fs.length≤1000∧dx≠a∧h.get? a=some (PySem.W.instObj C dx) ∧
   ∃mA,h.Ns1 dx mA∧(∀f,Zde (fs.lookup f) (mA f))∧PySem.Within mA (fs.map (·.1))
 | .own _=>∃o,h.get? a=some o
 | .xd fs=>∃mA,h.Ns1 a mA∧∀f,Zde (fs.lookup f) (mA f)
 | .rng lo hi=>∃t u v,h.get? a=some { cls:=.type "range",data:=.fields #[.int lo t,.int hi u,.int 1 v] }
 | .frz o u=>h.get? a=some o∧Yu H h a u
 | .tbl ps=>∃(ln cl:Value) (q:Str) (t:Nat),ps[0]? =some ln∧ps[1]? =some cl∧ps[2]? =some (.str q t) ∧
   (h.get? a=some { cls:=.none,data:=.fields #[] }∨∃(c:Addr) (oc:Obj) (vs:Array Value) (tt:Nat),H c=some (.frz oc (.own a))∧oc.data=.fields vs∧vs[1]? =some (.str q tt) ∧
    h.get? a=some { cls:=.none,data:=.fields #[ln,cl,.ref c] })
 | .met f x=>h.get? a=some (PySem.W.methodObj (.ref f) (.ref x))
 | .ext φ=>φ h∧(∃o,h.get? a=some o)∧∀h1 h2:Heap,φ h1→(∀o,h1.get? a=some o→h2.get? a=some o)→φ h2
def HOk(H:Hp)(h:Heap):Prop:=∀a o,H a=some o→Yu P w H h a o
end
section
variable {P:Program} {w:World} {H H':Hp} {h h':Heap} {a:Addr} {o:HO}
theorem Yu.lt(x:Yu P w H h a o):a<h.objs.size:=by
 cases o with
 | lst xs=>obtain ⟨_,_,_,_,e⟩:=x;exact Heap.lt_size e
 | tup xs=>obtain ⟨_,_,_,p⟩:=x;exact p.lt
 | dK kvs=>obtain ⟨_,_,_,_,o,_,_,e,_⟩:=x;exact Heap.lt_size e
 | dT kvs=>obtain ⟨_,_,_,_,o,_,_,e,_⟩:=x;exact Heap.lt_size e
 | set S n=>obtain ⟨o,_,_,_,e,_⟩:=x;exact Heap.lt_size e
 | ins C dx fs=>obtain ⟨_,_,_,e,_⟩:=x;exact Heap.lt_size e
 | own y=>obtain ⟨_,e⟩:=x;exact Heap.lt_size e
 | xd fs=>obtain ⟨_,⟨_,_,_,e,_⟩,_⟩:=x;exact Heap.lt_size e
 | rng lo hi=>obtain ⟨_,_,_,e⟩:=x;exact Heap.lt_size e
 | frz ob u=>obtain ⟨e,_⟩:=x;exact Heap.lt_size e
 | tbl ps =>
  obtain ⟨_,_,_,_,_,_,_,e | ⟨_,_,_,_,_,_,_,e⟩⟩:=x
  ·exact Heap.lt_size e
  ·exact Heap.lt_size e
 | met f y=>exact Heap.lt_size (show h.get? a=some _ from x)
 | ext φ=>obtain ⟨_,⟨_,e⟩,_⟩:=x;exact Heap.lt_size e
theorem Paired.mapP{α β:Type}{F G:α→β→Prop}:∀{l₁:List α} {l₂:List β},Paired F l₁ l₂→(∀a b,F a b→G a b)→Paired G l₁ l₂
 | _,_,.nil,_=>.nil
 | _,_,.cons r t,f=>.cons (f _ _ r) (Paired.mapP t f)
theorem Yu.stay(x:Yu P w H h a o)(k:∀b u,(b=a∨H b=some (.own a))→h.get? b=some u→h'.get? b=some u)
  (ho:∀b,H b=some (.own a)→H' b=some (.own a)) (ht:∀b xs,H b=some (.tup xs)→H' b=some (.tup xs))
  (hz:∀b o,H b=some (.frz o (.own a))→H' b=some (.frz o (.own a)):=by first | exact fun _ _ q=>q | (intro b o q;rw [Zi (Zh q (by assumption))];exact q)):Yu P w H' h' a o:=by
 induction o with
 | lst xs=>obtain ⟨z,its,n,r,e⟩:=x;exact ⟨z,its,n,r,k _ _ (.inl rfl) e⟩
 | tup xs=>obtain ⟨z,its,r,ob,e,c⟩:=x;exact ⟨z,its,r,ob,k _ _ (.inl rfl) e,c⟩
 | dK kvs=>obtain ⟨z,y,vs,r,ob,es,ep,e,c⟩:=x;exact ⟨z,y,vs,r,ob,es,ep,k _ _ (.inl rfl) e,c⟩
 | dT kvs =>
  obtain ⟨z,y,xs,r,ob,es,ep,e,c⟩:=x
  exact ⟨z,y,xs,Paired.mapP r fun p q z=>⟨z.1,ht _ _ z.2.1,z.2.2⟩,ob,es,ep,k _ _ (.inl rfl) e,c⟩
 | set S n=>obtain ⟨ob,es,ep,t,e,c⟩:=x;exact ⟨ob,es,ep,t,k _ _ (.inl rfl) e,c⟩
 | ins C dx fs =>
  obtain ⟨d,z,ne,e,mA,⟨od,es,ep,e2,c⟩,r⟩:=x
  exact ⟨ho _ d,z,ne,k _ _ (.inl rfl) e,mA,⟨od,es,ep,k _ _ (.inr d) e2,c⟩,r⟩
 | own y=>obtain ⟨ob,e⟩:=x;exact ⟨ob,k _ _ (.inl rfl) e⟩
 | xd fs=>obtain ⟨mA,⟨od,es,ep,e,c⟩,r⟩:=x;exact ⟨mA,⟨od,es,ep,k _ _ (.inl rfl) e,c⟩,r⟩
 | rng lo hi=>obtain ⟨t,u,v,e⟩:=x;exact ⟨t,u,v,k _ _ (.inl rfl) e⟩
 | frz ob u ih=>obtain ⟨e,q⟩:=x;exact ⟨k _ _ (.inl rfl) e,ih q⟩
 | tbl ps =>
  obtain ⟨ln,cl,q,t,e1,e2,e3,e | ⟨c,oc,vs,tt,f1,f2,f3,e⟩⟩:=x
  ·exact ⟨ln,cl,q,t,e1,e2,e3,.inl (k a _ (.inl rfl) e)⟩
  ·exact ⟨ln,cl,q,t,e1,e2,e3,.inr ⟨c,oc,vs,tt,hz _ _ f1,f2,f3,k a _ (.inl rfl) e⟩⟩
 | met f y =>
  have e:h.get? a=some (PySem.W.methodObj (.ref f) (.ref y)):=x
  show h'.get? a=some (PySem.W.methodObj (.ref f) (.ref y))
  exact k a _ (.inl rfl) e
 | ext φ=>obtain ⟨p,⟨o,e⟩,st⟩:=x;exact ⟨st _ _ p fun o q=>k _ _ (.inl rfl) q,⟨o,k _ _ (.inl rfl) e⟩,st⟩
theorem HOk.lt(x:HOk P w H h)(e:H a=some o):a<h.objs.size:=(x a o e).lt
theorem HOk.fresh(x:HOk P w H h)(e:h.objs.size≤a):H a=none:=by
 cases q:H a with
 | none=>rfl
 | some u=>exact absurd (Nat.lt_of_lt_of_le (x.lt q) e) (Nat.lt_irrefl _)
theorem HOk.kept(x:HOk P w H h)(k:∀b u,h.get? b=some u→h'.get? b=some u):HOk P w H h':=fun a o e =>
 (x a o e).stay (fun b u _ q=>k b u q) (fun _ q=>q) fun _ _ q=>q
theorem HOk.laid(x:HOk P w H h)(k:∀b u,h.get? b=some u→h'.get? b=some u)(hp:h.objs.size≤a)(new:Yu P w (upd H a o) h' a o):HOk P w (upd H a o) h':=fun b u e=>by
 have hn:=x.fresh hp
 by_cases hb:b=a
 ·subst hb;rw [Zj] at e;cases e;exact new
 ·rw [Zi hb] at e
  exact (x b u e).stay (fun c v _ q=>k c v q) (fun c q=>by rw [Zi (Zh q hn)];exact q) fun c xs q=>by rw [Zi (Zh q hn)];exact q
end
def Rd(H:Hp)(a:Addr)(u:HO):Prop:=H a=some u∨∃o,H a=some (.frz o u)
theorem Rd.ok{P:Program}{w:World}{H:Hp}{h:Heap}{a:Addr}{u:HO}(r:Rd H a u)(x:HOk P w H h):Yu P w H h a u:=by
 rcases r with r|⟨o,r⟩
 ·exact x a u r
 ·obtain ⟨_,q⟩:=x a _ r
  exact q
def Mut:Option HO→Prop
 | some (.lst _)=>True
 | some (.dK _)=>True
 | some (.dT _)=>True
 | some (.set _ _)=>True
 | some (.ins _ _ _)=>True
 | some (.ext _)=>True
 | _=>False
section
variable {P:Program} {w:World} {H:Hp} {h h':Heap} {x e:Addr} {o':HO}
theorem HOk.write(ok:HOk P w H h)(mu:Mut (H x))(he:e=x∨H e=some (.own x))(k:∀b u,b≠e→h.get? b=some u→h'.get? b=some u)(heo:∃u,h'.get? e=some u)
  (new:Yu P w (upd H x o') h' x o'):HOk P w (upd H x o') h':=fun b u q=>by
 have nown:∀c y,H c=some (.own y)→c≠x:=fun c y r z=>by subst z;rw [r] at mu;exact mu
 have ntup:∀c xs,H c=some (.tup xs)→c≠x:=fun c xs r z=>by subst z;rw [r] at mu;exact mu
 have nfrz:∀c o y,H c=some (.frz o (.own y))→c≠x:=fun c o y r z=>by subst z;rw [r] at mu;exact mu
 by_cases hb:b=x
 ·subst hb;rw [Zj] at q;cases q;exact new
 ·rw [Zi hb] at q
  by_cases hbe:b=e
  ·have q':H b=some (.own x):=by
    rcases he with z|z
    ·exact absurd (hbe.trans z) hb
    ·rw [hbe];exact z
   rw [q] at q';cases q'
   obtain ⟨v,hv⟩:=heo
   exact ⟨v,by rw [hbe];exact hv⟩
  ·refine (ok b u q).stay (fun c v hc r=>k c v ?_ r) (fun c r=>by rw [Zi (nown c b r)];exact r) (fun c xs r=>by rw [Zi (ntup c xs r)];exact r) (fun c o r=>by rw [Zi (nfrz c o b r)];exact r)
   rcases hc with rfl|hc
   ·exact hbe
   ·rintro rfl
    rcases he with z|z
    ·exact nown c b hc z
    ·rw [hc] at z;cases z;exact hb rfl
end
structure Un(fs ex:List Addr)(H H':Hp)(h h':Heap):Prop where
 keep:∀b o,h.get? b=some o→H b=none→b∉fs→b∉ex→h'.get? b=some o
 slot:∀b o,h.get? b=some o→H b=none→b∈fs→b∉ex→∃sl,h'.get? b=some { o with slots:=sl }
 free:∀b o,h.get? b=some o→H b=none→b∉ex→H' b=none
 there:∀b o,h.get? b=some o→b∉ex→∃o',h'.get? b=some o'
 tups:∀b xs,H b=some (.tup xs)→H' b=some (.tup xs)
 frzs:∀b o u,H b=some (.frz o u)→H' b=some (.frz o u)
 tbls:∀b ps,H b=some (.tbl ps)→∃more,H' b=some (.tbl (ps++more))
section
variable {fs fs' ex ex':List Addr} {H H1 H2:Hp} {h h1 h2 h':Heap} {a x e:Addr} {o:HO}
theorem Un.any(u:Un fs ex H H1 h h1){b:Addr}{ob:Obj}(q:h.get? b=some ob)(n:H b=none)(hx:b∉ex):∃sl,h1.get? b=some { ob with slots:=sl }:=by
 by_cases hb:b∈fs
 ·exact u.slot b ob q n hb hx
 ·exact ⟨ob.slots,u.keep b ob q n hb hx⟩
theorem Un.kept(k:∀b u,h.get? b=some u→h'.get? b=some u):Un fs ex H H h h' :=
 ⟨fun b ob q _ _ _=>k b ob q,fun b ob q _ _ _=>⟨ob.slots,k b ob q⟩,fun _ _ _ n _=>n,fun b ob q _=>⟨ob,k b ob q⟩,fun _ _ q=>q,fun _ _ _ q=>q,fun _ ps q=>⟨#[],by rw [q];simp⟩⟩
theorem Un.refl:Un fs ex H H h h:=Un.kept fun _ _ q=>q
theorem Un.laid(k:∀b u,h.get? b=some u→h'.get? b=some u)(hp:h.objs.size≤a)(hn:H a=none):Un fs ex H (upd H a o) h h' where
 keep:=fun b u q _ _ _=>k b u q
 slot:=fun b u q _ _ _=>⟨u.slots,k b u q⟩
 free:=fun b u q n _=>by rw [Zi (Nat.ne_of_lt (Nat.lt_of_lt_of_le (Heap.lt_size q) hp))];exact n
 there:=fun b u q _=>⟨u,k b u q⟩
 tups:=fun b xs q=>by rw [Zi (Zh q hn)];exact q
 frzs:=fun b u xs q=>by rw [Zi (Zh q hn)];exact q
 tbls:=fun b ps q=>⟨#[],by rw [Zi (Zh q hn),q];simp⟩
theorem Un.write(mu:Mut (H x))(he:e=x∨H e=some (.own x))(k:∀b u,b≠e→h.get? b=some u→h'.get? b=some u)(heo:∃u,h'.get? e=some u):Un fs ex H (upd H x o) h h':=by
 have hx:∀b,H b=none→b≠x:=fun b n z=>by subst z;rw [n] at mu;exact mu
 have hb:∀b,H b=none→b≠e:=fun b n z=>by
  subst z
  rcases he with r|r
  ·exact hx b n r
  ·rw [n] at r;cases r
 have hm:∀b u,H b=some u→¬Mut (some u)→b≠x:=fun b u q nm z=>by subst z;rw [q] at mu;exact nm mu
 refine ⟨fun b u q n _ _=>k b u (hb b n) q,fun b u q n _ _=>⟨u.slots,k b u (hb b n) q⟩,fun b u q n _=>by rw [Zi (hx b n)];exact n,fun b u q _=>?_,
  fun b xs q=>by rw [Zi (hm b _ q fun z=>z)];exact q,fun b u xs q=>by rw [Zi (hm b _ q fun z=>z)];exact q,fun b ps q=>⟨#[],by rw [Zi (hm b _ q fun z=>z),q];simp⟩⟩
 by_cases hbe:b=e
 ·subst hbe;exact heo
 ·exact ⟨u,k b u hbe q⟩
end
def trk(h:Heap)(H:Hp):List Addr:=(List.range h.objs.size).filter fun a=>(H a).isSome
def Zkr(h:Heap)(H:Hp):Heap:=PySem.W.hideAll h (trk h H)
theorem Zou(h:Heap)(H:Hp):(Zkr h H).objs.size=h.objs.size:=PySem.W.hideAll_size _ _
theorem Zsg{h:Heap}{H:Hp}{b:Addr}{o:Obj}(e:h.get? b=some o)(n:H b=none):(Zkr h H).get? b=some o :=
 PySem.W.hideAll_get _ e fun hm=>by
  have q:(H b).isSome=true:=(List.mem_filter.mp hm).2
  rw [n] at q;simp at q
theorem Ztv{h:Heap}{H:Hp}{b:Addr}{o:Obj}(e:(Zkr h H).get? b=some o):h.get? b=some o∧H b=none:=by
 have e':h.get? b=some o:=PySem.W.of_hideAll (trk h H) e
 refine ⟨e',?_⟩
 cases q:H b with
 | none=>rfl
 | some x =>
  have hm:b∈trk h H:=List.mem_filter.mpr ⟨List.mem_range.mpr (Heap.lt_size e'),by simp [q]⟩
  have z:(Zkr h H).get? b=none:=PySem.W.hideAll_none (trk h H) hm
  rw [z] at e;cases e
def Zs9(g h:Heap)(L:Addr):List (Addr×Obj):=(List.range h.objs.size).filterMap fun a=>if a=L∨(g.get? a).isSome=true then none else (h.get? a).map fun o=>(a,o)
def rest(g h:Heap)(L d:Addr):List (Addr×Obj):=(Zs9 g h L).filter fun p=>decide (p.1≠d)
end L2
namespace L2
open PySem PySem.Spec PyProof.Rows
def Zuh(mg:Str→Option Value)(h:Heap):Prop:=∃bm ob,mg "__builtins__" =some (.ref bm)∧bm≠builtinsNs∧h.get? bm=some ob∧ob.cls=.type "module" ∧ob.dict=some builtinsNs∧ob.data=.plain
structure Mod(K:Frag)(mg:Str→Option Value)(base:Heap):Prop where
 kin:K.In base
 glob:base.Ns mainGlobals mg
 blt:∃mb,base.Ns builtinsNs mb∧∀x:Str,x ≠ "__name__" →mb x=bootBuiltins x
 nolimit:base.NoLimit
 bm:Zuh mg base
structure Cx where
 prog:Program
 w:World
 K:Frag
 mg:Str→Option Value
 base:Heap
 A:Around
 N:List Str
 s₀:Shared
 H₀:Hp
 env:Env
 outer:List Env
 stack:List Env
 ex:List Addr
 fn:Str→Bool
 calm:Bool
 pn:List (Addr×Obj)
 xe:Value→Shared→Prop
def frs(l:List Env):List Addr:=l.filterMap (·.frame)
abbrev Cx.fs(X:Cx):List Addr:=frs X.outer
def Vis(sc:Scope)(x:Str):Prop:=sc.names.lookup x=some .local∨sc.names.lookup x=some .cell∨sc.names.lookup x=some .free
def Loc(sc:Scope)(x:Str):Prop:=sc.names.lookup x=some .local∨sc.names.lookup x=some .cell
def Zx9(env:Env)(h:Heap)(m:Str→Option Value)(x:Str)(u:Value):Prop :=
 (env.kindOf x=some .local∧m x=some u)∨((env.kindOf x=some .cell∨env.kindOf x=some .free)∧∃c,env.cells.lookup x=some c∧h.IsCell c (some u))
structure Cx.Ok(X:Cx):Prop where
 mod:Mod X.K X.mg X.base
 kind:X.env.scope.kind=.function
 glob:X.env.globals=mainGlobals
 blt:X.env.builtins=builtinsNs
 above:X.s₀.heap.objs.size≤X.env.locals
 inj:∀x y c,X.env.cells.lookup x=some c→X.env.cells.lookup y=some c→x=y
 has:∀x,(X.env.kindOf x=some .cell∨X.env.kindOf x=some .free)→∃c,X.env.cells.lookup x=some c
 cab:∀x c,X.fn x=true→X.env.cells.lookup x=some c→X.s₀.heap.objs.size≤c
 hd:X.calm=true→X.A.handled=none
 frames:X.A.frames=some X.stack
 stk:X.stack=X.outer∨(X.stack=X.env ::X.outer∧X.env.frame=some X.env.locals)
 exf:∀b∈X.ex,b≠X.env.locals∧∀x c,X.env.cells.lookup x=some c→c≠b
 bs:∀b o,X.base.get? b=some o→X.s₀.heap.get? b=some o∧X.H₀ b=none
 bsz:X.base.objs.size≤X.s₀.heap.objs.size
 noex:∀b o,X.base.get? b=some o→b∉X.ex
 exfs:∀b∈X.ex,b∉X.fs
 funs:X.s₀.heap.FunFrames X.base X.outer
 frf:∀b∈X.fs,X.H₀ b=none
structure Inv(X:Cx)(pins:List (Addr×Obj))(σ:List (Option V))(H:Hp)(s:Shared):Prop where
 ok:X.Ok
 os:s.os=X.s₀.os
 bare:AllBare s.gens
 base:Un X.fs X.ex X.H₀ H X.s₀.heap s.heap
 loc:∃m,s.heap.Ns X.env.locals m∧∀(i:Nat) (x:Str) (v:V),X.N[i]? =some x→σ[i]? =some (some v)→Vis X.env.scope x→∃u,Yo v u∧Zx9 X.env s.heap m x u
 cell:∀x c,X.env.cells.lookup x=some c→∃v,s.heap.IsCell c v
 free:H X.env.locals=none
 freeC:∀x c,X.env.cells.lookup x=some c→H c=none
 pin:∀p∈X.pn++pins,s.heap.get? p.1=some p.2∧H p.1=none∧p.1≠X.env.locals∧p.1∉X.fs∧∀v,p.2.data ≠ .cell v
 hok:HOk X.prog X.w H s.heap
 len:σ.length=X.N.length
section
variable {X:Cx} {pins:List (Addr×Obj)} {σ:List (Option V)} {H H':Hp} {s:Shared} {h':Heap}
theorem Cx.Ok.nofr(ok:X.Ok){b:Addr}{o:Obj}(e:X.base.get? b=some o):b∉X.fs:=fun hb=>by
 have:=(ok.funs.mem hb).1
 rw [e] at this;cases this
theorem Inv.bs(I:Inv X pins σ H s):∀b o,X.base.get? b=some o→s.heap.get? b=some o∧H b=none:=fun b o e =>
 ⟨I.base.keep b o (I.ok.bs b o e).1 (I.ok.bs b o e).2 (I.ok.nofr e) (I.ok.noex b o e),I.base.free b o (I.ok.bs b o e).1 (I.ok.bs b o e).2 (I.ok.noex b o e)⟩
theorem Inv.bk(I:Inv X pins σ H s):∀b o,X.base.get? b=some o→s.heap.get? b=some o:=fun b o e=>(I.bs b o e).1
theorem Inv.mod(I:Inv X pins σ H s):Mod X.K X.mg X.base:=I.ok.mod
theorem Inv.kIn(I:Inv X pins σ H s):X.K.In s.heap:=I.ok.mod.kin.keeps I.bk
theorem Inv.fr(I:Inv X pins σ H s):∃m,Fr X.base X.env.locals s.heap m :=
 let ⟨m,hn,_⟩:=I.loc
 ⟨m,hn,I.bk,Nat.le_trans I.ok.bsz I.ok.above⟩
theorem Inv.lt(I:Inv X pins σ H s):X.env.locals<s.heap.objs.size:=let ⟨_,hn,_⟩:=I.loc;hn.lt
theorem Inv.sz(I:Inv X pins σ H s):X.s₀.heap.objs.size≤s.heap.objs.size:=Nat.le_trans I.ok.above (Nat.le_of_lt I.lt)
theorem Inv.nofs(I:Inv X pins σ H s){a:Addr}(h:s.heap.objs.size≤a):a∉X.fs:=fun hb=>by
 obtain ⟨_,o,ho,_⟩:=I.ok.funs.mem hb
 exact absurd (Nat.lt_of_lt_of_le (Heap.lt_size ho) (Nat.le_trans I.sz h)) (Nat.lt_irrefl _)
theorem Inv.cne(I:Inv X pins σ H s):∀x c,X.env.cells.lookup x=some c→c≠X.env.locals:=fun x c e z=>by
 obtain ⟨v,o,ho,hd⟩:=I.cell x c e
 obtain ⟨m,⟨o',es,ep,ho',hd',_⟩,_⟩:=I.loc
 rw [z,ho'] at ho;cases ho;rw [hd'] at hd;cases hd
theorem Inv.funs(I:Inv X pins σ H s):s.heap.FunFrames X.base X.outer:=by
 have all:∀(l:List Env),(∀b∈frs l,b∈X.fs)→X.s₀.heap.FunFrames X.base l→s.heap.FunFrames X.base l:=by
  intro l
  induction l with
  | nil=>intro _ _;trivial
  | cons env r ih =>
   intro hs hl
   obtain ⟨hk,⟨L,o,hf,hn,ho,hd⟩,hr⟩:=hl
   have hL:L∈X.fs:=hs L (by unfold frs;rw [List.filterMap_cons,hf];exact List.mem_cons_self)
   obtain ⟨sl,e⟩:=I.base.slot L o ho (I.ok.frf L hL) hL fun z=>I.ok.exfs L z hL
   exact ⟨hk,⟨L,_,hf,hn,e,hd⟩,ih (fun b hb=>hs b (by unfold frs;rw [List.filterMap_cons,hf];exact List.mem_cons_of_mem _ hb)) hr⟩
 exact all X.outer (fun _ hb=>hb) I.ok.funs
theorem Inv.stack(I:Inv X pins σ H s):s.heap.FunFrames X.base X.stack:=by
 rcases I.ok.stk with e|⟨e,hf⟩
 ·rw [e];exact I.funs
 ·rw [e]
  obtain ⟨m,hn,_⟩:=I.loc
  refine .cons (by rw [I.ok.kind];decide) hf hn ?_ I.funs
  exact Heap.get?_none_of_le (Nat.le_trans I.ok.bsz I.ok.above)
theorem Inv.stkSub(I:Inv X pins σ H s):∀b∈frs X.stack,b∈X.env.locals ::X.fs:=fun b hb=>by
 rcases I.ok.stk with e|⟨e,hf⟩
 ·rw [e] at hb;exact List.mem_cons_of_mem _ hb
 ·rw [e] at hb
  unfold frs at hb
  rw [List.filterMap_cons,hf] at hb
  exact hb
theorem Inv.stkFree(I:Inv X pins σ H s):∀b∈frs X.stack,H b=none:=fun b hb=>by
 rcases List.mem_cons.mp (I.stkSub b hb) with e|hb
 ·rw [e];exact I.free
 ·obtain ⟨_,o,ho,_⟩:=I.ok.funs.mem hb
  exact I.base.free b o ho (I.ok.frf b hb) fun z=>I.ok.exfs b z hb
theorem Inv.step{g':Array GenState}{t':Nat}{d':Drawn}{ch:List Addr}(I:Inv X pins σ H s)
  (hch:∀b∈ch,(b∈X.ex∨X.s₀.heap.objs.size≤b)∧b≠X.env.locals∧(∀x c,X.env.cells.lookup x=some c→c≠b)∧∀p∈X.pn++pins,p.1≠b)
  (keep:∀b o,b≠X.env.locals→b∉X.fs→b∉ch→s.heap.get? b=some o→H b=none→h'.get? b=some o)
  (slot:∀b o,b≠X.env.locals→b∈X.fs→b∉ch→s.heap.get? b=some o→H b=none→∃sl,h'.get? b=some { o with slots:=sl }) (free:∀b o,b∉ch→s.heap.get? b=some o→H b=none→H' b=none)
  (there:∀b o,b∉ch→s.heap.get? b=some o→∃o',h'.get? b=some o')
  (tups:∀b xs,H b=some (.tup xs)→H' b=some (.tup xs)) (frzs:∀b o u,H b=some (.frz o u)→H' b=some (.frz o u)) (tbls:∀b ps,H b=some (.tbl ps)→∃more,H' b=some (.tbl (ps++more)))
  (ns:∀m,s.heap.Ns X.env.locals m→h'.Ns X.env.locals m) (hok:HOk X.prog X.w H' h') (hg:AllBare g') :
  Inv X pins σ H' { s with heap:=h',gens:=g',drawn:=d',toks:=t' }:=by
 have neL:∀b o,X.s₀.heap.get? b=some o→b≠X.env.locals:=fun b o e=>Nat.ne_of_lt (Nat.lt_of_lt_of_le (Heap.lt_size e) I.ok.above)
 have neC:∀b o,X.s₀.heap.get? b=some o→b∉X.ex→b∉ch:=fun b o e hx hb=>by
  rcases (hch b hb).1 with z|z
  ·exact hx z
  ·exact absurd (Nat.lt_of_lt_of_le (Heap.lt_size e) z) (Nat.lt_irrefl _)
 have cellK:∀x c,X.env.cells.lookup x=some c→∀v,s.heap.IsCell c v→h'.IsCell c v:=fun x c e v ⟨o,ho,hd⟩=>by
  have nch:c∉ch:=fun z=>(hch c z).2.2.1 x c e rfl
  by_cases hc:c∈X.fs
  ·obtain ⟨sl,q⟩:=slot c o (I.cne x c e) hc nch ho (I.freeC x c e)
   exact ⟨_,q,hd⟩
  ·exact ⟨o,keep c o (I.cne x c e) hc nch ho (I.freeC x c e),hd⟩
 refine ⟨I.ok,I.os,hg,⟨fun b o e n hb hx=>?_,fun b o e n hb hx=>?_,fun b o e n hx=>?_,fun b o e hx=>?_,fun b xs e=>tups b xs (I.base.tups b xs e),fun b o xs e=>frzs b o xs (I.base.frzs b o xs e),fun b ps e=>?_⟩,?_,fun x c e=>?_,?_,fun x c e=>?_,fun p hp=>?_,hok,I.len⟩
 ·exact keep b o (neL b o e) hb (neC b o e hx) (I.base.keep b o e n hb hx) (I.base.free b o e n hx)
 ·obtain ⟨sl,e1⟩:=I.base.slot b o e n hb hx
  obtain ⟨sl',e2⟩:=slot b _ (neL b o e) hb (neC b o e hx) e1 (I.base.free b o e n hx)
  exact ⟨sl',e2⟩
 ·obtain ⟨o',e1⟩:=I.base.there b o e hx
  exact free b o' (neC b o e hx) e1 (I.base.free b o e n hx)
 ·obtain ⟨o',e1⟩:=I.base.there b o e hx
  exact there b o' (neC b o e hx) e1
 ·obtain ⟨m1,e1⟩:=I.base.tbls b ps e
  obtain ⟨m2,e2⟩:=tbls b _ e1
  exact ⟨m1++m2,by rw [e2,Array.append_assoc]⟩
 ·obtain ⟨m,hn,hl⟩:=I.loc
  refine ⟨m,ns m hn,fun i x v e1 e2 e3=>?_⟩
  obtain ⟨u,r,l⟩:=hl i x v e1 e2 e3
  refine ⟨u,r,?_⟩
  rcases l with l|⟨k,c,e,z⟩
  ·exact .inl l
  ·exact .inr ⟨k,c,e,cellK x c e _ z⟩
 ·obtain ⟨v,z⟩:=I.cell x c e
  exact ⟨v,cellK x c e v z⟩
 ·obtain ⟨m,⟨o,_,_,ho,_⟩,_⟩:=I.loc
  exact free _ o (fun z=>(hch _ z).2.1 rfl) ho I.free
 ·obtain ⟨v,o,ho,hd⟩:=I.cell x c e
  exact free c o (fun z=>(hch c z).2.2.1 x c e rfl) ho (I.freeC x c e)
 ·obtain ⟨e,n,ne,nf,d⟩:=I.pin p hp
  have nch:p.1∉ch:=fun z=>(hch p.1 z).2.2.2 p hp rfl
  exact ⟨keep p.1 p.2 ne nf nch e n,free p.1 p.2 nch e n,ne,nf,d⟩
theorem Inv.un{t':Nat}(I:Inv X pins σ H s)(u:Un X.fs [] H H' s.heap h')(hok:HOk X.prog X.w H' h'):Inv X pins σ H' { s with heap:=h',toks:=t' }:=by
 obtain ⟨m,⟨o,es,ep,ho,r⟩,_⟩:=id I.loc
 obtain ⟨sl,hL⟩:=u.any ho I.free (by simp)
 exact I.step (g':=s.gens) (d':=s.drawn) (ch:=[]) (fun _ z=>nomatch z) (fun b o _ hb _ e n=>u.keep b o e n hb (by simp)) (fun b o _ hb _ e n=>u.slot b o e n hb (by simp)) (fun b o _ e n=>u.free b o e n (by simp)) (fun b o _ e=>u.there b o e (by simp)) u.tups u.frzs u.tbls (fun m' hm=>by
  obtain ⟨o',es',ep',ho',r'⟩:=hm
  rw [ho] at ho';cases ho'
  exact ⟨_,es',ep',hL,r'⟩) hok I.bare
theorem Inv.call{g':Array GenState}{t':Nat}{d':Drawn}{ch:List Addr}(I:Inv X pins σ H s)(u:Un (frs X.stack) ch H H' s.heap h')(hok:HOk X.prog X.w H' h')(hg:AllBare g')
  (hch:∀b∈ch,(b∈X.ex∨X.s₀.heap.objs.size≤b)∧b≠X.env.locals∧(∀x c,X.env.cells.lookup x=some c→c≠b)∧∀p∈X.pn++pins,p.1≠b) :
  Inv X pins σ H' { s with heap:=h',gens:=g',drawn:=d',toks:=t' }:=by
 obtain ⟨m,⟨o,es,ep,ho,r⟩,_⟩:=id I.loc
 obtain ⟨sl,hL⟩:=u.any ho I.free fun z=>(hch _ z).2.1 rfl
 exact I.step (ch:=ch) hch (fun b o hL hb hc e n=>u.keep b o e n (fun z=>(List.mem_cons.mp (I.stkSub b z)).elim hL hb) hc) (fun b o _ _ hc e n=>u.any e n hc) (fun b o hc e n=>u.free b o e n hc) (fun b o hc e=>u.there b o e hc) u.tups u.frzs u.tbls (fun m' hm=>by
  obtain ⟨o',es',ep',ho',r'⟩:=hm
  rw [ho] at ho';cases ho'
  exact ⟨_,es',ep',hL,r'⟩) hok hg
theorem Inv.turned{t':Nat}{it:Addr}(I:Inv X pins σ H s)(k:∀b o,b≠it→s.heap.get? b=some o→h'.get? b=some o)(hn:H it=none)(hL:it≠X.env.locals)
  (h1:it∈X.ex∨X.s₀.heap.objs.size≤it) (h2:∀x c,X.env.cells.lookup x=some c→c≠it) (h3:∀p∈X.pn++pins,p.1≠it):Inv X pins σ H { s with heap:=h',toks:=t' }:=by
 have nit:∀b u,H b=some u→b≠it:=fun b u e z=>by rw [z,hn] at e;cases e
 refine I.step (g':=s.gens) (d':=s.drawn) (ch:=[it]) (fun b hb=>?_) (fun b o _ _ hc e _=>k b o (fun z=>hc (by simp [z])) e) (fun b o _ _ hc e _=>⟨o.slots,k b o (fun z=>hc (by simp [z])) e⟩) (fun _ _ _ _ n=>n)
  (fun b o hc e=>⟨o,k b o (fun z=>hc (by simp [z])) e⟩) (fun _ _ e=>e) (fun _ _ _ e=>e) (fun b ps e=>⟨#[],by rw [e];simp⟩) (fun m hm=>?_) (fun b u e=>?_) I.bare
 ·have e:b=it:=by simpa using hb
  subst e
  exact ⟨h1,hL,h2,h3⟩
 ·obtain ⟨o,es,ep,ho,r⟩:=hm
  exact ⟨o,es,ep,k _ o (Ne.symm hL) ho,r⟩
 ·refine (I.hok b u e).stay (fun c v hc q=>k c v ?_ q) (fun _ q=>q) fun _ _ q=>q
  rcases hc with z|z
  ·rw [z];exact nit b u e
  ·exact nit c _ z
theorem Inv.tok(I:Inv X pins σ H s)(t:Nat):Inv X pins σ H { s with toks:=t }:=I.un (h':=s.heap) (t':=t) Un.refl I.hok
theorem Inv.kept{t':Nat}(I:Inv X pins σ H s)(k:∀b u,s.heap.get? b=some u→h'.get? b=some u):Inv X pins σ H { s with heap:=h',toks:=t' }:=I.un (Un.kept k) (I.hok.kept k)
theorem Inv.laid{a:Addr}{o:HO}{t':Nat}(I:Inv X pins σ H s)(k:∀b u,s.heap.get? b=some u→h'.get? b=some u)(hp:s.heap.objs.size≤a)(new:Yu X.prog X.w (upd H a o) h' a o) :
  Inv X pins σ (upd H a o) { s with heap:=h',toks:=t' }:=I.un (Un.laid k hp (I.hok.fresh hp)) (I.hok.laid k hp new)
theorem Inv.write{x e:Addr}{o:HO}{t':Nat}(I:Inv X pins σ H s)(mu:Mut (H x))(he:e=x∨H e=some (.own x))(k:∀b u,b≠e→s.heap.get? b=some u→h'.get? b=some u)(heo:∃u,h'.get? e=some u)
  (new:Yu X.prog X.w (upd H x o) h' x o):Inv X pins σ (upd H x o) { s with heap:=h',toks:=t' }:=I.un (Un.write mu he k heo) (I.hok.write mu he k heo new)
theorem Inv.weak{σ':List (Option V)}(I:Inv X pins σ H s)(hl:σ'.length=σ.length)(w:∀(i:Nat) v,σ'[i]? =some (some v)→σ[i]? =some (some v)):Inv X pins σ' H s :=
 ⟨I.ok,I.os,I.bare,I.base,let ⟨m,hn,hl'⟩:=I.loc;⟨m,hn,fun i x v e1 e2 e3=>hl' i x v e1 (w i v e2) e3⟩,I.cell,I.free,I.freeC,I.pin,I.hok,hl.trans I.len⟩
theorem Inv.pins_of{pins':List (Addr×Obj)}(I:Inv X pins σ H s)(h:∀p∈pins',s.heap.get? p.1=some p.2∧H p.1=none∧p.1≠X.env.locals∧p.1∉X.fs∧∀v,p.2.data ≠ .cell v):Inv X pins' σ H s :=
 ⟨I.ok,I.os,I.bare,I.base,I.loc,I.cell,I.free,I.freeC,fun p hp=>(List.mem_append.mp hp).elim (fun z=>I.pin p (List.mem_append_left _ z)) (h p),I.hok,I.len⟩
theorem Zmj{N:List Str}(hN:N.Nodup){i j:Nat}{x:Str}(a:N[i]? =some x)(b:N[j]? =some x):i=j:=by
 obtain ⟨h1,e1⟩:=List.getElem?_eq_some_iff.mp a
 obtain ⟨h2,e2⟩:=List.getElem?_eq_some_iff.mp b
 exact (List.getElem_inj hN).mp (e1.trans e2.symm)
theorem Zpx{M:Model}{A:Around}{E:Value→Shared→Prop}{i:Nat}{x:Str}{v:V}{u:Value}{Q:Unit→Shared→Prop}(I:Inv X pins σ H s)(hN:X.N.Nodup)(hi:X.N[i]? =some x)(hx:Loc X.env.scope x)(r:Yo v u)
  (h:∀s',Inv X pins (σ.set i (some v)) H s'→(∃a,Heap.SameBut a s.heap s'.heap∧(a=X.env.locals∨X.env.cells.lookup x=some a))→Q () s') (hf:X.fn x=true∨X.env.scope.names.lookup x=some .local:=by first | exact .inl rfl | exact .inr rfl | assumption):wpAny M A (storeName X.env x u) Q E s:=by
 obtain ⟨m,hn,hl⟩:=id I.loc
 have hcls:(X.env.scope.kind ==.class || (X.env.scope.kind ==.module && X.env.locals !=X.env.globals))=false:=by rw [I.ok.kind];rfl
 have hiσ:i<σ.length:=by rw [I.len];exact (List.getElem?_eq_some_iff.mp hi).1
 have cne:=I.cne
 have tracked:∀{a:Addr} {h':Heap},(∃o,s.heap.get? a=some o∧H a=none)→Heap.SameBut a s.heap h'→HOk X.prog X.w H h':=fun {a h'} ha hs b ob e=>by
  obtain ⟨_,_,hfree⟩:=ha
  refine (I.hok b ob e).stay (fun c w' hc q=>(hs.2 c ?_).trans q) (fun _ q=>q) fun _ _ q=>q
  rintro rfl
  rcases hc with rfl|hc
  ·rw [hfree] at e;cases e
  ·rw [hfree] at hc;cases hc
 rcases hx with hk|hk
 ·refine wpAny_storeName_local hk hn (fun h' hn' hs=>?_) hcls
  obtain ⟨oL,_,_,hoL,_⟩:=id hn
  refine h _ ⟨I.ok,I.os,I.bare,⟨fun b o e n hb hx=>?_,fun b o e n hb hx=>?_,I.base.free,fun b o e hx=>?_,I.base.tups,I.base.frzs,I.base.tbls⟩,⟨_,hn',fun j y v' e1 e2 e3=>?_⟩,fun y c e=>?_,I.free,I.freeC,fun p hp=>?_,tracked ⟨oL,hoL,I.free⟩ hs,by simpa using I.len⟩ ⟨_,hs,.inl rfl⟩
  ·exact (hs.2 b (Nat.ne_of_lt (Nat.lt_of_lt_of_le (Heap.lt_size e) I.ok.above))).trans (I.base.keep b o e n hb hx)
  ·obtain ⟨sl,e1⟩:=I.base.slot b o e n hb hx
   exact ⟨sl,(hs.2 b (Nat.ne_of_lt (Nat.lt_of_lt_of_le (Heap.lt_size e) I.ok.above))).trans e1⟩
  ·obtain ⟨o',e1⟩:=I.base.there b o e hx
   exact ⟨o',(hs.2 b (Nat.ne_of_lt (Nat.lt_of_lt_of_le (Heap.lt_size e) I.ok.above))).trans e1⟩
  ·by_cases hj:j=i
   ·subst hj
    rw [hi] at e1;cases e1
    rw [List.getElem?_set_self hiσ] at e2
    cases e2
    exact ⟨u,r,.inl ⟨hk,by simp⟩⟩
   ·rw [List.getElem?_set_ne (Ne.symm hj)] at e2
    obtain ⟨u',r',q⟩:=hl j y v' e1 e2 e3
    refine ⟨u',r',?_⟩
    rcases q with ⟨k,e⟩|⟨k,c,e,z⟩
    ·refine .inl ⟨k,?_⟩
     have:y≠x:=fun e=>hj (Zmj hN e1 (e ▸ hi))
     simp [this,e]
    ·exact .inr ⟨k,c,e,z.sameBut hs (cne y c e)⟩
  ·obtain ⟨w',z⟩:=I.cell y c e
   exact ⟨w',z.sameBut hs (cne y c e)⟩
  ·obtain ⟨e,n,ne,nf,d⟩:=I.pin p hp
   exact ⟨(hs.2 p.1 ne).trans e,n,ne,nf,d⟩
 ·have hfn:X.fn x=true:=by
   rcases hf with z|z
   ·exact z
   ·rw [z] at hk;cases hk
  obtain ⟨c,hc⟩:=I.ok.has x (.inl hk)
  obtain ⟨w',z⟩:=I.cell x c hc
  refine wpAny_storeName_cell I.ok.kind hk hc z (fun h' hc' hs=>?_)
  obtain ⟨oc,hoc,hocd⟩:=id z
  refine h { s with heap:=h' } ⟨I.ok,I.os,I.bare,⟨fun b o e n hb hx=>?_,fun b o e n hb hx=>?_,I.base.free,fun b o e hx=>?_,I.base.tups,I.base.frzs,I.base.tbls⟩,⟨m,hn.sameBut hs (Ne.symm (cne x c hc)),fun j y v' e1 e2 e3=>?_⟩,fun y c' e=>?_,I.free,I.freeC,fun p hp=>?_,tracked ⟨oc,hoc,I.freeC x c hc⟩ hs,by simpa using I.len⟩ ⟨c,hs,.inr hc⟩
  ·exact (hs.2 b (Nat.ne_of_lt (Nat.lt_of_lt_of_le (Heap.lt_size e) (I.ok.cab x c hfn hc)))).trans (I.base.keep b o e n hb hx)
  ·obtain ⟨sl,e1⟩:=I.base.slot b o e n hb hx
   exact ⟨sl,(hs.2 b (Nat.ne_of_lt (Nat.lt_of_lt_of_le (Heap.lt_size e) (I.ok.cab x c hfn hc)))).trans e1⟩
  ·obtain ⟨o',e1⟩:=I.base.there b o e hx
   exact ⟨o',(hs.2 b (Nat.ne_of_lt (Nat.lt_of_lt_of_le (Heap.lt_size e) (I.ok.cab x c hfn hc)))).trans e1⟩
  ·by_cases hj:j=i
   ·subst hj
    rw [hi] at e1;cases e1
    rw [List.getElem?_set_self hiσ] at e2
    cases e2
    exact ⟨u,r,.inr ⟨.inl hk,c,hc,hc'⟩⟩
   ·rw [List.getElem?_set_ne (Ne.symm hj)] at e2
    obtain ⟨u',r',q⟩:=hl j y v' e1 e2 e3
    refine ⟨u',r',?_⟩
    rcases q with q|⟨k,c',e,z'⟩
    ·exact .inl q
    ·refine .inr ⟨k,c',e,z'.sameBut hs ?_⟩
     rintro rfl
     exact hj (Zmj hN e1 (I.ok.inj _ _ _ e hc ▸ hi))
  ·by_cases hcc:c'=c
   ·subst hcc;exact ⟨_,hc'⟩
   ·obtain ⟨w2,z2⟩:=I.cell y c' e
    exact ⟨w2,z2.sameBut hs hcc⟩
  ·obtain ⟨e,n,ne,nf,d⟩:=I.pin p hp
   refine ⟨(hs.2 p.1 ?_).trans e,n,ne,nf,d⟩
   intro q
   rw [q,hoc] at e
   have q':oc=p.2:=Option.some.inj e
   exact d w' (by rw [←q'];exact hocd)
theorem Ze3{M:Model}{A:Around}{E:Value→Shared→Prop}{i:Nat}{x:Str}{v:V}{u:Value}{Q:Unit→Shared→Prop}(I:Inv X pins σ H s)(hN:X.N.Nodup)(hi:X.N[i]? =some x)(hx:Loc X.env.scope x)(r:Yo v u)
  (h:∀s',Inv X pins (σ.set i (some v)) H s'→Q () s') (hf:X.fn x=true∨X.env.scope.names.lookup x=some .local:=by first | exact .inl rfl | exact .inr rfl | assumption):wpAny M A (storeName X.env x u) Q E s :=
 Zpx I hN hi hx r (fun s' I' _=>h s' I') hf
theorem Inv.call'{s':Shared}{ch:List Addr}(I:Inv X pins σ H s)(ho:s'.os=s.os)(u:Un (frs X.stack) ch H H' s.heap s'.heap)(hok:HOk X.prog X.w H' s'.heap)(hg:AllBare s'.gens)
  (hch:∀b∈ch,(b∈X.ex∨X.s₀.heap.objs.size≤b)∧b≠X.env.locals∧(∀x c,X.env.cells.lookup x=some c→c≠b)∧∀p∈X.pn++pins,p.1≠b):Inv X pins σ H' s':=by
 obtain ⟨h',g',d',t',o'⟩:=s'
 have e:o'=s.os:=ho
 subst e
 exact I.call (g':=g') (t':=t') (d':=d') u hok hg hch
end
abbrev XK:=Value→Option Addr→Hp→Prop
abbrev St:=List (Option V)
abbrev VK:=V→Hp→Prop
abbrev TE:=St→Hp→VK→Prop
abbrev TT:=St→Hp→(Bool→Hp→Prop)→Prop
abbrev TA:=St→Hp→(List V→Hp→Prop)→Prop
structure Zdc where
 nx:St→Hp→Prop
 rt:VK
 bk:St→Hp→Prop:=fun _ _=>False
 ct:St→Hp→Prop:=fun _ _=>False
abbrev TS:=Zdc→St→Hp→Prop
def EP(X:Cx)(pins:List (Addr×Obj))(σ:St)(Q:VK)(u:Value)(s':Shared):Prop:=∃v H',Inv X pins σ H' s'∧Yo v u∧Q v H'
def TP(X:Cx)(pins:List (Addr×Obj))(σ:St)(Q:Bool→Hp→Prop)(b:Bool)(s':Shared):Prop:=∃H',Inv X pins σ H' s'∧Q b H'
def AP(X:Cx)(pins:List (Addr×Obj))(σ:St)(Q:List V→Hp→Prop)(us:List Value)(s':Shared):Prop:=∃vs H',Inv X pins σ H' s'∧Yd vs us∧Q vs H'
def SP(X:Cx)(pins:List (Addr×Obj))(D:Zdc)(f:Flow)(s':Shared):Prop :=
 match f with
 | .next=>∃σ' H',Inv X pins σ' H' s'∧D.nx σ' H'
 | .brk=>∃σ' H',Inv X pins σ' H' s'∧D.bk σ' H'
 | .cont=>∃σ' H',Inv X pins σ' H' s'∧D.ct σ' H'
 | .ret u=>∃v σ' H',Inv X pins σ' H' s'∧Yo v u∧D.rt v H'
def PE(X:Cx)(e:Expr)(t:TE):Prop :=
 ∀(pins:List (Addr×Obj)) (s:Shared) (σ:St) (H:Hp) (Q:VK),Inv X pins σ H s→t σ H Q→wpAny (model X.prog X.w) X.A (eval e X.env) (EP X pins σ Q) X.xe s
def PT(X:Cx)(e:Expr)(t:TT):Prop :=
 ∀(pins:List (Addr×Obj)) (s:Shared) (σ:St) (H:Hp) (Q:Bool→Hp→Prop),Inv X pins σ H s→t σ H Q→wpAny (model X.prog X.w) X.A (isTrue e X.env (eval e X.env)) (TP X pins σ Q) X.xe s
def PW(X:Cx)(e:Expr)(t:TT):Prop :=
 ∀(whole:Sem Value) (pins:List (Addr×Obj)) (s:Shared) (σ:St) (H:Hp) (Q:Bool→Hp→Prop),Inv X pins σ H s→t σ H Q→wpAny (model X.prog X.w) X.A (isTrue e X.env whole) (TP X pins σ Q) X.xe s
theorem PW.pt{X:Cx}{e:Expr}{t:TT}(h:PW X e t):PT X e t:=h _
def PA(X:Cx)(es:List Expr)(t:TA):Prop :=
 ∀(pos:Pos) (pins:List (Addr×Obj)) (s:Shared) (σ:St) (H:Hp) (Q:List V→Hp→Prop),Inv X pins σ H s→t σ H Q→wpAny (model X.prog X.w) X.A (spliced (backTo pos (starEach es X.env))) (AP X pins σ Q) X.xe s
def PS(X:Cx)(st:Stmt)(t:TS):Prop :=
 ∀(pins:List (Addr×Obj)) (s:Shared) (σ:St) (H:Hp) (D:Zdc),Inv X pins σ H s→t D σ H→wpAny (model X.prog X.w) X.A (exec st X.env) (SP X pins D) X.xe s
def PSs(X:Cx)(st:List Stmt)(t:TS):Prop :=
 ∀(pins:List (Addr×Obj)) (s:Shared) (σ:St) (H:Hp) (D:Zdc),Inv X pins σ H s→t D σ H→wpAny (model X.prog X.w) X.A (execs st X.env) (SP X pins D) X.xe s
theorem thn{α:Type}{t:Sem α}{Q Q':α→Shared→Prop}{M:Model}{A:Around}{E:Value→Shared→Prop}{s:Shared}(h:wpAny M A t Q E s)(hQ:∀a s,Q a s→Q' a s):wpAny M A t Q' E s:=wpAny_mono h hQ fun _ _ x=>x
end L2
namespace L2
open PySem PySem.Spec PyProof.Rows
section
variable {X:Cx}
theorem bin{a b:Expr}{ta tb:TE}(ha:PE X a ta)(hb:PE X b tb){pins:List (Addr×Obj)}{s:Shared}{σ:St}{H:Hp}{R:V→V→Hp→Prop}(I:Inv X pins σ H s)(h:ta σ H fun x H1=>tb σ H1 fun y H2=>R x y H2)
  {α:Type} {Q:α→Shared→Prop} {f:Value→Value→Sem α}
  (hf:∀v u s2 x y H2,Inv X pins σ H2 s2→Yo x v→Yo y u→R x y H2→wpAny (model X.prog X.w) X.A (f v u) Q X.xe s2) :
  wpAny (model X.prog X.w) X.A (eval a X.env) (fun v s₁=>wpAny (model X.prog X.w) X.A (eval b X.env) (fun u s₂=>wpAny (model X.prog X.w) X.A (f v u) Q X.xe s₂) X.xe s₁) X.xe s:=by
 refine thn (ha pins s σ H _ I h) fun v s1 ⟨x,H1,I1,r1,q1⟩=>?_
 refine thn (hb pins s1 σ H1 _ I1 q1) fun u s2 ⟨y,H2,I2,r2,q2⟩=>?_
 exact hf v u s2 x y H2 I2 r1 r2 q2
def Zi3(i:Nat):TE:=fun σ H Q=>∃v,σ[i]? =some (some v)∧Q v H
def tC(v:V):TE:=fun _ H Q=>Q v H
theorem Zum{i:Nat}{x:Str}{pos:Pos}(hN:X.N[i]? =some x)(hv:Vis X.env.scope x) (hd:(x ==("__debug__" :Str))=false:=by decide) (hcd:(x ==("__classdict__" :Str))=false:=by decide):PE X (.Name x pos) (Zi3 i):=by
 intro pins s σ H Q I h
 obtain ⟨v,e,h⟩:=h
 obtain ⟨m,hn,hl⟩:=I.loc
 obtain ⟨u,r,l⟩:=hl i x v hN e hv
 have fin:EP X pins σ Q u s:=⟨v,H,I,r,h⟩
 rcases l with ⟨hk,hm⟩|⟨hk,c,hc,hcell⟩
 ·exact wpAny_Name (wpAny_loadName_local I.ok.kind hk hn hm fin) hd
 ·rcases hk with hk|hk
  ·exact wpAny_Name (wpAny_loadName_cell I.ok.kind hk hc hcell fin) hd
  ·exact wpAny_Name (wpAny_loadName_free I.ok.kind hk hc hcell fin hcd) hd
theorem Zd{i j pos}:PE X (.Constant (.int i) j pos) (tC (.int i)):=fun _ _ _ H _ I h=>wpAny_Constant_int ⟨.int i,H,I.tok _,⟨_,rfl⟩,h⟩
theorem Zhb{b j pos}:PE X (.Constant (.bool b) j pos) (tC (.bl b)):=fun _ _ _ H _ I h=>Constant_bool ⟨.bl b,H,I,rfl,h⟩
theorem Zr1{j pos}:PE X (.Constant .none j pos) (tC .non):=fun _ _ _ H _ I h=>Constant_none ⟨.non,H,I,rfl,h⟩
theorem Ze{x j pos}:PE X (.Constant (.str x) j pos) (tC (.str x)):=fun _ _ _ H _ I h=>Calls.Constant_str ⟨.str x,H,I.tok _,⟨_,rfl⟩,h⟩
def Gl(X:Cx)(x:Str):Prop:=X.env.kindOf x=some .globalImplicit
theorem Zd3{E:Value→Shared→Prop}{pins:List (Addr×Obj)}{s:Shared}{σ:St}{H:Hp}{x:Str}{u:Value}{pos:Pos}{Q:Value→Shared→Prop}(I:Inv X pins σ H s)(hg:Gl X x)(hm:X.mg x=some u)(h:Q u s)
  (hd:(x ==("__debug__" :Str))=false:=by decide):wpAny (model X.prog X.w) X.A (eval (.Name x pos) X.env) Q E s :=
 Calls.Name_function_global I.ok.kind hg (Calls.loadGlobal_global (by rw [I.ok.glob];exact I.mod.glob.keeps I.bk) hm h) hd
theorem Zdf{E:Value→Shared→Prop}{pins:List (Addr×Obj)}{s:Shared}{σ:St}{H:Hp}{x:Str}{u:Value}{pos:Pos}{Q:Value→Shared→Prop}(I:Inv X pins σ H s)(hg:Gl X x)(hm:X.mg x=none)(hv:bootBuiltins x=some u)(h:Q u s)
  (hn:x ≠ "__name__" :=by decide) (hd:(x ==("__debug__" :Str))=false:=by decide):wpAny (model X.prog X.w) X.A (eval (.Name x pos) X.env) Q E s:=by
 obtain ⟨mb,h1,h2⟩:=I.mod.blt
 exact Calls.Name_function_global I.ok.kind hg (Calls.loadGlobal_builtin (by rw [I.ok.glob];exact I.mod.glob.keeps I.bk) hm (by rw [I.ok.blt];exact h1.keeps I.bk) ((h2 x hn).trans hv) h) hd
theorem Xu{x:Str}{v:V}{u:Value}{pos:Pos}(hg:Gl X x)(hm:X.mg x=some u)(r:Yo v u) (hd:(x ==("__debug__" :Str))=false:=by decide):PE X (.Name x pos) (tC v) :=
 fun _ _ _ H _ I h=>Zd3 I hg hm ⟨v,H,I,r,h⟩ hd
theorem Zd0{x:Str}{v:V}{u:Value}{pos:Pos}(hg:Gl X x)(hm:X.mg x=none)(hv:bootBuiltins x=some u)(r:Yo v u) (hn:x ≠ "__name__" :=by decide) (hd:(x ==("__debug__" :Str))=false:=by decide):PE X (.Name x pos) (tC v) :=
 fun _ _ _ H _ I h=>Zdf I hg hm hv ⟨v,H,I,r,h⟩ hn hd
variable {a b:Expr} {ta tb:TE} {pos:Pos}
def PC(X:Cx)(op:CmpOp)(a b:Expr)(t:TE):Prop :=
 ∀(pins:List (Addr×Obj)) (s:Shared) (σ:St) (H:Hp) (Q:VK),Inv X pins σ H s→t σ H Q →
  wpAny (model X.prog X.w) X.A (eval a X.env) (fun v s₁=>wpAny (model X.prog X.w) X.A (eval b X.env) (fun u s₂=>wpAny (model X.prog X.w) X.A (compareOp op v u) (EP X pins σ Q) X.xe s₂) X.xe s₁) X.xe s
def tB(t:TE):TT:=fun σ H Q=>t σ H fun x H1=>∃c,x=.bl c∧Q c H1
theorem Zyb{op:CmpOp}{t:TE}(h:PC X op a b t)(h1:behindInMarks op b=false:=by first | exact nobehind _ (by decide) (by decide) | rfl):PT X (.Compare a [op] [b] pos) (tB t):=by
 intro pins s σ H Q I hw
 refine wpAny_isTrue_Compare1 (thn (h pins s σ H _ I hw) fun v s1 h1=>thn h1 fun u s2 h2=>thn h2 fun c s3 ⟨x,H1,I1,r1,q1⟩=>?_) h1
 obtain ⟨d,rfl,q⟩:=q1
 cases r1
 exact wpAny_truthy_bool ⟨H1,I1,q⟩
theorem Zcg{e:Expr}{t:TE}(h:PE X e t)(he:∀whole,isTrue e X.env whole=(do let v ←whole;standAt e.pos;holding [v] (truthy v)):=by intro _;rfl):PT X e (tB t):=by
 intro pins s σ H Q I hw
 refine isTrue_plain (thn (h pins s σ H _ I hw) fun v s1 ⟨x,H1,I1,r1,q1⟩=>?_) (he _)
 obtain ⟨d,rfl,q⟩:=q1
 cases r1
 exact wpAny_truthy_bool ⟨H1,I1,q⟩
variable {tA tB':TT} {rest:List Expr}
def Zx7(t u:TT):TT:=fun σ H Q=>t σ H fun c H1=>if c=true then u σ H1 Q else Q false H1
def tOr(t u:TT):TT:=fun σ H Q=>t σ H fun c H1=>if c=true then Q true H1 else u σ H1 Q
def Zxu(t:TT):TT:=fun σ H Q=>t σ H fun c H1=>Q (!c) H1
theorem Zaq(ha:PT X a tA):PW X (.BoolOp .And [a] pos) tA:=by
 intro wh pins s σ H Q I h
 refine isTrue_and (thn (ha pins s σ H Q I h) fun c s1 e=>?_)
 cases c with
 | true=>exact isTrue_and_nil e
 | false=>exact e
theorem Znb(ha:PT X a tA):PW X (.BoolOp .Or [a] pos) tA:=by
 intro wh pins s σ H Q I h
 refine isTrue_or (thn (ha pins s σ H Q I h) fun c s1 e=>?_)
 cases c with
 | false=>exact isTrue_or_nil e
 | true=>exact e
theorem Zbi(ha:PT X a tA)(hb:PW X (.BoolOp .And (b ::rest) pos) tB'):PW X (.BoolOp .And (a ::b ::rest) pos) (Zx7 tA tB'):=by
 intro wh pins s σ H Q I h
 refine isTrue_and (thn (ha pins s σ H _ I h) fun c s1 ⟨H1,I1,q1⟩=>?_)
 cases c with
 | true=>exact hb wh pins s1 σ H1 Q I1 q1
 | false=>exact ⟨H1,I1,q1⟩
theorem Zro(ha:PT X a tA)(hb:PW X (.BoolOp .Or (b ::rest) pos) tB'):PW X (.BoolOp .Or (a ::b ::rest) pos) (tOr tA tB'):=by
 intro wh pins s σ H Q I h
 refine isTrue_or (thn (ha pins s σ H _ I h) fun c s1 ⟨H1,I1,q1⟩=>?_)
 cases c with
 | true=>exact ⟨H1,I1,q1⟩
 | false=>exact hb wh pins s1 σ H1 Q I1 q1
theorem Zdh(ha:PT X a tA):PT X (.UnaryOp .Not a pos) (Zxu tA):=by
 intro pins s σ H Q I h
 exact isTrue_not (ha pins s σ H (fun c H1=>Q (!c) H1) I h)
def Zv7(ta tb:TE):TE:=fun σ H Q=>ta σ H fun x H1=>∃c,x=.bl c∧if c=true then tb σ H1 Q else Q (.bl false) H1
theorem Zko{op}{t:TE}(h:PE X a t):PE X (.BoolOp op [a] pos) t:=fun pins s σ H Q I hw=>BoolOp_one (h pins s σ H Q I hw)
theorem Zf9(ha:PE X a ta)(hb:PE X (.BoolOp .And (b ::rest) pos) tb):PE X (.BoolOp .And (a ::b ::rest) pos) (Zv7 ta tb):=by
 intro pins s σ H Q I h
 refine BoolOp_and (thn (ha pins s σ H _ I h) fun v s1 ⟨x,H1,I1,r1,q1⟩=>?_)
 obtain ⟨c,rfl,q1⟩:=q1
 cases r1
 refine wpAny_truthy_bool ?_
 cases c with
 | true=>exact hb pins s1 σ H1 Q I1 q1
 | false=>exact ⟨.bl false,H1,I1,rfl,q1⟩
def tIf(t:TT)(ta tb:TE):TE:=fun σ H Q=>t σ H fun c H1=>if c=true then ta σ H1 Q else tb σ H1 Q
theorem Zma{c:Expr}(hc:PT X c tA)(ha:PE X a ta)(hb:PE X b tb):PE X (.IfExp c a b pos) (tIf tA ta tb):=by
 intro pins s σ H Q I h
 refine wpAny_IfExp (thn (hc pins s σ H _ I h) fun d s1 ⟨H1,I1,q1⟩=>?_)
 cases d with
 | true=>exact ha pins s1 σ H1 Q I1 q1
 | false=>exact hb pins s1 σ H1 Q I1 q1
end
end L2
namespace L2
open PySem PySem.Spec PyProof.Rows
def SqL(K:Frag)(H:Hp)(a:Addr)(xs:List V):Prop :=
 Rd H a (.lst xs) ∨
  ∃(o:Obj) (its:Array Value) (n:Nat),K.lookup a=some o∧o.cls=.type "list" ∧o.dict=none∧o.data=.seq its n∧its.size≤sizeLine∧Yd xs its.toList
def SqT(K:Frag)(H:Hp)(a:Addr)(xs:List V):Prop :=
 Rd H a (.tup xs) ∨
  ∃(o:Obj) (its:Array Value) (n:Nat),K.lookup a=some o∧o.cls=.type "tuple" ∧o.data=.seq its n∧its.size≤sizeLine∧Yd xs its.toList
def Zxs:Value→Option V
 | .none=>some .non
 | .bool b=>some (.bl b)
 | .int i _=>some (.int i)
 | .str x _=>some (.str x)
 | .bytes b _=>some (.byt b)
 | .float b _=>some (.flt b)
 | .ref a=>some (.ref a)
 | .type n=>some (.ty n)
 | _=>none
theorem Yo.abs{x:V}{u:Value}(r:Yo x u):Zxs u=some x:=by
 cases x with
 | non=>cases r;rfl
 | bl _=>cases r;rfl
 | int _=>obtain ⟨t,rfl⟩:=r;rfl
 | str _=>obtain ⟨t,rfl⟩:=r;rfl
 | byt _=>obtain ⟨t,rfl⟩:=r;rfl
 | flt _=>obtain ⟨t,rfl⟩:=r;rfl
 | ref _=>cases r;rfl
 | ty _=>cases r;rfl
theorem Yo.inj{x y:V}{u:Value}(r:Yo x u)(q:Yo y u):x=y:=Option.some.inj (r.abs.symm.trans q.abs)
theorem Yd.inj:∀{xs ys:List V} {us:List Value},Yd xs us→Yd ys us→xs=ys
 | _,_,_,.nil,.nil=>rfl
 | _,_,_,.cons r t,.cons r' t'=>by rw [r.inj r',Yd.inj t t']
section
variable {X:Cx} {pins:List (Addr×Obj)} {σ:St} {H:Hp} {s:Shared} {a:Addr} {xs ys:List V}
theorem SqL.of{K:Frag}(h:H a=some (.lst xs)):SqL K H a xs:=.inl (.inl h)
theorem SqT.of{K:Frag}(h:H a=some (.tup xs)):SqT K H a xs:=.inl (.inl h)
theorem Inv.list(I:Inv X pins σ H s)(h:SqL X.K H a xs):∃its:List Value,Yd xs its∧PlainL s.heap a its.toArray∧xs.length≤sizeLine:=by
 rcases h with h|⟨o,its,n,hk,hc,hd,hs,hz,r⟩
 ·obtain ⟨z,its,n,r,e⟩:=h.ok I.hok
  exact ⟨its,r,⟨_,n,e,rfl,rfl,rfl⟩,z⟩
 ·refine ⟨its.toList,r,⟨o,n,I.kIn a o hk,hc,hd,by simpa using hs⟩,?_⟩
  have e:=r.length
  simp only [Array.length_toList] at e
  omega
theorem Inv.tuple(I:Inv X pins σ H s)(h:SqT X.K H a xs):∃its:List Value,Yd xs its∧IsTup s.heap a its.toArray∧xs.length≤sizeLine:=by
 rcases h with h|⟨o,its,n,hk,hc,hs,hz,r⟩
 ·obtain ⟨z,its,r,p⟩:=h.ok I.hok
  exact ⟨its,r,p,z⟩
 ·refine ⟨its.toList,r,⟨o,I.kIn a o hk,hc,n,by simpa using hs⟩,?_⟩
  have e:=r.length
  simp only [Array.length_toList] at e
  omega
theorem Inv.list_inj(I:Inv X pins σ H s)(h:SqL X.K H a xs)(h':SqL X.K H a ys):xs=ys:=by
 obtain ⟨its,r,⟨o,n,e,_,_,d⟩,_⟩:=I.list h
 obtain ⟨its',r',⟨o',n',e',_,_,d'⟩,_⟩:=I.list h'
 rw [e] at e';cases e'
 rw [d] at d'
 injection d' with d1 _
 have:its=its':=by simpa using congrArg Array.toList d1
 subst this
 exact r.inj r'
theorem Inv.tuple_inj(I:Inv X pins σ H s)(h:SqT X.K H a xs)(h':SqT X.K H a ys):xs=ys:=by
 obtain ⟨its,r,⟨o,e,_,n,d⟩,_⟩:=I.tuple h
 obtain ⟨its',r',⟨o',e',_,n',d'⟩,_⟩:=I.tuple h'
 rw [e] at e';cases e'
 rw [d] at d'
 injection d' with d1 _
 have:its=its':=by simpa using congrArg Array.toList d1
 subst this
 exact r.inj r'
end
abbrev Cx.wish(X:Cx)(E:Value→Shared→Prop):Cx:={ X with xe:=E }
abbrev Cx.nox(X:Cx):Cx:=X.wish fun _ _=>False
theorem Cx.Ok.wish{X:Cx}(ok:X.Ok)(E:Value→Shared→Prop):(X.wish E).Ok :=
 ⟨ok.mod,ok.kind,ok.glob,ok.blt,ok.above,ok.inj,ok.has,ok.cab,ok.hd,ok.frames,ok.stk,ok.exf,ok.bs,ok.bsz,ok.noex,ok.exfs,ok.funs,ok.frf⟩
theorem Cx.Ok.unwish{X:Cx}{E:Value→Shared→Prop}(ok:(X.wish E).Ok):X.Ok :=
 ⟨ok.mod,ok.kind,ok.glob,ok.blt,ok.above,ok.inj,ok.has,ok.cab,ok.hd,ok.frames,ok.stk,ok.exf,ok.bs,ok.bsz,ok.noex,ok.exfs,ok.funs,ok.frf⟩
section
variable {X:Cx} {pins:List (Addr×Obj)} {σ:St} {H:Hp} {s:Shared} {E:Value→Shared→Prop}
theorem Inv.wish(I:Inv X pins σ H s)(E:Value→Shared→Prop):Inv (X.wish E) pins σ H s:=⟨I.ok.wish E,I.os,I.bare,I.base,I.loc,I.cell,I.free,I.freeC,I.pin,I.hok,I.len⟩
theorem Inv.unwish(I:Inv (X.wish E) pins σ H s):Inv X pins σ H s:=⟨I.ok.unwish,I.os,I.bare,I.base,I.loc,I.cell,I.free,I.freeC,I.pin,I.hok,I.len⟩
theorem SP.unwish{D:Zdc}{f:Flow}{s':Shared}(h:SP (X.wish E) pins D f s'):SP X pins D f s':=by
 cases f with
 | next=>obtain ⟨σ',H',I,q⟩:=h;exact ⟨σ',H',I.unwish,q⟩
 | brk=>obtain ⟨σ',H',I,q⟩:=h;exact ⟨σ',H',I.unwish,q⟩
 | cont=>obtain ⟨σ',H',I,q⟩:=h;exact ⟨σ',H',I.unwish,q⟩
 | ret u=>obtain ⟨v,σ',H',I,r,q⟩:=h;exact ⟨v,σ',H',I.unwish,r,q⟩
theorem PSs.nox{st:List Stmt}{t:TS}(h:PSs X.nox st t):PSs X st t:=fun pins s σ H D I hw =>
 wpAny_mono (h pins s σ H D (I.wish _) hw) (fun _ _ q=>q.unwish) fun _ _ z=>False.elim z
end
section
variable {X:Cx} {st:Stmt} {rest:List Stmt} {t u:TS} {e:Expr} {te:TE} {pos:Pos}
def Zws:TS:=fun D σ H=>D.nx σ H
def Zx6(t u:TS):TS:=fun D σ H=>t { D with nx:=u D } σ H
theorem Z2:PSs X [] Zws:=fun _ _ σ H _ I h=>wpAny_execs_nil ⟨σ,H,I,h⟩
theorem Zrh(h1:PS X st t)(h2:PSs X rest u):PSs X (st ::rest) (Zx6 t u):=by
 intro pins s σ H D I h
 refine wpAny_execs_cons (thn (h1 pins s σ H { D with nx:=u D } I h) fun f s1 q=>?_)
 cases f with
 | next =>
  obtain ⟨σ',H',I',q⟩:=q
  exact h2 pins s1 σ' H' D I' q
 | ret v=>exact q
 | brk=>exact q
 | cont=>exact q
theorem Zto(h1:PS X st t):PSs X [st] t:=by
 intro pins s σ H D I h
 refine wpAny_execs_cons (thn (h1 pins s σ H D I h) fun f s1 q=>?_)
 cases f with
 | next=>exact wpAny_execs_nil q
 | ret v=>exact q
 | brk=>exact q
 | cont=>exact q
def Zxq:TS:=fun D σ H=>D.ct σ H
theorem Zls:PS X (.Continue pos) Zxq:=fun _ _ σ H _ I h=>wpAny_Continue ⟨σ,H,I,h⟩
theorem Inv.quiet{pins:List (Addr×Obj)}{σ:St}{H:Hp}{s:Shared}(I:Inv X pins σ H s):interactive X.env=false:=by simp [interactive,I.ok.kind]
def Zv6(te:TE):TS:=fun D σ H=>te σ H fun _ H1=>D.nx σ H1
theorem Xt(he:PE X e te)(hs:swapsWith e none pos.line X.env=pure false:=by rfl):PS X (.Expr e pos) (Zv6 te):=by
 intro pins s σ H D I h
 exact wpAny_Expr_any (thn (he pins s σ H _ I h) fun v s1 ⟨x,H1,I1,r1,q1⟩=>⟨σ,H1,I1,q1⟩) I.quiet hs
def Zxz(te:TE):TS:=fun D σ H=>te σ H D.rt
theorem Z8(he:PE X e te):PS X (.Return (some e) pos) (Zxz te):=by
 intro pins s σ H D I h
 exact wpAny_Return_some (thn (he pins s σ H _ I h) fun v s1 ⟨x,H1,I1,r1,q1⟩=>⟨x,σ,H1,I1,r1,q1⟩)
def Zyc(c:TT)(t u:TS):TS:=fun D σ H=>c σ H fun b H1=>if b=true then t D σ H1 else u D σ H1
theorem Yg{c:Expr}{a b:List Stmt}{tc:TT}(hc:PT X c tc)(ha:PSs X a t)(hb:PSs X b u):PS X (.If c a b pos) (Zyc tc t u):=by
 intro pins s σ H D I h
 refine wpAny_If (thn (hc pins s σ H _ I h) fun d s1 ⟨H1,I1,q1⟩=>?_)
 cases d with
 | true=>exact ha pins s1 σ H1 D I1 q1
 | false=>exact hb pins s1 σ H1 D I1 q1
end
abbrev TG:=V→St→Hp→(St→Hp→Prop)→Prop
abbrev TGs:=List V→St→Hp→(St→Hp→Prop)→Prop
def PG(X:Cx)(target:Expr)(t:TG):Prop :=
 ∀(pins:List (Addr×Obj)) (s:Shared) (σ:St) (H:Hp) (v:V) (u:Value) (Q:St→Hp→Prop),Inv X pins σ H s→Yo v u→t v σ H Q →
  wpAny (model X.prog X.w) X.A (assign target X.env u) (fun _ s'=>∃σ' H',Inv X pins σ' H' s'∧Q σ' H') X.xe s
def PGs(X:Cx)(ts:List Expr)(t:TGs):Prop :=
 ∀(pins:List (Addr×Obj)) (s:Shared) (σ:St) (H:Hp) (vs:List V) (us:List Value) (Q:St→Hp→Prop),Inv X pins σ H s→Yd vs us→t vs σ H Q →
  wpAny (model X.prog X.w) X.A (assignInOrder ((assignEach ts X.env).map (·.2)) us) (fun _ s'=>∃σ' H',Inv X pins σ' H' s'∧Q σ' H') X.xe s
section
variable {X:Cx} {pos:Pos}
def Zga(i:Nat):TG:=fun v σ H Q=>Q (σ.set i (some v)) H
theorem Zq{i:Nat}{x:Str}(hN:X.N.Nodup)(hi:X.N[i]? =some x)(hx:Loc X.env.scope x)(hf:X.fn x=true∨X.env.scope.names.lookup x=some .local:=by first | exact .inl rfl | exact .inr rfl | assumption):PG X (.Name x pos) (Zga i):=by
 intro pins s σ H v u Q I r h
 exact wpAny_assign_Name (Ze3 I hN hi hx r (fun s' I'=>⟨_,H,I',h⟩) hf)
def Zyd:TGs:=fun vs σ H Q=>vs=[]∧Q σ H
def Zw4(t:TG)(u:TGs):TGs:=fun vs σ H Q=>∃v r,vs=v ::r∧t v σ H fun σ' H'=>u r σ' H' Q
theorem Y8:PGs X [] Zyd:=by
 intro pins s σ H vs us Q I r h
 obtain ⟨e,h⟩:=h
 subst e
 cases r
 exact assignInOrder_nil ⟨σ,H,I,h⟩
theorem Zw{e:Expr}{es:List Expr}{t:TG}{u:TGs}(h1:PG X e t)(h2:PGs X es u)
  (hs:(assignEach (e ::es) X.env).map (·.2)=assign e X.env ::(assignEach es X.env).map (·.2):=by rfl):PGs X (e ::es) (Zw4 t u):=by
 intro pins s σ H vs us Q I r h
 obtain ⟨v,vr,e1,h⟩:=h
 subst e1
 cases r with
 | cons r rr =>
  rw [hs]
  refine assignInOrder_cons (thn (h1 pins s σ H _ _ _ I r h) fun _ s1 ⟨σ1,H1,I1,q1⟩=>?_)
  exact h2 pins s1 σ1 H1 _ _ Q I1 rr q1
def Zwe(K:Frag)(n:Nat)(t:TGs):TG:=fun v σ H Q=>∃a xs,v=.ref a∧SqT K H a xs∧xs.length=n∧t xs σ H Q
theorem Zax{es:List Expr}{k:Nat}{t:TGs}{n:Nat}(hc:X.calm=true)(h:PGs X es t)
  (hn:(assignEach es X.env).length=n:=by rfl) (hst:(assignEach es X.env).findIdx? (·.1)=none:=by rfl):PG X (.Tuple es k pos) (Zwe X.K n t):=by
 intro pins s σ H v u Q I r hw
 obtain ⟨a,xs,e1,hq,hl,hw⟩:=hw
 subst e1
 cases r
 obtain ⟨its,rv,ht,hz⟩:=I.tuple hq
 refine assign_Tuple_tuple (I.ok.hd hc) ht (by simp [hn,←hl,rv.length]) hst fun h' hx=>?_
 have I1:Inv X pins σ H { s with heap:=h' }:=I.kept (t':=s.toks) fun b o e=>hx b o (Nat.ne_of_lt (Heap.lt_size e)) e
 exact h pins _ σ H xs _ Q I1 (by simpa using rv) hw
def Zuw(te:TE)(g:TG):TS:=fun D σ H=>te σ H fun x H1=>g x σ H1 D.nx
theorem Zej{tg e:Expr}{te:TE}{g:TG}(he:PE X e te)(hg:PG X tg g)(hs:swapsWithSole [tg] e pos.line X.env=pure false:=by rfl)(hw:swappedStores [tg] e X.env=pure none:=by rfl)
  (h1:(assignEach [tg] X.env).map (·.2)=[assign tg X.env]:=by rfl):PS X (.Assign [tg] e pos) (Zuw te g):=by
 intro pins s σ H D I h
 refine wpAny_Assign_stores (thn (he pins s σ H _ I h) fun v s1 ⟨x,H1,I1,r1,q1⟩=>?_) hs hw
 rw [h1]
 exact thn (hg pins s1 σ H1 x v _ I1 r1 q1) fun _ s2 q=>q
theorem Zn{i:Nat}{x:Str}{e:Expr}{te:TE}{pos':Pos}(hN:X.N.Nodup)(hi:X.N[i]? =some x)(hx:Loc X.env.scope x)(he:PE X e te)(hs:swapsWith e (some (.Name x pos')) pos.line X.env=pure false:=by rfl)(hf:X.fn x=true∨X.env.scope.names.lookup x=some .local:=by first | exact .inl rfl | exact .inr rfl | assumption) :
  PS X (.Assign [.Name x pos'] e pos) (Zuw te (Zga i)):=by
 intro pins s σ H D I h
 refine wpAny_Assign_Name (thn (he pins s σ H _ I h) fun v s1 ⟨y,H1,I1,r1,q1⟩=>?_) hs
 exact Ze3 I1 hN hi hx r1 (fun s2 I2=>⟨_,H1,I2,q1⟩) hf
end
section
variable {X:Cx} {pos:Pos}
def Zv2(c:TT)(tb:TS):TS:=fun D σ H=>∃W:Nat→St→Hp→Prop,(∃m,W m σ H)∧∀m σ H,W m σ H →
 c σ H fun b H1=>if b=true then ∃N:St→Hp→Prop,(∀σ' H',N σ' H'→∃m',m'<m∧W m' σ' H')∧tb { D with nx:=N,ct:=N,bk:=D.nx } σ H1 else D.nx σ H1
theorem Zq4{c:Expr}{body:List Stmt}{tc:TT}{tb:TS}(hp:PassesOwn (model X.prog X.w) X.A X.env X.xe)(hc:PT X c tc)(hb:PSs X body tb):PS X (.While c body [] pos) (Zv2 tc tb):=by
 intro pins s σ H D I h
 obtain ⟨W,⟨m0,w0⟩,turn⟩:=h
 refine wpAny_While (codeAny_whileLoop (fun n s'=>∃σ' H',Inv X pins σ' H' s'∧W n σ' H') ?_ m0 ⟨σ,H,I,w0⟩)
 rintro n s1 ⟨σ1,H1,I1,w1⟩
 refine wpAny_passesOwn hp (thn (hc pins s1 σ1 H1 _ I1 (turn n σ1 H1 w1)) fun b s2 ⟨H2,I2,q2⟩=>?_)
 cases b with
 | true =>
  obtain ⟨N,hN,q2⟩:=q2
  rw [if_pos rfl]
  refine wpAny_passesOwn hp (thn (hb pins s2 σ1 H2 _ I2 q2) fun f s3 q3=>?_)
  cases f with
  | next =>
   obtain ⟨σ3,H3,I3,n3⟩:=q3
   obtain ⟨m',hm,w3⟩:=hN σ3 H3 n3
   exact ⟨m',hm,σ3,H3,I3,w3⟩
  | cont =>
   obtain ⟨σ3,H3,I3,n3⟩:=q3
   obtain ⟨m',hm,w3⟩:=hN σ3 H3 n3
   exact ⟨m',hm,σ3,H3,I3,w3⟩
  | brk=>exact q3
  | ret v=>exact q3
 | false =>
  rw [if_neg Bool.false_ne_true]
  exact wpAny_execs_nil ⟨σ1,H2,I2,q2⟩
end
structure It where
 go:Nat→Hp→Prop
 yld:Nat→Hp→V→Hp→Prop
 stop:Nat→Hp→Prop
def Zd8(X:Cx)(pins:List (Addr×Obj))(H:Hp)(b:Addr):Prop :=
 H b=none∧b≠X.env.locals∧b∉X.fs∧(b∈X.ex∨X.s₀.heap.objs.size≤b)∧(∀x c,X.env.cells.lookup x=some c→c≠b)∧∀p∈X.pn++pins,p.1≠b
theorem Inv.fpOk{X:Cx}{pins:List (Addr×Obj)}{σ:St}{H H':Hp}{s:Shared}{b:Addr}(I:Inv X pins σ H s)(hb:s.heap.objs.size≤b)(hn:H' b=none):Zd8 X pins H' b:=by
 refine ⟨hn,Nat.ne_of_gt (Nat.lt_of_lt_of_le I.lt hb),I.nofs hb,.inr (Nat.le_trans I.sz hb),fun x c e z=>?_,fun p hp z=>?_⟩
 ·obtain ⟨v,q⟩:=I.cell x c e
  exact absurd (Nat.lt_of_lt_of_le q.lt (by rw [z];exact hb)) (Nat.lt_irrefl _)
 ·exact absurd (Nat.lt_of_lt_of_le (Heap.lt_size (I.pin p hp).1) (by rw [z];exact hb)) (Nat.lt_irrefl _)
structure Zlt(P:Program)(w:World)(K:Frag)(tg:Expr)(J:It)(fp:List Addr)(it:Addr)(tn:Nat→Heap→Prop):Prop where
 mem:it∈fp
 obj:∀i h,tn i h→∀b∈fp,∃o,h.get? b=some o∧∀v,o.data ≠ .cell v
 keep:∀i h h',tn i h→(∀b∈fp,∀o,h.get? b=some o→h'.get? b=some o)→tn i h'
 item:∀(X:Cx),X.prog=P→X.w=w→X.K=K→X.calm=true→∀(i:Nat) (pins:List (Addr×Obj)) (s:Shared) (σ:St) (H:Hp) (E:Value→Shared→Prop),Inv X pins σ H s→(∀b∈fp,Zd8 X pins H b)→tn i s.heap→J.go i H →
  wpAny (model P w) X.A (pyNext (.ref it)) (fun r s1=>∃u,r=some u ∧
   wpAny (model P w) X.A (letOwnedTupleGo tg (.ref it) u) (fun _ s2=>∃x H',Inv X pins σ H' s2∧Yo x u∧J.yld i H x H'∧tn (i+1) s2.heap∧∀b∈fp,H' b=none) E s1) E s
 done:∀(X:Cx),X.prog=P→X.w=w→X.K=K→X.calm=true→∀(i:Nat) (pins:List (Addr×Obj)) (s:Shared) (σ:St) (H:Hp) (E:Value→Shared→Prop),Inv X pins σ H s→(∀b∈fp,Zd8 X pins H b)→tn i s.heap→J.stop i H →
  wpAny (model P w) X.A (pyNext (.ref it)) (fun r s1=>r=none∧Inv X pins σ H s1) E s
 self:∀(A:Around) (i:Nat) (s:Shared) (Q:Value→Shared→Prop) (E:Value→Shared→Prop),tn i s.heap→Q (.ref it) s→wpAny (model P w) A (pyIter (.ref it)) Q E s
abbrev TI:=St→Hp→(It→Hp→Prop)→Prop
def PIE(X:Cx)(pins:List (Addr×Obj))(σ:St)(tg:Expr)(R:It→Hp→Prop)(itv:Value)(s2:Shared):Prop :=
 ∃(it:Addr) (fp:List Addr) (tn:Nat→Heap→Prop) (J:It) (H':Hp),itv=.ref it∧Inv X pins σ H' s2∧Zlt X.prog X.w X.K tg J fp it tn∧tn 0 s2.heap∧(∀b∈fp,Zd8 X pins H' b)∧R J H'
def PI(X:Cx)(tg iter:Expr)(wi:TI):Prop :=
 ∀(pins:List (Addr×Obj)) (s:Shared) (σ:St) (H:Hp) (R:It→Hp→Prop),Inv X pins σ H s→wi σ H R →
  wpAny (model X.prog X.w) X.A (eval iter X.env) (fun v s1=>wpAny (model X.prog X.w) X.A (pyIter v) (PIE X pins σ tg R) X.xe s1) X.xe s
theorem Zjk{M:Model}{A:Around}{E:Value→Shared→Prop}{s:Shared}{tg:Expr}{it:Addr}{u:Value}{o:Obj}{n:String}{vs:Array Value}{Q:Unit→Shared→Prop}(ho:s.heap.get? it=some o)(hc:o.cls=.type n)(hd:o.data=.fields vs)
    (hn:["enumerate", "zip", "dict_itemiterator", "dict_reverseitemiterator", "odict_iterator", "itertools.zip_longest", "itertools.pairwise"].contains n=false) (hQ:Q () s):wpAny M A (letOwnedTupleGo tg (.ref it) u) Q E s:=by
  unfold letOwnedTupleGo
  cases tg <;>first
    | exact wpAny_pure hQ
    | (cases u <;>first
        | exact wpAny_pure hQ
        | (refine wpAny_bind (wpAny_load ho ?_)
           rw [hc,hd]
           show wpAny M A (if (["enumerate", "zip", "dict_itemiterator", "dict_reverseitemiterator", "odict_iterator", "itertools.zip_longest", "itertools.pairwise"].contains n && vs[0]? ==some (rawInt _))=true then _ else _) Q E s
           rw [if_neg (by intro h;rw [hn,Bool.false_and] at h;cases h)]
           exact wpAny_pure hQ))
def Itl(K:Frag)(a:Addr):It :=
 ⟨fun i H=>∃xs x,SqL K H a xs∧xs[i]? =some x,fun i H x H'=>H'=H∧∀xs,SqL K H a xs→xs[i]? =some x,fun i H=>∃xs,SqL K H a xs∧xs.length≤i⟩
def Itt(K:Frag)(a:Addr):It :=
 ⟨fun i H=>∃xs x,SqT K H a xs∧xs[i]? =some x,fun i H x H'=>H'=H∧∀xs,SqT K H a xs→xs[i]? =some x,fun i H=>∃xs,SqT K H a xs∧xs.length≤i⟩
def Itr(lo:Int)(n:Nat):It:=⟨fun i _=>i<n,fun i H x H'=>H'=H∧x=.int (lo+i),fun i _=>n≤i⟩
theorem Zp6{P:Program}{w:World}{K:Frag}{tg:Expr}(a it:Addr):Zlt P w K tg (Itl K a) [it] it (fun i h=>h.IsListIter it a i) where
 mem:=by simp
 obj:=fun i h st b hb=>by
  have e:b=it:=by simpa using hb
  subst e
  obtain ⟨o,e,c,d⟩:=st
  exact ⟨o,e,fun v z=>by rw [d] at z;cases z⟩
 keep:=fun i h h' st k=>st.at fun o e=>k it (by simp) o e
 item:=by
  intro X hP hw hK hc i pins s σ H E I hf st hg
  subst hP hw hK
  obtain ⟨xs,x,hq,hx⟩:=hg
  obtain ⟨its,rv,p,hz⟩:=I.list hq
  obtain ⟨u,hu,ru⟩:=rv.get hx
  obtain ⟨f0,f1,f2,f3,f4,f5⟩:=hf it (by simp)
  refine wpAny_pyNext_list_item st p.isList (x:=u) (by simpa using hu) fun h' st' sb=>?_
  have I1:Inv X pins σ H { s with heap:=h' }:=I.turned (t':=s.toks) (fun b o hb e=>(sb.2 b hb).trans e) f0 f1 f3 f4 f5
  obtain ⟨o,e,c,d⟩:=id st'
  exact ⟨u,rfl,Zjk (s:={ s with heap:=h' }) e c d (by decide) ⟨x,H,I1,ru,⟨rfl,fun ys hy=>by rw [I.list_inj hy hq];exact hx⟩,st',fun b hb=>(hf b hb).1⟩⟩
 done:=by
  intro X hP hw hK hc i pins s σ H E I hf st hg
  subst hP hw hK
  obtain ⟨xs,hq,hx⟩:=hg
  obtain ⟨its,rv,p,hz⟩:=I.list hq
  obtain ⟨f0,f1,f2,f3,f4,f5⟩:=hf it (by simp)
  have hl:=rv.length
  exact wpAny_pyNext_list_end (I.ok.hd hc) st p.isList (by simp;omega) fun h' eb=>⟨rfl,I.turned (t':=s.toks) (fun b o hb e=>eb b o hb e) f0 f1 f3 f4 f5⟩
 self:=fun _ _ _ _ _ st h=>wpAny_pyIter_listiter st h
theorem Zm2{P:Program}{w:World}{K:Frag}{tg:Expr}(a it:Addr):Zlt P w K tg (Itt K a) [it] it (fun i h=>h.IsTupleIter it a i) where
 mem:=by simp
 obj:=fun i h st b hb=>by
  have e:b=it:=by simpa using hb
  subst e
  obtain ⟨o,e,c,d⟩:=st
  exact ⟨o,e,fun v z=>by rw [d] at z;cases z⟩
 keep:=fun i h h' st k=>st.at fun o e=>k it (by simp) o e
 item:=by
  intro X hP hw hK hc i pins s σ H E I hf st hg
  subst hP hw hK
  obtain ⟨xs,x,hq,hx⟩:=hg
  obtain ⟨its,rv,p,hz⟩:=I.tuple hq
  obtain ⟨u,hu,ru⟩:=rv.get hx
  obtain ⟨f0,f1,f2,f3,f4,f5⟩:=hf it (by simp)
  refine wpAny_pyNext_tuple_item st (show s.heap.IsTuple a its.toArray from p) (x:=u) (by simpa using hu) fun h' st' sb=>?_
  have I1:Inv X pins σ H { s with heap:=h' }:=I.turned (t':=s.toks) (fun b o hb e=>(sb.2 b hb).trans e) f0 f1 f3 f4 f5
  obtain ⟨o,e,c,d⟩:=id st'
  exact ⟨u,rfl,Zjk (s:={ s with heap:=h' }) e c d (by decide) ⟨x,H,I1,ru,⟨rfl,fun ys hy=>by rw [I.tuple_inj hy hq];exact hx⟩,st',fun b hb=>(hf b hb).1⟩⟩
 done:=by
  intro X hP hw hK hc i pins s σ H E I hf st hg
  subst hP hw hK
  obtain ⟨xs,hq,hx⟩:=hg
  obtain ⟨its,rv,p,hz⟩:=I.tuple hq
  obtain ⟨f0,f1,f2,f3,f4,f5⟩:=hf it (by simp)
  have hl:=rv.length
  exact wpAny_pyNext_tuple_end (I.ok.hd hc) st (show s.heap.IsTuple a its.toArray from p) (by simp;omega) fun h' eb=>⟨rfl,I.turned (t':=s.toks) (fun b o hb e=>eb b o hb e) f0 f1 f3 f4 f5⟩
 self:=fun _ _ _ _ _ st h=>wpAny_pyIter_tupleiter st h
theorem Zmy{P:Program}{w:World}{K:Frag}{tg:Expr}(it:Addr)(lo:Int)(n:Nat):Zlt P w K tg (Itr lo n) [it] it (fun i h=>IsRangeIter h it (lo+(i:Nat) * 1) ((n:Int)-(i:Nat)) 1) where
 mem:=by simp
 obj:=fun i h st b hb=>by
  have e:b=it:=by simpa using hb
  subst e
  exact ⟨_,st,fun v z=>by
   have z':Data.fields _=Data.cell v:=z
   cases z'⟩
 keep:=fun i h h' st k=>k it (by simp) _ st
 item:=by
  intro X hP hw hK hc i pins s σ H E I hf st hg
  subst hP hw hK
  obtain ⟨f0,f1,f2,f3,f4,f5⟩:=hf it (by simp)
  have W:=Walks.range (prog:=X.prog) (w:=X.w) (I.ok.hd hc) it lo 1 n
  refine W.item i s _ _ hg st fun v h' tk hv st' kk=>?_
  obtain ⟨t,rfl⟩:=hv
  have I1:Inv X pins σ H { s with heap:=h',toks:=tk }:=I.turned (fun b o hb e=>kk b o (by simpa using hb) e) f0 f1 f3 f4 f5
  refine ⟨_,rfl,Zjk (s:={ s with heap:=h',toks:=tk }) (n := "range_iterator") st' rfl rfl (by decide) ⟨.int (lo+i),H,I1,⟨t,?_⟩,⟨rfl,rfl⟩,st',fun b hb=>(hf b hb).1⟩⟩
  rw [Int.mul_one]
 done:=by
  intro X hP hw hK hc i pins s σ H E I hf st hg
  subst hP hw hK
  obtain ⟨f0,f1,f2,f3,f4,f5⟩:=hf it (by simp)
  exact wpAny_pyNext_range_end (I.ok.hd hc) st (by have:n≤i:=hg;omega) fun h' eb=>⟨rfl,I.turned (t':=s.toks) (fun b o hb e=>eb b o hb e) f0 f1 f3 f4 f5⟩
 self:=fun _ _ _ _ _ st h=>wpAny_pyIter_rangeiter st h
end L2
namespace L2
open PySem PySem.Spec PyProof.Rows
section
variable {X:Cx} {tg:Expr}
def Zxb(K:Frag)(tl:TE):TI:=fun σ H R=>tl σ H fun x H1=>∃a,x=.ref a∧(∃xs,SqL K H1 a xs)∧R (Itl K a) H1
def Zx5(K:Frag)(tl:TE):TI:=fun σ H R=>tl σ H fun x H1=>∃a,x=.ref a∧(∃xs,SqT K H1 a xs)∧R (Itt K a) H1
theorem Yx{l:Expr}{tl:TE}(hl:PE X l tl):PI X tg l (Zxb X.K tl):=by
 intro pins s σ H R I h
 refine thn (hl pins s σ H _ I h) fun v s1 ⟨x,H1,I1,r1,q1⟩=>?_
 obtain ⟨a,e,⟨xs,hq⟩,q⟩:=q1
 subst e
 cases r1
 obtain ⟨its,rv,p,hz⟩:=I1.list hq
 refine wpAny_pyIter_list p.isList ?_
 refine ⟨s1.heap.objs.size,[s1.heap.objs.size],_,_,H1,rfl,I1.kept (t':=s1.toks) fun b o e=>Heap.get?_push_of_some _ e,Zp6 a _,⟨_,Heap.get?_push_size _ rfl,rfl,rfl⟩,fun b hb=>?_,q⟩
 have e:b=s1.heap.objs.size:=by simpa using hb
 subst e
 exact I1.fpOk (Nat.le_refl _) (I1.hok.fresh (Nat.le_refl _))
theorem Zuy{l:Expr}{tl:TE}(hl:PE X l tl):PI X tg l (Zx5 X.K tl):=by
 intro pins s σ H R I h
 refine thn (hl pins s σ H _ I h) fun v s1 ⟨x,H1,I1,r1,q1⟩=>?_
 obtain ⟨a,e,⟨xs,hq⟩,q⟩:=q1
 subst e
 cases r1
 obtain ⟨its,rv,p,hz⟩:=I1.tuple hq
 refine wpAny_pyIter_tuple (show s1.heap.IsTuple a its.toArray from p) ?_
 refine ⟨s1.heap.objs.size,[s1.heap.objs.size],_,_,H1,rfl,I1.kept (t':=s1.toks) fun b o e=>Heap.get?_push_of_some _ e,Zm2 a _,⟨_,Heap.get?_push_size _ rfl,rfl,rfl⟩,fun b hb=>?_,q⟩
 have e:b=s1.heap.objs.size:=by simpa using hb
 subst e
 exact I1.fpOk (Nat.le_refl _) (I1.hok.fresh (Nat.le_refl _))
theorem Zl1{pins:List (Addr×Obj)}{σ:St}{H:Hp}{s:Shared}{R:It→Hp→Prop}{E:Value→Shared→Prop}{lo hi:Int}{t u v:Tok}{tk:Nat}(I:Inv X pins σ H s)(h1:-(2 ^ 62)≤lo)(h2:lo<2 ^ 62)(h3:-(2 ^ 62)≤hi)(h4:hi<2 ^ 62)
  (q:R (Itr lo (hi-lo).toNat) H):wpAny (model X.prog X.w) X.A (pyIter (.ref s.heap.objs.size)) (PIE X pins σ tg R) E { s with heap:=s.heap.push { cls:=.type "range",data:=.fields #[.int lo t,.int hi u,.int 1 v] },toks:=tk }:=by
 refine wpAny_pyIter_range (IsRange.new ..) (small_one h1 h2 h3 h4) ?_
 have I1:Inv X pins σ H { s with heap:=s.heap.push { cls:=.type "range",data:=.fields #[.int lo t,.int hi u,.int 1 v] },toks:=tk }:=I.kept fun b o e=>Heap.get?_push_of_some _ e
 refine ⟨(s.heap.push { cls:=.type "range",data:=.fields #[.int lo t,.int hi u,.int 1 v] }).objs.size,[(s.heap.push { cls:=.type "range",data:=.fields #[.int lo t,.int hi u,.int 1 v] }).objs.size],_,_,H,rfl,
  I1.kept (t':=tk) fun b o e=>Heap.get?_push_of_some _ e,Zmy _ lo (hi-lo).toNat,?_,fun b hb=>?_,q⟩
 ·have e1:lo+((0:Nat):Int) * 1=lo:=by simp
  have e2:(((hi-lo).toNat:Nat):Int)-((0:Nat):Int)=Builtin.Range.rangeSize lo hi 1:=by rw [rangeSize_one];split <;>omega
  show IsRangeIter _ _ (lo+((0:Nat):Int) * 1) ((((hi-lo).toNat:Nat):Int)-((0:Nat):Int)) 1
  rw [e1,e2]
  exact Heap.get?_push_size _ rfl
 ·have e:b=(s.heap.push { cls:=.type "range",data:=.fields #[.int lo t,.int hi u,.int 1 v] }).objs.size:=by simpa using hb
  subst e
  exact I1.fpOk (Nat.le_refl _) (I1.hok.fresh (Nat.le_refl _))
def Zwi(ta:TA):TI:=fun σ H R=>ta σ H fun vs H1=>∃j:Int,vs=[.int j]∧-(2 ^ 62)≤j∧j<2 ^ 62∧R (Itr 0 j.toNat) H1
def Zwh(ta:TA):TI:=fun σ H R=>ta σ H fun vs H1=>∃i j:Int,vs=[.int i,.int j]∧(-(2 ^ 62)≤i∧i<2 ^ 62∧-(2 ^ 62)≤j∧j<2 ^ 62)∧R (Itr i (j-i).toNat) H1
theorem Zd4{a:Expr}{ta:TA}{p pos:Pos} (hg:Gl X "range") (hm:X.mg "range" =none) (ha:PA X [a] ta) (hs:starEach [a] X.env=[(false,eval a X.env)]:=by rfl):PI X tg (.Call (.Name "range" p) [a] [] pos) (Zwi ta):=by
 intro pins s σ H R I h
 refine Call_ (Zdf I hg hm boot_range (PyProof.Rows.callWith_type1 (thn (ha pos pins s σ H _ I h) fun us s1 ⟨vs,H1,I1,r1,q1⟩=>?_) hs rfl))
 obtain ⟨j,e,q1,q2,q⟩:=q1
 subst e
 cases r1 with
 | cons r rr =>
  cases rr
  obtain ⟨t,rfl⟩:=r
  exact call_range_1 (Zl1 I1 (by omega) (by omega) q1 q2 (by simpa using q))
theorem Zj1{a b:Expr}{ta:TA}{p pos:Pos} (hg:Gl X "range") (hm:X.mg "range" =none) (ha:PA X [a,b] ta) (hs:starEach [a,b] X.env=[(false,eval a X.env),(false,eval b X.env)]:=by rfl) (hs2:starEach [b] X.env=[(false,eval b X.env)]:=by rfl) :
  PI X tg (.Call (.Name "range" p) [a,b] [] pos) (Zwh ta):=by
 intro pins s σ H R I h
 refine Call_ (Zdf I hg hm boot_range (PyProof.Rows.callWith_type1 (thn (ha pos pins s σ H _ I h) fun us s1 ⟨vs,H1,I1,r1,q1⟩=>?_) (by rw [hs,hs2]) (by rw [hs2];rfl)))
 obtain ⟨i,j,e,⟨q1,q2,q3,q4⟩,q⟩:=q1
 subst e
 cases r1 with
 | cons r rr =>
  cases rr with
  | cons r' rr =>
   cases rr
   obtain ⟨t,rfl⟩:=r
   obtain ⟨t',rfl⟩:=r'
   exact call_range_2 (Zl1 I1 q1 q2 q3 q4 q)
def Zx3(wi:TI)(g:TG)(tb:TS):TS:=fun D σ H=>wi σ H fun J H1=>∃W:Nat→Nat→St→Hp→Prop,(∃m,W 0 m σ H1)∧∀i m σ H,W i m σ H →
 (J.stop i H∧D.nx σ H)∨(J.go i H∧∃N:St→Hp→Prop,(∀σ' H',N σ' H'→∃m',m'<m∧W (i+1) m' σ' H')∧∀x H',J.yld i H x H'→g x σ H' fun σ2 H2=>tb { D with nx:=N,ct:=N,bk:=D.nx } σ2 H2)
def Zer(fp:List Addr)(h:Heap):List (Addr×Obj):=fp.filterMap fun b=>(h.get? b).map fun o=>(b,o)
theorem Wt{fp:List Addr}{h:Heap}{b:Addr}{o:Obj}(hb:b∈fp)(e:h.get? b=some o):(b,o)∈Zer fp h:=List.mem_filterMap.mpr ⟨b,hb,by rw [e];rfl⟩
theorem Zpj{fp:List Addr}{h:Heap}{p:Addr×Obj}(hp:p∈Zer fp h):p.1∈fp∧h.get? p.1=some p.2:=by
 obtain ⟨b,hb,e⟩:=List.mem_filterMap.mp hp
 cases q:h.get? b with
 | none=>rw [q] at e;cases e
 | some o =>
  rw [q] at e
  have e':(b,o)=p:=Option.some.inj e
  subst e'
  exact ⟨hb,q⟩
theorem Inv.pinned{pins:List (Addr×Obj)}{σ:St}{H:Hp}{s:Shared}{fp:List Addr}(I:Inv X pins σ H s)(hf:∀b∈fp,Zd8 X pins H b)(ho:∀b∈fp,∃o,s.heap.get? b=some o∧∀v,o.data ≠ .cell v):Inv X (pins++Zer fp s.heap) σ H s :=
 I.pins_of fun p hp=>(List.mem_append.mp hp).elim (fun z=>I.pin p (List.mem_append_right _ z)) fun z=>by
  obtain ⟨hb,e⟩:=Zpj z
  obtain ⟨f0,f1,f2,_⟩:=hf p.1 hb
  obtain ⟨o,e',d⟩:=ho p.1 hb
  rw [e] at e';cases e'
  exact ⟨e,f0,f1,f2,d⟩
theorem Inv.unpinned{pins pl:List (Addr×Obj)}{σ:St}{H:Hp}{s:Shared}(I:Inv X (pins++pl) σ H s):Inv X pins σ H s:=I.pins_of fun p hp=>I.pin p (List.mem_append_right _ (List.mem_append_left _ hp))
theorem Zae{iter:Expr}{body:List Stmt}{wi:TI}{g:TG}{tb:TS}{pos:Pos}(hp:PassesOwn (model X.prog X.w) X.A X.env X.xe)(hc:X.calm=true)(hi:PI X tg iter wi)(hg:PG X tg g)(hb:PSs X body tb)
  (hs:∀x,foldedSetIterable iter X.env x=pure x:=by intro _;rfl):PS X (.For tg iter body [] pos) (Zx3 wi g tb):=by
 intro pins s σ H D I h
 refine wpAny_For (thn (hi pins s σ H _ I h) fun v s1 h1=>thn h1 fun itv s2 h2=>?_) hs
 obtain ⟨it,fp,tn,J,H2,e,I2,T,st2,f2,W,⟨m0,w0⟩,turn⟩:=h2
 subst e
 have stat:∀{H':Hp},(∀b∈fp,H' b=none)→∀b∈fp,Zd8 X pins H' b:=fun hn b hb=>⟨hn b hb,(f2 b hb).2⟩
 refine codeAny_forLoop_any (fun n s'=>∃i σ' H',Inv X pins σ' H' s'∧tn i s'.heap∧(∀b∈fp,H' b=none)∧W i n σ' H') ?_ m0 ⟨0,σ,H2,I2,st2,fun b hb=>(f2 b hb).1,w0⟩
 rintro n s3 ⟨i,σ3,H3,I3,st3,fr3,w3⟩
 rcases turn i n σ3 H3 w3 with ⟨stop,qn⟩|⟨go,N,hN,step⟩
 ·refine wpAny_passesOwn hp (thn (T.done X rfl rfl rfl hc i pins s3 σ3 H3 X.xe I3 (stat fr3) st3 stop) fun r s4 ⟨hr,I4⟩=>?_)
  subst hr
  exact wpAny_execs_nil ⟨σ3,H3,I4,qn⟩
 ·refine wpAny_passesOwn hp (thn (T.item X rfl rfl rfl hc i pins s3 σ3 H3 X.xe I3 (stat fr3) st3 go) fun r s4 ⟨u,hr,h4⟩=>?_)
  subst hr
  refine wpAny_passesOwn hp (thn h4 fun _ s5 ⟨x,H5,I5,r5,y5,st5,fr5⟩=>?_)
  have I5':=I5.pinned (stat fr5) (T.obj _ _ st5)
  refine wpAny_passesOwn hp (thn (hg _ s5 σ3 H5 x u _ I5' r5 (step x H5 y5)) fun _ s6 ⟨σ6,H6,I6,q6⟩=>?_)
  refine wpAny_passesOwn hp (thn (hb _ s6 σ6 H6 _ I6 q6) fun f s7 q7=>?_)
  have again:∀{σ7:St} {H7:Hp},Inv X (pins++Zer fp s5.heap) σ7 H7 s7→N σ7 H7→∃m,m<n∧∃i σ' H',Inv X pins σ' H' s7∧tn i s7.heap∧(∀b∈fp,H' b=none)∧W i m σ' H':=fun {σ7 H7} I7 n7=>by
   obtain ⟨m',hm,w7⟩:=hN σ7 H7 n7
   refine ⟨m',hm,i+1,σ7,H7,I7.unpinned,T.keep _ _ _ st5 fun b hb o e=>(I7.pin (b,o) (List.mem_append_right _ (List.mem_append_right _ (Wt hb e)))).1,fun b hb=>?_,w7⟩
   obtain ⟨o,e,d⟩:=T.obj _ _ st5 b hb
   exact (I7.pin (b,o) (List.mem_append_right _ (List.mem_append_right _ (Wt hb e)))).2.1
  cases f with
  | next=>obtain ⟨σ7,H7,I7,n7⟩:=q7;exact again I7 n7
  | cont=>obtain ⟨σ7,H7,I7,n7⟩:=q7;exact again I7 n7
  | brk=>obtain ⟨σ7,H7,I7,q7⟩:=q7;exact ⟨σ7,H7,I7.unpinned,q7⟩
  | ret v=>obtain ⟨x7,σ7,H7,I7,r7,q7⟩:=q7;exact ⟨x7,σ7,H7,I7.unpinned,r7,q7⟩
end
theorem Zba{K:Frag}{a:Addr}{xs:List V}{g:TG}{tb:TS}{D:Zdc}{σ:St}{H:Hp}(Pv:Nat→St→Hp→Prop)(h0:Pv 0 σ H)(hl:∀i σ H,i≤xs.length→Pv i σ H→SqL K H a xs)
  (hs:∀i x σ H,xs[i]? =some x→Pv i σ H→g x σ H fun σ2 H2=>tb { D with nx:=Pv (i+1),ct:=Pv (i+1),bk:=D.nx } σ2 H2) (hd:∀σ H,Pv xs.length σ H→D.nx σ H) :
  ∃W:Nat→Nat→St→Hp→Prop,(∃m,W 0 m σ H)∧∀i m σ H,W i m σ H →
   ((Itl K a).stop i H∧D.nx σ H)∨((Itl K a).go i H∧∃N:St→Hp→Prop,(∀σ' H',N σ' H'→∃m',m'<m∧W (i+1) m' σ' H')∧∀x H',(Itl K a).yld i H x H'→g x σ H' fun σ2 H2=>tb { D with nx:=N,ct:=N,bk:=D.nx } σ2 H2):=by
 refine ⟨fun i m σ H=>m=xs.length-i∧i≤xs.length∧Pv i σ H,⟨xs.length,by simp,Nat.zero_le _,h0⟩,?_⟩
 rintro i m σ H ⟨rfl,hi,p⟩
 have q:=hl i σ H hi p
 by_cases hlt:i<xs.length
 ·refine .inr ⟨⟨xs,xs[i],q,by simp [hlt]⟩,Pv (i+1),fun σ' H' p'=>⟨xs.length-(i+1),by omega,rfl,hlt,p'⟩,fun x H' y=>?_⟩
  obtain ⟨e,y⟩:=y
  subst e
  exact hs i x σ _ (y xs q) p
 ·have e:i=xs.length:=by omega
  subst e
  exact .inl ⟨⟨xs,q,Nat.le_refl _⟩,hd σ H p⟩
theorem Ztu{K:Frag}{a:Addr}{xs:List V}{g:TG}{tb:TS}{D:Zdc}{σ:St}{H:Hp}(Pv:Nat→St→Hp→Prop)(h0:Pv 0 σ H)(hl:∀i σ H,i≤xs.length→Pv i σ H→SqT K H a xs)
  (hs:∀i x σ H,xs[i]? =some x→Pv i σ H→g x σ H fun σ2 H2=>tb { D with nx:=Pv (i+1),ct:=Pv (i+1),bk:=D.nx } σ2 H2) (hd:∀σ H,Pv xs.length σ H→D.nx σ H) :
  ∃W:Nat→Nat→St→Hp→Prop,(∃m,W 0 m σ H)∧∀i m σ H,W i m σ H →
   ((Itt K a).stop i H∧D.nx σ H)∨((Itt K a).go i H∧∃N:St→Hp→Prop,(∀σ' H',N σ' H'→∃m',m'<m∧W (i+1) m' σ' H')∧∀x H',(Itt K a).yld i H x H'→g x σ H' fun σ2 H2=>tb { D with nx:=N,ct:=N,bk:=D.nx } σ2 H2):=by
 refine ⟨fun i m σ H=>m=xs.length-i∧i≤xs.length∧Pv i σ H,⟨xs.length,by simp,Nat.zero_le _,h0⟩,?_⟩
 rintro i m σ H ⟨rfl,hi,p⟩
 have q:=hl i σ H hi p
 by_cases hlt:i<xs.length
 ·refine .inr ⟨⟨xs,xs[i],q,by simp [hlt]⟩,Pv (i+1),fun σ' H' p'=>⟨xs.length-(i+1),by omega,rfl,hlt,p'⟩,fun x H' y=>?_⟩
  obtain ⟨e,y⟩:=y
  subst e
  exact hs i x σ _ (y xs q) p
 ·have e:i=xs.length:=by omega
  subst e
  exact .inl ⟨⟨xs,q,Nat.le_refl _⟩,hd σ H p⟩
theorem Zqc{lo:Int}{n:Nat}{g:TG}{tb:TS}{D:Zdc}{σ:St}{H:Hp}(Pv:Nat→St→Hp→Prop)(h0:Pv 0 σ H)
  (hs:∀i σ H,i<n→Pv i σ H→g (.int (lo+i)) σ H fun σ2 H2=>tb { D with nx:=Pv (i+1),ct:=Pv (i+1),bk:=D.nx } σ2 H2) (hd:∀σ H,Pv n σ H→D.nx σ H) :
  ∃W:Nat→Nat→St→Hp→Prop,(∃m,W 0 m σ H)∧∀i m σ H,W i m σ H →
   ((Itr lo n).stop i H∧D.nx σ H)∨((Itr lo n).go i H∧∃N:St→Hp→Prop,(∀σ' H',N σ' H'→∃m',m'<m∧W (i+1) m' σ' H')∧∀x H',(Itr lo n).yld i H x H'→g x σ H' fun σ2 H2=>tb { D with nx:=N,ct:=N,bk:=D.nx } σ2 H2):=by
 refine ⟨fun i m σ H=>m=n-i∧i≤n∧Pv i σ H,⟨n,by simp,Nat.zero_le _,h0⟩,?_⟩
 rintro i m σ H ⟨rfl,hi,p⟩
 by_cases hlt:i<n
 ·refine .inr ⟨hlt,Pv (i+1),fun σ' H' p'=>⟨n-(i+1),by omega,rfl,hlt,p'⟩,fun x H' y=>?_⟩
  obtain ⟨e,y⟩:=y
  subst e y
  exact hs i σ _ hlt p
 ·have e:i=n:=by omega
  subst e
  exact .inl ⟨Nat.le_refl _,hd σ H p⟩
end L2
namespace L2
open PySem PySem.Spec PyProof.Rows
abbrev R2:=V→V→Hp→VK→Prop
def OpR(X:Cx)(f:Value→Value→Sem Value)(r:R2):Prop :=
 ∀(pins:List (Addr×Obj)) (s:Shared) (σ:St) (H:Hp) (x y:V) (v u:Value) (Q:VK),Inv X pins σ H s→Yo x v→Yo y u→r x y H Q →
  wpAny (model X.prog X.w) X.A (f v u) (EP X pins σ Q) X.xe s
def UnR(X:Cx)(f:Value→Sem Value)(r:V→Hp→VK→Prop):Prop :=
 ∀(pins:List (Addr×Obj)) (s:Shared) (σ:St) (H:Hp) (x:V) (v:Value) (Q:VK),Inv X pins σ H s→Yo x v→r x H Q →
  wpAny (model X.prog X.w) X.A (f v) (EP X pins σ Q) X.xe s
def Xs(X:Cx)(f:Value)(r:List V→Hp→VK→Prop):Prop :=
 ∀(pins:List (Addr×Obj)) (s:Shared) (σ:St) (H:Hp) (xs:List V) (us:List Value) (Q:VK),Inv X pins σ H s→Yd xs us→r xs H Q →
  wpAny (model X.prog X.w) X.A (call f us) (EP X pins σ Q) X.xe s
def tOp(r:R2)(ta tb:TE):TE:=fun σ H Q=>ta σ H fun x H1=>tb σ H1 fun y H2=>r x y H2 Q
def tUn(r:V→Hp→VK→Prop)(ta:TE):TE:=fun σ H Q=>ta σ H fun x H1=>r x H1 Q
def rI(C:Int→Int→Prop)(g:Int→Int→V):R2:=fun x y H Q=>∃i j,x=.int i∧y=.int j∧C i j∧Q (g i j) H
def rI0(g:Int→Int→V):R2:=fun x y H Q=>∃i j,x=.int i∧y=.int j∧Q (g i j) H
def rU(g:Int→V):V→Hp→VK→Prop:=fun x H Q=>∃i,x=.int i∧Q (g i) H
section
variable {X:Cx} {a b c:Expr} {ta tb tc:TE} {pos:Pos}
theorem Zvk(ha:PE X a ta)(hb:PE X b tb){pins:List (Addr×Obj)}{s:Shared}{σ:St}{H:Hp}{R:V→V→Hp→Prop}(I:Inv X pins σ H s)
  (h:ta σ H fun x H1=>tb σ H1 fun y H2=>R x y H2) {Q:Value→Shared→Prop} {f:Value→Value→Sem Value}
  (hf:∀v u s2 x y H2,Inv X pins σ H2 s2→Yo x v→Yo y u→R x y H2→wpAny (model X.prog X.w) X.A (f v u) Q X.xe s2) :
  wpAny (model X.prog X.w) X.A (eval a X.env) (fun v s₁=>wpAny (model X.prog X.w) X.A (eval b X.env) (fun u s₂=>wpAny (model X.prog X.w) X.A (f v u) Q X.xe s₂) X.xe s₁) X.xe s:=by
 refine thn (ha pins s σ H _ I h) fun v s1 ⟨x,H1,I1,r1,q1⟩=>?_
 refine thn (hb pins s1 σ H1 _ I1 q1) fun u s2 ⟨y,H2,I2,r2,q2⟩=>?_
 exact hf v u s2 x y H2 I2 r1 r2 q2
theorem Zk{op:Operator}{r:R2}(ho:OpR X (binaryOp op) r)(ha:PE X a ta)(hb:PE X b tb):PE X (.BinOp a op b pos) (tOp r ta tb):=by
 intro pins s σ H Q I h
 exact wpAny_BinOp (Zvk ha hb I h fun v u s2 x y H2 I2 rx ry q=>ho pins s2 σ H2 x y v u Q I2 rx ry q)
theorem Zn3{op:UnaryOp}{r:V→Hp→VK→Prop}(ho:UnR X (unaryOp op) r)(ha:PE X a ta):PE X (.UnaryOp op a pos) (tUn r ta):=by
 intro pins s σ H Q I h
 exact UnaryOp_ (thn (ha pins s σ H _ I h) fun v s1 ⟨x,H1,I1,r1,q1⟩=>ho pins s1 σ H1 x v Q I1 r1 q1)
theorem opI{f:Value→Value→Sem Value}{C:Int→Int→Prop}{g:Int→Int→Int}
  (rule:∀(i j:Int) (t u:Tok) (s:Shared) (Q:Value→Shared→Prop) (E:Value→Shared→Prop),C i j→Q (.int (g i j) s.toks) { s with toks:=s.toks+1 }→wpAny (model X.prog X.w) X.A (f (.int i t) (.int j u)) Q E s) :
  OpR X f (rI C fun i j=>.int (g i j)):=by
 intro pins s σ H x y v u Q I rx ry h
 obtain ⟨i,j,rfl,rfl,hc,q⟩:=h
 obtain ⟨t,rfl⟩:=rx
 obtain ⟨t',rfl⟩:=ry
 exact rule i j t t' s _ _ hc ⟨.int (g i j),H,I.tok _,⟨_,rfl⟩,q⟩
theorem Zwb{f:Value→Value→Sem Value}{g:Int→Int→Int}
  (rule:∀(i j:Int) (t u:Tok) (s:Shared) (Q:Value→Shared→Prop) (E:Value→Shared→Prop),Q (.int (g i j) s.toks) { s with toks:=s.toks+1 }→wpAny (model X.prog X.w) X.A (f (.int i t) (.int j u)) Q E s) :
  OpR X f (rI0 fun i j=>.int (g i j)):=by
 intro pins s σ H x y v u Q I rx ry h
 obtain ⟨i,j,rfl,rfl,q⟩:=h
 obtain ⟨t,rfl⟩:=rx
 obtain ⟨t',rfl⟩:=ry
 exact rule i j t t' s _ _ ⟨.int (g i j),H,I.tok _,⟨_,rfl⟩,q⟩
theorem Zv5{f:Value→Value→Sem Value}{g:Int→Int→Bool}
  (rule:∀(i j:Int) (t u:Tok) (s:Shared) (Q:Value→Shared→Prop) (E:Value→Shared→Prop),Q (.bool (g i j)) s→wpAny (model X.prog X.w) X.A (f (.int i t) (.int j u)) Q E s) :
  OpR X f (rI0 fun i j=>.bl (g i j)):=by
 intro pins s σ H x y v u Q I rx ry h
 obtain ⟨i,j,rfl,rfl,q⟩:=h
 obtain ⟨t,rfl⟩:=rx
 obtain ⟨t',rfl⟩:=ry
 exact rule i j t t' s _ _ ⟨.bl (g i j),H,I,rfl,q⟩
def Zxx(i j:Int):Prop:=0<j∧j<1073741824
def Zuq(i j:Int):Prop:=(-(2 ^ 64)<i∧i<2 ^ 64)∨(-(2 ^ 64)<j∧j<2 ^ 64)
theorem Zuq.ok{i j:Int}(h:Zuq i j):IntMulOk i j:=by
 rcases h with ⟨h1,h2⟩|⟨h1,h2⟩
 ·exact .of_left (intBits_le_64 h1 h2)
 ·exact .of_right (intBits_le_64 h1 h2)
theorem Zvy:OpR X (binaryOp .Add) (rI0 fun i j=>.int (i+j)):=Zwb fun _ _ _ _ _ _ _ q=>add_int q
theorem Zdj:OpR X (binaryOp .Sub) (rI0 fun i j=>.int (i-j)):=Zwb fun _ _ _ _ _ _ _ q=>sub_int q
theorem Zf7:OpR X (binaryOp .Mult) (rI Zuq fun i j=>.int (i * j)):=opI fun _ _ _ _ _ _ _ hc q=>mul_int q hc.ok
theorem Yh:OpR X (binaryOp .FloorDiv) (rI Zxx fun i j=>.int (i / j)):=opI fun i j _ _ _ _ _ hc q=>by
 have h1:(0:Int)<j:=hc.1
 have h2:j<1073741824:=hc.2
 exact floordiv_int (by omega) (by rw [Int.fdiv_eq_ediv_of_nonneg i (by omega)];exact q) (.inl (PyProof.noPylong_small (by omega)))
theorem Z6:OpR X (binaryOp .Mod) (rI (fun _ j=>0<j) fun i j=>.int (i%j)):=opI fun i j _ _ _ _ _ hc q=>by
 have h1:(0:Int)<j:=hc
 exact mod_int' (by omega) (by rw [Int.fmod_eq_emod_of_nonneg i (by omega)];exact q)
theorem unI{f:Value→Sem Value}{g:Int→Int}
  (rule:∀(i:Int) (t:Tok) (s:Shared) (Q:Value→Shared→Prop) (E:Value→Shared→Prop),Q (.int (g i) s.toks) { s with toks:=s.toks+1 }→wpAny (model X.prog X.w) X.A (f (.int i t)) Q E s) :
  UnR X f (rU fun i=>.int (g i)):=by
 intro pins s σ H x v Q I rx h
 obtain ⟨i,rfl,q⟩:=h
 obtain ⟨t,rfl⟩:=rx
 exact rule i t s _ _ ⟨.int (g i),H,I.tok _,⟨_,rfl⟩,q⟩
theorem Zkn:UnR X (unaryOp .USub) (rU fun i=>.int (-i)):=unI fun _ _ _ _ _ q=>neg_int q
end
def Zw2:V→V→Bool
 | .non,.non=>true | .non,.int _=>true | .int _,.non=>true | .non,.bl _=>true | .bl _,.non=>true | .non,.str _=>true | .str _,.non=>true
 | .int _,.int _=>true | .bl _,.bl _=>true | .str _,.str _=>true | .byt _,.byt _=>true
 | .int _,.str _=>true | .str _,.int _=>true | .bl _,.str _=>true | .str _,.bl _=>true
 | _,_=>false
def rEq:R2:=fun x y H Q=>Zw2 x y=true∧Q (.bl (decide (x=y))) H
def rNe:R2:=fun x y H Q=>Zw2 x y=true∧Q (.bl (!decide (x=y))) H
theorem Zom{i j:Int}:decide (V.int i=V.int j)=(i ==j):=by
 rw [Bool.eq_iff_iff]
 simp
theorem Zqz{i j:Bool}:decide (V.bl i=V.bl j)=(i ==j):=by
 rw [Bool.eq_iff_iff]
 simp
theorem Znv{i j:Str}:decide (V.str i=V.str j)=(i ==j):=by
 rw [Bool.eq_iff_iff]
 simp
theorem Znt{i j:Array UInt8}:decide (V.byt i=V.byt j)=(i.toList ==j.toList):=by
 rw [Bool.eq_iff_iff]
 cases i
 cases j
 simp
section
variable {X:Cx} {a b c:Expr} {ta tb tc:TE} {pos:Pos}
theorem Yv{pins:List (Addr×Obj)}{σ:St}{H:Hp}{s:Shared}{Q:VK}{k k':Bool}(I:Inv X pins σ H s)(q:Q (.bl k) H)(e:k=k'):EP X pins σ Q (.bool k') s:=by
 subst e
 exact ⟨.bl k,H,I,rfl,q⟩
theorem Zuc:OpR X (compareOp .Eq) rEq:=by
 intro pins s σ H x y v u Q I rx ry h
 obtain ⟨hs,q⟩:=h
 cases x with
 | non =>
  cases rx
  cases y with
  | non=>cases ry;exact PySem.EqNone.eq_none_none (Yv I q (by simp))
  | bl j=>cases ry;exact PySem.EqNone.eq_none_bool (Yv I q (by simp))
  | int j=>obtain ⟨t',rfl⟩:=ry;exact PySem.EqNone.eq_none_int (Yv I q (by simp))
  | str j=>obtain ⟨t',rfl⟩:=ry;exact PySem.EqNone.eq_none_str (Yv I q (by simp))
  | _=>exact absurd (show false=true from hs) Bool.false_ne_true
 | bl i =>
  cases rx
  cases y with
  | non=>cases ry;exact PySem.EqNone.eq_bool_none (Yv I q (by simp))
  | bl j=>cases ry;exact eq_bool (Yv I q Zqz)
  | str j=>obtain ⟨t',rfl⟩:=ry;exact PySem.EqMixed.eq_bool_str (Yv I q (by simp))
  | _=>exact absurd (show false=true from hs) Bool.false_ne_true
 | int i =>
  obtain ⟨t,rfl⟩:=rx
  cases y with
  | non=>cases ry;exact PySem.EqNone.eq_int_none (Yv I q (by simp))
  | int j=>obtain ⟨t',rfl⟩:=ry;exact eq_int (Yv I q Zom)
  | str j=>obtain ⟨t',rfl⟩:=ry;exact PySem.EqMixed.eq_int_str (Yv I q (by simp))
  | _=>exact absurd (show false=true from hs) Bool.false_ne_true
 | str i =>
  obtain ⟨t,rfl⟩:=rx
  cases y with
  | non=>cases ry;exact PySem.EqNone.eq_str_none (Yv I q (by simp))
  | bl j=>cases ry;exact PySem.EqMixed.eq_str_bool (Yv I q (by simp))
  | int j=>obtain ⟨t',rfl⟩:=ry;exact PySem.EqMixed.eq_str_int (Yv I q (by simp))
  | str j=>obtain ⟨t',rfl⟩:=ry;exact eq_str (Yv I q Znv)
  | _=>exact absurd (show false=true from hs) Bool.false_ne_true
 | byt i =>
  obtain ⟨t,rfl⟩:=rx
  cases y with
  | byt j=>obtain ⟨t',rfl⟩:=ry;exact PySem.W.eq_bytes (Yv I q Znt)
  | _=>exact absurd (show false=true from hs) Bool.false_ne_true
 | _=>cases y <;>exact absurd (show false=true from hs) Bool.false_ne_true
theorem Zw3:OpR X (compareOp .NotEq) rNe:=by
 intro pins s σ H x y v u Q I rx ry h
 obtain ⟨hs,q⟩:=h
 cases x with
 | non =>
  cases rx
  cases y with
  | non=>cases ry;exact PySem.EqNone.ne_none_none (Yv I q (by simp))
  | bl j=>cases ry;exact PySem.EqNone.ne_none_bool (Yv I q (by simp))
  | int j=>obtain ⟨t',rfl⟩:=ry;exact PySem.EqNone.ne_none_int (Yv I q (by simp))
  | str j=>obtain ⟨t',rfl⟩:=ry;exact PySem.EqNone.ne_none_str (Yv I q (by simp))
  | _=>exact absurd (show false=true from hs) Bool.false_ne_true
 | bl i =>
  cases rx
  cases y with
  | non=>cases ry;exact PySem.EqNone.ne_bool_none (Yv I q (by simp))
  | bl j=>cases ry;exact ne_bool (Yv I q (congrArg not Zqz))
  | str j=>obtain ⟨t',rfl⟩:=ry;exact PySem.EqMixed.ne_bool_str (Yv I q (by simp))
  | _=>exact absurd (show false=true from hs) Bool.false_ne_true
 | int i =>
  obtain ⟨t,rfl⟩:=rx
  cases y with
  | non=>cases ry;exact PySem.EqNone.ne_int_none (Yv I q (by simp))
  | int j=>obtain ⟨t',rfl⟩:=ry;exact ne_int (Yv I q (congrArg not Zom))
  | str j=>obtain ⟨t',rfl⟩:=ry;exact PySem.EqMixed.ne_int_str (Yv I q (by simp))
  | _=>exact absurd (show false=true from hs) Bool.false_ne_true
 | str i =>
  obtain ⟨t,rfl⟩:=rx
  cases y with
  | non=>cases ry;exact PySem.EqNone.ne_str_none (Yv I q (by simp))
  | bl j=>cases ry;exact PySem.EqMixed.ne_str_bool (Yv I q (by simp))
  | int j=>obtain ⟨t',rfl⟩:=ry;exact PySem.EqMixed.ne_str_int (Yv I q (by simp))
  | str j=>obtain ⟨t',rfl⟩:=ry;exact ne_str (Yv I q (congrArg not Znv))
  | _=>exact absurd (show false=true from hs) Bool.false_ne_true
 | byt i =>
  obtain ⟨t,rfl⟩:=rx
  cases y with
  | byt j=>obtain ⟨t',rfl⟩:=ry;exact PySem.W.ne_bytes (Yv I q (congrArg not Znt))
  | _=>exact absurd (show false=true from hs) Bool.false_ne_true
 | _=>cases y <;>exact absurd (show false=true from hs) Bool.false_ne_true
theorem Zed:OpR X (compareOp .Lt) (rI0 fun i j=>.bl (decide (i<j))):=Zv5 fun _ _ _ _ _ _ _ q=>lt_int q
theorem Zgf:OpR X (compareOp .Gt) (rI0 fun i j=>.bl (decide (j<i))):=Zv5 fun _ _ _ _ _ _ _ q=>gt_int q
theorem Zpq:OpR X (compareOp .In) (fun x y H Q=>∃i j,x=.str i∧y=.str j∧Q (.bl (!(Builtin.Str.occurrences j i 0 j.length 1).isEmpty)) H):=by
 intro pins s σ H x y v u Q I rx ry h
 obtain ⟨i,j,rfl,rfl,q⟩:=h
 obtain ⟨t,rfl⟩:=rx
 obtain ⟨t',rfl⟩:=ry
 exact in_str (Yv I q rfl)
theorem Zq8:OpR X (compareOp .Is) (fun x y H Q=>y=.non∧Q (.bl (decide (x=.non))) H):=by
 intro pins s σ H x y v u Q I rx ry h
 obtain ⟨rfl,q⟩:=h
 cases ry
 refine is_none_gen (Yv I q ?_)
 cases x <;>first
  | (cases rx;rfl)
  | (obtain ⟨t,rfl⟩:=rx;rfl)
theorem OpR.or{f:Value→Value→Sem Value}{r r':R2}(h:OpR X f r)(h':OpR X f r'):OpR X f (fun x y H Q=>r x y H Q∨r' x y H Q):=by
 intro pins s σ H x y v u Q I rx ry q
 rcases q with q|q
 ·exact h pins s σ H x y v u Q I rx ry q
 ·exact h' pins s σ H x y v u Q I rx ry q
theorem Zx(b:Expr){op:CmpOp}(h:op ≠ .In:=by decide)(h2:op ≠ .NotIn:=by decide):behindInMarks op b=false:=by
 have e1:(op ==CmpOp.In)=false:=by cases op <;>first | rfl | exact absurd rfl h
 have e2:(op ==CmpOp.NotIn)=false:=by cases op <;>first | rfl | exact absurd rfl h2
 cases b <;>simp [behindInMarks,e1,e2]
theorem Zb9{op:CmpOp}{r:R2}(ho:OpR X (compareOp op) r)(ha:PE X a ta)(hb:PE X b tb)(hm:behindInMarks op b=false):PE X (.Compare a [op] [b] pos) (tOp r ta tb):=by
 intro pins s σ H Q I h
 exact wpAny_Compare1 (Zvk ha hb I h fun v u s2 x y H2 I2 rx ry q=>ho pins s2 σ H2 x y v u Q I2 rx ry q) hm
def Zt2(t:TE):TT:=fun σ H Q=>t σ H fun x H'=>∃k,x=.bl k∧Q k H'
theorem Zo{op:CmpOp}{r:R2}(ho:OpR X (compareOp op) r)(ha:PE X a ta)(hb:PE X b tb)(hm:behindInMarks op b=false):PT X (.Compare a [op] [b] pos) (Zt2 (tOp r ta tb)):=by
 intro pins s σ H Q I h
 refine wpAny_isTrue_Compare1 (thn (ha pins s σ H _ I h) fun v s1 ⟨x,H1,I1,r1,q1⟩=>thn (hb pins s1 σ H1 _ I1 q1) fun u s2 ⟨y,H2,I2,r2,q2⟩ =>
  thn (ho pins s2 σ H2 x y v u _ I2 r1 r2 q2) fun c s3 ⟨z,H3,I3,r3,k,e,q3⟩=>?_) hm
 subst e
 cases r3
 exact wpAny_truthy_bool ⟨H3,I3,q3⟩
theorem Zh6:(sizeLine:Nat)<2 ^ 63:=by rw [sizeLine_eq];decide
theorem Zm6:OpR X (binaryOp .Add) (fun x y H Q=>∃i j,x=.str i∧y=.str j∧i.length+j.length≤sizeLine∧Q (.str (i++j)) H):=by
 intro pins s σ H x y v u Q I rx ry h
 obtain ⟨i,j,rfl,rfl,hz,q⟩:=h
 obtain ⟨t,rfl⟩:=rx
 obtain ⟨t',rfl⟩:=ry
 exact add_str (fun t' tk=>⟨.str (i++j),H,I.tok _,⟨_,rfl⟩,q⟩) hz
theorem Zcq{x:V}{us:List Value}(r:Yd [x] us):∃u,us=[u]∧Yo x u:=by
 cases r with
 | cons r1 r2=>cases r2;exact ⟨_,rfl,r1⟩
theorem Zlm{x y:V}{us:List Value}(r:Yd [x,y] us):∃u w',us=[u,w']∧Yo x u∧Yo y w':=by
 cases r with
 | cons r1 r2 =>
  cases r2 with
  | cons r3 r4=>cases r4;exact ⟨_,_,rfl,r1,r3⟩
theorem Zph(hc:X.calm=true):Xs X (.builtin "max") (fun xs H Q=>∃i j,xs=[.int i,.int j]∧Q (.int (if j >i then j else i)) H):=by
 intro pins s σ H xs us Q I r h
 obtain ⟨i,j,rfl,q⟩:=h
 obtain ⟨u,w',rfl,⟨t,rfl⟩,⟨t',rfl⟩⟩:=Zlm r
 refine max_two_ints (I.ok.hd hc) fun h' tk k=>⟨_,H,I.kept k,?_,q⟩
 by_cases hj:j >i
 ·rw [if_pos hj,if_pos hj];exact ⟨_,rfl⟩
 ·rw [if_neg hj,if_neg hj];exact ⟨_,rfl⟩
theorem Zo6(hc:X.calm=true):Xs X (.builtin "min") (fun xs H Q=>∃i j,xs=[.int i,.int j]∧Q (.int (if j<i then j else i)) H):=by
 intro pins s σ H xs us Q I r h
 obtain ⟨i,j,rfl,q⟩:=h
 obtain ⟨u,w',rfl,⟨t,rfl⟩,⟨t',rfl⟩⟩:=Zlm r
 refine min_two_ints (I.ok.hd hc) fun h' tk k=>⟨_,H,I.kept k,?_,q⟩
 by_cases hj:j<i
 ·rw [if_pos hj,if_pos hj];exact ⟨_,rfl⟩
 ·rw [if_neg hj,if_neg hj];exact ⟨_,rfl⟩
theorem Zpm:Xs X (.type "int") (fun xs H Q=>(∃i,xs=[.int i]∧Q (.int i) H)∨∃k,xs=[.bl k]∧Q (.int (if k then 1 else 0)) H):=by
 intro pins s σ H xs us Q I r h
 rcases h with ⟨i,rfl,q⟩|⟨k,rfl,q⟩
 ·obtain ⟨u,rfl,t,rfl⟩:=Zcq r
  exact call_int_int ⟨.int i,H,I,⟨_,rfl⟩,q⟩
 ·obtain ⟨u,rfl,r1⟩:=Zcq r
  cases r1
  exact call_int_bool ⟨.int (if k then 1 else 0),H,I.tok _,⟨_,rfl⟩,q⟩
theorem Y7:Xs X (.type "str") (fun xs H Q=>∃i,xs=[.int i]∧i.natAbs.log2<1920∧Q (.str (toString i)) H):=by
 intro pins s σ H xs us Q I r h
 obtain ⟨i,rfl,hz,q⟩:=h
 obtain ⟨u,rfl,t,rfl⟩:=Zcq r
 exact PySem.P.str_of_int hz ⟨.str _,H,I.tok _,⟨_,rfl⟩,q⟩
end
end L2
namespace L2
open PySem PySem.Spec PyProof.Rows
structure Zmx(h:Heap)(x dx C:Addr)(mA:Str→Option Value):Prop where
 obj:h.get? x=some (PySem.W.instObj C dx)
 ns:h.Ns1 dx mA
 ne:dx≠x
theorem Zpb{h:Heap}{dx:Addr}{mA:Str→Option Value}(n:h.Ns1 dx mA):∃od,h.get? dx=some od∧∀name,PySem.W.lookIn name od=some (mA name):=by
 obtain ⟨o,es,ep,ho,hd,hk,_,hm⟩:=n
 refine ⟨o,ho,fun name=>?_⟩
 have e:=hm name
 unfold nsFind findBy at e
 rw [←Array.find?_toList] at e
 unfold PySem.W.lookIn
 rw [hd]
 dsimp only
 split
 ·rename_i y q
  rw [q] at e
  exact congrArg some e
 ·rename_i q
  rw [q] at e
  have a:es.toList.any (·.refKey)=false:=by
   rw [List.any_eq_false]
   intro y hy
   obtain ⟨z,t,hkey⟩:=hk y (Array.mem_toList_iff.mp hy)
   simp [DictEntry.refKey,hkey]
  have a':¬es.toList.any (·.refKey)=true:=by rw [a];exact Bool.false_ne_true
  rw [if_neg a']
  exact congrArg some e
theorem Zmx.look{h:Heap}{x dx C:Addr}{mA:Str→Option Value}(I:Zmx h x dx C mA):∃od,PySem.W.InstAt h x (PySem.W.instObj C dx) C (some od)∧∀name,PySem.W.lookIn name od=some (mA name) :=
 let ⟨od,ho,hl⟩:=Zpb I.ns
 ⟨od,⟨I.obj,rfl,rfl,ho⟩,hl⟩
section
variable {prog:Program} {w:World} {A:Around} {E:Value→Shared→Prop} {s:Shared} {K:Frag} {x dx C f:Addr} {mA:Str→Option Value} {name:Str} {v:Value}
theorem Zs4{expr:Bool}{Q:Value→Shared→Prop}(X:K.In s.heap)(I:Zmx s.heap x dx C mA)(hg:PySem.W.plainGet K C name=true)(hh:PySem.W.hasDictIn K C=true)
  (ha:findIn K (.ref C) name=some none) (hv:mA name=some v) (hv':PySem.W.handedIn v=true) (h:Q v { s with toks:=s.toks+1 }) :
  wpAny (model prog w) A (getAttr (.ref x) name expr) Q E s:=by
 obtain ⟨od,J,hl⟩:=I.look
 exact PySem.W.get_value X J (PySem.W.plainGet_of hg).1 (PySem.W.findObj_own hh ha rfl (by rw [hl,hv])) hv' h
theorem Zrt{pl:Sem Bool}{Q:Value×List Value→Shared→Prop}(X:K.In s.heap)(I:Zmx s.heap x dx C mA)(hg:PySem.W.plainGet K C name=true)
  (hf:findIn K (.ref C) name=some (some (.ref f))) (ht:PySem.W.isFn K (.ref f)=true) (hv:mA name=none) (h:Q (.ref f,[.ref x]) s) :
  wpAny (model prog w) A (getMethod (.ref x) name pl) Q E s:=by
 obtain ⟨od,J,hl⟩:=I.look
 exact PySem.W.method_fn X J (PySem.W.plainGet_of hg).1 (PySem.W.plainGet_of hg).2 hf (beq_iff_eq.mp ht) (by show (PySem.W.lookIn name od).map (·.isSome)=some false;rw [hl,hv];rfl) h
theorem Zsz{ns:List Str}{Q:Unit→Shared→Prop}(X:K.In s.heap)(I:Zmx s.heap x dx C mA)
  (hs:findIn K (.ref C) "__setattr__" =some (some (.builtin "object.__setattr__"))) (hp:PySem.W.plainOver K C=true) (ht:PySem.W.takerIn K C name=some none) (hh:PySem.W.hasDictIn K C=true)
  (hw:PySem.Within mA ns) (hsz:ns.length≤sizeLine)
  (h:∀h',Zmx h' x dx C (fun y=>if y=name then some v else mA y)→Heap.SameBut dx s.heap h'→Q () { s with heap:=h',toks:=s.toks+2 }) :
  wpAny (model prog w) A (setAttr (.ref x) name v) Q E s:=by
 obtain ⟨od,J,hl⟩:=I.look
 refine PySem.W.set_plain X J hs (PySem.W.osa_open (s:={ s with toks:=s.toks+1 }) (r:=none) X J hp ht fun b=>?_)
 obtain ⟨cd,hc,hd'⟩:=PySem.W.any_some hh
 have hx:s.heap.get? x=some ⟨.ref C,some dx,.plain,#[]⟩:=I.obj
 refine wpAny_bind (wpAny_pure (wpAny_bind (wpAny_bind (wpAny_loadPart hx (wpAny_bind (PySem.W.Looks.here (s:={ s with toks:=s.toks+1 }) (PySem.W.looks_clsIn X hc) ?_))))))
 rw [hd']
 refine wpAny_pure (a:=some dx) (wpAny_bind (wpAny_pure (wpAny_bind ?_)))
 refine wpAny_nsSet1 (s:={ s with toks:=s.toks+1 }) I.ns fun h' hn2 hs2=>?_
 obtain ⟨oD,esD,epD,hoD,hdD,hcD⟩:=hn2.count (PySem.Within.cons name v hw)
 refine wpAny_bind (wpAny_lookBehind hoD (by rw [hdD];exact pastItsLine_dict (Nat.le_trans hcD (by rw [List.length_cons];omega))) ?_)
 exact wpAny_pure (h _ ⟨(hs2.2 _ (Ne.symm I.ne)).trans I.obj,hn2,I.ne⟩ hs2)
theorem Zrq{R:Result→Shared→Prop}{vs:List Value}{kw:List (Str×Value)}(X:K.In s.heap)(hm:PySem.W.makesIn K C=true)
  (hi:findIn K (.ref C) "__init__" =some (some (.ref f))) (hf:PySem.W.typeIn K (.ref f)=some (.type "function"))
  (h:codeAny (model prog w) (A.under (.builtin "type.__call__" ⟨.ref C ::vs,kw⟩)) (.call (.ref f) ⟨.ref (s.heap.objs.size+1) ::vs,kw⟩) (PySem.W.InitBack (s.heap.objs.size+1) R)
   { s with heap:=(s.heap.push PySem.W.emptyDict).push (PySem.W.instObj C s.heap.objs.size) }) :
  codeAny (model prog w) A (.call (.ref C) ⟨vs,kw⟩) R s:=by
 obtain ⟨hh,g,d,t,os⟩:=s
 exact PySem.W.make_core (PySem.W.makes_of X hm) (PySem.W.looks_findIn X hi) (fun self=>PySem.W.bind_fn X self hf) (.inl rfl) h
end
def Zd6(f:Str)(v:V):List (Str×V)→List (Str×V)
 | []=>[(f,v)]
 | (g,x) ::r=>if g=f then (g,v) ::r else (g,x) ::Zd6 f v r
theorem Zge(f g:Str)(v:V):∀fs:List (Str×V),(Zd6 f v fs).lookup g=if g=f then some v else fs.lookup g
 | []=>by
  show List.lookup g [(f,v)]=_
  by_cases h:g=f
  ·have hb:(g ==f)=true:=beq_iff_eq.mpr h
   simp only [List.lookup,hb,if_pos h]
  ·have hb:(g ==f)=false:=beq_eq_false_iff_ne.mpr h
   simp only [List.lookup,hb,if_neg h]
 | (k,x) ::r=>by
  have ih:=Zge f g v r
  rw [show Zd6 f v ((k,x) ::r)=(if k=f then (k,v) ::r else (k,x) ::Zd6 f v r) from rfl]
  by_cases hk:k=f
  ·rw [if_pos hk]
   by_cases h:g=k
   ·have hb:(g ==k)=true:=beq_iff_eq.mpr h
    simp only [List.lookup,hb,if_pos (h.trans hk)]
   ·have hb:(g ==k)=false:=beq_eq_false_iff_ne.mpr h
    simp only [List.lookup,hb,if_neg (fun e:g=f=>h (e.trans hk.symm))]
  ·rw [if_neg hk]
   by_cases h:g=k
   ·have hb:(g ==k)=true:=beq_iff_eq.mpr h
    simp only [List.lookup,hb,if_neg (fun e:g=f=>hk (h.symm.trans e))]
   ·have hb:(g ==k)=false:=beq_eq_false_iff_ne.mpr h
    simp only [List.lookup,hb]
    exact ih
theorem Zfq(f:Str)(v:V):∀fs:List (Str×V),f∈(Zd6 f v fs).map (·.1)∧∀g,g∈fs.map (·.1)→g∈(Zd6 f v fs).map (·.1)
 | []=>⟨by simp [Zd6],fun g h=>by simp at h⟩
 | (k,x) ::r=>by
  obtain ⟨i1,i2⟩:=Zfq f v r
  rw [show Zd6 f v ((k,x) ::r)=(if k=f then (k,v) ::r else (k,x) ::Zd6 f v r) from rfl]
  by_cases hk:k=f
  ·rw [if_pos hk]
   subst hk
   exact ⟨by simp,fun g h=>by simpa using h⟩
  ·rw [if_neg hk]
   refine ⟨?_,fun g h=>?_⟩
   ·rw [List.map_cons]
    exact List.mem_cons_of_mem _ i1
   ·rw [List.map_cons] at h ⊢
    rcases List.mem_cons.mp h with e|e
    ·exact List.mem_cons.mpr (.inl e)
    ·exact List.mem_cons_of_mem _ (i2 g e)
theorem Zgb(f:Str)(v:V):∀fs:List (Str×V),(Zd6 f v fs).length≤fs.length+1
 | []=>by simp [Zd6]
 | (k,x) ::r=>by
  have ih:=Zgb f v r
  rw [show Zd6 f v ((k,x) ::r)=(if k=f then (k,v) ::r else (k,x) ::Zd6 f v r) from rfl]
  by_cases hk:k=f
  ·rw [if_pos hk,List.length_cons,List.length_cons];omega
  ·rw [if_neg hk,List.length_cons,List.length_cons];omega
theorem Zde.some_of{v:V}{o:Option Value}(r:Zde (some v) o):∃u,o=some u∧Yo v u:=by
 cases o with
 | none=>exact (show False from r).elim
 | some u=>exact ⟨u,rfl,r⟩
theorem Zde.none_of{o:Option Value}(r:Zde none o):o=none:=by
 cases o with
 | none=>rfl
 | some u=>exact (show False from r).elim
theorem Zp4{v:V}{u:Value}(r:Yo v u):PySem.W.handedIn u=true:=by
 cases v with
 | non=>cases (show u=Value.none from r);rfl
 | bl b=>cases (show u=Value.bool b from r);rfl
 | int i=>obtain ⟨t,e⟩:=(show ∃t,u=Value.int i t from r);cases e;rfl
 | str x=>obtain ⟨t,e⟩:=(show ∃t,u=Value.str x t from r);cases e;rfl
 | byt b=>obtain ⟨t,e⟩:=(show ∃t,u=Value.bytes b t from r);cases e;rfl
 | flt b=>obtain ⟨t,e⟩:=(show ∃t,u=Value.float b t from r);cases e;rfl
 | ref a=>cases (show u=Value.ref a from r);rfl
 | ty n=>cases (show u=Value.type n from r);rfl
section
variable {P:Program} {w:World} {H H':Hp} {h h':Heap} {a C dx:Addr} {fs fs':List (Str×V)}
theorem Zg0(hok:HOk P w H h)(e:H a=some (.ins C dx fs)):∃mA,Zmx h a dx C mA∧(∀f,Zde (fs.lookup f) (mA f))∧PySem.Within mA (fs.map (·.1))∧fs.length≤1000∧H dx=some (.own a):=by
 obtain ⟨d,z,ne,ob,mA,n,r,q⟩:=(show Yu P w H h a (.ins C dx fs) from hok a _ e)
 exact ⟨mA,⟨ob,n,ne⟩,r,q,z,d⟩
end
structure Cls(K:Frag)(C:Addr):Prop where
 pg:PySem.W.plainGet K C Str.empty=true
 hd:PySem.W.hasDictIn K C=true
 po:PySem.W.plainOver K C=true
 sa:findIn K (.ref C) "__setattr__" =some (some (.builtin "object.__setattr__"))
theorem Cls.get{K:Frag}{C:Addr}(c:Cls K C)(f:Str):PySem.W.plainGet K C f=true:=c.pg
def X6(K:Frag)(C:Addr)(f:Str):Prop:=findIn K (.ref C) f=some none
theorem X6.taker{K:Frag}{C:Addr}{f:Str}(n:X6 K C f):PySem.W.takerIn K C f=some none:=by
 unfold PySem.W.takerIn
 rw [show findIn K (.ref C) f=some none from n]
 rfl
structure Zdd(K:Frag)(C:Addr)(m:Str)(f:Addr):Prop where
 at_:findIn K (.ref C) m=some (some (.ref f))
 fn:PySem.W.isFn K (.ref f)=true
 kp:keepIn K (.ref f)=true
section
variable {X:Cx} {pins:List (Addr×Obj)} {σ:St} {H:Hp} {s:Shared} {a C dx:Addr} {fs:List (Str×V)} {f:Str} {v:V} {A:Around} {E:Value→Shared→Prop}
theorem Znh{b:Bool}{Q:Value→Shared→Prop}(I:Inv X pins σ H s)(e:H a=some (.ins C dx fs))(c:Cls X.K C)(n:X6 X.K C f)(l:fs.lookup f=some v)
  (h:∀u s',Inv X pins σ H s'→Yo v u→Q u s'):wpAny (model X.prog X.w) A (getAttr (.ref a) f b) Q E s:=by
 obtain ⟨mA,O,r,_,_,_⟩:=Zg0 I.hok e
 obtain ⟨u,hu,ru⟩:=Zde.some_of (v:=v) (o:=mA f) (by rw [←l];exact r f)
 exact Zs4 I.kIn O (c.get f) c.hd n hu (Zp4 ru) (h u _ (I.tok _) ru)
theorem Zhc{m:Str}{g:Addr}{pl:Sem Bool}{Q:Value×List Value→Shared→Prop}(I:Inv X pins σ H s)(e:H a=some (.ins C dx fs))(c:Cls X.K C)(k:Zdd X.K C m g)(l:fs.lookup m=none)
  (h:Q (.ref g,[.ref a]) s):wpAny (model X.prog X.w) A (getMethod (.ref a) m pl) Q E s:=by
 obtain ⟨mA,O,r,_,_,_⟩:=Zg0 I.hok e
 have hn:mA m=none:=Zde.none_of (by rw [←l];exact r m)
 exact Zrt I.kIn O (c.get m) k.at_ k.fn hn h
theorem Zmo{y:V}{u:Value}{Q:Unit→Shared→Prop}(I:Inv X pins σ H s)(e:H a=some (.ins C dx fs))(c:Cls X.K C)(n:X6 X.K C f)(hl:fs.length<1000)(ry:Yo y u)
  (h:∀s',Inv X pins σ (upd H a (.ins C dx (Zd6 f y fs))) s'→Q () s'):wpAny (model X.prog X.w) A (setAttr (.ref a) f u) Q E s:=by
 obtain ⟨mA,O,r,wi,_,ho⟩:=Zg0 I.hok e
 have hz:(fs.map (·.1)).length≤sizeLine:=by rw [List.length_map,sizeLine_eq];omega
 refine Zsz I.kIn O c.sa c.po n.taker c.hd wi hz fun h' O' sb=>h _ ?_
 have hd:∃o,h'.get? dx=some o:=let ⟨o,_,_,e',_⟩:=O'.ns;⟨o,e'⟩
 refine I.write (x:=a) (e:=dx) (by rw [e];exact True.intro) (.inr ho) (fun b q hb z=>(sb.2 b hb).trans z) hd ?_
 refine ⟨by rw [Zi O.ne];exact ho,?_,O.ne,O'.obj,_,O'.ns,fun g=>?_,fun g hg=>?_⟩
 ·have:=Zgb f y fs;omega
 ·show Zde ((Zd6 f y fs).lookup g) (if g=f then some u else mA g)
  rw [Zge]
  by_cases q:g=f
  ·rw [if_pos q,if_pos q];exact ry
  ·rw [if_neg q,if_neg q];exact r g
 ·by_cases q:g=f
  ·rw [q];exact (Zfq f y fs).1
  ·refine (Zfq f y fs).2 g (wi g fun z=>hg ?_)
   show (if g=f then some u else mA g)=none
   rw [if_neg q];exact z
theorem Inv.made(I:Inv X pins σ H s):Inv X pins σ (upd (upd H s.heap.objs.size (.own (s.heap.objs.size+1))) (s.heap.objs.size+1) (.ins C s.heap.objs.size []))
  { s with heap:=(s.heap.push PySem.W.emptyDict).push (PySem.W.instObj C s.heap.objs.size) }:=by
 have e1:(s.heap.push PySem.W.emptyDict).get? s.heap.objs.size=some PySem.W.emptyDict:=Heap.get?_push_size s.heap rfl
 have e2:((s.heap.push PySem.W.emptyDict).push (PySem.W.instObj C s.heap.objs.size)).get? (s.heap.objs.size+1)=some (PySem.W.instObj C s.heap.objs.size):=by
  have:=Heap.get?_push_size (s.heap.push PySem.W.emptyDict) (o:=PySem.W.instObj C s.heap.objs.size) rfl
  rwa [Heap.size_push] at this
 have e3:(s.heap.push PySem.W.emptyDict).Ns s.heap.objs.size (fun _=>none):=⟨PySem.W.emptyDict,#[],_,e1,rfl,(fun e he=>absurd he (by simp)),fun _=>rfl⟩
 have I1:=I.laid (a:=s.heap.objs.size) (o:=.own (s.heap.objs.size+1)) (h':=s.heap.push PySem.W.emptyDict) (t':=s.toks) (fun b u q=>Heap.get?_push_of_some _ q) (Nat.le_refl _) ⟨_,e1⟩
 refine I1.laid (a:=s.heap.objs.size+1) (o:=.ins C s.heap.objs.size []) (t':=s.toks) (fun b u q=>Heap.get?_push_of_some _ q) (Nat.le_of_eq (Heap.size_push _ _)) ?_
 have ne:s.heap.objs.size≠s.heap.objs.size+1:=Nat.ne_of_lt (Nat.lt_succ_self _)
 refine ⟨by rw [Zi ne,Zj],Nat.zero_le _,ne,e2,fun _=>none,(Heap.Ns1.of_empty e3).at fun o q=>Heap.get?_push_of_some _ q,fun _=>True.intro,fun y hy=>absurd rfl hy⟩
theorem Ztz{prog:Program}{w:World}{env:Env}{e:Expr}{f:Str}{pos:Pos}{s:Shared}{Q:Value→Shared→Prop}(hb:attributeBase e f env (eval e env)=eval e env)
  (h:wpAny (model prog w) A (eval e env) (fun o s₁=>wpAny (model prog w) A (getAttr o f true) Q E s₁) E s):wpAny (model prog w) A (eval (.Attribute e f pos) env) Q E s :=
 Attribute_any_ h (by rw [arm_eval_Attribute,hb])
end
def Zx2(K:Frag)(ta:TE)(f:Str):TE:=fun σ H Q=>ta σ H fun x H1=>∃a C dx fs v,x=.ref a∧H1 a=some (.ins C dx fs)∧Cls K C∧X6 K C f∧fs.lookup f=some v∧Q v H1
def Zyh(K:Frag)(ta tv:TE)(f:Str):TS:=fun D σ H=>tv σ H fun y H1=>ta σ H1 fun x H2=>∃a C dx fs,x=.ref a∧H2 a=some (.ins C dx fs)∧Cls K C∧X6 K C f∧fs.length<1000 ∧
 D.nx σ (upd H2 a (.ins C dx (Zd6 f y fs)))
section
variable {X:Cx} {o e value:Expr} {f:Str} {pos pos' tpos:Pos} {ta tv:TE}
theorem Zhi(he:PE X e ta)(hb:attributeBase e f X.env (eval e X.env)=eval e X.env):PE X (.Attribute e f pos) (Zx2 X.K ta f):=by
 intro pins s σ H Q I h
 refine Ztz hb (thn (he pins s σ H _ I h) fun u s1 ⟨x,H1,I1,rx,a,C,dx,fs,v,ex,ea,c,n,l,q⟩=>?_)
 subst ex
 obtain rfl:u=Value.ref a:=rx
 exact Znh I1 ea c n l fun u' s2 I2 ru=>⟨v,H1,I2,ru,q⟩
theorem Zid(ha:PE X o ta)(hv:PE X value tv)(hs:swapsWith value (some (.Attribute o f pos')) pos.line X.env=pure false):PS X (.Assign [.Attribute o f pos'] value pos) (Zyh X.K ta tv f):=by
 intro pins s σ H D I h
 refine plainObj_wpAny_Assign_Attribute (thn (hv pins s σ H _ I h) fun u s1 ⟨y,H1,I1,ry,q⟩=>thn (ha pins s1 σ H1 _ I1 q) fun ov s2 ⟨x,H2,I2,rx,a,C,dx,fs,ex,ea,c,n,l,q2⟩=>?_) hs
 subst ex
 obtain rfl:ov=Value.ref a:=rx
 exact Zmo I2 ea c n l ry fun s3 I3=>⟨σ,_,I3,q2⟩
theorem Zt1{pl:Sem Bool}{m:Str}{apos:Pos}{args:List Expr}{pins:List (Addr×Obj)}{s:Shared}{σ:St}{H:Hp}{Q:Value→Shared→Prop}{te:TE}(he:PE X e te)(I:Inv X pins σ H s)
  (h:te σ H fun x H1=>∃a C dx fs g,x=.ref a∧H1 a=some (.ins C dx fs)∧Cls X.K C∧Zdd X.K C m g∧fs.lookup m=none ∧
   ∀s1,Inv X pins σ H1 s1→wpAny (model X.prog X.w) X.A (callWith pos (.ref g) [.ref a] (backTo pos (starEach args X.env)) (backToKw pos (keywordEach [] X.env))) Q X.xe s1)
  (ht:eval (.Call (.Attribute e m apos) args [] pos) X.env=(do
   let ov ←eval e X.env
   standAt apos.atName
   let (f,first) ←holding [ov] (getMethod ov m pl)
   callWith pos f first (backTo pos (starEach args X.env)) (backToKw pos (keywordEach [] X.env)))) :
  wpAny (model X.prog X.w) X.A (eval (.Call (.Attribute e m apos) args [] pos) X.env) Q X.xe s:=by
 refine PySem.W.methodCall_KW (pl:=pl) (thn (he pins s σ H _ I h) fun u s1 ⟨x,H1,I1,rx,a,C,dx,fs,g,ex,ea,c,k,l,q⟩=>?_) ht
 subst ex
 obtain rfl:u=Value.ref a:=rx
 exact Zhc I1 ea c k l (q s1 I1)
end
section
variable {X:Cx} {pins:List (Addr×Obj)} {σ:St} {H:Hp} {s:Shared} {A:Around} {E:Value→Shared→Prop} {Q:Value→Shared→Prop} {c:Value} {b:Bool}
inductive Zcz(K:Frag)(H:Hp):V→Value→Prop where
 | non:Zcz K H .non (.type "NoneType")
 | bl (x:Bool):Zcz K H (.bl x) (.type "bool")
 | int (i:Int):Zcz K H (.int i) (.type "int")
 | str (x:Str):Zcz K H (.str x) (.type "str")
 | flt (x:UInt64):Zcz K H (.flt x) (.type "float")
 | lst {a:Addr} {xs:List V} (e:H a=some (.lst xs)):Zcz K H (.ref a) (.type "list")
 | frz {a:Addr} {o:Obj} {xs:List V} (e:H a=some (.frz o (.lst xs))):Zcz K H (.ref a) (.type "list")
 | tup {a:Addr} {xs:List V} (e:H a=some (.tup xs)):Zcz K H (.ref a) (.type "tuple")
 | dK {a:Addr} {kvs:List (Key×V)} (e:H a=some (.dK kvs)):Zcz K H (.ref a) (.type "dict")
 | dT {a:Addr} {kvs:List (List Key×V)} (e:H a=some (.dT kvs)):Zcz K H (.ref a) (.type "dict")
 | ins {a C dx:Addr} {fs:List (Str×V)} (e:H a=some (.ins C dx fs)) (cl:Cls K C) (ha:findIn K (.ref C) "__class__" =some (some (.builtin "object.__class__")))
   (hn:PySem.W.specialIn K (.builtin "object.__class__") "__get__" =some (some (.builtin "getset_descriptor.__get__"))) (htk:PySem.W.takesIn K (.builtin "object.__class__")=some true)
   (hm:PySem.W.mroIn K C (.type "object")=some true):Zcz K H (.ref a) (.ref C)
theorem Zjz{x:V}{u t:Value}(I:Inv X pins σ H s)(rx:Yo x u)(ty:Zcz X.K H x t)(e:kitOne X.K t c=some b)(h:∀tk,Q (.bool b) { s with toks:=tk }) :
  wpAny (model X.prog X.w) A (call (.builtin "isinstance") [u,c]) Q E s:=by
 cases ty with
 | non=>cases (show u=Value.none from rx);exact PySem.W.kia_one PySem.W.kitx_none I.kIn True.intro e (fun z=>nomatch z) h
 | bl y=>cases (show u=Value.bool y from rx);exact PySem.W.kia_one PySem.W.kitx_bool I.kIn True.intro e (fun z=>nomatch z) h
 | int i=>obtain ⟨t,q⟩:=(show ∃t,u=Value.int i t from rx);cases q;exact PySem.W.kia_one PySem.W.kitx_int I.kIn True.intro e (fun z=>nomatch z) h
 | str y=>obtain ⟨t,q⟩:=(show ∃t,u=Value.str y t from rx);cases q;exact PySem.W.kia_one PySem.W.kitx_str I.kIn True.intro e (fun z=>nomatch z) h
 | flt y=>obtain ⟨t,q⟩:=(show ∃t,u=Value.float y t from rx);cases q;exact PySem.W.kia_one PySem.W.kitx_float I.kIn True.intro e (fun z=>nomatch z) h
 | @lst a xs ea =>
  cases (show u=Value.ref a from rx)
  obtain ⟨_,_,n,_,h1⟩:=(show Yu X.prog X.w H s.heap a (.lst xs) from I.hok a _ ea)
  exact PySem.W.kia_one PySem.W.kitx_list I.kIn ⟨_,h1,rfl⟩ e (fun z=>nomatch z) h
 | @frz a ob xs ea =>
  cases (show u=Value.ref a from rx)
  obtain ⟨_,_,_,n,_,h1⟩:=(show Yu X.prog X.w H s.heap a (.frz ob (.lst xs)) from I.hok a _ ea)
  exact PySem.W.kia_one PySem.W.kitx_list I.kIn ⟨_,h1,rfl⟩ e (fun z=>nomatch z) h
 | @tup a xs ea =>
  cases (show u=Value.ref a from rx)
  obtain ⟨_,_,_,p⟩:=(show Yu X.prog X.w H s.heap a (.tup xs) from I.hok a _ ea)
  obtain ⟨o,h1,h2,_⟩:=p
  exact PySem.W.kia_one PySem.W.kitx_tuple I.kIn ⟨o,h1,h2⟩ e (fun z=>nomatch z) h
 | @dK a kvs ea =>
  cases (show u=Value.ref a from rx)
  obtain ⟨_,_,vs,_,p⟩:=(show Yu X.prog X.w H s.heap a (.dK kvs) from I.hok a _ ea)
  obtain ⟨o,es,ep,h1,h2,_⟩:=p
  exact PySem.W.kia_one PySem.W.kitx_dict I.kIn ⟨o,h1,h2.1⟩ e (fun z=>nomatch z) h
 | @dT a kvs ea =>
  cases (show u=Value.ref a from rx)
  obtain ⟨_,_,xs,_,o,es,ep,h1,h2,_⟩:=(show Yu X.prog X.w H s.heap a (.dT kvs) from I.hok a _ ea)
  exact PySem.W.kia_one PySem.W.kitx_dict I.kIn ⟨o,h1,h2.1⟩ e (fun z=>nomatch z) h
 | @ins a C dx fs ea cl ha hn htk hm =>
  cases (show u=Value.ref a from rx)
  obtain ⟨mA,O,_⟩:=Zg0 I.hok ea
  obtain ⟨od,J,_⟩:=O.look
  exact PySem.W.kia_one (PySem.W.kitx_own (cl.get _) cl.hd ha hn htk hm) I.kIn J e (fun z=>nomatch z) h
end
end L2
namespace L2
open PySem PySem.Spec PyProof.Rows
structure W8(k:Nat)(A:Around):Prop where
 hd:A.handled=none
 dp:A.depth+3 * k+5<recursionLimit
 un:A.units+16 * k+200<cLine
theorem W8.mono{j k:Nat}{A:Around}(r:W8 k A)(h:j≤k):W8 j A:=⟨r.hd,by have:=r.dp;omega,by have:=r.un;omega⟩
theorem W8.deeper{k:Nat}{A:Around}(r:W8 (k+1) A)(env:Env):W8 k (A.deeper env) :=
 ⟨r.hd,by have:=r.dp;show A.depth+1+3 * k+5<_;omega,by have:=r.un;show A.units+3+16 * k+200<_;omega⟩
theorem Znq{A:Around}{C:Addr}{us:List Value}{kw:List (Str×Value)}:(A.under (.builtin "type.__call__" ⟨.ref C ::us,kw⟩)).depth=A.depth+1:=by
 first | rfl | simp [Around.under,Code.weight,Code.isCreation,Code.isGuard,Code.isCaller,Code.frames,Code.isFrame,guardIds]
theorem Znd{A:Around}{C:Addr}{us:List Value}{kw:List (Str×Value)}:(A.under (.builtin "type.__call__" ⟨.ref C ::us,kw⟩)).units=A.units+1:=by
 first | rfl | simp [Around.under,Code.cUnits,Code.frames,Code.isFrame]
theorem W8.make{k:Nat}{A:Around}(r:W8 (k+1) A)(C:Addr)(us:List Value)(kw:List (Str×Value)):W8 k (A.under (.builtin "type.__call__" ⟨.ref C ::us,kw⟩)) :=
 ⟨r.hd,by have:=r.dp;rw [Znq];omega,by have:=r.un;rw [Znd];omega⟩
theorem W8.depth{k:Nat}{A:Around}(r:W8 k A):A.depth<recursionLimit:=by have:=r.dp;omega
theorem W8.units{k:Nat}{A:Around}(r:W8 k A):A.units+64<cLine:=by have:=r.un;omega
def Zst:TA:=fun _ H Q=>Q [] H
def Zi7(ta:TE)(tr:TA):TA:=fun σ H Q=>ta σ H fun x H1=>tr σ H1 fun xs H2=>Q (x ::xs) H2
section
variable {X:Cx} {e:Expr} {es:List Expr} {te:TE} {t:TA} {pos:Pos}
theorem Za:PA X [] Zst:=fun _ _ _ _ H Q I h=>Calls.spliced_nil ⟨[],H,I,.nil,h⟩
theorem Ztk(ha:PE X e te)(hr:PA X es t)(hs:starEach (e ::es) X.env=(false,eval e X.env) ::starEach es X.env:=by rfl):PA X (e ::es) (Zi7 te t):=by
 intro pos pins s σ H Q I h
 rw [hs]
 show wpAny _ _ (spliced ((false,eval e X.env) ::backTo pos (starEach es X.env))) _ _ s
 refine Calls.spliced_cons (thn (ha pins s σ H _ I h) fun u s1 ⟨x,H1,I1,r1,q1⟩=>?_)
 exact thn (hr pos pins s1 σ H1 _ I1 q1) fun us s2 ⟨xs,H2,I2,r2,q2⟩=>⟨x ::xs,H2,I2,.cons r1 r2,q2⟩
end
abbrev Sp:=List V→Hp→VK→XK→Prop
abbrev CXT:=List Env→Hp→Shared→XK→Value→Shared→Prop
structure Zkk(P:Program)(w:World)(K:Frag)(mg:Str→Option Value)(base:Heap)(A:Around)(outer:List Env)(s:Shared)(H:Hp):Prop where
 frames:A.frames=some outer
 mod:Mod K mg base
 bs:∀b o,base.get? b=some o→s.heap.get? b=some o∧H b=none
 bsz:base.objs.size≤s.heap.objs.size
 funs:s.heap.FunFrames base outer
 frf:∀b∈frs outer,H b=none
 hok:HOk P w H s.heap
 bare:AllBare s.gens
def CE(outer:List Env)(P:Program)(w:World)(H:Hp)(s:Shared)(Q:VK)(u:Value)(s':Shared):Prop :=
 ∃v H',s'.os=s.os∧AllBare s'.gens∧Un (frs outer) [] H H' s.heap s'.heap∧HOk P w H' s'.heap∧Yo v u∧Q v H'
def CR(CX:CXT)(outer:List Env)(P:Program)(w:World)(H:Hp)(s:Shared)(Q:VK)(E:XK)(r:Result)(s':Shared):Prop :=
 match r with
 | .ok (.ret u)=>CE outer P w H s Q u s'
 | .ok _=>False
 | .error e=>CX outer H s E e s'
structure Yf(P:Program)(w:World)(K:Frag)(mg:Str→Option Value)(base:Heap)(CX:CXT)(k:Nat)(f:Addr)(fd:FuncData)(ps:List Str)(sp:Sp):Prop where
 len:∀vs H Q E,sp vs H Q E→vs.length=ps.length
 run:∀(A:Around) (outer:List Env) (s:Shared) (H:Hp) (args:Args) (us:List Value) (vs:List V) (Q:VK) (E:XK),W8 k A→Zkk P w K mg base A outer s H→BindsTo s fd args (ps.zip us)→Yd vs us→sp vs H Q E →
  codeAny (model P w) A (.call (.ref f) args) (CR CX outer P w H s Q E) s
theorem Yf.mono{P:Program}{w:World}{K:Frag}{mg:Str→Option Value}{base:Heap}{CX:CXT}{j k:Nat}{f:Addr}{fd:FuncData}{ps:List Str}{sp:Sp}(F:Yf P w K mg base CX j f fd ps sp)(h:j≤k) :
  Yf P w K mg base CX k f fd ps sp:=⟨F.len,fun A outer s H args us vs Q E hr=>F.run A outer s H args us vs Q E (hr.mono h)⟩
theorem Zkk.make{P:Program}{w:World}{K:Frag}{mg:Str→Option Value}{base:Heap}{A:Around}{outer:List Env}{s:Shared}{H:Hp}(e:Zkk P w K mg base A outer s H)(C:Addr)(us:List Value)(kw:List (Str×Value)) :
  Zkk P w K mg base (A.under (.builtin "type.__call__" ⟨.ref C ::us,kw⟩)) outer s H:=⟨by first | exact e.frames | (simpa [Around.under,Code.envs,Code.isFrame,pushEnvs] using e.frames),e.mod,e.bs,e.bsz,e.funs,e.frf,e.hok,e.bare⟩
section
variable {X:Cx} {pins:List (Addr×Obj)} {σ:St} {H:Hp} {s s':Shared}
theorem Inv.env0(I:Inv X pins σ H s):Zkk X.prog X.w X.K X.mg X.base X.A X.stack s H :=
 ⟨I.ok.frames,I.ok.mod,I.bs,Nat.le_trans I.ok.bsz I.sz,I.stack,I.stkFree,I.hok,I.bare⟩
theorem Inv.after{Q:VK}{u:Value}(I:Inv X pins σ H s)(h:CE X.stack X.prog X.w H s Q u s'):EP X pins σ Q u s':=by
 obtain ⟨v,H',os,bare,un,hok,r,q⟩:=h
 obtain ⟨hh,g,d,t,os'⟩:=s'
 obtain rfl:os'=s.os:=os
 exact ⟨v,H',I.call (h':=hh) (g':=g) (d':=d) (t':=t) (ch:=[]) un hok bare (fun b z=>absurd z (by simp)),r,q⟩
end
def Zt8(sp:Sp)(dvs:List V)(E:XK)(t:TA):TE:=fun σ H Q=>t σ H fun vs H1=>sp (vs++dvs) H1 Q E
def Zwd(C:Addr)(m:Str)(sp:Sp)(dvs:List V)(E:XK)(ta:TE)(t:TA):TE:=fun σ H Q=>ta σ H fun x H1=>∃a dx fs,x=.ref a∧H1 a=some (.ins C dx fs)∧fs.lookup m=none ∧
 t σ H1 fun vs H2=>sp (x ::(vs++dvs)) H2 Q E
def Zb4(K:Frag)(fd:FuncData)(ps:List Str)(ds:List Value):Prop :=
 ∀(s:Shared) (us:List Value),K.In s.heap→(us++ds).length=ps.length→BindsTo s fd ⟨us,[]⟩ (ps.zip (us++ds))
theorem Zb4.all{K:Frag}{fd:FuncData}{ps:List Str}(h:∀us:List Value,us.length=ps.length→bindArgs fd ⟨us,[]⟩=pure (ps.zip us)):Zb4 K fd ps []:=fun s us _ hl=>by
 rw [List.append_nil] at hl ⊢
 exact .of_eq (h us hl)
def Zbj(CX:CXT)(X:Cx)(E:XK):Prop:=∀(pins:List (Addr×Obj)) (σ:St) (H:Hp) (s:Shared) (e:Value) (s':Shared),Inv X pins σ H s→CX X.stack H s E e s'→X.xe e s'
section
variable {X:Cx} {CX:CXT} {k:Nat} {f C:Addr} {fd:FuncData} {ps:List Str} {sp:Sp} {dvs:List V} {ds:List Value} {E:XK} {x m:Str} {p pos apos:Pos} {e o:Expr} {es:List Expr} {ta:TE} {t:TA}
theorem Zr6{pins:List (Addr×Obj)}{σ:St}{H:Hp}{s:Shared}{Q:VK}{us:List Value}{vs:List V}(F:Yf X.prog X.w X.K X.mg X.base CX k f fd ps sp)(hr:W8 k X.A)(hb:Zb4 X.K fd ps ds)(hd:Yd dvs ds)(hx:Zbj CX X E)
  (I:Inv X pins σ H s) (r:Yd vs us) (h:sp (vs++dvs) H Q E):wpAny (model X.prog X.w) X.A (call (.ref f) us) (EP X pins σ Q) X.xe s:=by
 have r2:Yd (vs++dvs) (us++ds):=r.append hd
 have hl:(us++ds).length=ps.length:=by rw [←r2.length];exact F.len _ _ _ _ h
 refine wpAny_call (codeAny_mono (F.run X.A X.stack s H ⟨us,[]⟩ (us++ds) (vs++dvs) Q E hr I.env0 (hb s us I.kIn hl) r2 h) fun r s' hq=>?_)
 cases r with
 | error e=>exact hx pins σ H s e s' I hq
 | ok fl =>
  cases fl with
  | ret u=>exact I.after hq
  | next=>exact False.elim hq
  | brk=>exact False.elim hq
  | cont=>exact False.elim hq
theorem Z5(F:Yf X.prog X.w X.K X.mg X.base CX k f fd ps sp)(hr:W8 k X.A)(hg:Gl X x)(hm:X.mg x=some (.ref f))(hk:keepIn X.K (.ref f)=true)(hb:Zb4 X.K fd ps ds)(hd:Yd dvs ds)(hx:Zbj CX X E)
  (ha:PA X (e ::es) t) (hdb:(x ==("__debug__" :Str))=false:=by decide) (he:starEach (e ::es) X.env=(false,eval e X.env) ::starEach es X.env:=by rfl) (hpl:(backTo pos (starEach es X.env)).any (·.1)=false:=by rfl) :
  PE X (.Call (.Name x p) (e ::es) [] pos) (Zt8 sp dvs E t):=by
 intro pins s σ H Q I h
 refine wpAny_Call_Name_kw (Zd3 I hg hm ?_ hdb)
 refine PySem.W.callWith_K (h₀:=X.base) I.ok.mod.kin hk (thn (ha pos pins s σ H _ I h) fun us s1 ⟨vs,H1,I1,r,q⟩=>⟨I1.kIn,?_⟩) he hpl
 exact Zr6 F hr hb hd hx I1 r q
theorem Ze0{pl:Sem Bool}(he:PE X o ta)(c:Cls X.K C)(hm:Zdd X.K C m f)(F:Yf X.prog X.w X.K X.mg X.base CX k f fd ps sp)(hr:W8 k X.A)(hb:Zb4 X.K fd ps ds)(hd:Yd dvs ds)(hx:Zbj CX X E)
  (ht:eval (.Call (.Attribute o m apos) [] [] pos) X.env=(do
   let ov ←eval o X.env
   standAt apos.atName
   let (f,first) ←holding [ov] (getMethod ov m pl)
   callWith pos f first (backTo pos (starEach [] X.env)) (backToKw pos (keywordEach [] X.env))):=by rfl) :
  PE X (.Call (.Attribute o m apos) [] [] pos) (Zwd C m sp dvs E ta Zst):=by
 intro pins s σ H Q I h
 refine PySem.W.methodCall_KW (pl:=pl) (thn (he pins s σ H _ I h) fun u s1 ⟨x,H1,I1,rx,a,dx,fs,ex,ea,l,q⟩=>?_) ht
 subst ex
 obtain rfl:u=Value.ref a:=rx
 refine Zhc I1 ea c hm l ?_
 exact PySem.W.callWith_K0 (first:=[.ref a]) I1.kIn hm.kp (Zr6 (us:=[.ref a]) (vs:=[.ref a]) F hr hb hd hx I1 (.cons rfl .nil) q)
structure Mk(K:Frag)(C f:Addr):Prop where
 makes:PySem.W.makesIn K C=true
 init:findIn K (.ref C) "__init__" =some (some (.ref f))
 fn:PySem.W.isFn K (.ref f)=true
 kp:keepIn K (.ref C)=true
theorem Zqo{pins:List (Addr×Obj)}{σ:St}{H:Hp}{s:Shared}{Q:VK}{us:List Value}{vs:List V}(M:Mk X.K C f)(F:Yf X.prog X.w X.K X.mg X.base CX k f fd ps sp)(hr:W8 (k+1) X.A)(hb:Zb4 X.K fd ps ds)(hd:Yd dvs ds)
  (hx:Zbj CX X E) (I:Inv X pins σ H s) (r:Yd vs us)
  (h:∀x dx,H x=none→H dx=none→dx≠x→sp (.ref x ::(vs++dvs)) (upd (upd H dx (.own x)) x (.ins C dx [])) (fun v H2=>v=.non∧Q (.ref x) H2) E) :
  wpAny (model X.prog X.w) X.A (call (.ref C) us) (EP X pins σ Q) X.xe s:=by
 have hq:=h (s.heap.objs.size+1) s.heap.objs.size (I.hok.fresh (Nat.le_succ _)) (I.hok.fresh (Nat.le_refl _)) (Nat.ne_of_lt (Nat.lt_succ_self _))
 have I2:=Inv.made (C:=C) I
 have r2:Yd (V.ref (s.heap.objs.size+1) ::(vs++dvs)) (Value.ref (s.heap.objs.size+1) ::(us++ds)):=.cons rfl (r.append hd)
 have hl:(Value.ref (s.heap.objs.size+1) ::us++ds).length=ps.length:=by
  have e:=r2.length
  rw [F.len _ _ _ _ hq] at e
  exact e.symm
 refine wpAny_call (Zrq (f:=f) I.kIn M.makes M.init (beq_iff_eq.mp M.fn) (codeAny_mono (F.run _ X.stack _ _ ⟨Value.ref (s.heap.objs.size+1) ::us,[]⟩ (Value.ref (s.heap.objs.size+1) ::(us++ds)) _ _ E (hr.make C us [])
  (I2.env0.make C us []) (hb _ (Value.ref (s.heap.objs.size+1) ::us) I2.kIn hl) r2 hq) fun r s' hq'=>?_))
 cases r with
 | error e=>exact hx pins σ _ _ e s' I2 hq'
 | ok fl =>
  cases fl with
  | ret u =>
   obtain ⟨v,H',I3,rv,ev,q3⟩:=I2.after hq'
   subst ev
   exact ⟨rv,⟨V.ref (s.heap.objs.size+1),H',I3,rfl,q3⟩⟩
  | next=>exact False.elim hq'
  | brk=>exact False.elim hq'
  | cont=>exact False.elim hq'
end
section
variable {X:Cx} {CX:CXT} {k:Nat} {f C:Addr} {fd:FuncData} {ps ks:List Str} {sp:Sp} {E:XK} {x m:Str} {p pos apos kpos:Pos} {e o:Expr} {es:List Expr} {kws:List Keyword} {te ta:TE} {t tk:TA} {nm:Option Str}
variable {g:List Value→List Value→List Value} {gV:List V→List V→List V}
end
structure Z3(N P:List Str)(sc:Scope):Prop where
 kind:sc.kind=.function
 co:sc.isCoroutine=false
 gen:sc.isGenerator=false
 nd:N.Nodup
 pre:N.take P.length=P
 par:∀x∈P,sc.names.lookup x=some .local∨sc.names.lookup x=some .cell
 nofree:∀y∈sc.names,y.2 ≠ .free
theorem Zj2{kindOf:Str→Option NameKind}{x:Str}:∀{binds:List (Str×Value)} {m:Str→Option Value},(∀v,(x,v)∉binds)→bindL kindOf binds m x=m x
 | [],_,_=>rfl
 | (n,v) ::r,m,h=>by
  unfold bindL
  rw [Zj2 fun w hw=>h w (List.mem_cons_of_mem _ hw)]
  split
  ·have:x≠n:=by rintro rfl;exact h v List.mem_cons_self
   simp [this]
  ·rfl
theorem Zi9{kindOf:Str→Option NameKind}{x:Str}:∀{binds:List (Str×Value)} {m:Str→Option Value},(∀v,(x,v)∉binds)→bindC kindOf binds m x=m x
 | [],_,_=>rfl
 | (n,v) ::r,m,h=>by
  unfold bindC
  rw [Zi9 fun w hw=>h w (List.mem_cons_of_mem _ hw)]
  split
  ·rfl
  ·have:x≠n:=by rintro rfl;exact h v List.mem_cons_self
   simp [this]
theorem Zfu{kindOf:Str→Option NameKind}{x:Str}{v:Value}:∀{P:List Str} {vs:List Value} {i:Nat} {m:Str→Option Value},P.Nodup→P[i]? =some x→vs[i]? =some v→kindOf x=some .local →
  bindL kindOf (P.zip vs) m x=some v
 | [],_,_,_,_,h,_,_=>by simp at h
 | _ ::_,[],_,_,_,_,h,_=>by simp at h
 | p ::P,w ::vs,0,m,nd,h1,h2,hk=>by
  simp at h1 h2;subst h1;subst h2
  show bindL kindOf ((p,w) ::P.zip vs) m p=_
  unfold bindL
  rw [Zj2 fun v hv=>(List.nodup_cons.mp nd).1 (List.of_mem_zip hv).1,if_pos hk]
  simp
 | p ::P,w ::vs,i+1,m,nd,h1,h2,hk=>by
  show bindL kindOf ((p,w) ::P.zip vs) m x=_
  unfold bindL
  exact Zfu (i:=i) (List.nodup_cons.mp nd).2 (by simpa using h1) (by simpa using h2) hk
theorem Zfs{kindOf:Str→Option NameKind}{x:Str}{v:Value}:∀{P:List Str} {vs:List Value} {i:Nat} {m:Str→Option Value},P.Nodup→P[i]? =some x→vs[i]? =some v→kindOf x≠some .local →
  bindC kindOf (P.zip vs) m x=some v
 | [],_,_,_,_,h,_,_=>by simp at h
 | _ ::_,[],_,_,_,_,h,_=>by simp at h
 | p ::P,w ::vs,0,m,nd,h1,h2,hk=>by
  simp at h1 h2;subst h1;subst h2
  show bindC kindOf ((p,w) ::P.zip vs) m p=_
  unfold bindC
  rw [Zi9 fun v hv=>(List.nodup_cons.mp nd).1 (List.of_mem_zip hv).1,if_neg hk]
  simp
 | p ::P,w ::vs,i+1,m,nd,h1,h2,hk=>by
  show bindC kindOf ((p,w) ::P.zip vs) m x=_
  unfold bindC
  exact Zfs (i:=i) (List.nodup_cons.mp nd).2 (by simpa using h1) (by simpa using h2) hk
def start(N:List Str)(vs:List V):St:=vs.map some++List.replicate (N.length-vs.length) none
def Zck(CX:CXT)(P:Program)(w:World)(K:Frag)(mg:Str→Option Value)(base:Heap)(N:List Str)(qual:Str)(scope:Scope)(f:Addr)(cd:Value)(A:Around)(outer:List Env)(s:Shared)(H:Hp)(E:XK):Cx where
 prog:=P
 w:=w
 K:=K
 mg:=mg
 base:=base
 A:=A.deeper (envOfC qual scope s.heap.objs.size f cd)
 N:=N
 s₀:=s
 H₀:=H
 env:=envOfC qual scope s.heap.objs.size f cd
 outer:=outer
 stack:=envOfC qual scope s.heap.objs.size f cd ::outer
 ex:=[]
 calm:=true
 fn:=fun _=>true
 pn:=[]
 xe:=fun e s'=>wpAny (model P w) (A.deeper (envOfC qual scope s.heap.objs.size f cd)) (leaving (envOfC qual scope s.heap.objs.size f cd) e) (fun _ s''=>CX outer H s E e s'') (fun e' s''=>CX outer H s E e' s'') s'
theorem Zez{sc:Scope}{n:Nat}{x:Str}(h:sc.names.lookup x=some .cell):∃c,(cellsFrom n sc.names []).lookup x=some c:=by
 have q:=PySem.W.cellsFrom_some sc.names n [] (.inl h)
 exact Option.isSome_iff_exists.mp q
theorem Zp2{CX:CXT}{P:Program}{w:World}{K:Frag}{mg:Str→Option Value}{base:Heap}{N ps:List Str}{qual:Str}{scope:Scope}{f:Addr}{cd:Value}{A:Around}{outer:List Env}{s s1:Shared}{H:Hp}{E:XK}{us:List Value}{vs:List V}
  (S:Z3 N ps scope) (hd:A.handled=none) (e0:Zkk P w K mg base A outer s H) (hl:vs.length=ps.length) (r:Yd vs us)
  (x:InCallC s s.heap.objs.size (bindL (envOfC qual scope s.heap.objs.size f cd).kindOf (ps.zip us) fun _=>none) (cellsFrom (s.heap.objs.size+1) scope.names []) (bindC (envOfC qual scope s.heap.objs.size f cd).kindOf (ps.zip us) fun _=>none) s1) :
  Inv (Zck CX P w K mg base N qual scope f cd A outer s H E) [] (start N vs) H s1:=by
 have hpl:ps.length≤N.length:=by have:=congrArg List.length S.pre;rw [List.length_take] at this;omega
 obtain ⟨h1,tk,rfl,hk⟩:=x.done
 have noA:∀b:Addr,b∉(Zck CX P w K mg base N qual scope f cd A outer s H E).ex:=fun b z=>absurd (show b∈([]:List Addr) from z) (by simp)
 refine ⟨⟨e0.mod,S.kind,rfl,rfl,Nat.le_refl _,fun y z c h1 h2=>?_,fun y hy=>?_,fun y c _ h=>?_,fun _=>hd,Around.frames_deeper e0.frames,.inr ⟨rfl,rfl⟩,fun b z=>absurd z (noA b),e0.bs,e0.bsz,fun b _ _=>noA b,fun b z=>absurd z (noA b),e0.funs,e0.frf⟩,
  rfl,e0.bare,Un.kept hk,⟨_,x.toInCall.ns,fun i y v h1 h2 h3=>?_⟩,fun y c h=>⟨_,x.cell y c h⟩,e0.hok.fresh (Nat.le_refl _),fun y c h=>?_,fun p hp=>absurd (show p∈([]:List (Addr×Obj)) from hp) (by simp),e0.hok.kept hk,?_⟩
 ·exact name_of_addr x.apart (PySem.mem_of_lookup h1) (PySem.mem_of_lookup h2)
 ·have hy:scope.names.lookup y=some .cell∨scope.names.lookup y=some .free:=hy
  rcases hy with hy|hy
  ·exact Zez hy
  ·exact absurd rfl (S.nofree _ (PySem.mem_of_lookup hy))
 ·exact Nat.le_of_lt (x.above y c (PySem.mem_of_lookup h))
 ·have hi:i<vs.length:=by
   unfold start at h2
   by_cases hi:i<vs.length
   ·exact hi
   ·rw [List.getElem?_append_right (by simpa using hi)] at h2
    rw [List.getElem?_replicate] at h2
    split at h2 <;>cases h2
  have ha:vs[i]? =some v:=by
   unfold start at h2
   rw [List.getElem?_append_left (by simpa using hi),List.getElem?_map] at h2
   cases e:vs[i]? with
   | none=>rw [e] at h2;cases h2
   | some a=>rw [e] at h2;cases h2;rfl
  obtain ⟨u,hu,rv⟩:=r.get ha
  have hp:ps[i]? =some y:=by
   rw [←S.pre,List.getElem?_take_of_lt (by omega)];exact h1
  have ndP:ps.Nodup:=by rw [←S.pre];exact S.nd.sublist (List.take_sublist _ _)
  refine ⟨u,rv,?_⟩
  rcases S.par y (List.mem_of_getElem? hp) with k|k
  ·exact .inl ⟨k,Zfu ndP hp hu k⟩
  ·obtain ⟨c,e⟩:=Zez (n:=s.heap.objs.size+1) k
   refine .inr ⟨.inl k,c,e,?_⟩
   have q:=x.cell y c e
   rw [Zfs ndP hp hu (by show scope.names.lookup y≠_;rw [k];decide)] at q
   exact q
 ·exact e0.hok.fresh (Nat.le_of_lt (x.above y c (PySem.mem_of_lookup h)))
 ·unfold start
  show _=N.length
  rw [List.length_append,List.length_map,List.length_replicate]
  omega
theorem Zr3{CX:CXT}{P:Program}{w:World}{K:Frag}{mg:Str→Option Value}{base:Heap}{k:Nat}{f:Addr}{name qual:Str}{params:Arguments}{body:List Stmt}{scope:Scope}{dV kV doc pm cdv ct oc:Value}{an od:Option Addr}
  {osl:Array (Option Value)} {N ps:List Str} {sp:Sp} (lk:K.lookup f=some ⟨oc,od,.func (fnOf name qual params body scope dV kV doc pm an cdv ct),osl⟩) (hcd:codeIn K cdv qual=true) (S:Z3 N ps scope)
  (len:∀vs H Q E,sp vs H Q E→vs.length=ps.length)
  (hbody:∀(A:Around) (outer:List Env) (s:Shared) (H:Hp) (vs:List V) (Q:VK) (E:XK),W8 k (A.deeper (envOfC qual scope s.heap.objs.size f cdv))→sp vs H Q E →
   ∃t,PSs (Zck CX P w K mg base N qual scope f cdv A outer s H E) body t∧t { nx:=fun _ H'=>Q .non H',rt:=Q } (start N vs) H) :
  Yf P w K mg base CX (k+1) f (fnOf name qual params body scope dV kV doc pm an cdv ct) ps sp:=by
 refine ⟨len,fun A outer s H args us vs Q E hr e0 hb r hsp=>?_⟩
 have hl:=len _ _ _ _ hsp
 have KX:K.In s.heap:=e0.mod.kin.keeps fun b o e=>(e0.bs b o e).1
 have lim:s.heap.NoLimit:=e0.mod.nolimit.keeps fun b o e=>(e0.bs b o e).1
 have hkind:∀y∈ps.zip us,scope.names.lookup y.1=some .local∨(scope.names.lookup y.1=some .cell∧((cellsFrom (s.heap.objs.size+1) scope.names []).lookup y.1).isSome=true):=fun ⟨n,v⟩ hy=>by
  rcases S.par n (List.of_mem_zip hy).1 with q|q
  ·exact .inl q
  ·exact .inr ⟨q,PySem.W.cellsFrom_some _ _ _ (.inl q)⟩
 refine codeAny_call_function hr.depth (KX _ _ lk) rfl S.co S.gen rfl (PySem.W.codeRec_of KX hcd) (hb _ _ _ _ ?_)
 refine wpAny_newFunctionEnv_cells S.kind hkind fun env he s1 x=>?_
 subst he
 refine ⟨lim.keeps x.toInCall.keep,codeAny_func ?_⟩
 obtain ⟨t,ht,hq⟩:=hbody A outer s H vs Q E (hr.deeper _) hsp
 have I:Inv (Zck CX P w K mg base N qual scope f cdv A outer s H E) [] (start N vs) H s1:=Zp2 S hr.hd e0 hl r x
 refine wpAny_mono (ht [] s1 (start N vs) H _ I hq) (fun fl s' hs=>?_) fun e s' hs=>hs
 have fin:∀{σ':St} {H':Hp} {v:V} {u:Value},Inv (Zck CX P w K mg base N qual scope f cdv A outer s H E) [] σ' H' s'→Yo v u→Q v H'→CE outer P w H s Q u s' :=
  fun {σ' H' v u} J rv q=>⟨v,H',J.os,J.bare,J.base,J.hok,rv,q⟩
 cases fl with
 | ret u =>
  obtain ⟨v,σ',H',J,rv,q⟩:=hs
  exact fin J rv q
 | next =>
  obtain ⟨σ',H',J,q⟩:=hs
  exact fin (v:=V.non) (u:=Value.none) J rfl q
 | brk =>
  obtain ⟨_,_,_,q⟩:=hs
  exact False.elim q
 | cont =>
  obtain ⟨_,_,_,q⟩:=hs
  exact False.elim q
end L2
namespace L2
open PySem PySem.Spec PyProof.Rows
section
variable {X:Cx} {x:Str} {p pos:Pos} {e:Expr} {es:List Expr} {t:TA} {id T:String} {r:List V→Hp→VK→Prop}
def tCB(r:List V→Hp→VK→Prop)(t:TA):TE:=fun σ H Q=>t σ H fun vs H1=>r vs H1 Q
theorem Zp(hc:Xs X (.builtin id) r)(hg:Gl X x)(hm:X.mg x=none)(hv:bootBuiltins x=some (.builtin id))(ha:PA X (e ::es) t) (hn:x ≠ "__name__" :=by decide) (hdb:(x ==("__debug__" :Str))=false:=by decide)
  (he:starEach (e ::es) X.env=(false,eval e X.env) ::starEach es X.env:=by rfl) (hpl:(backTo pos (starEach es X.env)).any (·.1)=false:=by rfl):PE X (.Call (.Name x p) (e ::es) [] pos) (tCB r t):=by
 intro pins s σ H Q I h
 refine wpAny_Call_Name_kw (Zdf I hg hm hv ?_ hn hdb)
 exact PyProof.Rows.callWith_builtin1 (thn (ha pos pins s σ H _ I h) fun us s1 ⟨vs,H1,I1,r1,q1⟩=>hc pins s1 σ H1 vs us Q I1 r1 q1) he hpl
theorem Y4(hc:Xs X (.type T) r)(hg:Gl X x)(hm:X.mg x=none)(hv:bootBuiltins x=some (.type T))(ha:PA X (e ::es) t) (hn:x ≠ "__name__" :=by decide) (hdb:(x ==("__debug__" :Str))=false:=by decide)
  (he:starEach (e ::es) X.env=(false,eval e X.env) ::starEach es X.env:=by rfl) (hpl:(backTo pos (starEach es X.env)).any (·.1)=false:=by rfl):PE X (.Call (.Name x p) (e ::es) [] pos) (tCB r t):=by
 intro pins s σ H Q I h
 refine wpAny_Call_Name_kw (Zdf I hg hm hv ?_ hn hdb)
 exact PyProof.Rows.callWith_type1 (thn (ha pos pins s σ H _ I h) fun us s1 ⟨vs,H1,I1,r1,q1⟩=>hc pins s1 σ H1 vs us Q I1 r1 q1) he hpl
end
end L2
namespace HT
open PySem PyProof.Rows
section
open PySem.SeqAt
open PySem.AutoSeq1 (wpAny_loadPart')
open PySem.MeetsSeq PySem.MeetsSeq2 PySem.MeetsSeq3
end
section
variable {prog:Program} {w:World} {A:Around} {E:Value→Shared→Prop} {s:Shared}
def sIx(n d:Nat):Option Int→Nat
 | none=>d
 | some v=>if v<0 then (v+(n:Int)).toNat else min v.toNat n
theorem sIx_none(n d:Nat):sIx n d none=d:=rfl
theorem sIx_nat(n d k:Nat):sIx n d (some (k:Int))=min k n:=by
 show (if (k:Int)<0 then ((k:Int)+(n:Int)).toNat else min (k:Int).toNat n)=min k n
 rw [if_neg (by omega),Int.toNat_natCast]
theorem Zu4(n d:Nat)(hd:d≤n)(o:Option Int):sIx n d o≤n:=by
 cases o with
 | none=>exact hd
 | some v =>
  show (if v<0 then (v+(n:Int)).toNat else min v.toNat n)≤n
  by_cases hv:v<0
  ·rw [if_pos hv];omega
  ·rw [if_neg hv];exact Nat.min_le_right _ _
theorem Zoe(v:Int)(n d:Nat):(if v<0 then max (v+(n:Int)) 0 else min v (n:Int))=((sIx n d (some v):Nat):Int):=by
 show (if v<0 then max (v+(n:Int)) 0 else min v (n:Int))=(((if v<0 then (v+(n:Int)).toNat else min v.toNat n):Nat):Int)
 by_cases hv:v<0
 ·simp only [if_pos hv];omega
 ·simp only [if_neg hv];omega
theorem Znk(lo hi:Option Int)(n:Nat):Builtin.Slice.sliceAdjust lo hi 1 (n:Int)=(((sIx n 0 lo:Nat):Int),((sIx n n hi:Nat):Int)):=by
 have h1:¬((1:Int)<0):=by omega
 unfold Builtin.Slice.sliceAdjust
 simp only [h1,if_false]
 refine Prod.ext ?_ ?_
 ·cases lo with
  | none=>rfl
  | some v=>exact Zoe v n 0
 ·cases hi with
  | none=>rfl
  | some v=>exact Zoe v n n
theorem Zng(i j:Nat):Builtin.Slice.slicePlaces (i:Int) (j:Int) 1=j-i:=by
 unfold Builtin.Slice.slicePlaces
 have h1:(1:Int) >0:=by omega
 simp only [h1,if_true,Int.ediv_one]
 split <;>omega
theorem Zij{v:Value}{o:Option Int}{Q:Option Int→Shared→Prop}(p:IsPart v o)(h:Q o s):wpAny (model prog w) A (Builtin.Slice.slicePartIndex v) Q E s:=by
 cases p with
 | none=>exact slicePart_none h
 | int i t=>exact slicePart_int h
theorem Zfp{sl:Addr}{vl vu:Value}{lo hi:Option Int}{n:Nat}{Q:Int×Int×Nat→Shared→Prop}(hs:s.heap.IsSliceOf sl vl vu .none)(pl:IsPart vl lo)(pu:IsPart vu hi)
  (h:Q (((sIx n 0 lo:Nat):Int),1,sIx n n hi-sIx n 0 lo) s):wpAny (model prog w) A (Builtin.Slice.sliceApplied (.ref sl) (pure (n:Int))) Q E s:=by
 obtain ⟨os,hos,hcs,hds⟩:=id hs
 unfold Builtin.Slice.sliceApplied Builtin.Slice.sliceFields
 refine wpAny_bind (wpAny_bind (wpAny_field hos hds (x:=vl) rfl (wpAny_bind (wpAny_field hos hds (x:=vu) rfl (wpAny_bind (wpAny_field hos hds (x:=.none) rfl (wpAny_pure ?_)))))))
 refine wpAny_bind (slicePart_none ?_)
 show wpAny _ _ (if ((1:Int) ==0)=true then _ else _) _ _ s
 rw [if_neg (by decide)]
 refine wpAny_bind (Zij pl (wpAny_bind (Zij pu (wpAny_bind (wpAny_pure ?_)))))
 show wpAny _ _ (match Builtin.Slice.sliceAdjust lo hi 1 (n:Int) with | (lo,hi)=>pure (lo,(1:Int),Builtin.Slice.slicePlaces lo hi 1)) _ _ s
 rw [Znk lo hi n]
 show wpAny _ _ (pure (((sIx n 0 lo:Nat):Int),(1:Int),Builtin.Slice.slicePlaces ((sIx n 0 lo:Nat):Int) ((sIx n n hi:Nat):Int) 1)) _ _ s
 rw [Zng]
 exact wpAny_pure h
theorem Zrj(xs:Array Value)(i k:Nat):((List.range k).filterMap fun (m:Nat)=>xs[((i:Int)+(m:Int) * 1).toNat]?).toArray=((xs.toList.drop i).take k).toArray:=by
 have e:(fun (m:Nat)=>xs[((i:Int)+(m:Int) * 1).toNat]?)=fun m=>xs[i+m]? :=by
  funext m
  have:((i:Int)+(m:Int) * 1).toNat=i+m:=by omega
  rw [this]
 rw [e]
 have:=pick_run xs i k
 rw [List.filterMap_map] at this
 have e2:((fun x=>xs[x]?) ∘ fun x=>i+x)=fun m=>xs[i+m]? :=rfl
 rw [e2] at this
 rw [this]
theorem getItem_tuple_cut{t sl:Addr}{items:Array Value}{vl vu:Value}{lo hi:Option Int}{Q:Value→Shared→Prop}(ht:IsTup s.heap t items)(hs:s.heap.IsSliceOf sl vl vu .none)(pl:IsPart vl lo)(pu:IsPart vu hi)
  (hw:¬(sIx items.size 0 lo=0∧sIx items.size items.size hi=items.size))
  (h:Q (.ref s.heap.objs.size) { s with heap:=s.heap.push { cls:=.type "tuple",data:=.seq ((items.toList.drop (sIx items.size 0 lo)).take (sIx items.size items.size hi-sIx items.size 0 lo)).toArray } })
  (hsz:items.size≤sizeLine):wpAny (model prog w) A (getItem (.ref t) (.ref sl)) Q E s:=by
 have htake:sizeOk (.seq ((items.toList.drop (sIx items.size 0 lo)).take (sIx items.size items.size hi-sIx items.size 0 lo)).toArray):=by
  show ((items.toList.drop (sIx items.size 0 lo)).take (sIx items.size items.size hi-sIx items.size 0 lo)).toArray.size≤sizeLine
  rw [List.size_toArray,List.length_take,List.length_drop,Array.length_toList]
  omega
 have hj:sIx items.size items.size hi≤items.size:=Zu4 _ _ (Nat.le_refl _) hi
 obtain ⟨os,hos,hcs,hds⟩:=id hs
 have hTs:s.TypeIs (.ref sl) "slice" :=⟨os,hos,hcs⟩
 unfold getItem
 try with_reducible refine wpAny_holding ?_
 first | refine wpAny_bind (wpAny_pure ?_) | skip
 refine wpAny_bind (wpAny_sequenceKey ht.typeIs (by decide) ?_)
 refine wpAny_bind (wpAny_callSpecial?_slot (name:=Str.ofString "__getitem__") ht.typeIs PyProof.Rows.slot_tuple_getitem
  (wpAny_call_entry PyProof.Rows.slot_tuple_getitem ht.typeIs entry_tuple_getitem ?_ (args_tuple_getitem _ _)))
 show wpAny _ _ (Builtin.Tuple.tupleItemsOf (.ref t) >>=_) _ _ s
 refine wpAny_bind (tupleItemsOf_ ht ?_)
 refine wpAny_bind (wpAny_typeOf hTs ?_)
 rw [if_pos (by decide)]
 refine wpAny_bind (Zfp hs pl pu ?_)
 have hno:¬((((sIx items.size 0 lo:Nat):Int) ==0 && (1:Int) ==1 && (sIx items.size items.size hi-sIx items.size 0 lo) ==items.size)=true):=by
  intro q
  rw [Bool.and_eq_true,Bool.and_eq_true] at q
  have q1:((sIx items.size 0 lo:Nat):Int)=0:=eq_of_beq q.1.1
  have q2:sIx items.size items.size hi-sIx items.size 0 lo=items.size:=eq_of_beq q.2
  exact hw ⟨by omega,by omega⟩
 show wpAny _ _ (if (((sIx items.size 0 lo:Nat):Int) ==0 && (1:Int) ==1 && (sIx items.size items.size hi-sIx items.size 0 lo) ==items.size)=true then _ else _) _ _ s
 rw [if_neg hno,Zrj]
 first
  | exact wpAny_bind (m:=Builtin.Tuple.tupleExact _) (wpAny_newObj_type (wpAny_pure ⟨_,rfl,wpAny_pure h⟩) htake)
  | exact wpAny_bind (m:=Builtin.Tuple.tupleExact _) (wpAny_newObj_type (wpAny_bind (wpAny_pure (wpAny_pure ⟨_,rfl,wpAny_pure h⟩))) htake)
  | exact wpAny_bind (wpAny_bind (m:=Builtin.Tuple.tupleExact _) (wpAny_newObj_type (wpAny_pure (wpAny_pure ⟨_,rfl,wpAny_pure h⟩)) htake))
  | exact wpAny_bind (wpAny_bind (m:=Builtin.Tuple.tupleExact _) (wpAny_newObj_type (wpAny_pure ⟨_,rfl,wpAny_pure h⟩) htake))
end
end HT
namespace L2
open PySem PySem.Spec PyProof.Rows
abbrev TO:=St→Hp→(Option Int→Hp→Prop)→Prop
def PO(X:Cx)(e:Option Expr)(t:TO):Prop :=
 ∀(pins:List (Addr×Obj)) (s:Shared) (σ:St) (H:Hp) (Q:Option Int→Hp→Prop),Inv X pins σ H s→t σ H Q →
  wpAny (model X.prog X.w) X.A (evalPart e X.env) (fun u s'=>∃o H',Inv X pins σ H' s'∧IsPart u o∧Q o H') X.xe s
def Zs2:TO:=fun _ H Q=>Q none H
def Zxj(t:TE):TO:=fun σ H Q=>t σ H fun x H1=>∃i,x=.int i∧Q (some i) H1
section
variable {X:Cx} {e:Expr} {te:TE} {lo hi:Option Expr} {tl th:TO} {pos p2:Pos}
theorem W4:PO X none Zs2:=by
 intro pins s σ H Q I h
 rw [evalPart_none]
 exact wpAny_pure ⟨none,H,I,.none,h⟩
theorem Wq(h:PE X e te):PO X (some e) (Zxj te):=by
 intro pins s σ H Q I hw
 rw [evalPart_some]
 refine thn (h pins s σ H _ I hw) fun u s1 ⟨x,H1,I1,r1,q1⟩=>?_
 obtain ⟨i,rfl,q⟩:=q1
 obtain ⟨t,rfl⟩:=r1
 exact ⟨some i,H1,I1,.int i t,q⟩
def SlR(X:Cx)(r:V→Option Int→Option Int→Hp→VK→Prop):Prop :=
 ∀(pins:List (Addr×Obj)) (s:Shared) (σ:St) (H:Hp) (x:V) (v vl vu:Value) (lo hi:Option Int) (sl:Addr) (Q:VK),Inv X pins σ H s→Yo x v→s.heap.IsSliceOf sl vl vu .none→IsPart vl lo→IsPart vu hi→r x lo hi H Q →
  ∃T id,typeLookup (.type T) "__getitem__" =pure (some (.builtin id))∧s.TypeIs v T∧wpAny (model X.prog X.w) X.A (getItem v (.ref sl)) (EP X pins σ Q) X.xe s
theorem SlR.or{r r':V→Option Int→Option Int→Hp→VK→Prop}(h:SlR X r)(h':SlR X r'):SlR X (fun x lo hi H Q=>r x lo hi H Q∨r' x lo hi H Q):=by
 intro pins s σ H x v vl vu lo hi sl Q I rx hs pl pu q
 rcases q with q|q
 ·exact h pins s σ H x v vl vu lo hi sl Q I rx hs pl pu q
 ·exact h' pins s σ H x v vl vu lo hi sl Q I rx hs pl pu q
def tSl(r:V→Option Int→Option Int→Hp→VK→Prop)(te:TE)(tl th:TO):TE:=fun σ H Q=>te σ H fun x H1=>tl σ H1 fun l H2=>th σ H2 fun u H3=>r x l u H3 Q
theorem Xy{r:V→Option Int→Option Int→Hp→VK→Prop}(hr:SlR X r)(he:PE X e te)(hl:PO X lo tl)(hu:PO X hi th):PE X (.Subscript e (.Slice lo hi none p2) pos) (tSl r te tl th):=by
 intro pins s σ H Q I h
 refine Subscript_ (thn (he pins s σ H _ I h) fun v s1 ⟨x,H1,I1,r1,q1⟩=>?_)
 refine wpAny_Slice (thn (hl pins s1 σ H1 _ I1 q1) fun vl s2 ⟨l,H2,I2,pl,q2⟩=>thn (hu pins s2 σ H2 _ I2 q2) fun vu s3 ⟨u,H3,I3,pu,q3⟩=>?_)
 rw [evalPart_none]
 refine wpAny_pure ?_
 have I4:Inv X pins σ H3 { s3 with heap:=s3.heap.push { cls:=.type "slice",data:=.fields #[vl,vu,.none] } }:=I3.kept (t':=s3.toks) fun b ob q=>Heap.get?_push_of_some _ q
 obtain ⟨T,id,hT,ht,hg⟩:=hr pins { s3 with heap:=s3.heap.push { cls:=.type "slice",data:=.fields #[vl,vu,.none] } } σ H3 x v vl vu l u s3.heap.objs.size Q I4 r1 (Heap.IsSliceOf.new ..) pl pu q3
 show wpAny (model X.prog X.w) X.A (subscriptTail e (.Slice lo hi none p2) v (.ref s3.heap.objs.size)) (EP X pins σ Q) X.xe { s3 with heap:=s3.heap.push { cls:=.type "slice",data:=.fields #[vl,vu,.none] } }
 exact tail_any (ops:=[.ref s3.heap.objs.size,v]) ht hT hg (by with_unfolding_all rfl)
def Zgt(xs:List V)(lo hi:Option Int):List V:=(xs.drop (HT.sIx xs.length 0 lo)).take (HT.sIx xs.length xs.length hi-HT.sIx xs.length 0 lo)
theorem Zcc(xs:List V)(lo hi:Option Int):(Zgt xs lo hi).length≤xs.length:=by
 unfold Zgt
 rw [List.length_take,List.length_drop]
 omega
def Zxw(K:Frag):V→Option Int→Option Int→Hp→VK→Prop:=fun x lo hi H Q=>∃a xs,x=.ref a∧SqT K H a xs ∧
 ¬(HT.sIx xs.length 0 lo=0∧HT.sIx xs.length xs.length hi=xs.length)∧∀p,H p=none→Q (.ref p) (upd H p (.tup (Zgt xs lo hi)))
theorem Zuu:SlR X (Zxw X.K):=by
 intro pins s σ H x v vl vu lo hi sl Q I rx hs pl pu h
 obtain ⟨a,xs,rfl,hx,hw,q⟩:=h
 cases rx
 obtain ⟨its,r,ht,hz⟩:=I.tuple hx
 have hlen:its.toArray.size=xs.length:=by rw [List.size_toArray];exact r.length.symm
 refine ⟨"tuple",_,PyProof.Rows.slot_tuple_getitem.lookup,ht.typeIs,?_⟩
 refine HT.getItem_tuple_cut ht hs pl pu (by rw [hlen];exact hw) ?_ (by rw [hlen];exact hz)
 rw [hlen]
 refine ⟨.ref s.heap.objs.size,_,I.laid (t':=s.toks) (o:=.tup (Zgt xs lo hi)) (fun b ob q=>Heap.get?_push_of_some _ q) (Nat.le_refl _) ?_,rfl,q _ (I.hok.fresh (Nat.le_refl _))⟩
 exact ⟨Nat.le_trans (Zcc xs lo hi) hz,_,(r.drop (HT.sIx xs.length 0 lo)).take (HT.sIx xs.length xs.length hi-HT.sIx xs.length 0 lo),IsTup.new _ _⟩
end
end L2
namespace L2
open PySem PySem.Spec PyProof.Rows
def ixN(n:Nat)(i:Int):Option Nat:=if 0≤i then (if i<n then some i.toNat else none) else if -(n:Int)≤i then some (i+n).toNat else none
def atI{α:Type}(xs:List α)(i:Int):Option α:=(ixN xs.length i).bind fun j=>xs[j]?
theorem Zsu{n:Nat}{i:Int}{j:Nat}(h:ixN n i=some j):seqIndex? i n=some j∧j<n∧-(n:Int)≤i∧i<n:=by
 unfold ixN at h
 by_cases h0:0≤i
 ·rw [if_pos h0] at h
  by_cases h1:i<n
  ·rw [if_pos h1] at h
   have e:i.toNat=j:=Option.some.inj h
   exact ⟨by rw [seqIndex_of h0 h1,e],by omega,by omega,h1⟩
  ·rw [if_neg h1] at h;cases h
 ·rw [if_neg h0] at h
  by_cases h1:-(n:Int)≤i
  ·rw [if_pos h1] at h
   have e:(i+n).toNat=j:=Option.some.inj h
   exact ⟨by rw [seqIndex_neg (by omega) h1,e],by omega,h1,by omega⟩
  ·rw [if_neg h1] at h;cases h
theorem Zj6{α:Type}{xs:List α}{i:Int}{v:α}(h:atI xs i=some v):∃j,seqIndex? i xs.length=some j∧xs[j]? =some v∧j<xs.length∧-(xs.length:Int)≤i∧i<xs.length:=by
 unfold atI at h
 cases e:ixN xs.length i with
 | none=>rw [e] at h;cases h
 | some j =>
  rw [e] at h
  obtain ⟨h1,h2,h3,h4⟩:=Zsu e
  exact ⟨j,h1,h,h2,h3,h4⟩
theorem Zr{α:Type}{xs:List α}{j:Nat}{v:α}(h:xs[j]? =some v):atI xs (j:Int)=some v:=by
 have hj:j<xs.length:=(List.getElem?_eq_some_iff.mp h).1
 have e:ixN xs.length (j:Int)=some j:=by
  unfold ixN
  rw [if_pos (by omega),if_pos (by omega)];simp
 unfold atI;rw [e];exact h
def Zty(b:Expr):Prop:=∀o i,subscripted b false o i=operate [o,i] (getItem o i)
def IxR(X:Cx)(r:R2):Prop :=
 ∀(value slice:Expr) (pins:List (Addr×Obj)) (s:Shared) (σ:St) (H:Hp) (x y:V) (v u:Value) (Q:VK),Inv X pins σ H s→Yo x v→Yo y u→r x y H Q →
  subscripted slice false v u=operate [v,u] (getItem v u)→wpAny (model X.prog X.w) X.A (subscriptTail value slice v u) (EP X pins σ Q) X.xe s
def MtR(X:Cx)(id:String)(r:V→List V→Hp→VK→Prop):Prop :=
 ∀(pins:List (Addr×Obj)) (s:Shared) (σ:St) (H:Hp) (x:V) (xs:List V) (v:Value) (us:List Value) (Q:VK),Inv X pins σ H s→Yo x v→Yd xs us→r x xs H Q →
  wpAny (model X.prog X.w) X.A (call (.builtin id) (v ::us)) (EP X pins σ Q) X.xe s
section
variable {X:Cx} {a b:Expr} {ta tb:TE} {pos:Pos}
theorem IxR.or{r r':R2}(h:IxR X r)(h':IxR X r'):IxR X (fun x y H Q=>r x y H Q∨r' x y H Q):=by
 intro value slice pins s σ H x y v u Q I rx ry q hs
 rcases q with q|q
 ·exact h value slice pins s σ H x y v u Q I rx ry q hs
 ·exact h' value slice pins s σ H x y v u Q I rx ry q hs
theorem Zt{r:R2}(hr:IxR X r)(ha:PE X a ta)(hb:PE X b tb)(hs:Zty b):PE X (.Subscript a b pos) (tOp r ta tb):=by
 intro pins s σ H Q I h
 exact Subscript_ (Zvk ha hb I h fun v u s2 x y H2 I2 rx ry q=>hr a b pins s2 σ H2 x y v u Q I2 rx ry q (hs _ _))
def Zw1(K:Frag):R2:=fun x y H Q=>∃p xs i v,x=.ref p∧y=.int i∧SqL K H p xs∧atI xs i=some v∧Q v H
def Zwj(K:Frag):R2:=fun x y H Q=>∃p xs i v,x=.ref p∧y=.int i∧SqT K H p xs∧atI xs i=some v∧Q v H
def Zwn:R2:=fun x y H Q=>∃z i c,x=.str z∧y=.int i∧z.length≤sizeLine∧atI z.cps.toList i=some c∧Q (.str ⟨#[c]⟩) H
theorem Ztb:IxR X (Zw1 X.K):=by
 intro value slice pins s σ H x y v u Q I rx ry h hs
 obtain ⟨p,xs,i,z,rfl,rfl,hq,he,q⟩:=h
 cases rx
 obtain ⟨t,rfl⟩:=ry
 obtain ⟨its,r,pl,hz⟩:=I.list hq
 obtain ⟨j,h1,h2,h3,h4,h5⟩:=Zj6 he
 obtain ⟨w,ew,rw'⟩:=r.get h2
 have hl:=r.length
 have hn:=Zh6
 have fin:EP X pins σ Q w s:=⟨z,H,I,rw',q⟩
 by_cases h0:0≤i
 ·have hj:i.toNat=j:=by
   rw [seqIndex_of h0 h5] at h1
   exact Option.some.inj h1
  exact item_listR pl.isList h0 (by omega) (by rw [hj];simpa using ew) fin hs
 ·have hj:(i+(its.toArray.size:Int)).toNat=j:=by
   rw [seqIndex_neg (by omega) h4] at h1
   rw [List.size_toArray,←hl]
   exact Option.some.inj h1
  exact subscriptTail_builtinR (x:=w) pl.isList.typeIs slot_list_getitem.lookup
   (wpAny_getItem_list_neg (Q:=fun r s'=>r=w∧EP X pins σ Q r s') pl.isList (by omega) (by rw [List.size_toArray] <;>omega) (by omega) (by rw [hj];simpa using ew) ⟨rfl,fin⟩) hs
theorem Zvq:IxR X (Zwj X.K):=by
 intro value slice pins s σ H x y v u Q I rx ry h hs
 obtain ⟨p,xs,i,z,rfl,rfl,hq,he,q⟩:=h
 cases rx
 obtain ⟨t,rfl⟩:=ry
 obtain ⟨its,r,pl,hz⟩:=I.tuple hq
 obtain ⟨j,h1,h2,h3,h4,h5⟩:=Zj6 he
 obtain ⟨w,ew,rw'⟩:=r.get h2
 have hl:=r.length
 have hn:=Zh6
 have fin:EP X pins σ Q w s:=⟨z,H,I,rw',q⟩
 exact subscriptTail_builtinR (x:=w) pl.typeIs slot_tuple_getitem.lookup
  (getItem_tuple (j:=j) (Q:=fun r s'=>r=w∧EP X pins σ Q r s') pl (by omega) (by omega) (by rw [List.size_toArray,←hl];exact h1) (by simpa using ew) ⟨rfl,fin⟩) hs
theorem Zvv:IxR X Zwn:=by
 intro value slice pins s σ H x y v u Q I rx ry h hs
 obtain ⟨z,i,c,rfl,rfl,hz,he,q⟩:=h
 obtain ⟨t,rfl⟩:=rx
 obtain ⟨t',rfl⟩:=ry
 obtain ⟨j,h1,h2,h3,h4,h5⟩:=Zj6 he
 have hl:z.cps.toList.length=z.length:=by simp [Str.length]
 rw [hl] at h1 h4 h5
 have hn:=Zh6
 exact tail_any (typeIs_str s z t) slot_str_getitem.lookup (getItem_str (c:=c) (by
  have e1:decide (i < -(2 ^ 63:Int))=false:=decide_eq_false (by omega)
  have e2:decide (i ≥ 2 ^ 63)=false:=decide_eq_false (by omega)
  rw [e1,e2,Bool.or_false]) (by rw [h1];simpa using h2) ⟨.str ⟨#[c]⟩,H,I.tok _,⟨_,rfl⟩,q⟩) hs
def rIx(K:Frag):R2:=fun x y H Q=>Zw1 K x y H Q∨Zwj K x y H Q∨Zwn x y H Q
theorem Zm:IxR X (rIx X.K):=Ztb.or (Zvq.or Zvv)
theorem Zkj(lo hi:Option Int)(n:Nat):(sliceBounds lo hi none n).1=((HT.sIx n 0 lo:Nat):Int)∧(sliceBounds lo hi none n).2.1=((HT.sIx n n hi:Nat):Int)∧(sliceBounds lo hi none n).2.2=1:=by
 refine ⟨?_,?_,rfl⟩
 ·cases lo with
  | none=>simp [sliceBounds,HT.sIx]
  | some i =>
   simp only [sliceBounds,HT.sIx,Option.getD_none,show (1:Int) >0 by decide,if_true]
   by_cases h:i<0
   ·simp only [h,if_true] <;>omega
   ·simp only [h,if_false] <;>omega
 ·cases hi with
  | none=>simp [sliceBounds,HT.sIx]
  | some i =>
   simp only [sliceBounds,HT.sIx,Option.getD_none,show (1:Int) >0 by decide,if_true]
   by_cases h:i<0
   ·simp only [h,if_true] <;>omega
   ·simp only [h,if_false] <;>omega
theorem Zix(its:List Value)(lo hi:Option Int):slicePick its.toArray lo hi none=((its.drop (HT.sIx its.length 0 lo)).take (HT.sIx its.length its.length hi-HT.sIx its.length 0 lo)).toArray:=by
 obtain ⟨h1,h2,h3⟩:=Zkj lo hi its.toArray.size
 unfold slicePick
 rw [h1,h2,h3]
 simp only [sliceRange_one,pick_run,List.size_toArray] <;>rfl
def Zxy(K:Frag):V→Option Int→Option Int→Hp→VK→Prop:=fun x lo hi H Q=>∃a xs,x=.ref a∧SqL K H a xs∧∀p,H p=none→Q (.ref p) (upd H p (.lst (Zgt xs lo hi)))
theorem Ztw:SlR X (Zxy X.K):=by
 intro pins s σ H x v vl vu lo hi sl Q I rx hs pl pu h
 obtain ⟨a,xs,rfl,hx,q⟩:=h
 cases rx
 obtain ⟨its,r,ht,hz⟩:=I.list hx
 have hlen:=r.length
 refine ⟨"list",_,slot_list_getitem.lookup,ht.isList.typeIs,?_⟩
 refine wpAny_getItem_list_slice ht.isList hs pl pu .none (by simp) ?_ (by rw [List.size_toArray] <;>omega)
 rw [Zix,←hlen]
 refine ⟨.ref s.heap.objs.size,_,I.laid (t':=s.toks) (o:=.lst (Zgt xs lo hi)) (fun b ob q=>Heap.get?_push_of_some _ q) (Nat.le_refl _) ?_,rfl,q _ (I.hok.fresh (Nat.le_refl _))⟩
 exact ⟨Nat.le_trans (Zcc xs lo hi) hz,_,0,(r.drop (HT.sIx xs.length 0 lo)).take (HT.sIx xs.length xs.length hi-HT.sIx xs.length 0 lo),Heap.get?_push_size _ rfl⟩
def Zds:V→Bool
 | .non=>true
 | .bl _=>true
 | .int _=>true
 | .str _=>true
 | _=>false
def eqV:V→V→Bool
 | .non,.non=>true
 | .bl a,.bl b=>a ==b
 | .bl a,.int b=>(if a then 1 else 0) ==b
 | .int a,.bl b=>a ==(if b then 1 else 0)
 | .int a,.int b=>a ==b
 | .str a,.str b=>a ==b
 | _,_=>false
theorem Zhh{A:Around}{s:Shared}{y x:V}{u v:Value}(ry:Yo y u)(rx:Yo x v)(fy:Zds y=true)(fx:Zds x=true):SeqAt.EqAt A s u v (eqV y x):=by
 cases y with
 | non =>
  cases ry
  cases x with
  | non=>cases rx;exact SeqAt.EqAt.same _
  | bl b=>cases rx;exact SeqAt.EqAt.none_bool b
  | int b=>obtain ⟨t,rfl⟩:=rx;exact SeqAt.EqAt.none_int b t
  | str b=>obtain ⟨t,rfl⟩:=rx;exact SeqAt.EqAt.none_str b t
  | _=>exact absurd (show false=true from fx) Bool.false_ne_true
 | bl a =>
  cases ry
  cases x with
  | non=>cases rx;exact SeqAt.EqAt.bool_none a
  | bl b=>cases rx;exact SeqAt.EqAt.bool_bool a b
  | int b=>obtain ⟨t,rfl⟩:=rx;exact SeqAt.EqAt.bool_int a b t
  | str b=>obtain ⟨t,rfl⟩:=rx;exact SeqAt.EqAt.bool_str a b t
  | _=>exact absurd (show false=true from fx) Bool.false_ne_true
 | int a =>
  obtain ⟨t',rfl⟩:=ry
  cases x with
  | non=>cases rx;exact SeqAt.EqAt.int_none a t'
  | bl b=>cases rx;exact SeqAt.EqAt.int_bool a t' b
  | int b=>obtain ⟨t,rfl⟩:=rx;exact SeqAt.EqAt.int_int a t' b t
  | str b=>obtain ⟨t,rfl⟩:=rx;exact SeqAt.EqAt.int_str a t' b t
  | _=>exact absurd (show false=true from fx) Bool.false_ne_true
 | str a =>
  obtain ⟨t',rfl⟩:=ry
  cases x with
  | non=>cases rx;exact SeqAt.EqAt.str_none a t'
  | bl b=>cases rx;exact SeqAt.EqAt.str_bool a t' b
  | int b=>obtain ⟨t,rfl⟩:=rx;exact SeqAt.EqAt.str_int a t' b t
  | str b=>obtain ⟨t,rfl⟩:=rx;exact SeqAt.EqAt.str_str a t' b t
  | _=>exact absurd (show false=true from fx) Bool.false_ne_true
 | _=>exact absurd (show false=true from fy) Bool.false_ne_true
def eqU(x:V)(u:Value):Bool:=match u with
 | .none=>eqV .non x
 | .bool b=>eqV (.bl b) x
 | .int i _=>eqV (.int i) x
 | .str z _=>eqV (.str z) x
 | _=>false
theorem Zry{x y:V}{u:Value}(r:Yo y u)(f:Zds y=true):eqU x u=eqV y x:=by
 cases y with
 | non=>cases r;rfl
 | bl b=>cases r;rfl
 | int i=>obtain ⟨t,rfl⟩:=r;rfl
 | str z=>obtain ⟨t,rfl⟩:=r;rfl
 | _=>exact absurd (show false=true from f) Bool.false_ne_true
theorem Zfg{x:V}:∀{xs:List V} {us:List Value},Yd xs us→xs.all Zds=true→us.any (eqU x)=xs.any fun y=>eqV y x
 | _,_,.nil,_=>rfl
 | y ::xs,u ::us,.cons r t,f=>by
  rw [List.all_cons,Bool.and_eq_true] at f
  rw [List.any_cons,List.any_cons,Zry r f.1,Zfg t f.2]
theorem Zdw{A:Around}{s:Shared}{x:V}{v:Value}(rx:Yo x v)(fx:Zds x=true):∀{xs:List V} {us:List Value},Yd xs us→xs.all Zds=true→∀u∈us,SeqAt.EqAt A s u v (eqU x u)
 | _,_,.nil,_=>fun u hu=>by cases hu
 | y ::xs,u ::us,.cons r t,f=>fun u' hu=>by
  rw [List.all_cons,Bool.and_eq_true] at f
  rcases List.mem_cons.mp hu with rfl|hu
  ·rw [Zry r f.1];exact Zhh r rx f.1 fx
  ·exact Zdw rx fx t f.2 u' hu
def inV(x:V)(xs:List V):Bool:=xs.any fun y=>eqV y x
def rIn(K:Frag)(neg:Bool):R2:=fun x y H Q=>∃p xs,y=.ref p∧(SqL K H p xs∨SqT K H p xs)∧Zds x=true∧xs.all Zds=true∧Q (.bl (if neg then !inV x xs else inV x xs)) H
theorem Zpa:OpR X (compareOp .In) (rIn X.K false):=by
 intro pins s σ H x y v u Q I rx ry h
 obtain ⟨p,xs,rfl,hq,fx,fs,q⟩:=h
 cases ry
 rcases hq with hq|hq
 ·obtain ⟨its,r,pl,hz⟩:=I.list hq
  refine SeqAt.in_listAt (eqU x) pl.isList (fun w hw=>Zdw rx fx r fs w (by simpa using hw)) ⟨.bl _,H,I,rfl,?_⟩
  rw [show its.toArray.any (eqU x)=its.any (eqU x) by simp,Zfg r fs]
  exact q
 ·obtain ⟨its,r,pl,hz⟩:=I.tuple hq
  refine SeqAt.in_tupleAt (eqU x) pl (fun w hw=>Zdw rx fx r fs w (by simpa using hw)) ⟨.bl _,H,I,rfl,?_⟩
  rw [show its.toArray.any (eqU x)=its.any (eqU x) by simp,Zfg r fs]
  exact q
theorem Zkc:OpR X (compareOp .NotIn) (rIn X.K true):=by
 intro pins s σ H x y v u Q I rx ry h
 obtain ⟨p,xs,rfl,hq,fx,fs,q⟩:=h
 cases ry
 rcases hq with hq|hq
 ·obtain ⟨its,r,pl,hz⟩:=I.list hq
  refine SeqAt.notIn_listAt (eqU x) pl.isList (fun w hw=>Zdw rx fx r fs w (by simpa using hw)) ⟨.bl _,H,I,rfl,?_⟩
  rw [show its.toArray.any (eqU x)=its.any (eqU x) by simp,Zfg r fs]
  exact q
 ·obtain ⟨its,r,pl,hz⟩:=I.tuple hq
  refine SeqAt.notIn_tupleAt (eqU x) pl (fun w hw=>Zdw rx fx r fs w (by simpa using hw)) ⟨.bl _,H,I,rfl,?_⟩
  rw [show its.toArray.any (eqU x)=its.any (eqU x) by simp,Zfg r fs]
  exact q
theorem Zkg:Xs X (.builtin "len") (fun xs H Q=>∃p ys,xs=[.ref p]∧(SqL X.K H p ys∨SqT X.K H p ys)∧Q (.int ys.length) H):=by
 intro pins s σ H xs us Q I r h
 obtain ⟨p,ys,rfl,hq,q⟩:=h
 obtain ⟨u,rfl,rx⟩:=Zcq r
 cases rx
 have hn:=Zh6
 rcases hq with hq|hq
 ·obtain ⟨its,r',pl,hz⟩:=I.list hq
  have hlen:=r'.length
  exact Calls.call_len_list pl.isList (by simp only [List.size_toArray] <;>omega) ⟨.int ys.length,H,I.tok _,⟨s.toks+1,by rw [List.size_toArray,hlen]⟩,q⟩
 ·obtain ⟨its,r',pl,hz⟩:=I.tuple hq
  have hlen:=r'.length
  exact len_tuple pl (by simp only [List.size_toArray] <;>omega) ⟨.int ys.length,H,I.tok _,⟨s.toks+1,by rw [List.size_toArray,hlen]⟩,q⟩
theorem Zla:Xs X (.builtin "len") (fun xs H Q=>∃z,xs=[.str z]∧z.length≤sizeLine∧Q (.int z.length) H):=by
 intro pins s σ H xs us Q I r h
 obtain ⟨z,rfl,hz,q⟩:=h
 obtain ⟨u,rfl,t,rfl⟩:=Zcq r
 have hn:=Zh6
 exact len_str (by omega) ⟨.int z.length,H,I.tok _,⟨_,rfl⟩,q⟩
theorem Xs.or{f:Value}{r r':List V→Hp→VK→Prop}(h:Xs X f r)(h':Xs X f r'):Xs X f (fun xs H Q=>r xs H Q∨r' xs H Q):=by
 intro pins s σ H xs us Q I rs q
 rcases q with q|q
 ·exact h pins s σ H xs us Q I rs q
 ·exact h' pins s σ H xs us Q I rs q
theorem Zkf:Xs X (.type "list") (fun xs H Q=>∃p ys,xs=[.ref p]∧(SqL X.K H p ys∨SqT X.K H p ys)∧∀l,H l=none→Q (.ref l) (upd H l (.lst ys))):=by
 intro pins s σ H xs us Q I r h
 obtain ⟨p,ys,rfl,hq,q⟩:=h
 obtain ⟨u,rfl,rx⟩:=Zcq r
 cases rx
 have fin:∀(its:List Value),Yd ys its→ys.length≤sizeLine→∀(h':Heap) (c':Nat),(∀b o',s.heap.get? b=some o'→h'.get? b=some o') →
   h'.get? s.heap.objs.size=some { cls:=.type "list",dict:=none,data:=.seq its.toArray c',slots:=#[] }→EP X pins σ Q (.ref s.heap.objs.size) { s with heap:=h' }:=fun its r' hz h' c' kp e =>
  ⟨.ref s.heap.objs.size,_,I.laid (t':=s.toks) kp (Nat.le_refl _) (show Yu X.prog X.w _ h' _ (.lst ys) from ⟨hz,its,c',r',e⟩),rfl,q _ (I.hok.fresh (Nat.le_refl _))⟩
 rcases hq with hq|hq
 ·obtain ⟨its,r',pl,hz⟩:=I.list hq
  have hlen:=r'.length
  obtain ⟨o,ho,hc,n,hd⟩:=pl.isList
  exact call_list_seq p (.inl rfl) ho hc hd (fun h' c' kp e=>fin its r' hz h' c' kp e) (by simp only [List.size_toArray] <;>omega)
 ·obtain ⟨its,r',pl,hz⟩:=I.tuple hq
  have hlen:=r'.length
  obtain ⟨o,ho,hc,n,hd⟩:=pl
  exact call_list_seq p (.inr rfl) ho hc hd (fun h' c' kp e=>fin its r' hz h' c' kp e) (by simp only [List.size_toArray] <;>omega)
def tyV(K:Frag)(T:String)(x:V)(H:Hp):Prop:=match x with
 | .str _=>T = "str"
 | .int _=>T = "int"
 | .ref p=>(T = "list" ∧∃xs,SqL K H p xs)∨(T = "tuple" ∧∃o,K.lookup p=some o∧o.cls=.type "tuple" ∧o.dict=none) ∨
   (T = "dict" ∧((∃kvs,H p=some (.dK kvs))∨∃kvs,H p=some (.dT kvs)))∨(T = "set" ∧∃S n,H p=some (.set S n))
 | _=>False
theorem Zqe{pins:List (Addr×Obj)}{σ:St}{H:Hp}{s:Shared}{T:String}{x:V}{v:Value}(I:Inv X pins σ H s)(r:Yo x v)(ty:tyV X.K T x H) :
  s.TypeIs v T∧∀a,v=.ref a→∃ob,s.heap.get? a=some ob∧ob.dict=none:=by
 cases x with
 | str z =>
  obtain ⟨t,rfl⟩:=r
  cases (show T = "str" from ty)
  exact ⟨typeIs_str s z t,fun _ e=>nomatch e⟩
 | int i =>
  obtain ⟨t,rfl⟩:=r
  cases (show T = "int" from ty)
  exact ⟨typeIs_int s i t,fun _ e=>nomatch e⟩
 | ref p =>
  cases r
  rcases ty with ⟨rfl,xs,hq⟩|⟨rfl,o,hk,hc,hd⟩|⟨rfl,hk⟩|⟨rfl,S,n,hk⟩
  ·obtain ⟨its,_,pl,_⟩:=I.list hq
   refine ⟨pl.isList.typeIs,fun a e=>?_⟩
   cases e
   obtain ⟨o,n,e,c,hd,_⟩:=pl
   exact ⟨o,e,hd⟩
  ·refine ⟨⟨o,I.kIn p o hk,hc⟩,fun a e=>?_⟩
   cases e
   exact ⟨o,I.kIn _ o hk,hd⟩
  ·have z:∃o,s.heap.get? p=some o∧o.ExactDict:=by
    rcases hk with ⟨kvs,hk⟩|⟨kvs,hk⟩
    ·obtain ⟨_,_,_,_,o,_,_,e,ex,_⟩:=I.hok p _ hk
     exact ⟨o,e,ex⟩
    ·obtain ⟨_,_,_,_,o,_,_,e,ex,_⟩:=I.hok p _ hk
     exact ⟨o,e,ex⟩
   obtain ⟨o,e,ex⟩:=z
   refine ⟨⟨o,e,ex.1⟩,fun a e2=>?_⟩
   cases e2
   exact ⟨o,e,ex.2.1⟩
  ·obtain ⟨o,_,_,_,e,ex,_⟩:=I.hok p _ hk
   refine ⟨⟨o,e,ex.1⟩,fun a e2=>?_⟩
   cases e2
   exact ⟨o,e,ex.2.1⟩
 | _=>exact False.elim ty
def Zye(K:Frag)(T:String)(r:V→List V→Hp→VK→Prop)(to:TE):TE:=fun σ H Q=>to σ H fun x H1=>tyV K T x H1∧r x [] H1 Q
def tBM(K:Frag)(T:String)(r:V→List V→Hp→VK→Prop)(to:TE)(t:TA):TE:=fun σ H Q=>to σ H fun x H1=>tyV K T x H1∧t σ H1 fun xs H2=>r x xs H2 Q
variable {o e:Expr} {es:List Expr} {to:TE} {t:TA} {name:Str} {apos cpos:Pos} {T id:String} {r:V→List V→Hp→VK→Prop}
theorem Zvx(pa:PlainAttrs T)(slot:Slot T name id) (hty:typeOf (.builtin id)=pure (.type "method_descriptor")) (hm:MtR X id r) (ho:PE X o to)
  (hbase:attributeBase o name X.env (eval o X.env)=eval o X.env:=by rfl) (hline:(apos.endLine ==cpos.line)=true:=by rfl):PE X (.Call (.Attribute o name apos) [] [] cpos) (Zye X.K T r to):=by
 intro pins s σ H Q I h
 refine wpAny_Call_method0_late hbase hline (thn (ho pins s σ H _ I h) fun v s1 ⟨x,H1,I1,r1,ty,q1⟩=>?_)
 obtain ⟨h1,h2⟩:=Zqe I1 r1 ty
 exact ⟨T,id,pa,slot,hty,h1,h2,Calls.callWith_builtin rfl (PySem.evalArgs_none (hm pins s1 σ H1 x [] v [] Q I1 r1 .nil q1))⟩
theorem Zda(pa:PlainAttrs T)(slot:Slot T name id) (hty:typeOf (.builtin id)=pure (.type "method_descriptor")) (hm:MtR X id r) (ho:PE X o to) (ha:PA X (e ::es) t)
  (hbase:attributeBase o name X.env (eval o X.env)=eval o X.env:=by rfl)
  (hfew:((backTo cpos (starEach (e ::es) X.env)).all (fun x=>!x.1) && (backToKw cpos (keywordEach [] X.env)).all (fun x=>x.1.isSome)
   && decide ((e ::es).length+([]:List Keyword).length+(if ([]:List Keyword).isEmpty then 0 else 1)<30))=true:=by rfl)
  (hline:(apos.endLine ==cpos.line)=true:=by rfl) (hs:starEach (e ::es) X.env=(false,eval e X.env) ::starEach es X.env:=by rfl) (hplain:(backTo cpos (starEach es X.env)).any (·.1)=false:=by rfl) :
  PE X (.Call (.Attribute o name apos) (e ::es) [] cpos) (tBM X.K T r to t):=by
 intro pins s σ H Q I h
 refine wpAny_Call_method_late hbase hfew hline rfl (thn (ho pins s σ H _ I h) fun v s1 ⟨x,H1,I1,r1,ty,q1⟩=>?_)
 obtain ⟨h1,h2⟩:=Zqe I1 r1 ty
 refine ⟨T,id,pa,slot,hty,h1,h2,?_⟩
 have hA:=ha cpos pins s1 σ H1 _ I1 q1
 rw [hs] at hA ⊢
 refine Calls.callWith_builtin (by show (false || (backTo cpos (starEach es X.env)).any (·.1))=false;rw [hplain] <;>rfl) (Calls.evalArgs_plain ?_)
 exact thn hA fun us s2 ⟨vs,H2,I2,r2,q2⟩=>hm pins s2 σ H2 x vs v us Q I2 r1 r2 q2
/- xs.append(e),list.index on a module's tuple .. are MtR facts of 06m -/
end
end L2
namespace L2
open PySem PySem.Spec PyProof.Rows
def MtM(X:Cx)(id:String)(r:V→List V→Hp→VK→Prop):Prop :=
 ∀(pins:List (Addr×Obj)) (s:Shared) (σ:St) (H:Hp) (x:V) (xs:List V) (v:Value) (us:List Value) (Q:VK),Inv X pins σ H s→Yo x v→Yd xs us→r x xs H Q →
  wpAny (model X.prog X.w) X.A (call (.builtin id) (v ::us)) (EP X pins σ Q) X.xe s
theorem Yd.one:∀{x:V} {us:List Value},Yd [x] us→∃u,us=[u]∧Yo x u
 | _,_,.cons r .nil=>⟨_,rfl,r⟩
theorem Yd.zero:∀{us:List Value},Yd [] us→us=[]
 | _,.nil=>rfl
theorem Yd.dropLast{xs:List V}{us:List Value}(h:Yd xs us):Yd xs.dropLast us.dropLast:=by
 induction h with
 | nil=>exact .nil
 | cons r t ih =>
  cases t with
  | nil=>exact .nil
  | cons q t'=>exact .cons r ih
theorem Yd.eraseIdx:∀{xs:List V} {us:List Value} (i:Nat),Yd xs us→Yd (xs.eraseIdx i) (us.eraseIdx i)
 | _,_,_,.nil=>.nil
 | _,_,0,.cons _ t=>t
 | _,_,i+1,.cons r t=>.cons r (Yd.eraseIdx i t)
theorem Yd.reverse{xs:List V}{us:List Value}(h:Yd xs us):Yd xs.reverse us.reverse:=by
 induction h with
 | nil=>exact .nil
 | cons r t ih=>rw [List.reverse_cons,List.reverse_cons];exact Yd.append ih (.cons r .nil)
theorem Zm7{α:Type}(l:List α):l.eraseIdx (l.length-1)=l.dropLast:=by
 induction l with
 | nil=>rfl
 | cons a r ih =>
  cases r with
  | nil=>rfl
  | cons b r =>
   have e:(a ::b ::r).length-1=((b ::r).length-1)+1:=by
    have h1:(a ::b ::r).length=r.length+2:=rfl
    have h2:(b ::r).length=r.length+1:=rfl
    omega
   rw [e,List.eraseIdx_cons_succ,ih]
   all_goals rfl
theorem Zji{α:Type}:∀(l:List α) (i:Nat),(l.eraseIdx i).length≤l.length
 | [],_=>Nat.le_refl _
 | _ ::_,0=>Nat.le_succ _
 | _ ::r,i+1=>Nat.succ_le_succ (Zji r i)
section
variable {X:Cx} {pins:List (Addr×Obj)} {σ:St} {H:Hp} {s:Shared} {l b:Addr} {xs ys zs:List V}
theorem Inv.lset{its its':List Value}{n:Nat}{f:Array Value→Array Value}{t':Nat}(I:Inv X pins σ H s)(hH:H l=some (.lst xs))
  (e:s.heap.get? l=some { cls:=.type "list",data:=.seq its.toArray n }) (hf:f its.toArray=its'.toArray) (hv:Yd ys its') (hz:ys.length≤sizeLine) :
  Inv X pins σ (upd H l (.lst ys)) { s with heap:=s.heap.update l (Obj.mapSeq f),toks:=t' }:=by
 have q:=PySem.IsL.update e f
 rw [hf] at q
 refine I.write (x:=l) (e:=l) (by rw [hH];exact trivial) (.inl rfl) (fun b' u hb hu=>(Heap.get?_update_other s.heap (Obj.mapSeq f) (Ne.symm hb)).trans hu) ⟨_,q⟩ ?_
 exact ⟨hz,its',_,hv,q⟩
theorem Inv.lnew{its:List Value}{t':Nat}(I:Inv X pins σ H s)(hv:Yd ys its)(hz:ys.length≤sizeLine) :
  Inv X pins σ (upd H s.heap.objs.size (.lst ys)) { s with heap:=s.heap.push { cls:=.type "list",data:=.seq its.toArray },toks:=t' } :=
 I.laid (fun _ _ q=>Heap.get?_push_of_some _ q) (Nat.le_refl _) ⟨hz,its,0,hv,Heap.get?_push_size _ rfl⟩
theorem Inv.fresh(I:Inv X pins σ H s):H s.heap.objs.size=none:=I.hok.fresh (Nat.le_refl _)
theorem Inv.lstM(I:Inv X pins σ H s)(hH:H l=some (.lst xs)):xs.length≤sizeLine∧∃(its:List Value) (n:Nat),Yd xs its∧xs.length=its.length∧s.heap.get? l=some { cls:=.type "list",data:=.seq its.toArray n }:=by
 obtain ⟨z,its,n,r,e⟩:=I.hok l _ hH
 exact ⟨z,its,n,r,r.length,e⟩
theorem Zqr{n:Nat}(h:n≤sizeLine):Builtin.List.listTooLong n=false:=by
 unfold Builtin.List.listTooLong
 exact decide_eq_false (by omega)
end
section
variable {X:Cx}
def Ztf:V→List V→Hp→VK→Prop:=fun x vs H Q=>∃l xs y,x=.ref l∧vs=[y]∧H l=some (.lst xs)∧xs.length<sizeLine∧Q .non (upd H l (.lst (xs++[y])))
theorem Xp:MtM X "list.append" Ztf:=by
 intro pins s σ H x vs v us Q I rx rv h
 obtain ⟨l,xs,y,rfl,rfl,hH,hz,q⟩:=h
 cases rx
 obtain ⟨u,rfl,ru⟩:=rv.one
 obtain ⟨z,its,n,r,hl,e⟩:=I.lstM hH
 refine call_meets F.slot_list_append ⟨_,e,rfl⟩ F.entry_list_append (F.args_list_append_2 _ _) (PySem.list_append l its.toArray n u (by rw [List.size_toArray];omega)) ⟨e,?_⟩
 refine ⟨.non,_,I.lset (its':=its++[u]) hH e (by simp) (r.append (.cons ru .nil)) ?_,rfl,q⟩
 rw [List.length_append,List.length_singleton]
 omega
def Zsp:V→List V→Hp→VK→Prop:=fun x vs H Q=>∃l b xs zs,x=.ref l∧vs=[.ref b]∧H l=some (.lst xs)∧H b=some (.lst zs)∧xs.length+zs.length≤sizeLine∧Q .non (upd H l (.lst (xs++zs)))
theorem Zv4:MtM X "list.extend" Zsp:=by
 intro pins s σ H x vs v us Q I rx rv h
 obtain ⟨l,b,xs,zs,rfl,rfl,hH,hB,hz,q⟩:=h
 cases rx
 obtain ⟨u,rfl,ru⟩:=rv.one
 cases ru
 obtain ⟨z,its,n,r,hl,e⟩:=I.lstM hH
 obtain ⟨z2,its2,n2,r2,hl2,e2⟩:=I.lstM hB
 have hsz:its.toArray.size+its2.toArray.size≤sizeLine:=by rw [List.size_toArray,List.size_toArray];omega
 have hlong:¬(!its.toArray.isEmpty && Builtin.List.listTooLong (its.toArray.size+its2.toArray.size))=true:=by
  rw [Zqr hsz,Bool.and_false]
  exact Bool.false_ne_true
 refine call_meets F.slot_list_extend ⟨_,e,rfl⟩ F.entry_list_extend (F.args_list_extend_2 _ _)
  (AutoSeq1.list_extend_list_list_0 l its.toArray n b its2.toArray n2 hlong (by rw [List.size_toArray];omega) (by omega)) ⟨e,e2,?_⟩
 refine ⟨.non,_,I.lset (its':=its++its2) hH e (by simp) (r.append r2) ?_,rfl,q⟩
 rw [List.length_append]
 omega
def Zx0:V→List V→Hp→VK→Prop:=fun x vs H Q=>∃l xs y,x=.ref l∧vs=[]∧H l=some (.lst xs)∧xs[xs.length-1]? =some y∧Q y (upd H l (.lst xs.dropLast))
theorem Zyl:MtM X "list.pop" Zx0:=by
 intro pins s σ H x vs v us Q I rx rv h
 obtain ⟨l,xs,y,rfl,rfl,hH,hy,q⟩:=h
 cases rx
 have hus:=rv.zero
 subst hus
 obtain ⟨z,its,n,r,hl,e⟩:=I.lstM hH
 obtain ⟨u,hu,ru⟩:=r.get hy
 have hy':its.toArray[its.toArray.size-1]? =some u:=by
  show its.toArray[its.length-1]? =some u
  rw [←Array.getElem?_toList,←hl]
  exact hu
 refine call_meets F.slot_list_pop ⟨_,e,rfl⟩ F.entry_list_pop (F.args_list_pop_1 _) (MeetsSeq.list_pop_last l its.toArray n u hy' (by rw [List.size_toArray];omega)) ⟨e,?_⟩
 refine ⟨y,_,I.lset (its':=its.dropLast) hH e ?_ r.dropLast ?_,ru,q⟩
 ·show its.toArray.eraseIdxIfInBounds (its.toArray.size-1)=its.dropLast.toArray
  rw [List.size_toArray,List.eraseIdxIfInBounds_toArray,Zm7]
 ·rw [List.length_dropLast]
  omega
def Zvn:V→List V→Hp→VK→Prop:=fun x vs H Q=>∃l xs i k y,x=.ref l∧vs=[.int i]∧H l=some (.lst xs)∧-(2 ^ 63)≤i∧i<2 ^ 63∧seqIndex? i xs.length=some k∧xs[k]? =some y∧Q y (upd H l (.lst (xs.eraseIdx k)))
theorem Zmg:MtM X "list.pop" Zvn:=by
 intro pins s σ H x vs v us Q I rx rv h
 obtain ⟨l,xs,i,k,y,rfl,rfl,hH,h1,h2,hk,hy,q⟩:=h
 cases rx
 obtain ⟨u,rfl,ru⟩:=rv.one
 obtain ⟨t,rfl⟩:=ru
 obtain ⟨z,its,n,r,hl,e⟩:=I.lstM hH
 obtain ⟨w,hw,rw'⟩:=r.get hy
 refine call_meets F.slot_list_pop ⟨_,e,rfl⟩ F.entry_list_pop (F.args_list_pop_2 _ _)
  (MeetsSeq.list_pop_at l its.toArray n i t k w (fitsIndex_both h1 h2) (by rw [List.size_toArray,←hl];exact hk) (by rw [←Array.getElem?_toList];exact hw) (by rw [List.size_toArray];omega)) ⟨e,?_⟩
 refine ⟨y,_,I.lset (its':=its.eraseIdx k) hH e ?_ (r.eraseIdx k) ?_,rw',q⟩
 ·show its.toArray.eraseIdxIfInBounds k=(its.eraseIdx k).toArray
  rw [List.eraseIdxIfInBounds_toArray]
 ·have:=Zji xs k
  omega
def Zqx:V→List V→Hp→VK→Prop:=fun x vs H Q=>∃l xs,x=.ref l∧vs=[]∧H l=some (.lst xs)∧Q .non (upd H l (.lst xs.reverse))
theorem Znn:MtM X "list.reverse" Zqx:=by
 intro pins s σ H x vs v us Q I rx rv h
 obtain ⟨l,xs,rfl,rfl,hH,q⟩:=h
 cases rx
 have hus:=rv.zero
 subst hus
 obtain ⟨z,its,n,r,hl,e⟩:=I.lstM hH
 refine call_meets F.slot_list_reverse ⟨_,e,rfl⟩ F.entry_list_reverse (F.args_list_reverse_1 _) (AutoSeq1.list_reverse_list_0 l its.toArray n (by rw [List.size_toArray];omega)) ⟨e,?_⟩
 refine ⟨.non,_,I.lset (its':=its.reverse) hH e (by simp) r.reverse ?_,rfl,q⟩
 rw [List.length_reverse]
 omega
def Zym:R2:=fun x y H Q=>∃l b xs zs,x=.ref l∧y=.ref b∧H l=some (.lst xs)∧H b=some (.lst zs)∧xs.length+zs.length≤sizeLine∧∀p,H p=none→Q (.ref p) (upd H p (.lst (xs++zs)))
theorem Zvf:OpR X (binaryOp .Add) Zym:=by
 intro pins s σ H x y v u Q I rx ry h
 obtain ⟨l,b,xs,zs,rfl,rfl,hH,hB,hz,q⟩:=h
 cases rx
 cases ry
 obtain ⟨z,its,n,r,hl,e⟩:=I.lstM hH
 obtain ⟨z2,its2,n2,r2,hl2,e2⟩:=I.lstM hB
 refine PySem.P.add_list e e2 ?_ (by rw [List.size_toArray,List.size_toArray];omega)
 have ea:its.toArray++its2.toArray=(its++its2).toArray:=by simp
 rw [ea]
 exact ⟨.ref _,_,I.lnew (t':=s.toks) (r.append r2) (by rw [List.length_append];omega),rfl,q _ I.fresh⟩
end
section
variable {prog:Program} {w:World} {A:Around} {E:Value→Shared→Prop} {s:Shared}
end
section
variable {X:Cx}
end
end L2
namespace L2
open PySem PySem.Spec PyProof.Rows
section
variable {κ:Type} [DecidableEq κ]
def Y1(kvs:List (κ×V))(k:κ):Option V:=(kvs.find? fun kv=>decide (kv.1=k)).map (·.2)
def Zb6(kvs:List (κ×V))(k:κ)(v:V):List (κ×V) :=
 if (kvs.any fun kv=>decide (kv.1=k))=true then kvs.map (fun kv=>if kv.1=k then (kv.1,v) else kv) else kvs++[(k,v)]
theorem Zfk{p:κ×V}{r:List (κ×V)}{k:κ}(e:p.1=k):Y1 (p ::r) k=some p.2:=by simp [Y1,List.find?_cons,e]
theorem Zdp{p:κ×V}{r:List (κ×V)}{k:κ}(e:¬p.1=k):Y1 (p ::r) k=Y1 r k:=by simp [Y1,List.find?_cons,e]
theorem Zhv(k:κ):∀kvs:List (κ×V),(kvs.any fun kv=>decide (kv.1=k))=(Y1 kvs k).isSome
 | []=>rfl
 | p ::r=>by
  rw [List.any_cons]
  by_cases e:p.1=k
  ·simp only [Zfk e,decide_eq_true e,Bool.true_or,Option.isSome_some]
  ·rw [Zdp e,decide_eq_false e,Bool.false_or];exact Zhv k r
theorem Zb8(kvs:List (κ×V))(k:κ)(v:V):(Zb6 kvs k v).length≤kvs.length+1:=by
 unfold Zb6
 split
 ·rw [List.length_map];omega
 ·rw [List.length_append,List.length_cons,List.length_nil];omega
theorem Zqp{kvs:List (κ×V)}{k:κ}(v:V)(h:Y1 kvs k=none):Zb6 kvs k v=kvs++[(k,v)]:=by
 unfold Zb6
 rw [Zhv,h]
 exact if_neg (by decide)
theorem Zde.isSome_eq{o:Option V}{u:Option Value}(r:Zde o u):o.isSome=u.isSome:=by
 cases o with
 | none=>cases u with
  | none=>rfl
  | some _=>exact (show False from r).elim
 | some _=>cases u with
  | none=>exact (show False from r).elim
  | some _=>rfl
theorem KV.val{kvs:List (κ×V)}{vs:List (κ×Value)}(r:KV kvs vs)(k:κ):Zde (Y1 kvs k) (valueAt vs k):=by
 unfold KV at r
 induction r with
 | nil=>exact True.intro
 | @cons p q ps qs h t ih =>
  obtain ⟨h1,h2⟩:=h
  by_cases e:p.1=k
  ·have e':q.1=k:=h1.symm.trans e
   have b:valueAt (q ::qs) k=some q.2:=by simp [valueAt,List.find?_cons,e']
   rw [Zfk e,b];exact h2
  ·have e':¬q.1=k:=fun z=>e (h1.trans z)
   have b:valueAt (q ::qs) k=valueAt qs k:=by simp [valueAt,List.find?_cons,e']
   rw [Zdp e,b];exact ih
theorem KV.any{kvs:List (κ×V)}{vs:List (κ×Value)}(r:KV kvs vs)(k:κ):(kvs.any fun kv=>decide (kv.1=k))=vs.any fun kv=>decide (kv.1=k):=by
 unfold KV at r
 induction r with
 | nil=>rfl
 | cons h t ih=>rw [List.any_cons,List.any_cons,ih,h.1]
theorem KV.repl{kvs:List (κ×V)}{vs:List (κ×Value)}(r:KV kvs vs)(k:κ){y:V}{u:Value}(ry:Yo y u) :
  KV (kvs.map fun kv=>if kv.1=k then (kv.1,y) else kv) (vs.map fun kv=>if kv.1=k then (kv.1,u) else kv):=by
 unfold KV at r ⊢
 induction r with
 | nil=>exact .nil
 | @cons p q ps qs h t ih =>
  rw [List.map_cons,List.map_cons]
  refine .cons ?_ ih
  obtain ⟨h1,h2⟩:=h
  by_cases e:p.1=k
  ·rw [if_pos e,if_pos (h1.symm.trans e)];exact ⟨h1,ry⟩
  ·rw [if_neg e,if_neg (fun z=>e (h1.trans z))];exact ⟨h1,h2⟩
theorem KV.put{kvs:List (κ×V)}{vs:List (κ×Value)}(r:KV kvs vs)(k:κ){y:V}{u:Value}(ry:Yo y u):KV (Zb6 kvs k y) (stored vs k u):=by
 unfold Zb6 stored
 rw [r.any k]
 by_cases e:(vs.any fun kv=>decide (kv.1=k))=true
 ·rw [if_pos e,if_pos e];exact r.repl k ry
 ·rw [if_neg e,if_neg e];exact Paired.snoc r ⟨rfl,ry⟩
theorem KV.length{kvs:List (κ×V)}{vs:List (κ×Value)}(r:KV kvs vs):kvs.length=vs.length:=Paired.length r
end
theorem Zmi{P:Program}{w:World}{k:Key}{u:Value}(r:Yo (kV k) u):(Ym P w).is k u=true:=by
 cases k with
 | inl i=>obtain ⟨t,e⟩:=(show ∃t,u=Value.int i t from r);subst e;exact Zlu P w i t
 | inr x=>obtain ⟨t,e⟩:=(show ∃t,u=Value.str x t from r);subst e;exact Zml P w x t
theorem Zft{P:Program}{w:World}:∀{ks:List Key} {us:List Value},Yd (ks.map kV) us→ItemsAre (Ym P w) ks us
 | [],_,r=>by rw [List.map_nil] at r;cases r;exact .nil
 | k ::ks,_,r=>by
  rw [List.map_cons] at r
  cases r with
  | cons h t=>exact .cons (Zmi h) (Zft t)
abbrev KT(H:Hp):List (List Key×V)→List (List Key×Addr×Value)→Prop:=Paired fun p q=>p.1=q.1∧H q.2.1=some (.tup (p.1.map kV))∧Yo p.2 q.2.2
theorem KT.val{H:Hp}{kvs:List (List Key×V)}{xs:List (List Key×Addr×Value)}(r:KT H kvs xs)(k:List Key):Zde (Y1 kvs k) ((atKey xs k).map (·.2)):=by
 induction r with
 | nil=>exact True.intro
 | @cons p q ps qs h t ih =>
  obtain ⟨h1,_,h2⟩:=h
  by_cases e:p.1=k
  ·have e':q.1=k:=h1.symm.trans e
   have b:atKey (q ::qs) k=some q.2:=by simp [atKey,List.find?_cons,e']
   rw [Zfk e,b];exact h2
  ·have e':¬q.1=k:=fun z=>e (h1.trans z)
   have b:atKey (q ::qs) k=atKey qs k:=by simp [atKey,List.find?_cons,e']
   rw [Zdp e,b];exact ih
theorem KT.repl{H:Hp}{kvs:List (List Key×V)}{xs:List (List Key×Addr×Value)}(r:KT H kvs xs)(k:List Key){y:V}{u:Value}(ry:Yo y u) :
  KT H (kvs.map fun kv=>if kv.1=k then (kv.1,y) else kv) (xs.map (putAt k u)):=by
 induction r with
 | nil=>exact .nil
 | @cons p q ps qs h t ih =>
  rw [List.map_cons,List.map_cons]
  refine .cons ?_ ih
  obtain ⟨h1,h2,h3⟩:=h
  unfold putAt
  by_cases e:p.1=k
  ·rw [if_pos e,if_pos (h1.symm.trans e)];exact ⟨h1,h2,ry⟩
  ·rw [if_neg e,if_neg (fun z=>e (h1.trans z))];exact ⟨h1,h2,h3⟩
theorem KT.put{H:Hp}{kvs:List (List Key×V)}{xs:List (List Key×Addr×Value)}(r:KT H kvs xs)(k:List Key){b:Addr}{y:V}{u:Value}(hb:H b=some (.tup (k.map kV)))(ry:Yo y u) :
  KT H (Zb6 kvs k y) (storedH xs k b u):=by
 have e:(kvs.any fun kv=>decide (kv.1=k))=(atKey xs k).isSome:=by
  rw [Zhv,(r.val k).isSome_eq,Option.isSome_map]
 unfold Zb6 storedH
 rw [e]
 by_cases q:(atKey xs k).isSome=true
 ·rw [if_pos q,if_pos q];exact r.repl k ry
 ·rw [if_neg q,if_neg q];exact Paired.snoc r ⟨rfl,hb,ry⟩
theorem KT.keeps{H H':Hp}{kvs:List (List Key×V)}{xs:List (List Key×Addr×Value)}(r:KT H kvs xs)(ht:∀b ys,H b=some (.tup ys)→H' b=some (.tup ys)):KT H' kvs xs :=
 Paired.mapP r fun _ _ z=>⟨z.1,ht _ _ z.2.1,z.2.2⟩
section
variable {P:Program} {w:World} {H:Hp} {h:Heap} {a:Addr}
theorem Zt6{u:HO}(ok:HOk P w H h)(e:Rd H a u):Yu P w H h a u:=e.ok ok
theorem Zdl{kvs:List (Key×V)}(ok:HOk P w H h)(e:Rd H a (.dK kvs)):kvs.length≤sizeLine∧(a ==sysModules)=false∧∃vs,KV kvs vs∧h.DictOf (Ym P w) a vs :=
 show Yu P w H h a (.dK kvs) from Zt6 ok e
theorem Zq6{kvs:List (Key×V)}(ok:HOk P w H h)(e:H a=some (.dK kvs)):kvs.length≤sizeLine∧(a ==sysModules)=false∧∃vs,KV kvs vs∧h.DictOf (Ym P w) a vs:=Zdl ok (.inl e)
theorem Zhk{ks:List Key}(ok:HOk P w H h)(e:H a=some (.tup (ks.map kV))):(tupleKind (Ym P w)).is h ks a:=by
 obtain ⟨_,its,r,o,h1,h2,n,h3⟩:=(show Yu P w H h a (.tup (ks.map kV)) from ok a _ e)
 exact ⟨o,its.toArray,n,h1,h2,h3,by simpa using Zft r⟩
theorem Zlp{kvs:List (List Key×V)}(ok:HOk P w H h)(e:Rd H a (.dT kvs)):kvs.length≤sizeLine∧(a ==sysModules)=false ∧
  ∃xs,KT H kvs xs∧h.DictOfH (tupleKind (Ym P w)) a xs:=by
 obtain ⟨z,y,xs,r,o,es,ep,h1,h2,h3,h4,h5⟩:=(show Yu P w H h a (.dT kvs) from Zt6 ok e)
 refine ⟨z,y,xs,r,o,es,ep,h1,h2,h3,h4,fun x hx=>?_,h5⟩
 have all:∀{l:List (List Key×V)} {m:List (List Key×Addr×Value)},KT H l m→∀x∈m,(tupleKind (Ym P w)).is h x.1 x.2.1:=by
  intro l m q
  induction q with
  | nil=>intro x hx;exact nomatch hx
  | @cons p q ps qs hq t ih =>
   intro x hx
   rcases List.mem_cons.mp hx with e|hx
   ·subst e
    exact Zhk ok (by rw [←hq.1];exact hq.2.1)
   ·exact ih x hx
 exact all r x hx
theorem Zt4{kvs:List (List Key×V)}(ok:HOk P w H h)(e:H a=some (.dT kvs)):kvs.length≤sizeLine∧(a ==sysModules)=false ∧
  ∃xs,KT H kvs xs∧h.DictOfH (tupleKind (Ym P w)) a xs:=Zlp ok (.inl e)
end
def Zc4(H:Hp)(a:Addr)(y:V)(r:Option V):Prop :=
 (∃kvs k,Rd H a (.dK kvs)∧y=kV k∧r=Y1 kvs k)∨∃kvs k b,Rd H a (.dT kvs)∧y=.ref b∧H b=some (.tup (k.map kV))∧r=Y1 kvs k
def Zfv(H:Hp)(a:Addr)(y v:V)(H':Hp):Prop :=
 (∃kvs k,H a=some (.dK kvs)∧y=kV k∧kvs.length<sizeLine∧H'=upd H a (.dK (Zb6 kvs k v))) ∨
 ∃kvs k b,H a=some (.dT kvs)∧y=.ref b∧H b=some (.tup (k.map kV))∧kvs.length<sizeLine∧H'=upd H a (.dT (Zb6 kvs k v))
theorem Zc4.k{H:Hp}{a:Addr}{kvs:List (Key×V)}{k:Key}(e:H a=some (.dK kvs)):Zc4 H a (kV k) (Y1 kvs k):=.inl ⟨kvs,k,.inl e,rfl,rfl⟩
theorem Zc4.t{H:Hp}{a b:Addr}{kvs:List (List Key×V)}{k:List Key}(e:H a=some (.dT kvs))(eb:H b=some (.tup (k.map kV))):Zc4 H a (.ref b) (Y1 kvs k):=.inr ⟨kvs,k,b,.inl e,rfl,eb,rfl⟩
theorem Zfv.k{H:Hp}{a:Addr}{kvs:List (Key×V)}{k:Key}{v:V}(e:H a=some (.dK kvs))(hl:kvs.length<sizeLine):Zfv H a (kV k) v (upd H a (.dK (Zb6 kvs k v))):=.inl ⟨kvs,k,e,rfl,hl,rfl⟩
theorem Zfv.t{H:Hp}{a b:Addr}{kvs:List (List Key×V)}{k:List Key}{v:V}(e:H a=some (.dT kvs))(eb:H b=some (.tup (k.map kV)))(hl:kvs.length<sizeLine) :
  Zfv H a (.ref b) v (upd H a (.dT (Zb6 kvs k v))):=.inr ⟨kvs,k,b,e,rfl,eb,hl,rfl⟩
section
variable {X:Cx} {pins:List (Addr×Obj)} {σ:St} {H:Hp} {s:Shared} {a:Addr} {y v:V} {u r:Value} {o:Option V} {A:Around} {E:Value→Shared→Prop}
theorem Inv.big(I:Inv X pins σ H s):sysModules<s.heap.objs.size:=by
 have h:mainGlobals<s.heap.objs.size:=(I.mod.glob.keeps I.bk).lt
 exact Nat.lt_trans (by decide) h
theorem Zp7{Q:Value→Shared→Prop}(hu:A.units+1<cLine)(I:Inv X pins σ H s)(g:Zc4 H a y (some v))(ry:Yo y u)(h:∀w' s',Inv X pins σ H s'→Yo v w'→Q w' s') :
  wpAny (model X.prog X.w) A (getItem (.ref a) u) Q E s:=by
 rcases g with ⟨kvs,k,e,ey,l⟩|⟨kvs,k,b,e,ey,eb,l⟩
 ·subst ey
  obtain ⟨z,hd,vs,rel,dd⟩:=Zdl I.hok e
  obtain ⟨w',hw,rw'⟩:=Zde.some_of (v:=v) (o:=valueAt vs k) (by rw [l];exact rel.val k)
  exact wpAny_getItem_of (Zmi ry) dd.mapOf hw (h w' _ (I.tok _) rw')
 ·subst ey
  cases (show u=Value.ref b from ry)
  obtain ⟨z,hd,xs,rel,dd⟩:=Zlp I.hok e
  obtain ⟨w',hw,rw'⟩:=Zde.some_of (v:=v) (o:=(atKey xs k).map (·.2)) (by rw [l];exact rel.val k)
  obtain ⟨p,hp,hp2⟩:=Option.map_eq_some_iff.mp hw
  refine wpAny_getItem_heap (tupleKind_room_in1 hu) (Zhk I.hok eb) dd hp ?_
  rw [hp2]
  exact h w' _ (I.tok _) rw'
theorem Zyk{Q:Value→Shared→Prop}(hu:A.units+1<cLine)(I:Inv X pins σ H s)(g:Zc4 H a y o)(ry:Yo y u)(h:∀s',Inv X pins σ H s'→Q (.bool o.isSome) s') :
  wpAny (model X.prog X.w) A (compareOp .In u (.ref a)) Q E s:=by
 rcases g with ⟨kvs,k,e,ey,l⟩|⟨kvs,k,b,e,ey,eb,l⟩
 ·subst ey
  obtain ⟨z,hd,vs,rel,dd⟩:=Zdl I.hok e
  refine wpAny_in_of (Zmi ry) hd dd.mapOf ?_
  rw [←(rel.val k).isSome_eq,←l]
  exact h _ (I.tok _)
 ·subst ey
  cases (show u=Value.ref b from ry)
  obtain ⟨z,hd,xs,rel,dd⟩:=Zlp I.hok e
  refine wpAny_in_heap (tupleKind_room_in1 hu) (Zhk I.hok eb) hd dd ?_
  have q:=(rel.val k).isSome_eq
  rw [Option.isSome_map] at q
  rw [←q,←l]
  exact h _ (I.tok _)
theorem Zsy{Q:Value→Shared→Prop}(hu:A.units+1<cLine)(I:Inv X pins σ H s)(g:Zc4 H a y o)(ry:Yo y u)(h:∀s',Inv X pins σ H s'→Q (.bool (!o.isSome)) s') :
  wpAny (model X.prog X.w) A (compareOp .NotIn u (.ref a)) Q E s:=by
 rcases g with ⟨kvs,k,e,ey,l⟩|⟨kvs,k,b,e,ey,eb,l⟩
 ·subst ey
  obtain ⟨z,hd,vs,rel,dd⟩:=Zdl I.hok e
  refine wpAny_notIn_of (Zmi ry) hd dd.mapOf ?_
  rw [←(rel.val k).isSome_eq,←l]
  exact h _ (I.tok _)
 ·subst ey
  cases (show u=Value.ref b from ry)
  obtain ⟨z,hd,xs,rel,dd⟩:=Zlp I.hok e
  refine wpAny_notIn_heap (tupleKind_room_in1 hu) (Zhk I.hok eb) hd dd ?_
  have q:=(rel.val k).isSome_eq
  rw [Option.isSome_map] at q
  rw [←q,←l]
  exact h _ (I.tok _)
theorem Zn5{h':Heap}{t':Nat}{ob:HO}(I:Inv X pins σ H s)(mu:Mut (H a))(hs:Heap.SameBut a s.heap h')(he:∃q,h'.get? a=some q)(new:Yu X.prog X.w (upd H a ob) h' a ob) :
  Inv X pins σ (upd H a ob) { s with heap:=h',toks:=t' } :=
 I.write (x:=a) (e:=a) mu (.inl rfl) (fun b q hb z=>(hs.2 b hb).trans z) he new
theorem Zvi{P:Program}{w:World}{H':Hp}{h':Heap}{kvs:List (Key×V)}{vs:List (Key×Value)}(z:kvs.length≤sizeLine)(hd:(a ==sysModules)=false)(rel:KV kvs vs)(dd:h'.DictOf (Ym P w) a vs) :
  Yu P w H' h' a (.dK kvs):=⟨z,hd,vs,rel,dd⟩
theorem Zop{H':Hp}{Q:Unit→Shared→Prop}(hu:A.units+1<cLine)(I:Inv X pins σ H s)(g:Zfv H a y v H')(ry:Yo y u)(rv:Yo v r)(h:∀s',Inv X pins σ H' s'→Q () s') :
  wpAny (model X.prog X.w) A (setItem (.ref a) u r) Q E s:=by
 rcases g with ⟨kvs,k,e,ey,l,eH⟩|⟨kvs,k,b,e,ey,eb,l,eH⟩
 ·subst ey eH
  obtain ⟨z,hd,vs,rel,dd⟩:=Zq6 I.hok e
  have hz:vs.length≤sizeLine:=by rw [←rel.length];exact z
  have hl:(Zb6 kvs k v).length≤sizeLine:=by have:=Zb8 kvs k v;omega
  refine wpAny_setItem_pairs (hsz:=hz) (Zmi ry) dd fun h' dd' hs=>h _ ?_
  have he:∃q,h'.get? a=some q:=let ⟨q,_,_,hq,_⟩:=dd';⟨q,hq⟩
  exact Zn5 I (by rw [e];exact True.intro) hs he (Zvi hl hd (rel.put k rv) dd')
 ·subst ey eH
  cases (show u=Value.ref b from ry)
  obtain ⟨z,hd,xs,rel,dd⟩:=Zt4 I.hok e
  have hz:xs.length≤sizeLine:=by rw [←Paired.length rel];exact z
  have hl:(Zb6 kvs k v).length≤sizeLine:=by have:=Zb8 kvs k v;omega
  refine wpAny_setItem_heap (hsz:=hz) (tupleKind_room_in1 hu) (Zhk I.hok eb) dd fun h' dd' hs=>h _ ?_
  obtain ⟨q,es,ep,hq,h2,h3,h4,_,h5⟩:=dd'
  refine Zn5 I (by rw [e];exact True.intro) hs ⟨q,hq⟩ ⟨hl,hd,_,(rel.put k eb rv).keeps fun c ys ec=>?_,q,es,ep,hq,h2,h3,h4,h5⟩
  rw [Zi (Zuj ec e (fun z=>nomatch z))]
  exact ec
end
section
variable {X:Cx} {pins:List (Addr×Obj)} {σ:St} {H:Hp} {s:Shared} {a:Addr} {kvs:List (Key×V)} {k:Key} {u:Value} {A:Around} {E:Value→Shared→Prop}
theorem Zwz{Q:Value→Shared→Prop}(I:Inv X pins σ H s)(e:Rd H a (.dK kvs))(h:∀t s',Inv X pins σ H s'→Q (.int kvs.length t) s'):wpAny (model X.prog X.w) A (call (.builtin "len") [.ref a]) Q E s:=by
 obtain ⟨z,hd,vs,rel,dd⟩:=Zdl I.hok e
 refine call_len_dict hd dd (by rw [←rel.length];rw [sizeLine_eq] at z;omega) ?_
 rw [←rel.length]
 exact h _ _ (I.tok _)
end
def Zxa(i:Expr):Prop:=∀ov iv,subscripted i false ov iv=operate [ov,iv] (getItem ov iv)
theorem Ztn{prog:Program}{w:World}{A:Around}{E:Value→Shared→Prop}{s:Shared}{env:Env}{value slice:Expr}{pos:Pos}{T id:String}{Q:Value→Shared→Prop}
  (hl:typeLookup (.type T) "__getitem__" =pure (some (.builtin id))) (hs:Zxa slice)
  (h:wpAny (model prog w) A (eval value env) (fun o s₁=>wpAny (model prog w) A (eval slice env) (fun i s₂=>s₂.TypeIs o T∧wpAny (model prog w) A (getItem o i) Q E s₂) E s₁) E s) :
  wpAny (model prog w) A (eval (.Subscript value slice pos) env) Q E s:=by
 refine Subscript_ (wpAny_mono h (fun o s₁ h₁=>wpAny_mono h₁ (fun i s₂ h₂=>?_) fun _ _ x=>x) fun _ _ x=>x)
 obtain ⟨hT,h₂⟩:=h₂
 unfold subscriptTail
 refine wpAny_bind ?_
 rw [getitemInPython_of_ne hT.not_modules]
 refine wpAny_bind (wpAny_specialOf hT hl ?_)
 have fin:wpAny (model prog w) A (subscripted slice false o i) (fun r s₃=>wpAny (model prog w) A (letTemporaryGo value o r >>=fun _=>pure r) Q E s₃) E s₂:=by
  rw [hs o i]
  exact wpAny_operating (wpAny_mono h₂ (fun r s₃ h₃=>wpAny_bind (wpAny_letTemporaryGo (wpAny_pure h₃))) fun _ _ x=>x)
 first
  | exact wpAny_pure (wpAny_bind fin)
  | exact wpAny_bind (wpAny_pure (wpAny_bind fin))
  | exact wpAny_bind fin
theorem Zl5{X:Cx}{pins:List (Addr×Obj)}{σ:St}{H:Hp}{s:Shared}{a:Addr}{y:V}{o:Option V}(I:Inv X pins σ H s)(g:Zc4 H a y o):s.TypeIs (.ref a) "dict" :=by
 rcases g with ⟨kvs,k,e,_,_⟩|⟨kvs,k,b,e,_,_,_⟩
 ·obtain ⟨_,_,vs,_,dd⟩:=Zdl I.hok e
  exact dd.typeIs
 ·obtain ⟨_,_,xs,_,dd⟩:=Zlp I.hok e
  exact dd.typeIs
def Zv9(td ty:TE):TE:=fun σ H Q=>td σ H fun x H1=>ty σ H1 fun y H2=>∃a v,x=.ref a∧Zc4 H2 a y (some v)∧Q v H2
def Zw9(td ty tv:TE):TS:=fun D σ H=>tv σ H fun v H1=>td σ H1 fun x H2=>ty σ H2 fun y H3=>∃a H4,x=.ref a∧Zfv H3 a y v H4∧D.nx σ H4
section
variable {X:Cx} {o i e value:Expr} {pos pos' tpos:Pos} {td ty tv:TE}
theorem Zke(hu:X.A.units+1<cLine)(ho:PE X o td)(hi:PE X i ty)(hs:Zxa i):PE X (.Subscript o i pos) (Zv9 td ty):=by
 intro pins s σ H Q I h
 refine Ztn PySem.F.slot_dict_getitem.lookup hs (thn (ho pins s σ H _ I h) fun u s1 ⟨x,H1,I1,rx,q1⟩=>thn (hi pins s1 σ H1 _ I1 q1) fun iv s2 ⟨y,H2,I2,ry,a,v,ex,g,q2⟩=>?_)
 subst ex
 obtain rfl:u=Value.ref a:=rx
 exact ⟨Zl5 I2 g,Zp7 hu I2 g ry fun w' s3 I3 rw'=>⟨v,H2,I3,rw',q2⟩⟩
theorem Zcy(hu:X.A.units+1<cLine)(ho:PE X o td)(hi:PE X i ty)(hv:PE X value tv)(hs:swapsWith value (some (.Subscript o i pos')) pos.line X.env=pure false) :
  PS X (.Assign [.Subscript o i pos'] value pos) (Zw9 td ty tv):=by
 intro pins s σ H D I h
 refine wpAny_Assign_Subscript (thn (hv pins s σ H _ I h) fun r s1 ⟨v,H1,I1,rv,q1⟩=>thn (ho pins s1 σ H1 _ I1 q1) fun u s2 ⟨x,H2,I2,rx,q2⟩=>thn (hi pins s2 σ H2 _ I2 q2) fun iv s3 ⟨y,H3,I3,ry,a,H4,ex,g,q3⟩=>?_) hs
 subst ex
 obtain rfl:u=Value.ref a:=rx
 exact Zop hu I3 g ry rv fun s4 I4=>⟨σ,H4,I4,q3⟩
end
theorem Zr9{P:Program}{w:World}{H:Hp}(h:Heap)(hb:sysModules<h.objs.size):Yu P w H (h.push { cls:=.type "dict",data:=.dict #[] }) h.objs.size (.dK []) :=
 ⟨Nat.zero_le _,beq_eq_false_iff_ne.mpr (Ne.symm (Nat.ne_of_lt hb)),[],.nil,Heap.DictOf.new h⟩
theorem Zrg{P:Program}{w:World}{H:Hp}(h:Heap)(hb:sysModules<h.objs.size):Yu P w H (h.push { cls:=.type "dict",data:=.dict #[] }) h.objs.size (.dT []) :=
 ⟨Nat.zero_le _,beq_eq_false_iff_ne.mpr (Ne.symm (Nat.ne_of_lt hb)),[],.nil,_,#[],0,Heap.get?_push_size _ rfl,⟨rfl,rfl,rfl⟩,rfl,rfl,List.nodup_nil⟩
def Zu5:TE:=fun _ H Q=>∀p,H p=none→Q (.ref p) (upd H p (.dK []))
def Zvm:TE:=fun _ H Q=>∀p,H p=none→Q (.ref p) (upd H p (.dT []))
section
variable {X:Cx} {pos:Pos}
theorem Zrf:PE X (.Dict [] [] pos) Zu5:=fun pins s σ H Q I h =>
 wpAny_Dict_empty ⟨.ref s.heap.objs.size,_,I.laid (a:=s.heap.objs.size) (o:=.dK []) (t':=s.toks) (fun _ _ q=>Heap.get?_push_of_some _ q) (Nat.le_refl _) (Zr9 s.heap I.big),rfl,h _ (I.hok.fresh (Nat.le_refl _))⟩
theorem Zqy:PE X (.Dict [] [] pos) Zvm:=fun pins s σ H Q I h =>
 wpAny_Dict_empty ⟨.ref s.heap.objs.size,_,I.laid (a:=s.heap.objs.size) (o:=.dT []) (t':=s.toks) (fun _ _ q=>Heap.get?_push_of_some _ q) (Nat.le_refl _) (Zrg s.heap I.big),rfl,h _ (I.hok.fresh (Nat.le_refl _))⟩
end
structure M1(X:Cx)(o:Expr)(m:Str)(apos:Pos)(e:Expr)(cpos:Pos):Prop where
 base:attributeBase o m X.env (eval o X.env)=eval o X.env
 few:((backTo cpos (starEach [e] X.env)).all (fun x=>!x.1) && (backToKw cpos (keywordEach [] X.env)).all (fun x=>x.1.isSome)
  && decide (([e]:List Expr).length+([]:List Keyword).length+(if ([]:List Keyword).isEmpty then 0 else 1)<30))=true
 line:(apos.endLine ==cpos.line)=true
 trees:backTo cpos (starEach [e] X.env)=[(false,eval e X.env)]
structure M2(X:Cx)(o:Expr)(m:Str)(apos:Pos)(e f:Expr)(cpos:Pos):Prop where
 base:attributeBase o m X.env (eval o X.env)=eval o X.env
 few:((backTo cpos (starEach [e,f] X.env)).all (fun x=>!x.1) && (backToKw cpos (keywordEach [] X.env)).all (fun x=>x.1.isSome)
  && decide (([e,f]:List Expr).length+([]:List Keyword).length+(if ([]:List Keyword).isEmpty then 0 else 1)<30))=true
 line:(apos.endLine ==cpos.line)=true
 trees:backTo cpos (starEach [e,f] X.env)=[(false,eval e X.env),(false,eval f X.env)]
section
variable {X:Cx} {pins:List (Addr×Obj)} {σ:St} {H:Hp} {s:Shared} {a:Addr} {y d:V} {u r:Value} {o:Option V} {A:Around} {E:Value→Shared→Prop}
end
section
variable {X:Cx} {o e f:Expr} {apos cpos:Pos} {td ty tx:TE}
end
section
variable {X:Cx} {pins:List (Addr×Obj)} {σ:St} {H:Hp} {s:Shared} {a:Addr} {kvs:List (Key×V)} {A:Around} {E:Value→Shared→Prop}
end
section
variable {X:Cx} {pins:List (Addr×Obj)} {σ:St} {H:Hp} {s:Shared} {a:Addr} {y:V} {u:Value} {A:Around} {E:Value→Shared→Prop}
end
end L2
namespace Att
open PySem PySem.W PySem.Calls PyProof.Rows
theorem Zgl{P:Params}{h:Heap}:∀(ns:List Int) (vs:List Value),WellAll P h vs (ns.map WData.int)→IntsAre vs ns:=by
 intro ns
 induction ns with
 | nil =>
  intro vs w
  rw [List.map_nil] at w
  cases w
  exact .nil
 | cons n ns ih =>
  intro vs w
  rw [List.map_cons] at w
  cases w with
  | cons a b =>
   cases a
   exact .cons _ _ (ih _ b)
theorem Zoq{l:OpenLaw}{n:Nat}(hn:l.most=some n){P:Params}{h:Heap}{args:List WData}{vals:List Value}
  (hpre:l.row.toRowW.claim.pre args=true) (hwl:WellAll P h vals args) :
  ∃a vs ns,vals=[Value.ref a]∧args=[WData.list (ns.map WData.int)]∧h.get? a=some { cls:=.type "list",data:=.seq vs.toArray }∧IntsAre vs ns∧ns.length≤n:=by
 have hsh:WShape.hasAll [] args [.list .int]=true:=(pre_splitW hpre).1
 have hc:l.pre.holds [] { args:=args }=true:=(pre_splitW hpre).2
 obtain ⟨d,r,rfl,h1,h2⟩:=hasAllW_cons hsh
 obtain rfl:=hasAllW_nil h2
 obtain ⟨xs,rfl,h3⟩:=hasW_list h1
 obtain ⟨ns,rfl⟩:=items_int h3
 have hlen:ns.length≤n:=by
  unfold OpenLaw.pre at hc
  have h4:(WTm.not (.lt (.lit (.int (n:Int))) (.len (.arg 0)))).holds [] { args:=[.list (ns.map .int)] }=true:=by
   have h4:=(holds_andW hc).1
   rw [hn] at h4
   exact h4
  have h5:=condW_of h4 (w_not (w_lt w_lit (w_len_list (w_arg rfl))))
  rw [List.length_map] at h5
  refine Nat.le_of_not_lt fun q=>?_
  have q':(n:Int)<((ns.length:Nat):Int):=by omega
  first
   | (rw [decide_eq_true q'] at h5;exact absurd h5 (by decide))
   | (simp at h5;omega)
 cases hwl with
 | cons w1 w2 =>
  cases w2
  cases w1 with
  | list ho hall=>exact ⟨_,_,ns,rfl,rfl,ho,Zgl ns _ hall,hlen⟩
theorem Zow(l:OpenLaw)(args:List WData):l.row.toRowW.claim.post args (.bool true) args=true :=
 postW_of (r:=l.row.toRowW) (X:=(true ==true))
  (show WShape.has [] (.bool true) .bool=true by first | rfl | decide | simp [WShape.has,WShape.arms,WShape.armsAll])
  (show (WTm.eq .res (.lit (.bool true))).value [] { args:=args,res:=some (.bool true),after:=args }=some (.bool (true ==true)) from w_eq_bool (w_res rfl) w_lit) rfl
theorem attach_call{l:OpenLaw}{n:Nat}{q:Program}{loose:List Str}{XP:(Str→Option Value)→Heap→Prop}{YP:World→Heap→Prop}{d:DefRec}
  (hn:l.most=some n) (hdf:d.params.defaults=[])
  (call:∀(w:World) (s₀ s₁:Shared) (mg mb:Str→Option Value) (fa:Addr) (o:Obj) (pm cd doc:Value) (a:Addr) (vs:List Value) (ns:List Int),
   Ground q loose [] XP w s₀ mg mb s₁.heap→YP w s₁.heap →
   s₁.heap.get? fa=some o→o.data=.func (docDef d.name d.params d.body d.scope pm cd doc)→s₁.heap.CodeRec cd d.name→mg d.name=some (.ref fa) →
   s₁.heap.get? a=some { cls:=.type "list",data:=.seq vs.toArray }→IntsAre vs ns→ns.length≤n→s₁.gens=#[] →
   codeAny (model l.prog w) callerA (.call (.ref fa) ⟨[.ref a],[]⟩) (fun r s'=>r=.ok (.ret (.bool true))∧OldK s₁.heap s'.heap∧s'.os=s₁.os∧AllBare s'.gens) s₁) :
  WalkO q loose XP YP l.row.toRowW d [] (fun f vs=>PySem.call f vs):=by
 intro w s₀ s₁ mg mb G Y fa o pm cd doc dV kV ho hd hcd hD hmg hg args vals as hpre hlay hrd hwl hlo
 obtain rfl:dV=.none:=Dflts.none hD hdf
 obtain rfl:kV=.none:=Dflts.noKw hD
 obtain ⟨a,vs,ns,rfl,rfl,hobj,hints,hlen⟩:=Zoq hn hpre hwl
 refine enter_call (codeAny_mono (call w s₀ s₁ mg mb fa o pm cd doc a vs ns G Y ho (fd_plain hd) hcd hmg hobj hints hlen hg) fun r s' hq=>?_)
 obtain ⟨rfl,h2,h3,h4⟩:=hq
 exact ⟨.inl ⟨.bool true,.bool true,[],rfl,fun _=>rfl,.bool true,Zow l _,fun _=>⟨List.Pairwise.nil,fun _ hm=>(nomatch hm)⟩⟩,h2,h3,h4⟩
section
variable {prog:Program} {w:World} {A:Around} {E:Value→Shared→Prop} {s:Shared} {K:Frag}
def Zxv(h:Heap)(L d:Addr):List (Addr×Obj):=(List.range h.objs.size).filterMap fun a=>if a=L∨a=d then none else (h.get? a).map fun o=>(a,o)
end
end Att
namespace L2
open PySem PySem.Spec PyProof.Rows
theorem Zjj:∀{vs:List Value} {ns:List Int},IntsAre vs ns→Yd (ns.map V.int) vs
 | _,_,.nil=>.nil
 | _,_,.cons n t h=>.cons ⟨t,rfl⟩ (Zjj h)
def Zur(H:Hp):Prop:=∀b,H b=none∨∃o xs,H b=some (.frz o (.lst xs))
theorem Zrw{P:Program}{w:World}{K:Frag}{mg mb:Str→Option Value}{CX:CXT}{k:Nat}{fa a:Addr}{fd:FuncData}{x:Str}{sp:Sp}{s₁:Shared}{vs:List Value}{ns:List Int}
  (KX:K.In s₁.heap) (hns:s₁.heap.Ns mainGlobals mg) (hb:s₁.heap.Ns builtinsNs mb) (hbb:∀x:Str,x ≠ "__name__" →mb x=bootBuiltins x) (hlim:s₁.heap.NoLimit) (hbm:Zuh mg s₁.heap) (hg:s₁.gens=#[])
  (ha:s₁.heap.get? a=some { cls:=.type "list",data:=.seq vs.toArray }) (hi:IntsAre vs ns) (hl:ns.length≤sizeLine) (hr:W8 k callerA)
  (F:∀base:Heap,K.In base→base.Ns mainGlobals mg→Yf P w K mg base CX k fa fd [x] sp) (hbind:∀(s:Shared) (u:Value),BindsTo s fd ⟨[u],[]⟩ [(x,u)])
  (hsp:∀H:Hp,Zur H→SqL K H a (ns.map V.int)→sp [.ref a] H (fun v _=>v=.bl true) fun _ _ _=>False)
  (hCX:∀H e s',CX [] H s₁ (fun _ _ _=>False) e s'→False) :
  codeAny (model P w) callerA (.call (.ref fa) ⟨[.ref a],[]⟩) (fun r s'=>r=.ok (.ret (.bool true))∧OldK s₁.heap s'.heap∧s'.os=s₁.os∧AllBare s'.gens) s₁:=by
 have rv:=Zjj hi
 have lenV:=hi.length
 have core:∀H:Hp,Zur H→SqL K H a (ns.map V.int)→HOk P w H s₁.heap→(∀b,H b≠none→b=a)→(H a≠none→K.lookup a=none) →
   codeAny (model P w) callerA (.call (.ref fa) ⟨[.ref a],[]⟩) (fun r s'=>r=.ok (.ret (.bool true))∧OldK s₁.heap s'.heap∧s'.os=s₁.os∧AllBare s'.gens) s₁:=by
  intro H hO hS hok hA hK
  have base_of:∀{b:Addr} {o:Obj},s₁.heap.get? b=some o→H b=none→(Zkr s₁.heap H).get? b=some o:=fun e n=>Zsg e n
  have noA:∀{b:Addr} {o:Obj} {es:Array DictEntry} {ep:Nat},s₁.heap.get? b=some o→o.data=.dict es ep→H b=none:=fun {b o es ep} e d=>by
   cases q:H b with
   | none=>rfl
   | some u =>
    have e':b=a:=hA b (by rw [q];simp)
    subst e'
    rw [ha] at e;cases e
    have d':Data.seq vs.toArray _=Data.dict es ep:=d
    cases d'
  have nsK:∀{b:Addr} {m:Str→Option Value},s₁.heap.Ns b m→(Zkr s₁.heap H).Ns b m:=fun {b m} ⟨o,es,ep,e,d,r⟩=>⟨o,es,ep,base_of e (noA e d),d,r⟩
  have hKb:K.In (Zkr s₁.heap H):=fun b o e=>base_of (KX b o e) (by
   cases q:H b with
   | none=>rfl
   | some u =>
    have e':b=a:=hA b (by rw [q];simp)
    subst e'
    rw [hK (by rw [q];simp)] at e;cases e)
  have hM:Mod K mg (Zkr s₁.heap H):=⟨hKb,nsK hns,⟨mb,nsK hb,hbb⟩,let ⟨mc,h1,h2⟩:=hlim;⟨mc,nsK h1,h2⟩,by
   obtain ⟨bm,ob,b1,b2,b3,b4,b5,b6⟩:=hbm
   refine ⟨bm,ob,b1,b2,base_of b3 ?_,b4,b5,b6⟩
   cases q:H bm with
   | none=>rfl
   | some u =>
    have e':bm=a:=hA bm (by rw [q];simp)
    subst e'
    rw [ha] at b3;cases b3
    cases b6⟩
  have e0:Zkk P w K mg (Zkr s₁.heap H) callerA [] s₁ H:=⟨rfl,hM,fun b o e=>Ztv e,Nat.le_of_eq (Zou _ _),trivial,fun b hb=>absurd (show b∈([]:List Addr) from hb) (by simp),hok,.of_eq hg⟩
  refine codeAny_mono ((F _ hKb (nsK hns)).run callerA [] s₁ H ⟨[.ref a],[]⟩ [.ref a] [.ref a] _ _ hr e0 (hbind s₁ (.ref a)) (.cons rfl .nil) (hsp H hO hS)) fun r s' h=>?_
  cases r with
  | error e=>exact (hCX H e s' h).elim
  | ok fl =>
   cases fl with
   | next=>exact False.elim h
   | brk=>exact False.elim h
   | cont=>exact False.elim h
   | ret u =>
    obtain ⟨v,H',os,bare,un,hok',r',q⟩:=h
    have q':v=.bl true:=q
    subst q'
    obtain rfl:u=Value.bool true:=r'
    refine ⟨rfl,OldK.of_keep fun b o e=>?_,os,bare⟩
    cases q:H b with
    | none=>exact un.keep b o e q (by intro z;exact absurd (show b∈([]:List Addr) from z) (by simp)) (by simp)
    | some u =>
     rcases hO b with z|⟨ob,xs,z⟩
     ·rw [q] at z;cases z
     ·have z2:=un.frzs b ob _ z
      obtain ⟨e1,_⟩:=hok b _ z
      obtain ⟨e2,_⟩:=hok' b _ z2
      rw [e] at e1;cases e1
      exact e2
 cases hk:K.lookup a with
 | some o =>
  have e:=KX a o hk
  rw [ha] at e
  cases e
  refine core (fun _=>none) (fun _=>.inl rfl) (.inr ⟨_,vs.toArray,_,hk,rfl,rfl,rfl,by rw [List.size_toArray,lenV];exact hl,by simpa using rv⟩) (fun b u z=>by have z':(none:Option HO)=some u:=z;cases z') (fun b z=>absurd rfl z) fun z=>absurd rfl z
 | none =>
  refine core (fun b=>if b=a then some (.frz { cls:=.type "list",data:=.seq vs.toArray } (.lst (ns.map V.int))) else none) (fun b=>?_) (.inl (.inr ⟨{ cls:=.type "list",data:=.seq vs.toArray },if_pos rfl⟩)) (fun b u z=>?_) (fun b z=>?_) fun _=>hk
  ·by_cases hb:b=a
   ·exact .inr ⟨_,_,if_pos hb⟩
   ·exact .inl (if_neg hb)
  ·by_cases hb:b=a
   ·have z':=(if_pos hb).symm.trans z
    cases z'
    subst hb
    exact ⟨ha,by rw [List.length_map];exact hl,vs,_,rv,ha⟩
   ·have z':=(if_neg hb).symm.trans z
    cases z'
  ·by_cases hb:b=a
   ·exact hb
   ·exact absurd (if_neg hb) z
end L2
namespace L2
open PySem PySem.Spec PyProof.Rows
theorem walk_of{l:PySem.W.OpenLaw}{n k:Nat}{q:Program}{loose:List Str}{XP:(Str→Option Value)→Heap→Prop}{YP:World→Heap→Prop}{d:DefRec}{K:Params→Frag}{CX:World→CXT}{sp:World→Sp}{x:Str}
  (hn:l.most=some n) (hn2:n≤sizeLine) (hdf:d.params.defaults=[]) (hr:W8 k callerA)
  (hY:∀(w:World) (h:Heap),YP w h→(K w.params).In h)
  (F:∀(w:World) (mg:Str→Option Value) (fa:Addr) (h:Heap),(K w.params).In h→h.Ns mainGlobals mg→mg d.name=some (.ref fa) →
   ∃fd:FuncData,(∀(s:Shared) (u:Value),BindsTo s fd ⟨[u],[]⟩ [(x,u)]) ∧
    ∀base:Heap,(K w.params).In base→base.Ns mainGlobals mg→Yf l.prog w (K w.params) mg base (CX w) k fa fd [x] (sp w))
  (hsp:∀(w:World) (H:Hp) (a:Addr) (ns:List Int),ns.length≤n→Zur H→SqL (K w.params) H a (ns.map V.int)→sp w [.ref a] H (fun v _=>v=.bl true) fun _ _ _=>False)
  (hCX:∀(w:World) (H:Hp) (s:Shared) (e:Value) (s':Shared),CX w [] H s (fun _ _ _=>False) e s'→False) :
  PySem.W.WalkO q loose XP YP l.row.toRowW d [] (fun f vs=>PySem.call f vs):=by
 refine Att.attach_call hn hdf fun w s₀ s₁ mg mb fa o pm cd doc a vs ns G Y ho hd hcd hmg hobj hints hlen hg=>?_
 have KX:=hY w _ Y
 obtain ⟨fd,hb,hF⟩:=F w mg fa _ KX G.T.g hmg
 exact Zrw KX G.T.g G.T.b G.T.builtins G.T.nolimit G.T.bmain hg hobj hints (Nat.le_trans hlen hn2) hr hF hb (fun H hO hS=>hsp w H a ns hlen hO hS) fun H e s'=>hCX w H s₁ e s'
end L2
/- THE LAST THEOREM (shape;LID,My.* are yours):
   My.Adr:a structure of the addresses that your layer names (classes,functions);My.Txt K t:a structure (Prop) of the equations over K;
   My.txt_mk:{K} {implicit addresses ..} (e1:nsIn K mainGlobals "law" =some (some (.ref f))) (e2:K.lookup f=some ⟨oc,od,.func (fnOf "law" "law" params body scope dV kV doc pm an cdv ct),sl⟩) (e3:codeIn K cdv "law" =true) .. :∃t,My.Txt K t
(the tactic k_is has no namespace:write k_is) -/
namespace L2
open PySem PySem.Spec PyProof.Rows
def Wp(s:Stmt)(j:Nat):Stmt:=match s with
 | .ClassDef _ _ _ body _ _ _ _ _ _ _=>body.getD j (.Pass ⟨0,0,0,0⟩)
 | _=>.Pass ⟨0,0,0,0⟩
def Zz(s:Stmt):Arguments:=match s with
 | .FunctionDef _ a _ _ _ _ _ _ _ _=>a
 | _=>{ posonlyargs:=[],args:=[],vararg:=none,kwonlyargs:=[],kw_defaults:=[],kwarg:=none,defaults:=[] }
def Zv(s:Stmt):List Stmt:=match s with
 | .FunctionDef _ _ b _ _ _ _ _ _ _=>b
 | _=>[]
def Zg(s:Stmt):Scope:=match s with
 | .FunctionDef _ _ _ _ _ _ sc _ _ _=>sc
 | _=>{ kind:=.function,names:=[],isGenerator:=false,isCoroutine:=false }
abbrev CX0:CXT:=fun _ _ _ _ _ _=>False
abbrev E0:XK:=fun _ _ _=>False
theorem Yn{X:Cx}:Zbj CX0 X E0:=fun _ _ _ _ _ _ _ h=>h.elim
structure Fun(K:Frag)(x qual:Str)(st:Stmt)(f:Addr)(fd:FuncData):Prop where
 ex:∃(oc:Value) (od:Option Addr) (kV doc pm:Value) (an:Option Addr) (cdv ct:Value) (osl:Array (Option Value)),
  fd=fnOf x qual (Zz st) (Zv st) (Zg st) .none kV doc pm an cdv ct∧K.lookup f=some ⟨oc,od,.func fd,osl⟩∧codeIn K cdv qual=true
 kp:keepIn K (.ref f)=true
section
variable {P:Program} {w:World} {K:Frag} {mg:Str→Option Value} {base:Heap}
theorem Fun.ok{x qual:Str}{st:Stmt}{f:Addr}{fd:FuncData}{N ps:List Str}{k:Nat}{sp:Sp}(F:Fun K x qual st f fd)(S:Z3 N ps (Zg st))(len:∀vs H Q E,sp vs H Q E→vs.length=ps.length)
  (hbody:∀(cdv:Value) (A:Around) (outer:List Env) (s:Shared) (H:Hp) (vs:List V) (Q:VK) (E:XK),W8 k (A.deeper (envOfC qual (Zg st) s.heap.objs.size f cdv))→sp vs H Q E →
   ∃t,PSs (Zck CX0 P w K mg base N qual (Zg st) f cdv A outer s H E).nox (Zv st) t∧t { nx:=fun _ H'=>Q .non H',rt:=Q } (start N vs) H):Yf P w K mg base CX0 (k+1) f fd ps sp:=by
 obtain ⟨oc,od,kV,doc,pm,an,cdv,ct,osl,rfl,lk,hcd⟩:=F.ex
 refine Zr3 lk hcd S len fun A outer s H vs Q E hr hsp=>?_
 obtain ⟨t,h,q⟩:=hbody cdv A outer s H vs Q E hr hsp
 exact ⟨t,h.nox,q⟩
theorem Fun.binds{x qual:Str}{st:Stmt}{f:Addr}{fd:FuncData}{ps:List Str}(F:Fun K x qual st f fd)
  (h:∀(kV doc pm:Value) (an:Option Addr) (cdv ct:Value) (us:List Value),us.length=ps.length→bindArgs (fnOf x qual (Zz st) (Zv st) (Zg st) .none kV doc pm an cdv ct) ⟨us,[]⟩=pure (ps.zip us)):Zb4 K fd ps []:=by
 obtain ⟨oc,od,kV,doc,pm,an,cdv,ct,osl,rfl,lk,hcd⟩:=F.ex
 exact .all (h kV doc pm an cdv ct)
theorem Yi{x qual:Str}{st:Stmt}{f:Addr}{oc:Value}{od an:Option Addr}{osl:Array (Option Value)}{kV doc pm cdv ct:Value}(l:K.lookup f=some ⟨oc,od,.func (fnOf x qual (Zz st) (Zv st) (Zg st) .none kV doc pm an cdv ct),osl⟩)
  (c:codeIn K cdv qual=true) (k:keepIn K (.ref f)=true):Fun K x qual st f (fnOf x qual (Zz st) (Zv st) (Zg st) .none kV doc pm an cdv ct):=⟨⟨oc,od,kV,doc,pm,an,cdv,ct,osl,rfl,l,c⟩,k⟩
end
theorem Zdb{A:Around}{k:Nat}(hr:W8 k A):A.units+1<cLine:=Nat.lt_of_le_of_lt (Nat.add_le_add_left (by decide:1≤64) _) hr.units
theorem Z4{n:Nat}(h:n≤1000):n<sizeLine:=Nat.lt_of_le_of_lt h (by decide)
section
variable {X:Cx}
theorem pv(i:Nat){x:Str}{pos:Pos}(hN:X.N[i]? =some x:=by rfl)(hv:Vis X.env.scope x:=by first | exact Or.inl rfl | exact Or.inr (Or.inl rfl) | exact Or.inr (Or.inr rfl)) (hd:(x ==("__debug__" :Str))=false:=by decide)
  (hcd:(x ==("__classdict__" :Str))=false:=by decide):PE X (.Name x pos) (Zi3 i):=Zum hN hv hd hcd
theorem Zpn:Xs X (.builtin "len") (fun xs H Q=>∃a kvs,xs=[V.ref a]∧H a=some (.dK kvs)∧Q (.int kvs.length) H):=by
 intro pins s σ H xs us Q I r h
 obtain ⟨a,kvs,rfl,ha,q⟩:=h
 obtain ⟨u,rfl,ru⟩:=Zcq r
 cases ru
 exact Zwz I (.inl ha) fun t s' I'=>⟨.int kvs.length,H,I',⟨t,rfl⟩,q⟩
end
theorem Zxg{A B:Prop}(h:B):if false=true then A else B:=by
 rw [if_neg Bool.false_ne_true]
 exact h
theorem Znp{A B:Prop}(h:A):if true=true then A else B:=by
 rw [if_pos rfl]
 exact h
theorem Yk{c A B:Prop}[Decidable c](h1:c→A)(h2:¬c→B):if c then A else B:=by
 by_cases h:c
 ·rw [if_pos h]
  exact h1 h
 ·rw [if_neg h]
  exact h2 h
def Same(H H':Hp):Prop:=∀b o,H b=some o→H' b=some o
theorem Same.refl(H:Hp):Same H H:=fun _ _ h=>h
theorem Same.trans{H H1 H2:Hp}(a:Same H H1)(b:Same H1 H2):Same H H2:=fun c o h=>b c o (a c o h)
theorem Same.free{H H':Hp}(e:Same H H'){l:Addr}(h:H' l=Option.none):H l=Option.none:=by
 cases q:H l with
 | none=>rfl
 | some o =>
  rw [e l o q] at h
  cases h
theorem Same.seq{K:Frag}{H H':Hp}{a:Addr}{xs:List V}(e:Same H H')(h:SqL K H a xs):SqL K H' a xs:=by
 rcases h with (h|⟨o,h⟩)|h
 ·exact .inl (.inl (e _ _ h))
 ·exact .inl (.inr ⟨o,e _ _ h⟩)
 ·exact .inr h
section
variable {κ:Type} [DecidableEq κ]
end
end L2
section
namespace L2
open PySem PySem.Spec PyProof.Rows
section
variable {prog:Program} {w:World} {A:Around} {R:Result→Shared→Prop} {s:Shared}
theorem Ws{elt target iter:Expr}{ifs:List Expr}{scope:Scope}{pos:Pos}{it acc:Value}{env:Env}(I:Nat→Shared→Prop)
  (turn:∀n s,I n s→wpAny (model prog w) A (pyNext it) (fun r s₁=>match r with
   | none=>R (.ok .next) s₁
   | some v=>wpAny (model prog w) A (letOwnedTupleGo target it v) (fun _ s₁'=>wpAny (model prog w) A (assign target env v) (fun _ s₂ =>
     wpAny (model prog w) A (forIn ifs true fun c r=>if r=true then do let ok ←isTrue c env (eval c env);pure (ForInStep.yield ok) else pure (ForInStep.yield r)) (fun ok s₃ =>
      if ok=true then wpAny (model prog w) A (eval elt env) (fun x s₄ =>
       wpAny (model prog w) A (call (.builtin "list.append") [acc,x]) (fun _ s₅=>∃m,m<n∧I m s₅) (fun _ _=>False) s₄) (fun _ _=>False) s₃
      else ∃m,m<n∧I m s₃) (fun _ _=>False) s₂) (fun _ _=>False) s₁') (fun _ _=>False) s₁) (fun _ _=>False) s)
  (n:Nat) (h:I n s) :
  codeAny (model prog w) A (.compLoop (.ListComp elt [⟨target,iter,ifs,0⟩] scope pos) 0 it acc env) R s:=by
 refine codeAny_loop rfl I (fun n s hI=>?_) n h
 show wpAny _ A ((compTurn (.ListComp elt [⟨target,iter,ifs,0⟩] scope pos) 0 it acc env).onRaise (fun x=>do noteFrame x env;theTreesLotGoes x)) _ _ s
 refine wpAny_noted ?_
 rw [compTurn_list]
 refine wpAny_bind (wpAny_standAt (wpAny_bind (wpAny_mono (turn n s hI) (fun r s₁ h₁=>?_) fun _ _ h'=>h'.elim)))
 cases r with
 | none=>exact wpAny_pure h₁
 | some v =>
  refine wpAny_bind (wpAny_mono h₁ (fun _ s₁' h₁'=>?_) fun _ _ h'=>h'.elim)
  refine wpAny_bind (wpAny_mono h₁' (fun _ s₂ h₂=>wpAny_bind (wpAny_mono h₂ (fun ok s₃ h₃=>?_) fun _ _ h'=>h'.elim)) fun _ _ h'=>h'.elim)
  cases ok with
  | false=>exact wpAny_pure ⟨rfl,h₃⟩
  | true =>
   exact wpAny_bind (wpAny_bind (wpAny_mono h₃ (fun x s₄ h₄=>wpAny_bind (wpAny_mono h₄ (fun _ s₅ h₅=>wpAny_pure (wpAny_pure ⟨rfl,h₅⟩)) fun _ _ h'=>h'.elim)) fun _ _ h'=>h'.elim))
end
def Yt(X:Cx)(scope:Scope)(cl:List (Str×Addr))(N':List Str)(s:Shared)(H:Hp)(C:Addr)(ex:List Addr):Cx where
 prog:=X.prog
 w:=X.w
 K:=X.K
 mg:=X.mg
 base:=X.base
 A:=X.A
 N:=N'
 s₀:=s
 H₀:=H
 env:=compEnvC scope cl C X.env
 outer:=X.stack
 stack:=X.stack
 ex:=ex
 fn:=fun _=>false
 calm:=X.calm
 pn:=[]
 xe:=fun _ _=>False
structure Z9(X:Cx)(scope:Scope)(cl:List (Str×Addr))(N':List Str)(fr:St→St):Prop where
 kind:scope.kind=.function
 cell:∀y∈scope.names,y.2 ≠ .cell
 names:∀y∈scope.names,y.2=.local→scope.names.lookup y.1=some .local
 clos:closureFor scope X.env=pure cl
 sub:∀x c,cl.lookup x=some c→X.env.cells.lookup x=some c
 has:∀x,((relabel scope X.env).names.lookup x=some .cell∨(relabel scope X.env).names.lookup x=some .free)→∃c,cl.lookup x=some c
 len:∀σ:St,σ.length=X.N.length→(fr σ).length=N'.length
 fr:∀(σ:St) (i:Nat) (x:Str) (v:V),N'[i]? =some x→(fr σ)[i]? =some (some v)→Vis (relabel scope X.env) x →
  ((relabel scope X.env).names.lookup x=some .cell∨(relabel scope X.env).names.lookup x=some .free) ∧
  (X.env.kindOf x=some .cell∨X.env.kindOf x=some .free)∧∃j:Nat,X.N[j]? =some x∧σ[j]? =some (some v)
def Wr(a b:St):Prop:=∀(i:Nat) (v:V),a[i]? =some (some v)→b[i]? =some (some v)
theorem Wr.set{a:St}{i:Nat}{v:V}(h:a[i]? =some none):Wr a (a.set i (some v)):=fun j u e=>by
 by_cases hj:i=j
 ·subst hj;rw [h] at e;cases e
 ·rw [List.getElem?_set_ne hj];exact e
theorem Wr.trans{a b c:St}(h:Wr a b)(k:Wr b c):Wr a c:=fun i v e=>k i v (h i v e)
def PF(X:Cx)(ifs:List Expr)(t:TT):Prop :=
 ∀(pins:List (Addr×Obj)) (s:Shared) (σ:St) (H:Hp) (Q:Bool→Hp→Prop),Inv X pins σ H s→t σ H Q →
  wpAny (model X.prog X.w) X.A (forIn ifs true fun c r=>if r=true then do let ok ←isTrue c X.env (eval c X.env);pure (ForInStep.yield ok) else pure (ForInStep.yield r)) (TP X pins σ Q) X.xe s
def Zrd:TT:=fun _ H Q=>Q true H
theorem W9{X:Cx}:PF X [] Zrd:=fun _ _ _ H _ I h=>wpAny_tests_nil ⟨H,I,h⟩
theorem Zdx{X:Cx}{c:Expr}{t:TT}(h:PT X c t):PF X [c] t:=fun pins s σ H Q I hq=>wpAny_tests_one (h pins s σ H Q I hq)
def Zc9(J:It)(fr:St→St)(g:TG)(tf:TT)(te:TE)(Q:VK)(σ:St)(H1:Hp)(D:Addr):Prop :=
 ∃W:Nat→Nat→List V→Hp→Prop,(∃m,W 0 m [] (upd H1 D (.lst [])))∧∀i m ys H,W i m ys H →
  (J.stop i H∧Q (.ref D) H)∨(J.go i H∧∃N:List V→Hp→Prop,(∀ys' H',N ys' H'→∃m',m'<m∧W (i+1) m' ys' H') ∧
   ∀x H',J.yld i H x H'→g x (fr σ) H' fun σ2 H2=>Wr (fr σ) σ2∧tf σ2 H2 fun b H3 =>
    if b=true then te σ2 H3 fun y H4=>H4 D=some (.lst ys)∧ys.length<sizeLine∧N (ys++[y]) (upd H4 D (.lst (ys++[y]))) else N ys H3)
def Zrr(wi:TI)(fr:St→St)(g:TG)(tf:TT)(te:TE):TE:=fun σ H Q=>wi σ H fun J H1=>∀D,H1 D=none→Zc9 J fr g tf te Q σ H1 D
section
variable {X:Cx} {pins:List (Addr×Obj)} {σ:St} {H:Hp} {s:Shared} {scope:Scope} {cl:List (Str×Addr)} {N':List Str} {fr:St→St} {C:Addr} {fp:List Addr}
theorem Zth(I:Inv X pins σ H s)(S:Z9 X scope cl N' fr)(hC:s.heap.objs.size≤C)(hf:∀b∈fp,Zd8 X pins H b)(ho:∀b∈fp,∃o,s.heap.get? b=some o):(Yt X scope cl N' s H C fp).Ok where
 mod:=I.ok.mod
 kind:=S.kind
 glob:=I.ok.glob
 blt:=I.ok.blt
 above:=hC
 inj:=fun x y c h1 h2=>I.ok.inj x y c (S.sub x c h1) (S.sub y c h2)
 has:=fun x h=>S.has x h
 cab:=fun x c h=>absurd (show false=true from h) Bool.false_ne_true
 hd:=I.ok.hd
 frames:=I.ok.frames
 stk:=.inl rfl
 exf:=fun b hb=>by
  obtain ⟨o,e⟩:=ho b hb
  refine ⟨Nat.ne_of_lt (Nat.lt_of_lt_of_le (Heap.lt_size e) hC),fun x c h=>(hf b hb).2.2.2.2.1 x c (S.sub x c h)⟩
 bs:=I.bs
 bsz:=Nat.le_trans I.ok.bsz I.sz
 noex:=fun b o e hb=>by
  rcases (hf b hb).2.2.2.1 with z|z
  ·exact I.ok.noex b o e z
  ·exact absurd (Nat.lt_of_lt_of_le (Heap.lt_size e) (Nat.le_trans I.ok.bsz z)) (Nat.lt_irrefl _)
 exfs:=fun b hb z=>by
  rcases List.mem_cons.mp (I.stkSub b z) with q|q
  ·exact (hf b hb).2.1 q
  ·exact (hf b hb).2.2.1 q
 funs:=I.stack
 frf:=I.stkFree
theorem Zef{h₁:Heap}{m₁:Str→Option Value}{tk:Nat}{D:Addr}(I:Inv X pins σ H s)(S:Z9 X scope cl N' fr)(hC:s.heap.objs.size<C)(hD:D=s.heap.objs.size)(hf:∀b∈fp,Zd8 X pins H b)(ho:∀b∈fp,∃o,s.heap.get? b=some o)
  (old:∀b o,s.heap.get? b=some o→h₁.get? b=some o) (hl:h₁.get? D=some { cls:=.type "list",data:=.seq ([]:List Value).toArray 0 }) (hn:h₁.Ns C m₁) (hCz:h₁.objs.size≤C+1) :
  Inv (Yt X scope cl N' s H C fp) [] (fr σ) (upd H D (.lst [])) { s with heap:=h₁,toks:=tk }:=by
 have fD:H D=none:=I.hok.fresh (Nat.le_of_eq hD.symm)
 have fC:H C=none:=I.hok.fresh (Nat.le_of_lt hC)
 have hDC:D≠C:=by rw [hD];exact Nat.ne_of_lt hC
 refine ⟨Zth I S (Nat.le_of_lt hC) hf ho,rfl,I.bare,Un.laid old (Nat.le_of_eq hD.symm) fD,⟨m₁,hn,fun i x v e1 e2 e3=>?_⟩,fun x c e=>?_,?_,fun x c e=>?_,fun p hp=>absurd (show p∈([]:List (Addr×Obj)) from hp) (by simp),?_,S.len σ I.len⟩
 ·obtain ⟨k1,k2,j,j1,j2⟩:=S.fr σ i x v e1 e2 e3
  obtain ⟨c,hc⟩:=S.has x k1
  have hc':=S.sub x c hc
  obtain ⟨m,_,hl'⟩:=I.loc
  obtain ⟨u,r,l⟩:=hl' j x v j1 j2 (by rcases k2 with k|k;exact .inr (.inl k);exact .inr (.inr k))
  refine ⟨u,r,.inr ⟨k1,c,hc,?_⟩⟩
  rcases l with ⟨k,_⟩|⟨_,c2,hc2,o,z,d⟩
  ·rcases k2 with q|q <;>(rw [k] at q;cases q)
  ·rw [hc'] at hc2;cases hc2
   exact ⟨o,old _ _ z,d⟩
 ·obtain ⟨v,o,z,d⟩:=I.cell x c (S.sub x c e)
  exact ⟨v,o,old _ _ z,d⟩
 ·show upd H D (.lst []) C=none
  rw [Zi hDC.symm];exact fC
 ·show upd H D (.lst []) c=none
  rw [Zi (fun z=>?_)]
  ·exact I.freeC x c (S.sub x c e)
  ·obtain ⟨v,o,q,d⟩:=I.cell x c (S.sub x c e)
   have:=Heap.lt_size q
   rw [z,hD] at this
   exact Nat.lt_irrefl _ this
 ·exact I.hok.laid old (Nat.le_of_eq hD.symm) ⟨Nat.zero_le _,[],0,.nil,hl⟩
theorem Zhm{H':Hp}{s2:Shared}{h':Heap}(I:Inv X pins σ H s)(hC:s.heap.objs.size<C)(hf:∀b∈fp,Zd8 X pins H b)(J:Inv (Yt X scope cl N' s H C fp) [] (fr σ) H' s2)(hs:Heap.SameBut C s2.heap h') :
  Inv X pins σ H' { s2 with heap:=h' }:=by
 have fC:H' C=none:=J.free
 have u:Un (frs X.stack) fp H H' s.heap s2.heap:=J.base
 have ne:∀b o,s.heap.get? b=some o→b≠C:=fun b o e=>Nat.ne_of_lt (Nat.lt_trans (Heap.lt_size e) hC)
 have u2:Un (frs X.stack) fp H H' s.heap h':=by
  refine ⟨fun b o e n hb hx=>?_,fun b o e n hb hx=>?_,u.free,fun b o e hx=>?_,u.tups,u.frzs,u.tbls⟩
  ·rw [hs.2 b (ne b o e)];exact u.keep b o e n hb hx
  ·obtain ⟨sl,q⟩:=u.slot b o e n hb hx
   exact ⟨sl,by rw [hs.2 b (ne b o e)];exact q⟩
  ·obtain ⟨o',q⟩:=u.there b o e hx
   exact ⟨o',by rw [hs.2 b (ne b o e)];exact q⟩
 have hok:HOk X.prog X.w H' h':=fun b o e=>by
  refine (J.hok b o e).stay (fun c v hc q=>?_) (fun _ q=>q) fun _ _ q=>q
  have nc:c≠C:=by
   rintro rfl
   rcases hc with z|z
   ·rw [←z,fC] at e;cases e
   ·rw [fC] at z;cases z
  rw [hs.2 c nc];exact q
 refine I.call' (s':={ s2 with heap:=h' }) (ch:=fp) J.os u2 hok J.bare fun b hb=>?_
 obtain ⟨_,f1,f2,f3,f4,f5⟩:=hf b hb
 exact ⟨f3,f1,f4,f5⟩
end
theorem W2{X:Cx}{elt tg iter:Expr}{ifs:List Expr}{scope:Scope}{pos:Pos}{cl:List (Str×Addr)}{N':List Str}{fr:St→St}{wi:TI}{g:TG}{tf:TT}{te:TE}
  (hc:X.calm=true) (S:Z9 X scope cl N' fr) (hi:PI X tg iter wi) (hg:∀s H C ex,PG (Yt X scope cl N' s H C ex) tg g) (hf:∀s H C ex,PF (Yt X scope cl N' s H C ex) ifs tf)
  (he:∀s H C ex,PE (Yt X scope cl N' s H C ex) elt te) (hs:∀x,foldedSetIterable iter X.env x=pure x:=by intro _;rfl):PE X (.ListComp elt [⟨tg,iter,ifs,0⟩] scope pos) (Zrr wi fr g tf te):=by
 intro pins s σ H Q I h
 rw [eval_ListComp]
 refine wpAny_comprehension_free (use:=none) rfl hs S.clos S.kind S.names (thn (hi pins s σ H _ I h) fun v s1 h1=>thn h1 fun itv s2 h2=>?_)
 obtain ⟨it,fp,tn,J,H2,e,I2,T,st2,f2,q⟩:=h2
 subst e
 refine wpAny_newObj_type (wpAny_newFunctionEnv S.cell (by intro y hy;simp at hy) (fun h₁ hns₁ hsb₁=>?_) S.kind)
 dsimp only at hns₁ hsb₁ ⊢
 generalize hP:s2.heap.push { cls:=.type "list",dict:=none,data:=.seq ([]:List Value).toArray }=P at hns₁ hsb₁ ⊢
 have hPz:P.objs.size=s2.heap.objs.size+1:=by rw [←hP,Heap.size_push]
 have hCD:s2.heap.objs.size<P.objs.size:=by rw [hPz];exact Nat.lt_succ_self _
 have ho2:∀b∈fp,∃o,s2.heap.get? b=some o:=fun b hb=>let ⟨o,e,_⟩:=T.obj _ _ st2 b hb;⟨o,e⟩
 have below:∀b,b<s2.heap.objs.size→b≠P.objs.size:=fun b hb=>Nat.ne_of_lt (Nat.lt_trans hb hCD)
 have old:∀b o,s2.heap.get? b=some o→h₁.get? b=some o:=fun b o e=>hsb₁.extBut b o (below b (Heap.lt_size e)) (Heap.get?_push_of_some _ (hP ▸ Heap.get?_push_of_some _ e))
 have hacc:h₁.get? s2.heap.objs.size=some { cls:=.type "list",data:=.seq ([]:List Value).toArray 0 }:=hsb₁.extBut _ _ (Nat.ne_of_lt hCD) (Heap.get?_push_of_some _ (hP ▸ Heap.get?_push_size _ rfl))
 have fD:H2 s2.heap.objs.size=none:=I2.hok.fresh (Nat.le_refl _)
 obtain ⟨W,⟨m0,w0⟩,turn⟩:=q s2.heap.objs.size fD
 have hz:h₁.objs.size≤P.objs.size+1:=by
  have e:=hsb₁.1
  rw [Heap.size_push] at e
  exact Nat.le_of_eq e
 have st1:tn 0 h₁:=T.keep _ _ _ st2 fun b hb o e=>old b o e
 have stat:∀{pins':List (Addr×Obj)} {H':Hp},(∀p∈pins',p.1∉fp)→(∀b∈fp,H' b=none)→∀b∈fp,Zd8 (Yt X scope cl N' s2 H2 P.objs.size fp) pins' H' b:=fun {pins' H'} hp hn b hb=>by
  obtain ⟨o,e⟩:=ho2 b hb
  obtain ⟨_,f1,f2',f3,f4,f5⟩:=f2 b hb
  refine ⟨hn b hb,below b (Heap.lt_size e),fun z=>?_,.inl hb,fun x c h=>f4 x c (S.sub x c h),fun p hp' z=>?_⟩
  ·rcases List.mem_cons.mp (I2.stkSub b z) with q|q
   ·exact f1 q
   ·exact f2' q
  ·have hp2:p∈pins':=by simpa [Yt] using hp'
   exact hp p hp2 (by rw [z];exact hb)
 have loop:∀s3:Shared,s3={ s2 with heap:=h₁,toks:=s2.toks+([]:List (Str×Value)).length } →
   codeAny (model X.prog X.w) X.A (.compLoop (.ListComp elt [⟨tg,iter,ifs,0⟩] scope pos) 0 (.ref it) (.ref s2.heap.objs.size) (compEnvC scope cl P.objs.size X.env)) (compPost (model X.prog X.w) X.A X.xe none (EP X pins σ Q) (.ref s2.heap.objs.size) P.objs.size) s3:=by
  rintro s3 rfl
  have I3:Inv (Yt X scope cl N' s2 H2 P.objs.size fp) [] (fr σ) (upd H2 s2.heap.objs.size (.lst [])) { s2 with heap:=h₁,toks:=s2.toks+([]:List (Str×Value)).length }:=Zef I2 S hCD rfl f2 ho2 old hacc hns₁ hz
  refine Ws (fun n s'=>∃i ys H',Inv (Yt X scope cl N' s2 H2 P.objs.size fp) [] (fr σ) H' s'∧tn i s'.heap∧(∀b∈fp,H' b=none)∧W i n ys H') ?_ m0 ⟨0,[],_,I3,st1,fun b hb=>?_,w0⟩
  ·rintro n s3 ⟨i,ys,H3,I3,st3,fr3,w3⟩
   rcases turn i n ys H3 w3 with ⟨stop,qn⟩|⟨go,N,hN,step⟩
   ·refine thn (T.done (Yt X scope cl N' s2 H2 P.objs.size fp) rfl rfl rfl hc i [] s3 (fr σ) H3 _ I3 (stat (by simp) fr3) st3 stop) fun r s4 ⟨hr,I4⟩=>?_
    subst hr
    obtain ⟨m4,hn4,_⟩:=I4.loc
    exact ⟨m4,hn4,fun h' hs'=>⟨.ref s2.heap.objs.size,H3,Zhm I2 hCD f2 I4 hs',rfl,qn⟩⟩
   ·refine thn (T.item (Yt X scope cl N' s2 H2 P.objs.size fp) rfl rfl rfl hc i [] s3 (fr σ) H3 _ I3 (stat (by simp) fr3) st3 go) fun r s4 ⟨u,hr,h4⟩=>?_
    subst hr
    refine thn h4 fun _ s5 ⟨x,H5,I5,r5,y5,st5,fr5⟩=>?_
    have I5':=I5.pinned (stat (by simp) fr5) (T.obj _ _ st5)
    refine thn (hg s2 H2 P.objs.size fp _ s5 (fr σ) H5 x u _ I5' r5 (step x H5 y5)) fun _ s6 ⟨σ6,H6,I6,kp,q6⟩=>?_
    refine thn (hf s2 H2 P.objs.size fp _ s6 σ6 H6 _ I6 q6) fun ok s7 ⟨H7,I7,q7⟩=>?_
    have again:∀{σ8:St} {H8:Hp} {s8:Shared} {ys8:List V},Wr (fr σ) σ8→Inv (Yt X scope cl N' s2 H2 P.objs.size fp) ([]++Zer fp s5.heap) σ8 H8 s8→N ys8 H8 →
      ∃m,m<n∧∃i ys H',Inv (Yt X scope cl N' s2 H2 P.objs.size fp) [] (fr σ) H' s8∧tn i s8.heap∧(∀b∈fp,H' b=none)∧W i m ys H':=fun {σ8 H8 s8 ys8} kp8 I8 n8=>by
     obtain ⟨m',hm,w8⟩:=hN ys8 H8 n8
     refine ⟨m',hm,i+1,ys8,H8,(I8.unpinned).weak (by rw [I8.len];exact S.len σ I2.len) kp8,T.keep _ _ _ st5 fun b hb o e=>(I8.pin (b,o) (List.mem_append_right _ (List.mem_append_right _ (Wt hb e)))).1,fun b hb=>?_,w8⟩
     obtain ⟨o,e,d⟩:=T.obj _ _ st5 b hb
     exact (I8.pin (b,o) (List.mem_append_right _ (List.mem_append_right _ (Wt hb e)))).2.1
    cases ok with
    | false=>exact again kp I7 q7
    | true =>
     refine thn (he s2 H2 P.objs.size fp _ s7 σ6 H7 _ I7 q7) fun uy s8 ⟨y,H8,I8,r8,hD8,hz8,q8⟩=>?_
     exact thn (Xp _ s8 σ6 H8 (.ref s2.heap.objs.size) [y] (.ref s2.heap.objs.size) [uy] (fun _ H9=>N (ys++[y]) H9) I8 rfl (.cons r8 .nil) ⟨_,ys,y,rfl,rfl,hD8,hz8,q8⟩) fun _ s9 ⟨v9,H9,I9,_,q9⟩=>again kp I9 q9
  ·show upd H2 s2.heap.objs.size (.lst []) b=none
   obtain ⟨o,e⟩:=ho2 b hb
   rw [Zi (Nat.ne_of_lt (Heap.lt_size e))]
   exact (f2 b hb).1
 exact codeAny_compStart_list (loop _ rfl) (T.self X.A 0 _ _ _ st1 (loop _ rfl))
section
variable {K:Frag} {a:Addr} {fr:St→St} {g:TG} {tf:TT} {te:TE} {Q:VK} {σ:St} {H1:Hp} {D:Addr}
def Zcb(fr:St→St)(g:TG)(tf:TT)(te:TE)(σ:St)(D:Addr)(x:V)(ys:List V)(H:Hp)(N:List V→Hp→Prop):Prop :=
 g x (fr σ) H fun σ2 H2=>Wr (fr σ) σ2∧tf σ2 H2 fun b H3=>if b=true then te σ2 H3 fun y H4=>H4 D=some (.lst ys)∧ys.length<sizeLine∧N (ys++[y]) (upd H4 D (.lst (ys++[y]))) else N ys H3
theorem Xv{xs:List V}(Pv:Nat→List V→Hp→Prop)(h0:Pv 0 [] (upd H1 D (.lst [])))(hl:∀i ys H,i≤xs.length→Pv i ys H→SqL K H a xs)
  (hs:∀i x ys H,xs[i]? =some x→Pv i ys H→Zcb fr g tf te σ D x ys H (Pv (i+1))) (hd:∀ys H,Pv xs.length ys H→Q (.ref D) H):Zc9 (Itl K a) fr g tf te Q σ H1 D:=by
 refine ⟨fun i m ys H=>m=xs.length-i∧i≤xs.length∧Pv i ys H,⟨xs.length,by simp,Nat.zero_le _,h0⟩,?_⟩
 rintro i m ys H ⟨rfl,hi,p⟩
 have q:=hl i ys H hi p
 by_cases hlt:i<xs.length
 ·refine .inr ⟨⟨xs,xs[i],q,by simp [hlt]⟩,Pv (i+1),fun ys' H' p'=>⟨xs.length-(i+1),by omega,rfl,hlt,p'⟩,fun x H' y=>?_⟩
  obtain ⟨e,y⟩:=y
  subst e
  exact hs i x ys _ (y xs q) p
 ·have e:i=xs.length:=by omega
  subst e
  exact .inl ⟨⟨xs,q,Nat.le_refl _⟩,hd ys H p⟩
theorem Zb1{lo:Int}{n:Nat}(Pv:Nat→List V→Hp→Prop)(h0:Pv 0 [] (upd H1 D (.lst [])))
  (hs:∀i ys H,i<n→Pv i ys H→Zcb fr g tf te σ D (.int (lo+i)) ys H (Pv (i+1))) (hd:∀ys H,Pv n ys H→Q (.ref D) H):Zc9 (Itr lo n) fr g tf te Q σ H1 D:=by
 refine ⟨fun i m ys H=>m=n-i∧i≤n∧Pv i ys H,⟨n,by simp,Nat.zero_le _,h0⟩,?_⟩
 rintro i m ys H ⟨rfl,hi,p⟩
 by_cases hlt:i<n
 ·refine .inr ⟨hlt,Pv (i+1),fun ys' H' p'=>⟨n-(i+1),by omega,rfl,hlt,p'⟩,fun x H' y=>?_⟩
  obtain ⟨e,y⟩:=y
  subst e y
  exact hs i ys _ hlt p
 ·have e:i=n:=by omega
  subst e
  exact .inl ⟨Nat.le_refl _,hd ys H p⟩
def Its(x:Str):It:=⟨fun i _=>i<x.cps.size,fun i H v H'=>H'=H∧∃c,x.cps[i]? =some c∧v=.str ⟨#[c]⟩,fun i _=>x.cps.size≤i⟩
theorem Zrl{x:Str}(Pv:Nat→List V→Hp→Prop)(h0:Pv 0 [] (upd H1 D (.lst [])))
  (hs:∀i c ys H,x.cps[i]? =some c→Pv i ys H→Zcb fr g tf te σ D (.str ⟨#[c]⟩) ys H (Pv (i+1))) (hd:∀ys H,Pv x.cps.size ys H→Q (.ref D) H):Zc9 (Its x) fr g tf te Q σ H1 D:=by
 refine ⟨fun i m ys H=>m=x.cps.size-i∧i≤x.cps.size∧Pv i ys H,⟨x.cps.size,by simp,Nat.zero_le _,h0⟩,?_⟩
 rintro i m ys H ⟨rfl,hi,p⟩
 by_cases hlt:i<x.cps.size
 ·refine .inr ⟨hlt,Pv (i+1),fun ys' H' p'=>⟨x.cps.size-(i+1),by omega,rfl,hlt,p'⟩,fun v H' y=>?_⟩
  obtain ⟨e,c,hc,ev⟩:=y
  subst e ev
  exact hs i c ys _ hc p
 ·have e:i=x.cps.size:=by omega
  subst e
  exact .inl ⟨Nat.le_refl _,hd ys H p⟩
end
theorem Zmz{P:Program}{w:World}{K:Frag}{tg:Expr}(it:Addr)(x:Str)(t:Tok):Zlt P w K tg (Its x) [it] it (fun i h=>h.IsStrIter it "str_ascii_iterator" x t i) where
 mem:=by simp
 obj:=fun i h st b hb=>by
  have e:b=it:=by simpa using hb
  subst e
  obtain ⟨o,e,c,d⟩:=st
  exact ⟨o,e,fun v z=>by rw [d] at z;cases z⟩
 keep:=fun i h h' st k=>by
  obtain ⟨o,e,r⟩:=st
  exact ⟨o,k it (by simp) o e,r⟩
 item:=by
  intro X hP hw hK hc i pins s σ H E I hf st hg
  subst hP hw hK
  obtain ⟨f0,f1,f2,f3,f4,f5⟩:=hf it (by simp)
  have hlt:i<x.cps.size:=hg
  refine wpAny_pyNext_ascii_item st (c:=x.cps[i]) (by simp [hlt]) fun h' st' sb=>?_
  have I1:Inv X pins σ H { s with heap:=h',toks:=s.toks+1 }:=I.turned (fun b o hb e=>(sb.2 b hb).trans e) f0 f1 f3 f4 f5
  obtain ⟨o,e,c,d⟩:=id st'
  exact ⟨_,rfl,Zjk (s:={ s with heap:=h',toks:=s.toks+1 }) e c d (by decide) ⟨.str ⟨#[x.cps[i]]⟩,H,I1,⟨_,rfl⟩,⟨rfl,_,by simp [hlt],rfl⟩,st',fun b hb=>(hf b hb).1⟩⟩
 done:=by
  intro X hP hw hK hc i pins s σ H E I hf st hg
  subst hP hw hK
  obtain ⟨f0,f1,f2,f3,f4,f5⟩:=hf it (by simp)
  have hle:x.cps.size≤i:=hg
  exact wpAny_pyNext_ascii_end (I.ok.hd hc) st (by simp [hle]) fun h' eb=>⟨rfl,I.turned (t':=s.toks) (fun b o hb e=>eb b o hb e) f0 f1 f3 f4 f5⟩
 self:=fun _ _ _ _ _ st h=>wpAny_pyIter_striter_ascii st h
def Zx1(tl:TE):TI:=fun σ H R=>tl σ H fun v H1=>∃x,v=.str x∧x.cps.all (· < 128)=true∧R (Its x) H1
theorem Zun{X:Cx}{tg l:Expr}{tl:TE}(hl:PE X l tl):PI X tg l (Zx1 tl):=by
 intro pins s σ H R I h
 refine thn (hl pins s σ H _ I h) fun v s1 ⟨y,H1,I1,r1,q1⟩=>?_
 obtain ⟨x,e,ha,q⟩:=q1
 subst e
 obtain ⟨t,rfl⟩:=r1
 refine wpAny_pyIter_ascii ha ?_
 refine ⟨s1.heap.objs.size,[s1.heap.objs.size],_,_,H1,rfl,I1.kept (t':=s1.toks) fun b o e=>Heap.get?_push_of_some _ e,Zmz _ x t,⟨_,Heap.get?_push_size _ rfl,rfl,rfl⟩,fun b hb=>?_,q⟩
 have e:b=s1.heap.objs.size:=by simpa using hb
 subst e
 exact I1.fpOk (Nat.le_refl _) (I1.hok.fresh (Nat.le_refl _))
theorem Yd.at_bool:∀{bs:List Bool} {us:List Value} {i:Nat} {u:Value},Yd (bs.map V.bl) us→us[i]? =some u→∃b,bs[i]? =some b∧u=.bool b
 | [],_,_,_,.nil,e=>by simp at e
 | b ::bs,_,0,u,.cons r _,e=>by
  simp at e;subst e
  exact ⟨b,rfl,r⟩
 | b ::bs,_,i+1,u,.cons _ t,e=>by
  obtain ⟨c,h1,h2⟩:=Yd.at_bool (i:=i) t (by simpa using e)
  exact ⟨c,by simpa using h1,h2⟩
theorem Zpg(bs:List Bool):(List.range bs.length).all (fun i=>bs.getD i false)=bs.all id:=by
 have e:(List.range bs.length).map (fun i=>bs.getD i false)=bs:=by
  apply List.ext_getElem
  ·simp
  ·intro i h1 h2
   simp at h1
   simp [h1]
 calc (List.range bs.length).all (fun i=>bs.getD i false)=((List.range bs.length).map (fun i=>bs.getD i false)).all id:=by rw [List.all_map];rfl
  _=bs.all id:=by rw [e]
theorem Zho{X:Cx}(hc:X.calm=true):Xs X (.builtin "all") (fun xs H Q=>∃(p:Addr) (bs:List Bool),xs=[.ref p]∧SqL X.K H p (bs.map V.bl)∧Q (.bl (bs.all id)) H):=by
 intro pins s σ H xs us Q I r h
 obtain ⟨p,bs,rfl,hq,q⟩:=h
 obtain ⟨u,rfl,ru⟩:=Zcq r
 cases ru
 obtain ⟨its,rv,pl,hz⟩:=I.list hq
 have hlt:p<s.heap.objs.size:=by obtain ⟨_,_,e,_⟩:=pl;exact Heap.lt_size e
 refine call_all_walk (wpAny_pyIter_list pl.isList ?_)
 refine ⟨s.heap.objs.size,_,_,its.toArray.size,_,_,fun i=>bs.getD i false,rfl,Walks.list (A:=X.A.in1) (show X.A.in1.handled=none from I.ok.hd hc) s.heap.objs.size p (Nat.ne_of_lt hlt) its.toArray,⟨⟨_,Heap.get?_push_size _ rfl,rfl,rfl⟩,pl.isList.push _⟩,?_,fun h' tk k=>?_⟩
 ·intro i v s' Q' E' hv hQ
  obtain ⟨b,hb,rfl⟩:=Yd.at_bool (i:=i) rv (by simpa using hv)
  refine wpAny_truthy_bool ?_
  have e:bs.getD i false=b:=by rw [List.getD_eq_getElem?_getD,hb];rfl
  have hQ':Q' (bs.getD i false) s':=hQ
  rw [e] at hQ'
  exact hQ'
 ·have hl:=rv.length
  rw [List.length_map] at hl
  refine ⟨.bl (bs.all id),H,?_,?_,q⟩
  ·refine I.kept (t':=tk) fun b o e=>k b o ?_ (Heap.get?_push_of_some _ e)
   have:=Heap.lt_size e
   intro z
   have z':b=s.heap.objs.size:=by simpa using z
   rw [z'] at this
   exact Nat.lt_irrefl _ this
  ·show Value.bool ((List.range its.toArray.size).all fun i=>bs.getD i false)=Value.bool (bs.all id)
   rw [List.size_toArray,←hl,Zpg]
theorem Zlv{X:Cx}:Xs X (.builtin "isinstance") (fun xs H Q=>∃x c b t,xs=[x,c]∧Zcz X.K H x t∧((∃n,c=.ty n∧kitOne X.K t (.type n)=some b)∨∃a,c=.ref a∧kitOne X.K t (.ref a)=some b)∧Q (.bl b) H):=by
 intro pins s σ H xs us Q I r h
 obtain ⟨x,c,b,t,rfl,ty,k,q⟩:=h
 obtain ⟨u,w',rfl,rx,rw'⟩:=Zlm r
 rcases k with ⟨n,rfl,k⟩|⟨a,rfl,k⟩
 ·cases rw'
  exact Zjz I rx ty k fun tk=>⟨.bl b,H,I.tok tk,rfl,q⟩
 ·cases rw'
  exact Zjz I rx ty k fun tk=>⟨.bl b,H,I.tok tk,rfl,q⟩
def Zwa:V→Option Int→Option Int→Hp→VK→Prop:=fun x lo hi H Q=>∃z,x=.str z∧z.length≤sizeLine∧Q (.str (Txt.slice z lo hi)) H
theorem Zu7{X:Cx}:SlR X Zwa:=by
 intro pins s σ H x v vl vu lo hi sl Q I rx hs pl pu h
 obtain ⟨z,rfl,hz,q⟩:=h
 obtain ⟨t,rfl⟩:=rx
 refine ⟨"str",_,F.slot_str_getitem.lookup,typeIs_str _ _ _,?_⟩
 obtain ⟨o,ho,hc,hd⟩:=hs
 cases pl with
 | none =>
  cases pu with
  | none=>exact wpAny_getItem_str_slice (l:=none) (u:=none) (st:=none) ⟨o,ho,hc,hd⟩ rfl (post_val_or_str ⟨Nat.le_trans (Txt.slice_le z none none) hz,fun t' k=>⟨.str (Txt.slice z none none),H,I.tok k,⟨t',rfl⟩,q⟩⟩)
  | int j tj=>exact wpAny_getItem_str_slice (l:=none) (u:=some (j,tj)) (st:=none) ⟨o,ho,hc,hd⟩ rfl (post_val_or_str ⟨Nat.le_trans (Txt.slice_le z none (some j)) hz,fun t' k=>⟨.str (Txt.slice z none (some j)),H,I.tok k,⟨t',rfl⟩,q⟩⟩)
 | int i ti =>
  cases pu with
  | none=>exact wpAny_getItem_str_slice (l:=some (i,ti)) (u:=none) (st:=none) ⟨o,ho,hc,hd⟩ rfl (post_val_or_str ⟨Nat.le_trans (Txt.slice_le z (some i) none) hz,fun t' k=>⟨.str (Txt.slice z (some i) none),H,I.tok k,⟨t',rfl⟩,q⟩⟩)
  | int j tj=>exact wpAny_getItem_str_slice (l:=some (i,ti)) (u:=some (j,tj)) (st:=none) ⟨o,ho,hc,hd⟩ rfl (post_val_or_str ⟨Nat.le_trans (Txt.slice_le z (some i) (some j)) hz,fun t' k=>⟨.str (Txt.slice z (some i) (some j)),H,I.tok k,⟨t',rfl⟩,q⟩⟩)
end L2
namespace L2
open PySem PySem.Spec PyProof.Rows
def Zwm(M:St→Hp→St→Hp→Prop)(t:TS):TS:=fun D σ H=>t { D with nx:=M σ H } σ H∧∀σ' H',M σ H σ' H'→D.nx σ' H'
theorem Zvj{X:Cx}{st:Stmt}{t:TS}(M:St→Hp→St→Hp→Prop)(h:PS X st t):PS X st (Zwm M t):=by
 intro pins s σ H D I hq
 refine thn (h pins s σ H { D with nx:=M σ H } I hq.1) fun f s' q=>?_
 cases f with
 | next=>obtain ⟨σ',H',I',m⟩:=q;exact ⟨σ',H',I',hq.2 σ' H' m⟩
 | brk=>exact q
 | cont=>exact q
 | ret u=>exact q
end L2
namespace L2
open PySem PySem.Spec PyProof.Rows
def Zri:Expr→Bool
 | .Starred .. =>false
 | _=>true
theorem Zos{e:Expr}{es:List Expr}{env:Env}(h:Zri e=true):starEach (e ::es) env=(false,eval e env) ::starEach es env:=by
 cases e <;>first
  | rfl
  | exact absurd h Bool.false_ne_true
theorem Zb{X:Cx}{e:Expr}{es:List Expr}{te:TE}{t:TA}(ha:PE X e te)(hr:PA X es t)(h:Zri e=true:=by rfl):PA X (e ::es) (Zi7 te t):=Ztk ha hr (Zos h)
end L2
namespace L2
open PySem PySem.Spec PyProof.Rows
structure WSs(X:Cx)(b:List Stmt)(D:Zdc)(σ:St)(H:Hp):Prop where
 run:∀(pins:List (Addr×Obj)) (s:Shared),Inv X pins σ H s→wpAny (model X.prog X.w) X.A (execs b X.env) (SP X pins D) X.xe s
structure WS(X:Cx)(st:Stmt)(D:Zdc)(σ:St)(H:Hp):Prop where
 run:∀(pins:List (Addr×Obj)) (s:Shared),Inv X pins σ H s→wpAny (model X.prog X.w) X.A (exec st X.env) (SP X pins D) X.xe s
structure WE(X:Cx)(e:Expr)(σ:St)(H:Hp)(Q:VK):Prop where
 run:∀(pins:List (Addr×Obj)) (s:Shared),Inv X pins σ H s→wpAny (model X.prog X.w) X.A (eval e X.env) (EP X pins σ Q) X.xe s
section
variable {X:Cx} {b rest:List Stmt} {st:Stmt} {e:Expr} {D:Zdc} {σ:St} {H:Hp} {t:TS} {te:TE} {Q:VK}
theorem Zy:PSs X b (WSs X b):=fun pins s _ _ _ I h=>h.run pins s I
theorem Zyg:PS X st (WS X st):=fun pins s _ _ _ I h=>h.run pins s I
theorem Zxm:PE X e (WE X e):=fun pins s _ _ _ I h=>h.run pins s I
theorem WSs.of(h:PSs X b t)(q:t D σ H):WSs X b D σ H:=⟨fun pins s I=>h pins s σ H D I q⟩
theorem WS.of(h:PS X st t)(q:t D σ H):WS X st D σ H:=⟨fun pins s I=>h pins s σ H D I q⟩
theorem WE.of(h:PE X e te)(q:te σ H Q):WE X e σ H Q:=⟨fun pins s I=>h pins s σ H Q I q⟩
theorem WSs.step(h:PS X st t)(q:t { D with nx:=WSs X rest D } σ H):WSs X (st ::rest) D σ H:=WSs.of (Zrh h Zy) q
theorem WSs.last(h:PS X st t)(q:t D σ H):WSs X [st] D σ H:=WSs.of (Zto h) q
theorem WSs.cut(M:St→Hp→Prop)(h:WS X st { D with nx:=M } σ H)(k:∀σ' H',M σ' H'→WSs X rest D σ' H'):WSs X (st ::rest) D σ H:=by
 refine WSs.step (t:=Zwm (fun _ _=>M) (WS X st)) (Zvj (fun _ _=>M) Zyg) ⟨h,fun σ' H' m=>k σ' H' m⟩
end
end L2
namespace L2
open PySem PySem.Spec PyProof.Rows
end L2
namespace L2
open PySem PySem.Spec PyProof.Rows
end L2
end
section
namespace L2
open PySem PySem.Spec PyProof.Rows
def Zl0{α:Type}(P:α→Prop):List α→Prop
 | []=>True
 | a ::l=>P a∧Zl0 P l
theorem Zl0.mem{α:Type}{P:α→Prop}:∀{l:List α} {a:α},Zl0 P l→a∈l→P a
 | _ ::_,a,h,m=>by
  rcases List.mem_cons.mp m with rfl|m
  ·exact h.1
  ·exact Zl0.mem h.2 m
theorem Zbk{env:Env}:∀{names:List (Str×NameKind)} {x:Str},names.lookup x=some .free →
  (names.map fun (n,k)=>if (k ==NameKind.free && env.scope.kind ==.function && env.kindOf n ==some .cell) then (n,NameKind.cell) else (n,k)).lookup x=some .cell ∨
  (names.map fun (n,k)=>if (k ==NameKind.free && env.scope.kind ==.function && env.kindOf n ==some .cell) then (n,NameKind.cell) else (n,k)).lookup x=some .free
 | [],_,h=>by simp at h
 | (n,k) ::r,x,h=>by
  have ih:=@Zbk env r x
  by_cases hx:x ==n
  ·have hk:k=.free:=by
    rw [List.lookup_cons,hx] at h
    exact Option.some.inj h
   subst hk
   by_cases hc:(NameKind.free ==NameKind.free && env.scope.kind ==.function && env.kindOf n ==some .cell)=true
   ·left
    rw [List.map_cons]
    show List.lookup x ((if _ then (n,NameKind.cell) else (n,NameKind.free)) ::_)=_
    rw [if_pos hc,List.lookup_cons,hx]
   ·right
    rw [List.map_cons]
    show List.lookup x ((if _ then (n,NameKind.cell) else (n,NameKind.free)) ::_)=_
    rw [if_neg hc,List.lookup_cons,hx]
  ·have hx:(x ==n)=false:=by simpa using hx
   rw [List.lookup_cons,hx] at h
   have q:=ih h
   rw [List.map_cons]
   have e:∀(b:Bool) (l:List (Str×NameKind)),List.lookup x ((if b=true then (n,NameKind.cell) else (n,k)) ::l)=l.lookup x:=fun b l=>by
    cases b <;>simp [List.lookup_cons,hx]
   rcases q with q|q
   ·exact .inl ((e _ _).trans q)
   ·exact .inr ((e _ _).trans q)
theorem Zb3{env:Env}:∀{names:List (Str×NameKind)} {x:Str},
    ((names.map fun (n,k)=>if (k ==NameKind.free && env.scope.kind ==.function && env.kindOf n ==some .cell) then (n,NameKind.cell) else (n,k)).lookup x=some .cell ∨
     (names.map fun (n,k)=>if (k ==NameKind.free && env.scope.kind ==.function && env.kindOf n ==some .cell) then (n,NameKind.cell) else (n,k)).lookup x=some .free) →
    names.lookup x=some .cell∨names.lookup x=some .free
  | [],_,h=>by simp at h
  | (n,k) ::r,x,h=>by
    have ih:=@Zb3 env r x
    rw [List.map_cons] at h
    by_cases hx:x ==n
    · rw [List.lookup_cons,hx]
      have e:∀(c:Prop) [Decidable c] (l:List (Str×NameKind)),List.lookup x ((if c then (n,NameKind.cell) else (n,k)) ::l)=some (if c then .cell else k):=fun c _ l=>by
        split <;>rw [List.lookup_cons,hx]
      rcases h with h|h
      · have h:=(e _ _).symm.trans h
        have h:=Option.some.inj h
        split at h
        · rename_i c
          right
          have:k=.free:=by
            rw [Bool.and_eq_true,Bool.and_eq_true] at c
            simpa using c.1.1
          rw [this]
        · left;rw [h]
      · have h:=(e _ _).symm.trans h
        have h:=Option.some.inj h
        split at h
        · cases h
        · right;rw [h]
    · have hx:(x ==n)=false:=by simpa using hx
      have e:∀(c:Prop) [Decidable c] (l:List (Str×NameKind)),List.lookup x ((if c then (n,NameKind.cell) else (n,k)) ::l)=l.lookup x:=fun c _ l=>by
        split <;>rw [List.lookup_cons,hx]
      rw [List.lookup_cons,hx]
      exact ih (h.imp (fun z=>(e _ _).symm.trans z) fun z=>(e _ _).symm.trans z)
theorem Z9.std{X:Cx}{scope:Scope}{cl:List (Str×Addr)}{N':List Str}(n:Nat)(js:List Nat)(kind:scope.kind=.function)(cell:∀y∈scope.names,y.2 ≠ .cell)
  (names:∀y∈scope.names,y.2=.local→scope.names.lookup y.1=some .local) (clos:closureFor scope X.env=pure cl) (hcl:Zl0 (fun p=>X.env.cells.lookup p.1=some p.2) cl)
  (hfree:(scope.names.all fun y=>y.2 !=.free || ((cl.lookup y.1).isSome && (X.env.kindOf y.1 ==some .cell || X.env.kindOf y.1 ==some .free)))=true)
  (hN:N'.length=n+js.length) (hj:Zl0 (fun p:Nat×Nat=>∃x,N'[n+p.1]? =some x∧X.N[p.2]? =some x∧scope.names.lookup x=some .free) ((List.range js.length).zip js)) :
  Z9 X scope cl N' (fun σ=>List.replicate n none++js.map fun j=>(σ[j]?).join) where
 kind:=kind
 cell:=cell
 names:=names
 clos:=clos
 sub:=fun x c h=>Zl0.mem (P:=fun p=>X.env.cells.lookup p.1=some p.2) (a:=(x,c)) hcl (PySem.mem_of_lookup h)
 has:=fun x h=>by
  rcases Zb3 (env:=X.env) h with h|h
  ·exact absurd rfl (cell _ (PySem.mem_of_lookup h))
  ·have q:=List.all_eq_true.mp hfree _ (PySem.mem_of_lookup h)
   simp only [bne_self_eq_false,Bool.false_or,Bool.and_eq_true] at q
   exact Option.isSome_iff_exists.mp q.1
 len:=fun σ _=>by simp [hN]
 fr:=fun σ i x v h1 h2 _=>by
  have hi:n≤i:=by
   rcases Nat.lt_or_ge i n with hlt|hge
   ·rw [List.getElem?_append_left (by simpa using hlt),List.getElem?_replicate,if_pos hlt] at h2
    cases h2
   ·exact hge
  rw [List.getElem?_append_right (by simpa using hi),List.length_replicate,List.getElem?_map] at h2
  cases hjs:js[i-n]? with
  | none=>rw [hjs] at h2;cases h2
  | some j =>
   rw [hjs] at h2
   have h2:(σ[j]?).join=some v:=Option.some.inj h2
   have hlt:i-n<js.length:=by
    rcases Nat.lt_or_ge (i-n) js.length with z|z
    ·exact z
    ·rw [List.getElem?_eq_none z] at hjs;cases hjs
   have hm:(i-n,j)∈(List.range js.length).zip js:=by
    rw [List.mem_iff_getElem?]
    refine ⟨i-n,?_⟩
    rw [List.getElem?_zip_eq_some]
    exact ⟨by simp [hlt],hjs⟩
   obtain ⟨x',e1,e2,e3⟩:=Zl0.mem hj hm
   have e:n+(i-n)=i:=by omega
   simp only [e] at e1
   rw [h1] at e1
   cases e1
   have q:=List.all_eq_true.mp hfree _ (PySem.mem_of_lookup e3)
   simp only [bne_self_eq_false,Bool.false_or,Bool.and_eq_true,Bool.or_eq_true,beq_iff_eq] at q
   refine ⟨Zbk e3,q.2,j,e2,?_⟩
   cases hs:σ[j]? with
   | none=>rw [hs] at h2;cases h2
   | some o=>rw [hs] at h2;exact congrArg some h2
end L2
namespace L2
open PySem PySem.Spec PyProof.Rows
inductive Tr where
 | non | int (i:Int) | str (x:Str) | tup (ts:List Tr) | lst (ts:List Tr)
noncomputable instance:DecidableEq Tr:=fun _ _=>Classical.propDecidable _
mutual
inductive Im(K:Frag)(H:Hp):Nat→Tr→V→Prop where
 | non {n:Nat}:Im K H n .non .non
 | int {n:Nat} (i:Int):Im K H n (.int i) (.int i)
 | str {n:Nat} (x:Str):Im K H n (.str x) (.str x)
 | tupI {n:Nat} {a:Addr} {xs:List V} {ts:List Tr}:SqT K H a xs→Ims K H n ts xs→Im K H (n+1) (.tup ts) (.ref a)
 | lstI {n:Nat} {a:Addr} {xs:List V} {ts:List Tr}:SqL K H a xs→Ims K H n ts xs→Im K H (n+1) (.lst ts) (.ref a)
inductive Ims(K:Frag)(H:Hp):Nat→List Tr→List V→Prop where
 | nil {n:Nat}:Ims K H n [] []
 | cons {n:Nat} {t:Tr} {v:V} {ts:List Tr} {vs:List V}:Im K H n t v→Ims K H n ts vs→Ims K H n (t ::ts) (v ::vs)
end
theorem Ims.toP{K:Frag}{H:Hp}{n:Nat}:∀{ts:List Tr} {xs:List V},Ims K H n ts xs→Paired (Im K H n) ts xs
 | [],_,h=>by cases h;exact .nil
 | _ ::_,_,h=>by
  cases h with
  | cons r t=>exact .cons r t.toP
theorem Ims.ofP{K:Frag}{H:Hp}{n:Nat}:∀{ts:List Tr} {xs:List V},Paired (Im K H n) ts xs→Ims K H n ts xs
 | _,_,.nil=>.nil
 | _,_,.cons r t=>.cons r (Ims.ofP t)
theorem Im.tup{K:Frag}{H:Hp}{n:Nat}{a:Addr}{xs:List V}{ts:List Tr}(sq:SqT K H a xs)(ps:Paired (Im K H n) ts xs):Im K H (n+1) (.tup ts) (.ref a):=.tupI sq (.ofP ps)
theorem Im.lst{K:Frag}{H:Hp}{n:Nat}{a:Addr}{xs:List V}{ts:List Tr}(sq:SqL K H a xs)(ps:Paired (Im K H n) ts xs):Im K H (n+1) (.lst ts) (.ref a):=.lstI sq (.ofP ps)
theorem Paired.get{α β:Type}{R:α→β→Prop}:∀{l₁:List α} {l₂:List β} {i:Nat} {a:α},Paired R l₁ l₂→l₁[i]? =some a→∃b,l₂[i]? =some b∧R a b
 | _,_,_,_,.nil,e=>by simp at e
 | _,_,0,_,.cons r _,e=>by simp at e;subst e;exact ⟨_,rfl,r⟩
 | _,_,i+1,a,.cons _ t,e=>by
  obtain ⟨u,h1,h2⟩:=Paired.get (i:=i) (a:=a) t (by simpa using e)
  exact ⟨u,by simpa using h1,h2⟩
theorem Paired.get'{α β:Type}{R:α→β→Prop}:∀{l₁:List α} {l₂:List β} {i:Nat} {b:β},Paired R l₁ l₂→l₂[i]? =some b→∃a,l₁[i]? =some a∧R a b
 | _,_,_,_,.nil,e=>by simp at e
 | _,_,0,_,.cons r _,e=>by simp at e;subst e;exact ⟨_,rfl,r⟩
 | _,_,i+1,a,.cons _ t,e=>by
  obtain ⟨u,h1,h2⟩:=Paired.get' (i:=i) (b:=a) t (by simpa using e)
  exact ⟨u,by simpa using h1,h2⟩
theorem Paired.append{α β:Type}{R:α→β→Prop}:∀{a₁:List α} {b₁:List β} {a₂:List α} {b₂:List β},Paired R a₁ b₁→Paired R a₂ b₂→Paired R (a₁++a₂) (b₁++b₂)
 | _,_,_,_,.nil,s=>s
 | _,_,_,_,.cons r t,s=>.cons r (Paired.append t s)
theorem Paired.strs{K:Frag}{H:Hp}{n:Nat}:∀xs:List Str,Paired (Im K H n) (xs.map Tr.str) (xs.map V.str)
 | []=>.nil
 | x ::xs=>.cons (.str x) (Paired.strs (K:=K) (H:=H) (n:=n) xs)
theorem Same.at{H H':Hp}{b:Addr}{o:HO}(e:Same H H')(h:H b=some o):H' b=some o:=e b o h
theorem Same.new{H:Hp}{p:Addr}{o:HO}(h:H p=none):Same H (upd H p o):=fun b u e=>by rw [Zi (Zh e h)];exact e
theorem Paired.uniq{α β:Type}{R:α→β→Prop}(f:∀a a' b,R a b→R a' b→a=a'):∀{l l':List α} {m:List β},Paired R l m→Paired R l' m→l=l'
 | _,_,_,.nil,.nil=>rfl
 | _,_,_,.cons r t,.cons r' t'=>by rw [f _ _ _ r r',Paired.uniq f t t']
section
variable {X:Cx} {pins:List (Addr×Obj)} {σ:St} {H:Hp} {s:Shared}
theorem Inv.lt_excl(I:Inv X pins σ H s){a:Addr}{xs ys:List V}(h:SqL X.K H a xs)(h':SqT X.K H a ys):False:=by
 obtain ⟨its,_,pl,_⟩:=I.list h
 obtain ⟨its',_,tp,_⟩:=I.tuple h'
 exact SeqAt.ne_of_list_tuple pl.isList (show s.heap.IsTuple a its'.toArray from tp) rfl
theorem Im.inj(I:Inv X pins σ H s):∀{n:Nat} {t u:Tr} {v:V},Im X.K H n t v→Im X.K H n u v→t=u:=by
 intro n
 induction n with
 | zero=>intro t u v h h';cases h <;>cases h' <;>rfl
 | succ n ih =>
  intro t u v h h'
  cases h with
  | non=>cases h';rfl
  | int i=>cases h';rfl
  | str x=>cases h';rfl
  | tupI sq pm =>
   cases h' with
   | tupI sq' pm' =>
    have e:=I.tuple_inj sq sq'
    subst e
    rw [Paired.uniq (R:=Im X.K H n) (fun _ _ _ z z'=>ih z z') pm.toP pm'.toP]
   | lstI sq' pm'=>exact (I.lt_excl sq' sq).elim
  | lstI sq pm =>
   cases h' with
   | tupI sq' pm'=>exact (I.lt_excl sq sq').elim
   | lstI sq' pm' =>
    have e:=I.list_inj sq sq'
    subst e
    rw [Paired.uniq (R:=Im X.K H n) (fun _ _ _ z z'=>ih z z') pm.toP pm'.toP]
theorem Yj{A:Around}{s:Shared}{u v:Value}{b b':Bool}(h:SeqAt.EqAt A s u v b)(e:b=b'):SeqAt.EqAt A s u v b':=e ▸ h
theorem Zgg(ts us:List Tr):(((List.range (min ts.length us.length)).all fun j=>decide (ts[j]? =us[j]?)) && ts.length ==us.length)=decide (ts=us):=by
 rw [Bool.eq_iff_iff]
 simp only [Bool.and_eq_true,List.all_eq_true,List.mem_range,decide_eq_true_eq,beq_iff_eq]
 constructor
 ·rintro ⟨h,e⟩
  refine List.ext_getElem? fun i=>?_
  by_cases hi:i<ts.length
  ·exact h i (by omega)
  ·rw [List.getElem?_eq_none (by omega),List.getElem?_eq_none (by omega)]
 ·rintro rfl
  exact ⟨fun _ _=>rfl,rfl⟩
theorem Zk9{ts us:List Tr}(h:ts.length=us.length):((List.range ts.length).all fun j=>decide (ts[j]? =us[j]?))=decide (ts=us):=by
 have q:=Zgg ts us
 rw [h,Nat.min_self,beq_self_eq_true,Bool.and_true] at q
 rw [h]
 exact q
theorem Wd(A:Around):A.in1.units=A.units+1:=rfl
theorem Zc2{n:Nat}{A:Around}{ts us:List Tr}{xs ys:List V}{its its':List Value}
  (ih:∀{t u:Tr} {x y:V} {vx vy:Value},Im X.K H n t x→Im X.K H n u y→Yo x vx→Yo y vy→SeqAt.EqAt A s vx vy (decide (t=u)))
  (ps:Paired (Im X.K H n) ts xs) (ps':Paired (Im X.K H n) us ys) (rv:Yd xs its) (rv':Yd ys its') :
  ∀j (h1:j<its.toArray.size) (h2:j<its'.toArray.size),SeqAt.EqAt A s its.toArray[j] its'.toArray[j] (decide (ts[j]? =us[j]?)):=by
 intro j h1 h2
 have l1:=rv.length
 have l2:=rv'.length
 have h1':j<xs.length:=by simpa [l1] using h1
 have h2':j<ys.length:=by simpa [l2] using h2
 obtain ⟨t,e1,r1⟩:=Paired.get' ps (i:=j) (b:=xs[j]) (by simp [h1'])
 obtain ⟨u,e2,r2⟩:=Paired.get' ps' (i:=j) (b:=ys[j]) (by simp [h2'])
 obtain ⟨v1,f1,g1⟩:=rv.get (i:=j) (x:=xs[j]) (by simp [h1'])
 obtain ⟨v2,f2,g2⟩:=rv'.get (i:=j) (x:=ys[j]) (by simp [h2'])
 have k1:its.toArray[j]=v1:=by
  have:its[j]? =some its.toArray[j]:=by simp [show j<its.length by simpa using h1]
  rw [f1] at this
  exact (Option.some.inj this).symm
 have k2:its'.toArray[j]=v2:=by
  have:its'[j]? =some its'.toArray[j]:=by simp [show j<its'.length by simpa using h2]
  rw [f2] at this
  exact (Option.some.inj this).symm
 rw [k1,k2,e1,e2]
 refine Yj (ih r1 r2 g1 g2) ?_
 rw [Bool.eq_iff_iff]
 simp
theorem Im.tuple_rc(I:Inv X pins σ H s){n:Nat}{A:Around}{a b:Addr}{ts us:List Tr}{xs ys:List V}
  (ih:∀{t u:Tr} {x y:V} {vx vy:Value},Im X.K H n t x→Im X.K H n u y→Yo x vx→Yo y vy→SeqAt.EqAt A.in1 s vx vy (decide (t=u))) (hu:A.units<cLine)
  (sq:SqT X.K H a xs) (ps:Paired (Im X.K H n) ts xs) (sq':SqT X.K H b ys) (ps':Paired (Im X.K H n) us ys) :
  SeqAt.RcAt A s (.ref a) (.ref b) (decide (Tr.tup ts=Tr.tup us))∧SeqAt.RcNeAt A s (.ref a) (.ref b) (!decide (Tr.tup ts=Tr.tup us)):=by
 obtain ⟨its,rv,tp,_⟩:=I.tuple sq
 obtain ⟨its',rv',tp',_⟩:=I.tuple sq'
 have l1:=rv.length
 have l2:=rv'.length
 have m1:=Paired.length ps
 have m2:=Paired.length ps'
 have e:((List.range (min its.toArray.size its'.toArray.size)).all (fun j=>decide (ts[j]? =us[j]?)) && its.toArray.size ==its'.toArray.size)=decide (Tr.tup ts=Tr.tup us):=by
  rw [List.size_toArray,List.size_toArray,←l1,←l2,←m1,←m2,Zgg,Bool.eq_iff_iff]
  simp
 constructor
 ·rw [←e];exact SeqAt.RcAt.tuples (show s.heap.IsTuple a its.toArray from tp) (show s.heap.IsTuple b its'.toArray from tp') hu (Zc2 ih ps ps' rv rv')
 ·rw [←e];exact SeqAt.RcNeAt.tuples (show s.heap.IsTuple a its.toArray from tp) (show s.heap.IsTuple b its'.toArray from tp') hu (Zc2 ih ps ps' rv rv')
theorem Im.list_rc(I:Inv X pins σ H s){n:Nat}{A:Around}{a b:Addr}{ts us:List Tr}{xs ys:List V}
  (ih:∀{t u:Tr} {x y:V} {vx vy:Value},Im X.K H n t x→Im X.K H n u y→Yo x vx→Yo y vy→SeqAt.EqAt A.in1 s vx vy (decide (t=u))) (hu:A.units<cLine)
  (sq:SqL X.K H a xs) (ps:Paired (Im X.K H n) ts xs) (sq':SqL X.K H b ys) (ps':Paired (Im X.K H n) us ys) :
  SeqAt.RcAt A s (.ref a) (.ref b) (decide (Tr.lst ts=Tr.lst us))∧SeqAt.RcNeAt A s (.ref a) (.ref b) (!decide (Tr.lst ts=Tr.lst us)):=by
 obtain ⟨its,rv,tp,_⟩:=I.list sq
 obtain ⟨its',rv',tp',_⟩:=I.list sq'
 have l1:=rv.length
 have l2:=rv'.length
 have m1:=Paired.length ps
 have m2:=Paired.length ps'
 by_cases hl:ts.length=us.length
 ·have e:((List.range its.toArray.size).all fun j=>decide (ts[j]? =us[j]?))=decide (Tr.lst ts=Tr.lst us):=by
   rw [List.size_toArray,←l1,←m1,Zk9 hl,Bool.eq_iff_iff]
   simp
  have hs:its.toArray.size=its'.toArray.size:=by rw [List.size_toArray,List.size_toArray];omega
  constructor
  ·rw [←e];exact SeqAt.RcAt.lists tp.isList tp'.isList hs hu (Zc2 ih ps ps' rv rv')
  ·rw [←e];exact SeqAt.RcNeAt.lists tp.isList tp'.isList hs hu (Zc2 ih ps ps' rv rv')
 ·have e:decide (Tr.lst ts=Tr.lst us)=false:=decide_eq_false fun z=>hl (by injection z with z;rw [z])
  have hs:(its.toArray.size !=its'.toArray.size)=true:=by rw [List.size_toArray,List.size_toArray];simp;omega
  rw [e]
  exact ⟨SeqAt.RcAt.lists_lengths tp.isList tp'.isList hs hu,SeqAt.RcNeAt.lists_lengths tp.isList tp'.isList hs hu⟩
theorem Im.eqAt(I:Inv X pins σ H s):∀(n:Nat) (A:Around) {t u:Tr} {x y:V} {vx vy:Value},Im X.K H n t x→Im X.K H n u y→Yo x vx→Yo y vy→A.units+n<cLine→SeqAt.EqAt A s vx vy (decide (t=u)):=by
 intro n
 induction n with
 | zero =>
  intro A t u x y vx vy h h' rx ry hu
  cases h <;>cases h' <;>exact Yj (Zhh rx ry rfl rfl) (by rw [Bool.eq_iff_iff];simp [eqV])
 | succ n ih =>
  intro A t u x y vx vy h h' rx ry hu
  have hu0:A.units<cLine:=by omega
  have hu1:A.in1.units+n<cLine:=by rw [Wd];omega
  have ih1:∀{t u:Tr} {x y:V} {vx vy:Value},Im X.K H n t x→Im X.K H n u y→Yo x vx→Yo y vy→SeqAt.EqAt A.in1 s vx vy (decide (t=u)):=fun z z' r r'=>ih A.in1 z z' r r' hu1
  cases h with
  | @tupI _ a xs ts sq pm =>
   cases rx
   obtain ⟨its,rv,tp,_⟩:=I.tuple sq
   cases h' with
   | non=>cases ry;exact Yj (SeqAt.EqAt.tuple_none (show s.heap.IsTuple _ its.toArray from tp) hu0) (decide_eq_false fun z=>nomatch z).symm
   | int i=>obtain ⟨t',rfl⟩:=ry;exact Yj (SeqAt.EqAt.tuple_int i t' (show s.heap.IsTuple _ its.toArray from tp) hu0) (decide_eq_false fun z=>nomatch z).symm
   | str i=>obtain ⟨t',rfl⟩:=ry;exact Yj (SeqAt.EqAt.tuple_str i t' (show s.heap.IsTuple _ its.toArray from tp) hu0) (decide_eq_false fun z=>nomatch z).symm
   | @tupI _ b ys us sq' pm' =>
    cases ry
    by_cases hab:a=b
    ·subst hab
     rw [Im.inj I (Im.tupI sq pm) (Im.tupI sq' pm'),decide_eq_true rfl]
     exact SeqAt.EqAt.same _
    ·exact SeqAt.EqAt.of_refs hab (Im.tuple_rc I ih1 hu0 sq pm.toP sq' pm'.toP).1
   | lstI sq' pm' =>
    cases ry
    obtain ⟨its',rv',tp',_⟩:=I.list sq'
    exact Yj (SeqAt.EqAt.tuple_list (show s.heap.IsTuple _ its.toArray from tp) tp'.isList hu0) (decide_eq_false fun z=>nomatch z).symm
  | @lstI _ a xs ts sq pm =>
   cases rx
   obtain ⟨its,rv,tp,_⟩:=I.list sq
   cases h' with
   | non=>cases ry;exact Yj (SeqAt.EqAt.list_none tp.isList hu0) (decide_eq_false fun z=>nomatch z).symm
   | int i=>obtain ⟨t',rfl⟩:=ry;exact Yj (SeqAt.EqAt.list_int i t' tp.isList hu0) (decide_eq_false fun z=>nomatch z).symm
   | str i=>obtain ⟨t',rfl⟩:=ry;exact Yj (SeqAt.EqAt.list_str i t' tp.isList hu0) (decide_eq_false fun z=>nomatch z).symm
   | tupI sq' pm' =>
    cases ry
    obtain ⟨its',rv',tp',_⟩:=I.tuple sq'
    exact Yj (SeqAt.EqAt.list_tuple tp.isList (show s.heap.IsTuple _ its'.toArray from tp') hu0) (decide_eq_false fun z=>nomatch z).symm
   | @lstI _ b ys us sq' pm' =>
    cases ry
    by_cases hab:a=b
    ·subst hab
     rw [Im.inj I (Im.lstI sq pm) (Im.lstI sq' pm'),decide_eq_true rfl]
     exact SeqAt.EqAt.same _
    ·exact SeqAt.EqAt.of_refs hab (Im.list_rc I ih1 hu0 sq pm.toP sq' pm'.toP).1
  | non =>
   cases rx
   cases h' with
   | non=>cases ry;exact Yj (SeqAt.EqAt.same _) (decide_eq_true rfl).symm
   | int i=>obtain ⟨t',rfl⟩:=ry;exact Yj (SeqAt.EqAt.none_int i t') (decide_eq_false fun z=>nomatch z).symm
   | str i=>obtain ⟨t',rfl⟩:=ry;exact Yj (SeqAt.EqAt.none_str i t') (decide_eq_false fun z=>nomatch z).symm
   | tupI sq' pm'=>cases ry;obtain ⟨its',_,tp',_⟩:=I.tuple sq';exact Yj (SeqAt.EqAt.none_tuple (show s.heap.IsTuple _ its'.toArray from tp') hu0) (decide_eq_false fun z=>nomatch z).symm
   | lstI sq' pm'=>cases ry;obtain ⟨its',_,tp',_⟩:=I.list sq';exact Yj (SeqAt.EqAt.none_list tp'.isList hu0) (decide_eq_false fun z=>nomatch z).symm
  | int j =>
   cases h' with
   | tupI sq' pm'=>obtain ⟨t',rfl⟩:=rx;cases ry;obtain ⟨its',_,tp',_⟩:=I.tuple sq';exact Yj (SeqAt.EqAt.int_tuple j t' (show s.heap.IsTuple _ its'.toArray from tp') hu0) (decide_eq_false fun z=>nomatch z).symm
   | lstI sq' pm'=>obtain ⟨t',rfl⟩:=rx;cases ry;obtain ⟨its',_,tp',_⟩:=I.list sq';exact Yj (SeqAt.EqAt.int_list j t' tp'.isList hu0) (decide_eq_false fun z=>nomatch z).symm
   | _=>exact Yj (Zhh rx ry rfl rfl) (by rw [Bool.eq_iff_iff];simp [eqV])
  | str j =>
   cases h' with
   | tupI sq' pm'=>obtain ⟨t',rfl⟩:=rx;cases ry;obtain ⟨its',_,tp',_⟩:=I.tuple sq';exact Yj (SeqAt.EqAt.str_tuple j t' (show s.heap.IsTuple _ its'.toArray from tp') hu0) (decide_eq_false fun z=>nomatch z).symm
   | lstI sq' pm'=>obtain ⟨t',rfl⟩:=rx;cases ry;obtain ⟨its',_,tp',_⟩:=I.list sq';exact Yj (SeqAt.EqAt.str_list j t' tp'.isList hu0) (decide_eq_false fun z=>nomatch z).symm
   | _=>exact Yj (Zhh rx ry rfl rfl) (by rw [Bool.eq_iff_iff];simp [eqV])
end
def Zsw(K:Frag)(neg:Bool):R2:=fun x y H Q=>∃n t u,n≤60∧((∃ts us,t=Tr.tup ts∧u=Tr.tup us)∨∃ts us,t=Tr.lst ts∧u=Tr.lst us)∧Im K H n t x∧Im K H n u y∧Q (.bl (if neg then !decide (t=u) else decide (t=u))) H
theorem Zu2{X:Cx}(hu:X.A.units+64<cLine):OpR X (compareOp .Eq) (Zsw X.K false):=by
 intro pins s σ H x y v u Q I rx ry h
 obtain ⟨n,t,t',hn,hk,h1,h2,q⟩:=h
 rcases hk with ⟨ts,us,rfl,rfl⟩|⟨ts,us,rfl,rfl⟩
 ·cases h1 with
  | tupI sq pm =>
   cases h2 with
   | tupI sq' pm' =>
    cases rx
    cases ry
    exact (Im.tuple_rc (A:=X.A) I (fun z z' r r'=>Im.eqAt I _ _ z z' r r' (by rw [Wd];omega)) (by omega) sq pm.toP sq' pm'.toP).1 _ _ _ _ ⟨.bl _,H,I,rfl,q⟩
 ·cases h1 with
  | lstI sq pm =>
   cases h2 with
   | lstI sq' pm' =>
    cases rx
    cases ry
    exact (Im.list_rc (A:=X.A) I (fun z z' r r'=>Im.eqAt I _ _ z z' r r' (by rw [Wd];omega)) (by omega) sq pm.toP sq' pm'.toP).1 _ _ _ _ ⟨.bl _,H,I,rfl,q⟩
theorem Zvp{X:Cx}(hu:X.A.units+64<cLine):OpR X (compareOp .NotEq) (Zsw X.K true):=by
 intro pins s σ H x y v u Q I rx ry h
 obtain ⟨n,t,t',hn,hk,h1,h2,q⟩:=h
 rcases hk with ⟨ts,us,rfl,rfl⟩|⟨ts,us,rfl,rfl⟩
 ·cases h1 with
  | tupI sq pm =>
   cases h2 with
   | tupI sq' pm' =>
    cases rx
    cases ry
    exact (Im.tuple_rc (A:=X.A) I (fun z z' r r'=>Im.eqAt I _ _ z z' r r' (by rw [Wd];omega)) (by omega) sq pm.toP sq' pm'.toP).2 _ _ _ _ ⟨.bl _,H,I,rfl,q⟩
 ·cases h1 with
  | lstI sq pm =>
   cases h2 with
   | lstI sq' pm' =>
    cases rx
    cases ry
    exact (Im.list_rc (A:=X.A) I (fun z z' r r'=>Im.eqAt I _ _ z z' r r' (by rw [Wd];omega)) (by omega) sq pm.toP sq' pm'.toP).2 _ _ _ _ ⟨.bl _,H,I,rfl,q⟩
def Zrv(t:TA):TE:=fun σ H Q=>t σ H fun xs H1=>xs.length≤sizeLine∧∀p H',Same H1 H'→H1 p=none→H' p=some (.tup xs)→Q (.ref p) H'
def Zw0(t:TA):TE:=fun σ H Q=>t σ H fun xs H1=>xs.length≤sizeLine∧∀p H',Same H1 H'→H1 p=none→H' p=some (.lst xs)→Q (.ref p) H'
theorem Zf{X:Cx}{es:List Expr}{t:TA}{pos:Pos}{x1}(h:PA X es t):PE X (.Tuple es x1 pos) (Zrv t):=by
 intro pins s σ H Q I hq
 refine wpAny_Tuple_spliced (thn (h pos pins s σ H _ I hq) fun us s1 ⟨xs,H1,I1,r,z,q⟩=>⟨by rw [←r.length];exact z,?_⟩)
 have hf:H1 s1.heap.objs.size=none:=I1.hok.fresh (Nat.le_refl _)
 refine ⟨.ref s1.heap.objs.size,upd H1 s1.heap.objs.size (.tup xs),I1.laid (t':=s1.toks) (fun b u e=>Heap.get?_push_of_some _ e) (Nat.le_refl _) ?_,rfl,q _ _ (Same.new hf) hf Zj⟩
 exact ⟨z,us,r,⟨_,Heap.get?_push_size _ rfl,rfl,_,rfl⟩⟩
theorem Zl{X:Cx}{es:List Expr}{t:TA}{pos:Pos}(h:PA X es t):PE X (.List es pos) (Zw0 t):=by
 intro pins s σ H Q I hq
 refine wpAny_List_spliced (thn (h pos pins s σ H _ I hq) fun us s1 ⟨xs,H1,I1,r,z,q⟩=>⟨by rw [←r.length];exact z,?_⟩)
 have hf:H1 s1.heap.objs.size=none:=I1.hok.fresh (Nat.le_refl _)
 refine ⟨.ref s1.heap.objs.size,upd H1 s1.heap.objs.size (.lst xs),I1.laid (t':=s1.toks) (fun b u e=>Heap.get?_push_of_some _ e) (Nat.le_refl _) ?_,rfl,q _ _ (Same.new hf) hf Zj⟩
 exact ⟨z,us,0,r,Heap.get?_push_size _ rfl⟩
theorem OpR.imp{X:Cx}{f:Value→Value→Sem Value}{r r':R2}(h:OpR X f r)(g:∀x y H Q,r' x y H Q→r x y H Q):OpR X f r':=fun pins s σ H x y v u Q I rx ry q=>h pins s σ H x y v u Q I rx ry (g _ _ _ _ q)
theorem SlR.imp{X:Cx}{r r':V→Option Int→Option Int→Hp→VK→Prop}(h:SlR X r)(g:∀x l u H Q,r' x l u H Q→r x l u H Q):SlR X r':=fun pins s σ H x v vl vu lo hi sl Q I rx hs pl pu q=>h pins s σ H x v vl vu lo hi sl Q I rx hs pl pu (g _ _ _ _ _ q)
theorem Xs.imp{X:Cx}{f:Value}{r r':List V→Hp→VK→Prop}(h:Xs X f r)(g:∀xs H Q,r' xs H Q→r xs H Q):Xs X f r':=fun pins s σ H xs us Q I rs q=>h pins s σ H xs us Q I rs (g _ _ _ q)
def New(H:Hp)(o:HO)(Q:VK):Prop:=∀p H',Same H H'→H p=none→H' p=some o→Q (.ref p) H'
theorem New.at{H:Hp}{o:HO}{Q:VK}(h:New H o Q)(p:Addr)(hp:H p=none):Q (.ref p) (upd H p o):=h p _ (Same.new hp) hp Zj
def Zt3:R2:=fun x y H Q=>∃l b xs zs,x=.ref l∧y=.ref b∧H l=some (.lst xs)∧H b=some (.lst zs)∧xs.length+zs.length≤sizeLine∧New H (.lst (xs++zs)) Q
theorem Zs1{X:Cx}:OpR X (binaryOp .Add) Zt3:=Zvf.imp fun x y H Q ⟨l,b,xs,zs,h1,h2,h3,h4,h5,h6⟩=>⟨l,b,xs,zs,h1,h2,h3,h4,h5,fun p hp=>h6.at p hp⟩
def Zt7(K:Frag):V→Option Int→Option Int→Hp→VK→Prop:=fun x lo hi H Q=>∃a xs,x=.ref a∧SqT K H a xs∧¬(HT.sIx xs.length 0 lo=0∧HT.sIx xs.length xs.length hi=xs.length)∧New H (.tup (Zgt xs lo hi)) Q
theorem Ztx{X:Cx}:SlR X (Zt7 X.K):=Zuu.imp fun x l u H Q ⟨a,xs,h1,h2,h3,h4⟩=>⟨a,xs,h1,h2,h3,fun p hp=>h4.at p hp⟩
def Zue(K:Frag):V→Option Int→Option Int→Hp→VK→Prop:=fun x lo hi H Q=>∃a xs,x=.ref a∧SqL K H a xs∧New H (.lst (Zgt xs lo hi)) Q
theorem Zru{X:Cx}:SlR X (Zue X.K):=Ztw.imp fun x l u H Q ⟨a,xs,h1,h2,h4⟩=>⟨a,xs,h1,h2,fun p hp=>h4.at p hp⟩
theorem Zap{X:Cx}{CX:CXT}{k:Nat}{f C:Addr}{fd:FuncData}{ps:List Str}{sp:Sp}{dvs:List V}{ds:List Value}{E:XK}{x:Str}{p pos:Pos}{e:Expr}{es:List Expr}{t:TA}(mr:List V→Hp→VK→Prop)(M:Mk X.K C f)
  (F:Yf X.prog X.w X.K X.mg X.base CX k f fd ps sp) (hr:W8 (k+1) X.A) (hg:Gl X x) (hm:X.mg x=some (.ref C)) (hb:Zb4 X.K fd ps ds) (hd:Yd dvs ds) (hx:Zbj CX X E)
  (hmr:∀vs H Q,mr vs H Q→∀x dx,H x=none→H dx=none→dx≠x→sp (.ref x ::(vs++dvs)) (upd (upd H dx (.own x)) x (.ins C dx [])) (fun v H2=>v=.non∧Q (.ref x) H2) E)
  (ha:PA X (e ::es) t) (hdb:(x ==("__debug__" :Str))=false:=by decide) (he:starEach (e ::es) X.env=(false,eval e X.env) ::starEach es X.env:=by rfl) (hpl:(backTo pos (starEach es X.env)).any (·.1)=false:=by rfl) :
  PE X (.Call (.Name x p) (e ::es) [] pos) (tCB mr t):=by
 intro pins s σ H Q I h
 refine wpAny_Call_Name_kw (Zd3 I hg hm ?_ hdb)
 refine PySem.W.callWith_K (h₀:=X.base) I.ok.mod.kin M.kp (thn (ha pos pins s σ H _ I h) fun us s1 ⟨vs,H1,I1,r,q⟩=>⟨I1.kIn,?_⟩) he hpl
 exact Zqo M F hr hb hd hx I1 r (hmr vs H1 Q q)
section
variable {X:Cx} {k:Nat}
theorem Zul(hu:X.A.units+1<cLine):OpR X (compareOp .In) (fun y x H Q=>∃a o,x=.ref a∧Zc4 H a y o∧Q (.bl o.isSome) H):=by
 intro pins s σ H y x v u Q I ry rx h
 obtain ⟨a,ov,rfl,g,q⟩:=h
 cases rx
 exact Zyk hu I g ry fun s3 I3=>⟨.bl ov.isSome,H,I3,rfl,q⟩
theorem Zpv(hu:X.A.units+1<cLine):OpR X (compareOp .NotIn) (fun y x H Q=>∃a o,x=.ref a∧Zc4 H a y o∧Q (.bl (!o.isSome)) H):=by
 intro pins s σ H y x v u Q I ry rx h
 obtain ⟨a,ov,rfl,g,q⟩:=h
 cases rx
 exact Zsy hu I g ry fun s3 I3=>⟨.bl (!ov.isSome),H,I3,rfl,q⟩
theorem Y3:OpR X (binaryOp .Add) (fun x y H Q=>rI0 (fun i j=>.int (i+j)) x y H Q∨(∃i j,x=.str i∧y=.str j∧i.length+j.length≤sizeLine∧Q (.str (i++j)) H)∨Zt3 x y H Q):=Zvy.or (Zm6.or Zs1)
end
theorem sz{n:Nat}(h:n≤1000):n≤sizeLine:=Nat.le_of_lt (Z4 h)
structure FunD(K:Frag)(x qual:Str)(st:Stmt)(dV:Value)(f:Addr)(fd:FuncData):Prop where
 ex:∃(oc:Value) (od:Option Addr) (kV doc pm:Value) (an:Option Addr) (cdv ct:Value) (osl:Array (Option Value)),
  fd=fnOf x qual (Zz st) (Zv st) (Zg st) dV kV doc pm an cdv ct∧K.lookup f=some ⟨oc,od,.func fd,osl⟩∧codeIn K cdv qual=true
 kp:keepIn K (.ref f)=true
section
variable {P:Program} {w:World} {K:Frag} {mg:Str→Option Value} {base:Heap}
theorem Fun.okW{x qual:Str}{st:Stmt}{f:Addr}{fd:FuncData}{N ps:List Str}{k:Nat}{sp:Sp}(F:Fun K x qual st f fd)(S:Z3 N ps (Zg st))(len:∀vs H Q E,sp vs H Q E→vs.length=ps.length)
  (hbody:∀(cdv:Value) (A:Around) (outer:List Env) (s:Shared) (H:Hp) (vs:List V) (Q:VK) (E:XK),W8 k (A.deeper (envOfC qual (Zg st) s.heap.objs.size f cdv))→sp vs H Q E →
   WSs (Zck CX0 P w K mg base N qual (Zg st) f cdv A outer s H E).nox (Zv st) { nx:=fun _ H'=>Q .non H',rt:=Q } (start N vs) H):Yf P w K mg base CX0 (k+1) f fd ps sp :=
 F.ok S len fun cdv A outer s H vs Q E hr h=>⟨_,Zy,hbody cdv A outer s H vs Q E hr h⟩
theorem Zsq{x qual:Str}{st:Stmt}{f:Addr}{oc dV:Value}{od an:Option Addr}{osl:Array (Option Value)}{kV doc pm cdv ct:Value}(l:K.lookup f=some ⟨oc,od,.func (fnOf x qual (Zz st) (Zv st) (Zg st) dV kV doc pm an cdv ct),osl⟩)
  (c:codeIn K cdv qual=true) (k:keepIn K (.ref f)=true):FunD K x qual st dV f (fnOf x qual (Zz st) (Zv st) (Zg st) dV kV doc pm an cdv ct):=⟨⟨oc,od,kV,doc,pm,an,cdv,ct,osl,rfl,l,c⟩,k⟩
end
structure Dn(K:Frag)(x qual:Str)(st:Stmt)(ps:List Str) where
 f:Addr
 fd:FuncData
 F:Fun K x qual st f fd
 b:Zb4 K fd ps []
theorem Zlo{α:Type}{l:List α}{i:Nat}{a:α}(h:l[i]? =some a):l.drop i=a ::l.drop (i+1):=by
 have hi:i<l.length:=by
  rcases Nat.lt_or_ge i l.length with z|z
  ·exact z
  ·rw [List.getElem?_eq_none z] at h;cases h
 rw [List.drop_eq_getElem_cons hi]
 rw [List.getElem?_eq_getElem hi] at h
 rw [Option.some.inj h]
theorem Zju:∀l:List Str,(l.map V.str).all Zds=true
 | []=>rfl
 | _ ::l=>by rw [List.map_cons,List.all_cons,Zju l];rfl
theorem Zdg(x:Str):∀l:List Str,inV (.str x) (l.map V.str)=decide (x∈l)
 | []=>by simp [inV]
 | y ::l=>by
  have ih:=Zdg x l
  unfold inV at ih ⊢
  rw [List.map_cons,List.any_cons,ih,Bool.eq_iff_iff]
  simp only [eqV,Bool.or_eq_true,beq_iff_eq,decide_eq_true_eq,List.mem_cons]
  constructor
  ·rintro (h|h)
   ·exact .inl h.symm
   ·exact .inr h
  ·rintro (h|h)
   ·exact .inl h.symm
   ·exact .inr h
end L2
end
section
namespace L2
open PySem PySem.Spec PyProof.Rows
def Zww:HO→Bool
 | .dK _=>true
 | .dT _=>true
 | _=>false
section
variable {X:Cx} {pins:List (Addr×Obj)} {σ:St} {H:Hp} {s:Shared} {d:Addr} {o:Obj} {u:HO}
theorem HOk.retold{P:Program}{w:World}{h:Heap}{v v':HO}(x:HOk P w H h)(hd:H d=some v)(no:∀y,v ≠ .own y)(nt:∀xs,v ≠ .tup xs)(nz:∀o y,v ≠ .frz o (.own y))(new:Yu P w (upd H d v') h d v'):HOk P w (upd H d v') h:=fun b q e=>by
 by_cases hb:b=d
 ·subst hb;rw [Zj] at e;cases e;exact new
 ·rw [Zi hb] at e
  refine (x b q e).stay (fun _ _ _ z=>z) (fun c z=>?_) (fun c xs z=>?_) (fun c ob z=>?_)
  ·rw [Zi (fun y=>by subst y;rw [hd] at z;exact no _ (Option.some.inj z))];exact z
  ·rw [Zi (fun y=>by subst y;rw [hd] at z;exact nt _ (Option.some.inj z))];exact z
  ·rw [Zi (fun y=>by subst y;rw [hd] at z;exact nz _ _ (Option.some.inj z))];exact z
theorem Zff{P:Program}{w:World}{h:Heap}{v v' u:HO}(hd:H d=some v)(no:∀y,v ≠ .own y)(nt:∀xs,v ≠ .tup xs)(nz:∀o y,v ≠ .frz o (.own y))(x:Yu P w H h d u):Yu P w (upd H d v') h d u :=
 x.stay (fun _ _ _ z=>z) (fun c z=>by rw [Zi (fun y=>by subst y;rw [hd] at z;exact no _ (Option.some.inj z))];exact z) (fun c xs z=>by rw [Zi (fun y=>by subst y;rw [hd] at z;exact nt _ (Option.some.inj z))];exact z) (fun c ob z=>by rw [Zi (fun y=>by subst y;rw [hd] at z;exact nz _ _ (Option.some.inj z))];exact z)
theorem Inv.retell{v':HO}{v:HO}(I:Inv X pins σ H s)(hd:H d=some v)(no:∀y,v ≠ .own y)(nt:∀xs,v ≠ .tup xs)(nz:∀o y,v ≠ .frz o (.own y))(nb:∀ps,v ≠ .tbl ps)(nf:∀o u,X.H₀ d≠some (.frz o u))(new:Yu X.prog X.w (upd H d v') s.heap d v') :
  Inv X pins σ (upd H d v') s:=by
 have nd:∀b,H b=none→b≠d:=fun b n z=>by subst z;rw [n] at hd;cases hd
 refine ⟨I.ok,I.os,I.bare,?_,I.loc,I.cell,?_,fun x c e=>?_,fun p hp=>?_,I.hok.retold hd no nt nz new,I.len⟩
 ·have b:=I.base
  refine ⟨b.keep,b.slot,fun c q e n hx=>?_,b.there,fun c xs e=>?_,fun c ob q e=>?_,fun c ps e=>?_⟩
  ·have z:=b.free c q e n hx
   rw [Zi (nd c z)];exact z
  ·have z:=b.tups c xs e
   rw [Zi (fun y=>by subst y;rw [hd] at z;exact nt _ (Option.some.inj z))];exact z
  ·have z:=b.frzs c ob q e
   rw [Zi (fun y=>by subst y;exact nf _ _ e)];exact z
  ·obtain ⟨m,z⟩:=b.tbls c ps e
   exact ⟨m,by rw [Zi (fun y=>by subst y;rw [hd] at z;exact nb _ (Option.some.inj z))];exact z⟩
 ·rw [Zi (nd _ I.free)];exact I.free
 ·rw [Zi (nd _ (I.freeC x c e))];exact I.freeC x c e
 ·obtain ⟨p1,p2,p3⟩:=I.pin p hp
  exact ⟨p1,by rw [Zi (nd _ p2)];exact p2,p3⟩
theorem Inv.notFrz(I:Inv X pins σ H s){v:HO}(hd:H d=some v)(n:∀o u,v ≠ .frz o u):∀o u,X.H₀ d≠some (.frz o u):=fun o u z=>by
 have:=I.base.frzs d o u z
 rw [hd] at this
 exact n _ _ (Option.some.inj this)
theorem Inv.freeze(I:Inv X pins σ H s)(hd:H d=some u)(hu:Zww u=true)(ho:s.heap.get? d=some o):Inv X pins σ (upd H d (.frz o u)) s:=by
 have n1:∀y,u ≠ .own y:=fun y z=>by subst z;cases hu
 have n2:∀xs,u ≠ .tup xs:=fun y z=>by subst z;cases hu
 have n3:∀o y,u ≠ .frz o (.own y):=fun o y z=>by subst z;cases hu
 refine I.retell hd n1 n2 n3 (fun y z=>by subst z;cases hu) (I.notFrz hd fun _ _ z=>by subst z;cases hu) ⟨ho,Zff hd n1 n2 n3 (I.hok d u hd)⟩
theorem Inv.thaw(I:Inv X pins σ H s)(hd:H d=some (.frz o u))(nf:∀o u,X.H₀ d≠some (.frz o u))(nu:∀y,u ≠ .own y:=by exact fun _ z=>nomatch z):Inv X pins σ (upd H d u) s:=by
 obtain ⟨_,q⟩:=I.hok d _ hd
 have n3:∀o' y,HO.frz o u ≠ .frz o' (.own y):=fun o' y z=>nu y (HO.frz.inj z).2
 exact I.retell hd (fun _ z=>nomatch z) (fun _ z=>nomatch z) n3 (fun _ z=>nomatch z) nf (Zff hd (fun _ z=>nomatch z) (fun _ z=>nomatch z) n3 q)
end
theorem Same.thaw{H H':Hp}{d:Addr}{o:Obj}{u:HO}(hd:H d=some u)(h:Same (upd H d (.frz o u)) H'):Same H (upd H' d u):=fun b q e=>by
 by_cases hb:b=d
 ·subst hb;rw [hd] at e;cases e;exact Zj
 ·rw [Zi hb];exact h b q (by rw [Zi hb];exact e)
def Itd(d:Addr)(o:Obj)(kvs:List (Key×V)):It :=
 ⟨fun i H=>H d=some (.frz o (.dK kvs))∧i<kvs.length,fun i H x H'=>H'=H∧∃kv,kvs[i]? =some kv∧x=kV kv.1,fun i H=>H d=some (.frz o (.dK kvs))∧kvs.length≤i⟩
theorem Zub{P:Program}{w:World}{k:Key}{u:Value}(h:(Ym P w).is k u=true):Yo (kV k) u:=by
 rcases Xg (show Zhz k u=true from h) with ⟨i,t,rfl,rfl⟩|⟨x,t,rfl,rfl⟩
 ·exact ⟨t,rfl⟩
 ·exact ⟨t,rfl⟩
theorem KV.get{kvs:List (Key×V)}{vs:List (Key×Value)}{i:Nat}{kv:Key×V}(r:KV kvs vs)(h:kvs[i]? =some kv):∃u,vs[i]? =some (kv.1,u)∧Yo kv.2 u:=by
 obtain ⟨q,h1,h2,h3⟩:=Paired.get r h
 exact ⟨q.2,by rw [h1,h2],h3⟩
theorem Zpw{P:Program}{w:World}{K:Frag}{tg:Expr}{d:Addr}{o:Obj}{kvs:List (Key×V)}{vs:List (Key×Value)}{ep:Nat}(it:Addr)(hk:KV kvs vs)
  (hD:∀h:Heap,h.get? d=some o→h.DictAt (Ym P w) d vs ep):Zlt P w K tg (Itd d o kvs) [it] it (fun i h=>h.IsKeyIter it d i vs.length ep) where
 mem:=by simp
 obj:=fun i h st b hb=>by
  have e:b=it:=by simpa using hb
  subst e
  obtain ⟨ob,e,c,dd⟩:=st
  exact ⟨ob,e,fun v z=>by rw [dd] at z;cases z⟩
 keep:=fun i h h' st k=>st.at fun ob e=>k it (by simp) ob e
 item:=by
  intro X hP hw hK hc i pins s σ H E I hf st hg
  subst hP hw hK
  obtain ⟨hq,hlt⟩:=hg
  obtain ⟨f0,f1,f2,f3,f4,f5⟩:=hf it (by simp)
  have hdo:s.heap.get? d=some o:=(I.hok d _ hq).1
  obtain ⟨u,hu,_⟩:=hk.get (i:=i) (kv:=kvs[i]) (by simp [hlt])
  refine wpAny_pyNext_dict_item (knd:=Ym X.prog X.w) st (hD _ hdo) hu fun key h' hkey st' sb=>?_
  have I1:Inv X pins σ H { s with heap:=h' }:=I.turned (t':=s.toks) (fun b o hb e=>(sb.2 b hb).trans e) f0 f1 f3 f4 f5
  obtain ⟨ob,e,c,dd⟩:=id st'
  exact ⟨key,rfl,Zjk (s:={ s with heap:=h' }) e c dd (by decide) ⟨kV kvs[i].1,H,I1,Zub hkey,⟨rfl,kvs[i],by simp [hlt],rfl⟩,st',fun b hb=>(hf b hb).1⟩⟩
 done:=by
  intro X hP hw hK hc i pins s σ H E I hf st hg
  subst hP hw hK
  obtain ⟨hq,hle⟩:=hg
  obtain ⟨f0,f1,f2,f3,f4,f5⟩:=hf it (by simp)
  have hdo:s.heap.get? d=some o:=(I.hok d _ hq).1
  have hl:=KV.length hk
  exact wpAny_pyNext_dict_end (knd:=Ym X.prog X.w) (I.ok.hd hc) st (hD _ hdo) (List.getElem?_eq_none (by omega)) fun h' eb=>⟨rfl,I.turned (t':=s.toks) (fun b o hb e=>eb b o hb e) f0 f1 f3 f4 f5⟩
 self:=fun _ _ _ _ _ st h=>wpAny_pyIter_keyiter st h
def NF(X:Cx)(d:Addr)(u:HO):Prop:=(∀o u,X.H₀ d≠some (.frz o u))∧∀y,u ≠ .own y
def Zeo(X:Cx)(Q:Hp→Prop)(H:Hp):Prop:=∃d o u,H d=some (.frz o u)∧NF X d u∧Q (upd H d u)
theorem Zeo.run{X:Cx}{pins:List (Addr×Obj)}{σ:St}{H:Hp}{s:Shared}{Q:Hp→Prop}(I:Inv X pins σ H s)(h:Zeo X Q H):∃H',Inv X pins σ H' s∧Q H':=by
 obtain ⟨d,o,u,hd,nf,q⟩:=h
 exact ⟨_,I.thaw hd nf.1 nf.2,q⟩
def Zwp(X:Cx)(tl:TE):TI:=fun σ H R=>tl σ H fun x H1=>∃d kvs,x=.ref d∧H1 d=some (.dK kvs)∧∀o,NF X d (.dK kvs)→R (Itd d o kvs) (upd H1 d (.frz o (.dK kvs)))
theorem Zfx{P:Program}{w:World}{h:Heap}{d:Addr}{o:Obj}{vs:List (Key×Value)}(x:h.DictOf (Ym P w) d vs)(ho:h.get? d=some o):∃ep,∀h':Heap,h'.get? d=some o→h'.DictAt (Ym P w) d vs ep:=by
 obtain ⟨o',es,ep,e,r⟩:=x
 rw [ho] at e
 cases e
 exact ⟨ep,fun h' e'=>⟨o,es,e',r⟩⟩
theorem Zxr{X:Cx}{tg l:Expr}{tl:TE}(hl:PE X l tl):PI X tg l (Zwp X tl):=by
 intro pins s σ H R I h
 refine thn (hl pins s σ H _ I h) fun v s1 ⟨y,H1,I1,r1,q1⟩=>?_
 obtain ⟨d,kvs,rfl,hd,q⟩:=q1
 cases r1
 obtain ⟨hz,hs,vs,kv,dd⟩:=Zq6 I1.hok hd
 obtain ⟨o,_,_,ho,_⟩:=id dd
 obtain ⟨ep,hD⟩:=Zfx dd ho
 have I2:=I1.freeze hd rfl ho
 refine wpAny_pyIter_dict (knd:=Ym X.prog X.w) hs (hD _ ho) ?_
 have I3:Inv X pins σ (upd H1 d (.frz o (.dK kvs))) { s1 with heap:=s1.heap.push { cls:=.type "dict_keyiterator",data:=.fields #[.ref d,.int 0 0,.int vs.length 0,.int ep 0] } }:=I2.kept (t':=s1.toks) fun b o e=>Heap.get?_push_of_some _ e
 refine ⟨s1.heap.objs.size,[s1.heap.objs.size],_,_,_,rfl,I3,Zpw _ kv hD,⟨_,Heap.get?_push_size _ rfl,rfl,rfl⟩,fun b hb=>?_,q o ⟨I1.notFrz hd (fun _ _ z=>nomatch z),fun _ z=>nomatch z⟩⟩
 have e:b=s1.heap.objs.size:=by simpa using hb
 subst e
 exact I2.fpOk (Nat.le_refl _) (I2.hok.fresh (Nat.le_refl _))
def Zxd(X:Cx)(t:TS):TS:=fun D σ H=>t { nx:=fun σ'=>Zeo X (D.nx σ'),rt:=fun v=>Zeo X (D.rt v),bk:=fun σ'=>Zeo X (D.bk σ'),ct:=fun σ'=>Zeo X (D.ct σ') } σ H
theorem Zta{X:Cx}{st:Stmt}{t:TS}(h:PS X st t):PS X st (Zxd X t):=by
 intro pins s σ H D I hq
 refine thn (h pins s σ H _ I hq) fun f s' z=>?_
 cases f with
 | next=>obtain ⟨σ',H',I',q⟩:=z;obtain ⟨H2,I2,q2⟩:=q.run I';exact ⟨σ',H2,I2,q2⟩
 | brk=>obtain ⟨σ',H',I',q⟩:=z;obtain ⟨H2,I2,q2⟩:=q.run I';exact ⟨σ',H2,I2,q2⟩
 | cont=>obtain ⟨σ',H',I',q⟩:=z;obtain ⟨H2,I2,q2⟩:=q.run I';exact ⟨σ',H2,I2,q2⟩
 | ret u=>obtain ⟨v,σ',H',I',r,q⟩:=z;obtain ⟨H2,I2,q2⟩:=q.run I';exact ⟨v,σ',H2,I2,r,q2⟩
def Zut(X:Cx)(t:TE):TE:=fun σ H Q=>t σ H fun v=>Zeo X (Q v)
theorem Zoo{X:Cx}{e:Expr}{t:TE}(h:PE X e t):PE X e (Zut X t):=by
 intro pins s σ H Q I hq
 refine thn (h pins s σ H _ I hq) fun u s' ⟨v,H',I',r,q⟩=>?_
 obtain ⟨H2,I2,q2⟩:=q.run I'
 exact ⟨v,H2,I2,r,q2⟩
theorem Zwq{d:Addr}{o:Obj}{kvs:List (Key×V)}{g:TG}{tb:TS}{D:Zdc}{σ:St}{H:Hp}(Pv:Nat→St→Hp→Prop)(h0:Pv 0 σ H)(hl:∀i σ H,i≤kvs.length→Pv i σ H→H d=some (.frz o (.dK kvs)))
  (hs:∀i kv σ H,kvs[i]? =some kv→Pv i σ H→g (kV kv.1) σ H fun σ2 H2=>tb { D with nx:=Pv (i+1),ct:=Pv (i+1),bk:=D.nx } σ2 H2) (hd:∀σ H,Pv kvs.length σ H→D.nx σ H) :
  ∃W:Nat→Nat→St→Hp→Prop,(∃m,W 0 m σ H)∧∀i m σ H,W i m σ H →
   ((Itd d o kvs).stop i H∧D.nx σ H)∨((Itd d o kvs).go i H∧∃N:St→Hp→Prop,(∀σ' H',N σ' H'→∃m',m'<m∧W (i+1) m' σ' H')∧∀x H',(Itd d o kvs).yld i H x H'→g x σ H' fun σ2 H2=>tb { D with nx:=N,ct:=N,bk:=D.nx } σ2 H2):=by
 refine ⟨fun i m σ H=>m=kvs.length-i∧i≤kvs.length∧Pv i σ H,⟨kvs.length,by simp,Nat.zero_le _,h0⟩,?_⟩
 rintro i m σ H ⟨rfl,hi,p⟩
 have q:=hl i σ H hi p
 by_cases hlt:i<kvs.length
 ·refine .inr ⟨⟨q,hlt⟩,Pv (i+1),fun σ' H' p'=>⟨kvs.length-(i+1),by omega,rfl,hlt,p'⟩,fun x H' y=>?_⟩
  obtain ⟨e,kv,hkv,ex⟩:=y
  subst e ex
  exact hs i kv σ _ hkv p
 ·have e:i=kvs.length:=by omega
  subst e
  exact .inl ⟨⟨q,Nat.le_refl _⟩,hd σ H p⟩
section
variable {X:Cx} {pins:List (Addr×Obj)} {σ:St} {H:Hp} {s:Shared}
theorem Inv.turnedNew{ch:List Addr}{o:HO}{h':Heap}{t':Nat}(I:Inv X pins σ H s)(hf:∀b∈ch,Zd8 X pins H b)(k:∀b u,b∉ch→s.heap.get? b=some u→h'.get? b=some u)
  (new:Yu X.prog X.w (upd H s.heap.objs.size o) h' s.heap.objs.size o):Inv X pins σ (upd H s.heap.objs.size o) { s with heap:=h',toks:=t' }:=by
 have hn:H s.heap.objs.size=none:=I.fresh
 have old:∀b u,s.heap.get? b=some u→b≠s.heap.objs.size:=fun b u e=>Nat.ne_of_lt (Heap.lt_size e)
 have trk:∀b u,H b=some u→b∉ch:=fun b u e z=>by rw [(hf b z).1] at e;cases e
 refine I.step (g':=s.gens) (d':=s.drawn) (ch:=ch) (fun b hb=>?_) (fun b o _ _ hc e _=>k b o hc e) (fun b o _ _ hc e _=>⟨o.slots,k b o hc e⟩) (fun b o _ e n=>by rw [Zi (old b o e)];exact n)
  (fun b o hc e=>⟨o,k b o hc e⟩) (fun b xs e=>by rw [Zi (Zh e hn)];exact e) (fun b ob u e=>by rw [Zi (Zh e hn)];exact e) (fun b ps e=>⟨#[],by rw [Zi (Zh e hn),e];simp⟩) (fun m hm=>?_) (fun b u e=>?_) I.bare
 ·obtain ⟨f0,f1,f2,f3,f4,f5⟩:=hf b hb
  exact ⟨f3,f1,f4,f5⟩
 ·obtain ⟨ob,es,ep,ho,r⟩:=hm
  exact ⟨ob,es,ep,k _ ob (fun z=>(hf _ z).2.1 rfl) ho,r⟩
 ·by_cases hb:b=s.heap.objs.size
  ·subst hb;rw [Zj] at e;cases e;exact new
  ·rw [Zi hb] at e
   refine (I.hok b u e).stay (fun c v hc q=>k c v ?_ q) (fun c q=>by rw [Zi (Zh q hn)];exact q) fun c xs q=>by rw [Zi (Zh q hn)];exact q
   rcases hc with z|z
   ·rw [z];exact trk b u e
   ·exact trk c _ z
end
def Ite(K:Frag)(l:Addr):It :=
 ⟨fun i H=>∃xs x,SqL K H l xs∧xs[i]? =some x,fun i H x H'=>∃p y,x=.ref p∧H p=none∧H'=upd H p (.tup [.int (i:Nat),y])∧∀xs,SqL K H l xs→xs[i]? =some y,fun i H=>∃xs,SqL K H l xs∧xs.length≤i⟩
theorem Zpz{P:Program}{w:World}{K:Frag}{elts:List Expr}{x1:Nat}{pos:Pos}{l:Addr}(e it:Addr)(hne:e≠it) :
  Zlt P w K (.Tuple elts x1 pos) (Ite K l) [e,it] e (fun i h=>(∃old,IsEnum h e it (i:Nat) old)∧h.IsListIter it l i) where
 mem:=by simp
 obj:=fun i h st b hb=>by
  obtain ⟨⟨old,he⟩,hi⟩:=st
  rcases List.mem_cons.mp hb with rfl|hb
  ·exact ⟨_,he,fun v z=>nomatch z⟩
  ·have q:b=it:=by simpa using hb
   subst q
   obtain ⟨o,e,c,d⟩:=hi
   exact ⟨o,e,fun v z=>by rw [d] at z;cases z⟩
 keep:=fun i h h' st k=>by
  obtain ⟨⟨old,he⟩,hi⟩:=st
  exact ⟨⟨old,k e (by simp) _ he⟩,hi.at fun o q=>k it (by simp) o q⟩
 item:=by
  intro X hP hw hK hc i pins s σ H E I hf st hg
  subst hP hw hK
  obtain ⟨⟨old,he⟩,hi⟩:=st
  obtain ⟨xs,x,hq,hx⟩:=hg
  obtain ⟨its,rv,p,hz⟩:=I.list hq
  obtain ⟨u,hu,ru⟩:=rv.get hx
  refine wpAny_pyNext_enum_item he hi p.isList (x:=u) (by simpa using hu) hne fun h' ho hi' ht hsz kk=>?_
  refine ⟨_,rfl,wpAny_letOwnedTupleGo_enum ho fun h2 he2 sb=>?_⟩
  have hel:e<s.heap.objs.size:=Heap.lt_size he
  have hil:it<s.heap.objs.size:=let ⟨o,q,_⟩:=hi;Heap.lt_size q
  have k2:∀b v,b∉[e,it]→s.heap.get? b=some v→h2.get? b=some v:=fun b v hb q=>by
   have b1:b≠e:=fun z=>hb (by simp [z])
   have b2:b≠it:=fun z=>hb (by simp [z])
   exact (sb.2 b b1).trans (kk b v b1 b2 q)
  have htup:h2.get? s.heap.objs.size=some { cls:=.type "tuple",data:=.seq #[.int i s.toks,u] }:=(sb.2 _ (Nat.ne_of_gt hel)).trans ht
  have new:Yu X.prog X.w (upd H s.heap.objs.size (.tup [.int (i:Nat),x])) h2 s.heap.objs.size (.tup [.int (i:Nat),x]) :=
   ⟨sz (by simp),[.int i s.toks,u],.cons ⟨_,rfl⟩ (.cons ru .nil),⟨_,htup,rfl,_,rfl⟩⟩
  refine ⟨.ref s.heap.objs.size,_,I.turnedNew (t':=s.toks+1) hf k2 new,rfl,⟨_,x,rfl,I.fresh,rfl,fun ys hy=>by rw [I.list_inj hy hq];exact hx⟩,⟨⟨_,he2⟩,?_⟩,fun b hb=>?_⟩
  ·exact hi'.at fun o q=>(sb.2 it hne.symm).trans q
  ·rw [Zi ?_]
   ·exact (hf b hb).1
   ·rcases List.mem_cons.mp hb with rfl|hb
    ·exact Nat.ne_of_lt hel
    ·have q:b=it:=by simpa using hb
     subst q
     exact Nat.ne_of_lt hil
 done:=by
  intro X hP hw hK hc i pins s σ H E I hf st hg
  subst hP hw hK
  obtain ⟨⟨old,he⟩,hi⟩:=st
  obtain ⟨xs,hq,hx⟩:=hg
  obtain ⟨its,rv,p,hz⟩:=I.list hq
  obtain ⟨f0,f1,f2,f3,f4,f5⟩:=hf it (by simp)
  have hl:=rv.length
  exact wpAny_pyNext_enum_end (I.ok.hd hc) he hi p.isList (by simp;omega) fun h' eb=>⟨rfl,I.turned (t':=s.toks) (fun b o hb e=>eb b o hb e) f0 f1 f3 f4 f5⟩
 self:=fun _ _ _ _ _ st h=>by
  obtain ⟨⟨old,he⟩,_⟩:=st
  exact wpAny_pyIter_enum he h
def Zxi(K:Frag)(ta:TA):TI:=fun σ H R=>ta σ H fun vs H1=>∃l,vs=[.ref l]∧(∃xs,SqL K H1 l xs)∧R (Ite K l) H1
theorem Zg4{X:Cx}{elts:List Expr}{x1:Nat}{tpos:Pos}{a:Expr}{ta:TA}{p pos:Pos} (hg:Gl X "enumerate") (hm:X.mg "enumerate" =none) (ha:PA X [a] ta) (hs:starEach [a] X.env=[(false,eval a X.env)]:=by rfl) :
  PI X (.Tuple elts x1 tpos) (.Call (.Name "enumerate" p) [a] [] pos) (Zxi X.K ta):=by
 intro pins s σ H R I h
 refine Call_ (Zdf I hg hm boot_enumerate (PyProof.Rows.callWith_type1 (thn (ha pos pins s σ H _ I h) fun us s1 ⟨vs,H1,I1,r1,q1⟩=>?_) hs rfl))
 obtain ⟨l,e,⟨xs,hq⟩,q⟩:=q1
 subst e
 obtain ⟨u,rfl,ru⟩:=Zcq r1
 cases ru
 obtain ⟨its,rv,pl,hz⟩:=I1.list hq
 refine call_enumerate_list pl.isList fun h' he hi hsz kk=>wpAny_pyIter_enum he ?_
 have I2:Inv X pins σ H1 { s1 with heap:=h' }:=I1.kept (t':=s1.toks) kk
 refine ⟨s1.heap.objs.size+1,[s1.heap.objs.size+1,s1.heap.objs.size],_,_,H1,rfl,I2,Zpz _ _ (Nat.succ_ne_self _),⟨⟨_,he⟩,hi⟩,fun b hb=>?_,q⟩
 rcases List.mem_cons.mp hb with rfl|hb
 ·exact I1.fpOk (Nat.le_succ _) (I1.hok.fresh (Nat.le_succ _))
 ·have e:b=s1.heap.objs.size:=by simpa using hb
  subst e
  exact I1.fpOk (Nat.le_refl _) (I1.hok.fresh (Nat.le_refl _))
theorem Zfh{K:Frag}{l:Addr}{xs:List V}{g:TG}{tb:TS}{D:Zdc}{σ:St}{H:Hp}(Pv:Nat→St→Hp→Prop)(h0:Pv 0 σ H)(hl:∀i σ H,i≤xs.length→Pv i σ H→SqL K H l xs)
  (hs:∀i x σ H,xs[i]? =some x→Pv i σ H→∀p H1,Same H H1→H p=none→H1 p=some (.tup [.int (i:Nat),x])→g (.ref p) σ H1 fun σ2 H2=>tb { D with nx:=Pv (i+1),ct:=Pv (i+1),bk:=D.nx } σ2 H2) (hd:∀σ H,Pv xs.length σ H→D.nx σ H) :
  ∃W:Nat→Nat→St→Hp→Prop,(∃m,W 0 m σ H)∧∀i m σ H,W i m σ H →
   ((Ite K l).stop i H∧D.nx σ H)∨((Ite K l).go i H∧∃N:St→Hp→Prop,(∀σ' H',N σ' H'→∃m',m'<m∧W (i+1) m' σ' H')∧∀x H',(Ite K l).yld i H x H'→g x σ H' fun σ2 H2=>tb { D with nx:=N,ct:=N,bk:=D.nx } σ2 H2):=by
 refine ⟨fun i m σ H=>m=xs.length-i∧i≤xs.length∧Pv i σ H,⟨xs.length,by simp,Nat.zero_le _,h0⟩,?_⟩
 rintro i m σ H ⟨rfl,hi,p⟩
 have q:=hl i σ H hi p
 by_cases hlt:i<xs.length
 ·refine .inr ⟨⟨xs,xs[i],q,by simp [hlt]⟩,Pv (i+1),fun σ' H' p'=>⟨xs.length-(i+1),by omega,rfl,hlt,p'⟩,fun x H' y=>?_⟩
  obtain ⟨a,y,e,hn,e2,hy⟩:=y
  subst e e2
  exact hs i y σ H (hy xs q) p a _ (Same.new hn) hn Zj
 ·have e:i=xs.length:=by omega
  subst e
  exact .inl ⟨⟨xs,q,Nat.le_refl _⟩,hd σ H p⟩
def Iti(d:Addr)(o:Obj)(kvs:List (Key×V)):It :=
 ⟨fun i H=>H d=some (.frz o (.dK kvs))∧i<kvs.length,fun i H x H'=>∃p kv,x=.ref p∧H p=none∧kvs[i]? =some kv∧H'=upd H p (.tup [kV kv.1,kv.2]),fun i H=>H d=some (.frz o (.dK kvs))∧kvs.length≤i⟩
theorem Znl{P:Program}{w:World}{K:Frag}{elts:List Expr}{x1:Nat}{pos:Pos}{d:Addr}{o:Obj}{kvs:List (Key×V)}{vs:List (Key×Value)}{ep:Nat}(it:Addr)(hk:KV kvs vs)
  (hD:∀h:Heap,h.get? d=some o→h.DictAt (Ym P w) d vs ep):Zlt P w K (.Tuple elts x1 pos) (Iti d o kvs) [it] it (fun i h=>∃ok ov,IsItemIter h it d i vs.length ep ok ov) where
 mem:=by simp
 obj:=fun i h st b hb=>by
  have e:b=it:=by simpa using hb
  subst e
  obtain ⟨ok,ov,e⟩:=st
  exact ⟨_,e,fun v z=>nomatch z⟩
 keep:=fun i h h' st k=>by
  obtain ⟨ok,ov,e⟩:=st
  exact ⟨ok,ov,k it (by simp) _ e⟩
 item:=by
  intro X hP hw hK hc i pins s σ H E I hf st hg
  subst hP hw hK
  obtain ⟨ok,ov,hi⟩:=st
  obtain ⟨hq,hlt⟩:=hg
  have hdo:s.heap.get? d=some o:=(I.hok d _ hq).1
  obtain ⟨u,hu,ru⟩:=hk.get (i:=i) (kv:=kvs[i]) (by simp [hlt])
  refine wpAny_pyNext_items_item (knd:=Ym X.prog X.w) hi (hD _ hdo) hu fun key h' hkey ho ht hsz kk=>?_
  refine ⟨_,rfl,wpAny_letOwnedTupleGo_items ho fun h2 he2 sb=>?_⟩
  have hel:it<s.heap.objs.size:=Heap.lt_size hi
  have k2:∀b v,b∉[it]→s.heap.get? b=some v→h2.get? b=some v:=fun b v hb q=>by
   have b1:b≠it:=fun z=>hb (by simp [z])
   exact (sb.2 b b1).trans (kk b v b1 q)
  have htup:h2.get? s.heap.objs.size=some { cls:=.type "tuple",data:=.seq #[key,u] }:=(sb.2 _ (Nat.ne_of_gt hel)).trans ht
  have new:Yu X.prog X.w (upd H s.heap.objs.size (.tup [kV kvs[i].1,kvs[i].2])) h2 s.heap.objs.size (.tup [kV kvs[i].1,kvs[i].2]) :=
   ⟨sz (by simp),[key,u],.cons (Zub hkey) (.cons ru .nil),⟨_,htup,rfl,_,rfl⟩⟩
  refine ⟨.ref s.heap.objs.size,_,I.turnedNew (t':=s.toks) hf k2 new,rfl,⟨_,kvs[i],rfl,I.fresh,by simp [hlt],rfl⟩,⟨_,_,he2⟩,fun b hb=>?_⟩
  have e:b=it:=by simpa using hb
  subst e
  rw [Zi (Nat.ne_of_lt hel)]
  exact (hf _ hb).1
 done:=by
  intro X hP hw hK hc i pins s σ H E I hf st hg
  subst hP hw hK
  obtain ⟨ok,ov,hi⟩:=st
  obtain ⟨hq,hle⟩:=hg
  obtain ⟨f0,f1,f2,f3,f4,f5⟩:=hf it (by simp)
  have hdo:s.heap.get? d=some o:=(I.hok d _ hq).1
  have hl:=KV.length hk
  exact wpAny_pyNext_items_end (knd:=Ym X.prog X.w) (I.ok.hd hc) hi (hD _ hdo) (List.getElem?_eq_none (by omega)) fun h' eb=>⟨rfl,I.turned (t':=s.toks) (fun b o hb e=>eb b o hb e) f0 f1 f3 f4 f5⟩
 self:=fun _ _ _ _ _ st h=>by
  obtain ⟨ok,ov,hi⟩:=st
  exact PySem.W.kcp_self hi h
def Zvz(X:Cx)(tl:TE):TI:=fun σ H R=>tl σ H fun x H1=>∃d kvs,x=.ref d∧H1 d=some (.dK kvs)∧∀o,NF X d (.dK kvs)→R (Iti d o kvs) (upd H1 d (.frz o (.dK kvs)))
theorem Zic{X:Cx}{elts:List Expr}{x1:Nat}{tpos apos cpos:Pos}{o:Expr}{to:TE}(ho:PE X o to) (hbase:attributeBase o "items" X.env (eval o X.env)=eval o X.env:=by rfl) (hline:(apos.endLine ==cpos.line)=true:=by rfl) :
  PI X (.Tuple elts x1 tpos) (.Call (.Attribute o "items" apos) [] [] cpos) (Zvz X to):=by
 intro pins s σ H R I h
 refine wpAny_Call_method0_late hbase hline (thn (ho pins s σ H _ I h) fun v s1 ⟨y,H1,I1,r1,q1⟩=>?_)
 obtain ⟨d,kvs,rfl,hd,q⟩:=q1
 cases r1
 obtain ⟨hz,hs,vs,kv,dd⟩:=Zq6 I1.hok hd
 obtain ⟨ob,_,_,hob,hex,_⟩:=id dd
 obtain ⟨ep,hD⟩:=Zfx dd hob
 refine ⟨"dict", "dict.items",PySem.F.plainAttrs_dict,PySem.F.slot_dict_items,PySem.F.type_dict_items,dd.typeIs,fun a e=>?_,Calls.callWith_builtin rfl (PySem.evalArgs_none ?_)⟩
 ·cases e
  exact ⟨ob,hob,hex.2.1⟩
 refine call_meetsIn PySem.F.slot_dict_items dd.typeIs PySem.F.entry_dict_items (PySem.F.args_dict_items_1 _) (meets_dict_items (Ym X.prog X.w) d hs) ⟨⟨vs,dd⟩,?_⟩
 have I2:=I1.freeze hd rfl hob
 have I3:Inv X pins σ (upd H1 d (.frz ob (.dK kvs))) { s1 with heap:=s1.heap.push { cls:=.type "dict_items",data:=.fields #[.ref d] } }:=I2.kept (t':=s1.toks) fun b o e=>Heap.get?_push_of_some _ e
 refine wpAny_pyIter_items (knd:=Ym X.prog X.w) (d:=d) ⟨_,Heap.get?_push_size _ rfl,rfl,rfl⟩ (hD _ (Heap.get?_push_of_some _ hob)) ?_
 refine ⟨_,[_],_,_,_,rfl,I3.kept (t':=s1.toks) fun b o e=>Heap.get?_push_of_some _ e,Znl _ kv hD,⟨_,_,Heap.get?_push_size _ rfl⟩,fun b hb=>?_,q ob ⟨I1.notFrz hd (fun _ _ z=>nomatch z),fun _ z=>nomatch z⟩⟩
 have e:=List.mem_singleton.mp hb
 subst e
 exact I3.fpOk (Nat.le_refl _) (I3.hok.fresh (Nat.le_refl _))
theorem Zo4{d:Addr}{o:Obj}{kvs:List (Key×V)}{g:TG}{tb:TS}{D:Zdc}{σ:St}{H:Hp}(Pv:Nat→St→Hp→Prop)(h0:Pv 0 σ H)(hl:∀i σ H,i≤kvs.length→Pv i σ H→H d=some (.frz o (.dK kvs)))
  (hs:∀i kv σ H,kvs[i]? =some kv→Pv i σ H→∀p H1,Same H H1→H p=none→H1 p=some (.tup [kV kv.1,kv.2])→g (.ref p) σ H1 fun σ2 H2=>tb { D with nx:=Pv (i+1),ct:=Pv (i+1),bk:=D.nx } σ2 H2) (hd:∀σ H,Pv kvs.length σ H→D.nx σ H) :
  ∃W:Nat→Nat→St→Hp→Prop,(∃m,W 0 m σ H)∧∀i m σ H,W i m σ H →
   ((Iti d o kvs).stop i H∧D.nx σ H)∨((Iti d o kvs).go i H∧∃N:St→Hp→Prop,(∀σ' H',N σ' H'→∃m',m'<m∧W (i+1) m' σ' H')∧∀x H',(Iti d o kvs).yld i H x H'→g x σ H' fun σ2 H2=>tb { D with nx:=N,ct:=N,bk:=D.nx } σ2 H2):=by
 refine ⟨fun i m σ H=>m=kvs.length-i∧i≤kvs.length∧Pv i σ H,⟨kvs.length,by simp,Nat.zero_le _,h0⟩,?_⟩
 rintro i m σ H ⟨rfl,hi,p⟩
 have q:=hl i σ H hi p
 by_cases hlt:i<kvs.length
 ·refine .inr ⟨⟨q,hlt⟩,Pv (i+1),fun σ' H' p'=>⟨kvs.length-(i+1),by omega,rfl,hlt,p'⟩,fun x H' y=>?_⟩
  obtain ⟨a,kv,e,hn,hkv,e2⟩:=y
  subst e e2
  exact hs i kv σ H hkv p a _ (Same.new hn) hn Zj
 ·have e:i=kvs.length:=by omega
  subst e
  exact .inl ⟨⟨q,Nat.le_refl _⟩,hd σ H p⟩
def Zjm(K:Frag)(H:Hp)(x y:V):Prop:=(Zds x=true∧Zds y=true∧eqV x y=true)∨∃n t,n≤60∧Im K H n t x∧Im K H n t y
theorem Zjm.eqAt{X:Cx}{pins:List (Addr×Obj)}{σ:St}{H:Hp}{s:Shared}{A:Around}{x y:V}{u v:Value}(I:Inv X pins σ H s)(h:Zjm X.K H x y)(rx:Yo x u)(ry:Yo y v)(hu:A.units+60<cLine):SeqAt.EqAt A s u v true:=by
 rcases h with ⟨f1,f2,e⟩|⟨n,t,hn,i1,i2⟩
 ·exact Yj (Zhh rx ry f1 f2) e
 ·exact Yj (Im.eqAt I n A i1 i2 rx ry (by omega)) (decide_eq_true rfl)
def Zv8(K:Frag):R2:=fun x y H Q=>∃a b ka kb,x=.ref a∧y=.ref b∧Rd H a (.dK ka)∧Rd H b (.dK kb)∧ka.length=kb.length∧(∀kv∈ka,∃v,Y1 kb kv.1=some v∧Zjm K H kv.2 v)∧Q (.bl true) H
theorem Zvt{X:Cx}(hu:X.A.units+64<cLine):OpR X (compareOp .Eq) (Zv8 X.K):=by
 intro pins s σ H x y v u Q I rx ry h
 obtain ⟨a,b,ka,kb,rfl,rfl,ha,hb,hl,hall,q⟩:=h
 cases rx
 cases ry
 obtain ⟨_,sa,va,ra,da⟩:=Zdl I.hok ha
 obtain ⟨_,sb,vb,rb,db⟩:=Zdl I.hok hb
 have la:=KV.length ra
 have lb:=KV.length rb
 have hits:∀{ka':List (Key×V)} {va':List (Key×Value)},KV ka' va'→(∀kv∈ka',∃v,Y1 kb kv.1=some v∧Zjm X.K H kv.2 v)→PySem.W.KeqHits X.A.in1 s vb va' true:=by
  intro ka' va' r
  induction r with
  | nil=>intro _;exact .nil
  | cons r t ih =>
   rename_i p q l m
   intro hv
   obtain ⟨e1,r2⟩:=r
   obtain ⟨v,hv1,hv2⟩:=hv p List.mem_cons_self
   have hval:=KV.val rb p.1
   rw [hv1] at hval
   obtain ⟨y,hy,ry⟩:=Zde.some_of hval
   rw [e1] at hy
   have:=PySem.W.KeqHits.hit (k:=q.1) (v:=q.2) hy (hv2.eqAt (A:=X.A.in1) I r2 ry (by rw [Wd];omega)) (ih fun kv hkv=>hv kv (List.mem_cons_of_mem _ hkv))
   simpa using this
 refine PySem.W.keq_eq (knd:=Ym X.prog X.w) sa sb da db (by omega) (fun _=>hits ra hall) ⟨.bl true,H,I,?_,q⟩
 rw [show (va.length ==vb.length)=true by rw [←la,←lb,hl];simp]
 rfl
def X9(K:Frag):R2:=fun x y H Q=>rEq x y H Q∨Zsw K false x y H Q∨Zv8 K x y H Q
def Xb(K:Frag):List V→Hp→VK→Prop:=fun xs H Q=>(∃p ys,xs=[.ref p]∧(SqL K H p ys∨SqT K H p ys)∧Q (.int ys.length) H)∨(∃z,xs=[.str z]∧z.length≤sizeLine∧Q (.int z.length) H)∨∃a kvs,xs=[V.ref a]∧H a=some (.dK kvs)∧Q (.int kvs.length) H
def Ze8(K:Frag):V→Option Int→Option Int→Hp→VK→Prop:=fun x lo hi H Q=>Zt7 K x lo hi H Q∨Zue K x lo hi H Q∨Zwa x lo hi H Q
section
variable {X:Cx} {k:Nat}
theorem Wo(hr:W8 k X.A):OpR X (compareOp .Eq) (X9 X.K):=Zuc.or ((Zu2 hr.units).or (Zvt hr.units))
theorem Xf:Xs X (.builtin "len") (Xb X.K):=Zkg.or (Zla.or Zpn)
theorem Zf6:SlR X (Ze8 X.K):=Ztx.or (Zru.or Zu7)
def Zoi(K:Frag):List V→Hp→VK→Prop:=fun xs H Q=>∃p ys,xs=[.ref p]∧(SqL K H p ys∨SqT K H p ys)∧New H (.lst ys) Q
theorem Zek:Xs X (.type "list") (Zoi X.K):=Zkf.imp fun xs H Q ⟨p,ys,h1,h2,h3⟩=>⟨p,ys,h1,h2,fun l hl=>h3.at l hl⟩
def Zt0:TE:=fun _ H Q=>New H (.dK []) Q
theorem Zjd{pos:Pos}:PE X (.Dict [] [] pos) Zt0:=fun pins s σ H Q I h=>Zrf pins s σ H Q I fun p hp=>h.at p hp
def Zs0:TE:=fun _ H Q=>New H (.dT []) Q
theorem Zf4{pos:Pos}:PE X (.Dict [] [] pos) Zs0:=fun pins s σ H Q I h=>Zqy pins s σ H Q I fun p hp=>h.at p hp
def Zwl(K:Frag):List V→Hp→VK→Prop:=fun xs H Q=>∃(p:Addr) (bs:List Bool),xs=[.ref p]∧SqL K H p (bs.map V.bl)∧Q (.bl (bs.all id)) H
theorem Zqa(hc:X.calm=true):Xs X (.builtin "all") (Zwl X.K):=Zho hc
def Zp8(K:Frag):List V→Hp→VK→Prop:=fun xs H Q=>∃x c b t,xs=[x,c]∧Zcz K H x t∧((∃n,c=.ty n∧kitOne K t (.type n)=some b)∨∃a,c=.ref a∧kitOne K t (.ref a)=some b)∧Q (.bl b) H
theorem Zcv:Xs X (.builtin "isinstance") (Zp8 X.K):=Zlv
end
theorem Xq{X:Cx}{i:Nat}{y:Str}{py spos:Pos}{elt tg iter:Expr}{ifs:List Expr}{scope:Scope}{pos:Pos}{cl:List (Str×Addr)}{N':List Str}{fr:St→St}{wi:TI}{g:TG}{tf:TT}{te:TE}
  (hN:X.N.Nodup) (hi':X.N[i]? =some y) (hy:Loc X.env.scope y) (hc:X.calm=true) (S:Z9 X scope cl N' fr) (hi:PI X tg iter wi) (hg:∀s H C ex,PG (Yt X scope cl N' s H C ex) tg g) (hf:∀s H C ex,PF (Yt X scope cl N' s H C ex) ifs tf)
  (he:∀s H C ex,PE (Yt X scope cl N' s H C ex) elt te) (hs:∀x,foldedSetIterable iter X.env x=pure x:=by intro _;rfl)
  (hsw:swapsWith (.ListComp elt [⟨tg,iter,ifs,0⟩] scope pos) (some (.Name y py)) spos.line X.env=pure true:=by rfl) (hfn:X.fn y=true∨X.env.scope.names.lookup y=some .local:=by first | exact .inl rfl | exact .inr rfl | assumption) :
  PS X (.Assign [.Name y py] (.ListComp elt [⟨tg,iter,ifs,0⟩] scope pos) spos) (Zuw (Zrr wi fr g tf te) (Zga i)):=by
 intro pins s σ H D I h
 rw [exec_Assign_Name_used _ _ _ _ hsw]
 refine wpAny_bind (wpAny_standAt (wpAny_bind ?_))
 show wpAny _ X.A (do let _ ←comprehension (.ListComp elt [⟨tg,iter,ifs,0⟩] scope pos) scope X.env _ (newList []) false (eval iter X.env) (some (assign (.Name y py) X.env))) _ _ s
 refine wpAny_bind (wpAny_mono (wpAny_comprehension_free (use:=some (assign (.Name y py) X.env)) (Q:=fun _ s'=>∃σ' H',Inv X pins σ' H' s'∧D.nx σ' H') rfl hs S.clos S.kind S.names (thn (hi pins s σ H _ I h) fun v s1 h1=>thn h1 fun itv s2 h2=>?_)) (fun _ s' hq=>wpAny_pure (wpAny_pure hq)) fun _ _ e=>e)
 obtain ⟨it,fp,tn,J,H2,e,I2,T,st2,f2,q⟩:=h2
 subst e
 refine wpAny_newObj_type (wpAny_newFunctionEnv S.cell (by intro y hy;simp at hy) (fun h₁ hns₁ hsb₁=>?_) S.kind)
 dsimp only at hns₁ hsb₁ ⊢
 generalize hP:s2.heap.push { cls:=.type "list",dict:=none,data:=.seq ([]:List Value).toArray }=P at hns₁ hsb₁ ⊢
 have hPz:P.objs.size=s2.heap.objs.size+1:=by rw [←hP,Heap.size_push]
 have hCD:s2.heap.objs.size<P.objs.size:=by rw [hPz];exact Nat.lt_succ_self _
 have ho2:∀b∈fp,∃o,s2.heap.get? b=some o:=fun b hb=>let ⟨o,e,_⟩:=T.obj _ _ st2 b hb;⟨o,e⟩
 have below:∀b,b<s2.heap.objs.size→b≠P.objs.size:=fun b hb=>Nat.ne_of_lt (Nat.lt_trans hb hCD)
 have old:∀b o,s2.heap.get? b=some o→h₁.get? b=some o:=fun b o e=>hsb₁.extBut b o (below b (Heap.lt_size e)) (Heap.get?_push_of_some _ (hP ▸ Heap.get?_push_of_some _ e))
 have hacc:h₁.get? s2.heap.objs.size=some { cls:=.type "list",data:=.seq ([]:List Value).toArray 0 }:=hsb₁.extBut _ _ (Nat.ne_of_lt hCD) (Heap.get?_push_of_some _ (hP ▸ Heap.get?_push_size _ rfl))
 have fD:H2 s2.heap.objs.size=none:=I2.hok.fresh (Nat.le_refl _)
 obtain ⟨W,⟨m0,w0⟩,turn⟩:=q s2.heap.objs.size fD
 have hz:h₁.objs.size≤P.objs.size+1:=by
  have e:=hsb₁.1
  rw [Heap.size_push] at e
  exact Nat.le_of_eq e
 have st1:tn 0 h₁:=T.keep _ _ _ st2 fun b hb o e=>old b o e
 have stat:∀{pins':List (Addr×Obj)} {H':Hp},(∀p∈pins',p.1∉fp)→(∀b∈fp,H' b=none)→∀b∈fp,Zd8 (Yt X scope cl N' s2 H2 P.objs.size fp) pins' H' b:=fun {pins' H'} hp hn b hb=>by
  obtain ⟨o,e⟩:=ho2 b hb
  obtain ⟨_,f1,f2',f3,f4,f5⟩:=f2 b hb
  refine ⟨hn b hb,below b (Heap.lt_size e),fun z=>?_,.inl hb,fun x c h=>f4 x c (S.sub x c h),fun p hp' z=>?_⟩
  ·rcases List.mem_cons.mp (I2.stkSub b z) with q|q
   ·exact f1 q
   ·exact f2' q
  ·have hp2:p∈pins':=by simpa [Yt] using hp'
   exact hp p hp2 (by rw [z];exact hb)
 have loop:∀s3:Shared,s3={ s2 with heap:=h₁,toks:=s2.toks+([]:List (Str×Value)).length } →
   codeAny (model X.prog X.w) X.A (.compLoop (.ListComp elt [⟨tg,iter,ifs,0⟩] scope pos) 0 (.ref it) (.ref s2.heap.objs.size) (compEnvC scope cl P.objs.size X.env)) (compPost (model X.prog X.w) X.A X.xe (some (assign (.Name y py) X.env)) (fun _ s'=>∃σ' H',Inv X pins σ' H' s'∧D.nx σ' H') (.ref s2.heap.objs.size) P.objs.size) s3:=by
  rintro s3 rfl
  have I3:Inv (Yt X scope cl N' s2 H2 P.objs.size fp) [] (fr σ) (upd H2 s2.heap.objs.size (.lst [])) { s2 with heap:=h₁,toks:=s2.toks+([]:List (Str×Value)).length }:=Zef I2 S hCD rfl f2 ho2 old hacc hns₁ hz
  refine Ws (fun n s'=>∃i ys H',Inv (Yt X scope cl N' s2 H2 P.objs.size fp) [] (fr σ) H' s'∧tn i s'.heap∧(∀b∈fp,H' b=none)∧W i n ys H') ?_ m0 ⟨0,[],_,I3,st1,fun b hb=>?_,w0⟩
  ·rintro n s3 ⟨i,ys,H3,I3,st3,fr3,w3⟩
   rcases turn i n ys H3 w3 with ⟨stop,qn⟩|⟨go,N,hN,step⟩
   ·refine thn (T.done (Yt X scope cl N' s2 H2 P.objs.size fp) rfl rfl rfl hc i [] s3 (fr σ) H3 _ I3 (stat (by simp) fr3) st3 stop) fun r s4 ⟨hr,I4⟩=>?_
    subst hr
    obtain ⟨m4,hn4,_⟩:=I4.loc
    obtain ⟨oC,esC,epC,hoC,hrC⟩:=id hn4
    have J0:Inv X pins σ H3 s4:=Zhm I2 hCD f2 I4 (h':=s4.heap) ⟨rfl,fun _ _=>rfl⟩
    have big:s2.heap.objs.size≤P.objs.size:=Nat.le_of_lt hCD
    have fC:H3 P.objs.size=none:=I4.free
    have okC:=I2.fpOk big fC
    have J1:Inv X (pins++[(P.objs.size,oC)]) σ H3 s4:=J0.pins_of fun p hp=>by
     rcases List.mem_append.mp hp with hp|hp
     ·exact J0.pin p (List.mem_append_right _ hp)
     ·have e:p=(P.objs.size,oC):=by simpa using hp
      subst e
      exact ⟨hoC,fC,okC.2.1,okC.2.2.1,fun v z=>by rw [hrC.1] at z;cases z⟩
    refine thn (Zq hN hi' hy hfn (X:=X) (pos:=py) _ s4 σ H3 (.ref s2.heap.objs.size) (.ref s2.heap.objs.size) _ J1 rfl qn) fun _ s5 ⟨σ5,H5,I5,q5⟩=>?_
    obtain ⟨p1,p2,p3,p4,p5⟩:=I5.pin (P.objs.size,oC) (List.mem_append_right _ (List.mem_append_right _ (by simp)))
    exact ⟨m4,⟨oC,esC,epC,p1,hrC⟩,fun h' hs'=>⟨σ5,H5,(I5.unpinned).turned (t':=s5.toks) (it:=P.objs.size) (fun b o hb e=>(hs'.2 b hb).trans e) p2 p3 okC.2.2.2.1 okC.2.2.2.2.1 okC.2.2.2.2.2,q5⟩⟩
   ·refine thn (T.item (Yt X scope cl N' s2 H2 P.objs.size fp) rfl rfl rfl hc i [] s3 (fr σ) H3 _ I3 (stat (by simp) fr3) st3 go) fun r s4 ⟨u,hr,h4⟩=>?_
    subst hr
    refine thn h4 fun _ s5 ⟨x,H5,I5,r5,y5,st5,fr5⟩=>?_
    have I5':=I5.pinned (stat (by simp) fr5) (T.obj _ _ st5)
    refine thn (hg s2 H2 P.objs.size fp _ s5 (fr σ) H5 x u _ I5' r5 (step x H5 y5)) fun _ s6 ⟨σ6,H6,I6,kp,q6⟩=>?_
    refine thn (hf s2 H2 P.objs.size fp _ s6 σ6 H6 _ I6 q6) fun ok s7 ⟨H7,I7,q7⟩=>?_
    have again:∀{σ8:St} {H8:Hp} {s8:Shared} {ys8:List V},Wr (fr σ) σ8→Inv (Yt X scope cl N' s2 H2 P.objs.size fp) ([]++Zer fp s5.heap) σ8 H8 s8→N ys8 H8 →
      ∃m,m<n∧∃i ys H',Inv (Yt X scope cl N' s2 H2 P.objs.size fp) [] (fr σ) H' s8∧tn i s8.heap∧(∀b∈fp,H' b=none)∧W i m ys H':=fun {σ8 H8 s8 ys8} kp8 I8 n8=>by
     obtain ⟨m',hm,w8⟩:=hN ys8 H8 n8
     refine ⟨m',hm,i+1,ys8,H8,(I8.unpinned).weak (by rw [I8.len];exact S.len σ I2.len) kp8,T.keep _ _ _ st5 fun b hb o e=>(I8.pin (b,o) (List.mem_append_right _ (List.mem_append_right _ (Wt hb e)))).1,fun b hb=>?_,w8⟩
     obtain ⟨o,e,d⟩:=T.obj _ _ st5 b hb
     exact (I8.pin (b,o) (List.mem_append_right _ (List.mem_append_right _ (Wt hb e)))).2.1
    cases ok with
    | false=>exact again kp I7 q7
    | true =>
     refine thn (he s2 H2 P.objs.size fp _ s7 σ6 H7 _ I7 q7) fun uy s8 ⟨y,H8,I8,r8,hD8,hz8,q8⟩=>?_
     exact thn (Xp _ s8 σ6 H8 (.ref s2.heap.objs.size) [y] (.ref s2.heap.objs.size) [uy] (fun _ H9=>N (ys++[y]) H9) I8 rfl (.cons r8 .nil) ⟨_,ys,y,rfl,rfl,hD8,hz8,q8⟩) fun _ s9 ⟨v9,H9,I9,_,q9⟩=>again kp I9 q9
  ·show upd H2 s2.heap.objs.size (.lst []) b=none
   obtain ⟨o,e⟩:=ho2 b hb
   rw [Zi (Nat.ne_of_lt (Heap.lt_size e))]
   exact (f2 b hb).1
 exact codeAny_compStart_list (loop _ rfl) (T.self X.A 0 _ _ _ st1 (loop _ rfl))
theorem Zcx{X:Cx}{K:Frag}{es:List Expr}{k:Nat}{pos:Pos}{t:TGs}{n:Nat}(hK:X.K=K)(hc:X.calm=true)(h:PGs X es t)
  (hn:(assignEach es X.env).length=n:=by rfl) (hst:(assignEach es X.env).findIdx? (·.1)=none:=by rfl):PG X (.Tuple es k pos) (Zwe K n t):=hK ▸ Zax hc h hn hst
end L2
end
section
namespace L2
open PySem PySem.Spec PyProof.Rows
def Zxn(K:Frag):R2:=fun x y H Q=>∃a b ka kb,x=.ref a∧y=.ref b∧Rd H a (.dK ka)∧Rd H b (.dK kb)∧ka.length=kb.length∧(∀kv∈ka,∃v,Y1 kb kv.1=some v∧Zjm K H kv.2 v)∧Q (.bl false) H
theorem Zvd{X:Cx}(hu:X.A.units+64<cLine):OpR X (compareOp .NotEq) (Zxn X.K):=by
 intro pins s σ H x y v u Q I rx ry h
 obtain ⟨a,b,ka,kb,rfl,rfl,ha,hb,hl,hall,q⟩:=h
 cases rx
 cases ry
 obtain ⟨_,sa,va,ra,da⟩:=Zdl I.hok ha
 obtain ⟨_,sb,vb,rb,db⟩:=Zdl I.hok hb
 have la:=KV.length ra
 have lb:=KV.length rb
 have hits:∀{ka':List (Key×V)} {va':List (Key×Value)},KV ka' va'→(∀kv∈ka',∃v,Y1 kb kv.1=some v∧Zjm X.K H kv.2 v)→PySem.W.KeqHits X.A.in1 s vb va' true:=by
  intro ka' va' r
  induction r with
  | nil=>intro _;exact .nil
  | cons r t ih =>
   rename_i p q l m
   intro hv
   obtain ⟨e1,r2⟩:=r
   obtain ⟨v,hv1,hv2⟩:=hv p List.mem_cons_self
   have hval:=KV.val rb p.1
   rw [hv1] at hval
   obtain ⟨y,hy,ry⟩:=Zde.some_of hval
   rw [e1] at hy
   have:=PySem.W.KeqHits.hit (k:=q.1) (v:=q.2) hy (hv2.eqAt (A:=X.A.in1) I r2 ry (by rw [Wd];omega)) (ih fun kv hkv=>hv kv (List.mem_cons_of_mem _ hkv))
   simpa using this
 refine PySem.W.keq_ne (knd:=Ym X.prog X.w) sa sb da db (by omega) (fun _=>hits ra hall) ⟨.bl false,H,I,?_,q⟩
 rw [show (va.length ==vb.length)=true by rw [←la,←lb,hl];simp]
 rfl
def Zsv(K:Frag)(neg:Bool):R2:=fun x y H Q=>∃(p:Addr) (n:Nat) (t:Tr) (ts:List Tr) (as:List Addr),y=.ref p∧SqL K H p (as.map V.ref)∧n≤60∧Im K H n t x∧Paired (Im K H n) ts (as.map V.ref)∧Q (.bl (if neg then !decide (t∈ts) else decide (t∈ts))) H
noncomputable def Zhr (K:Frag) (H:Hp) (n:Nat) (t:Tr) (u:Value):Bool:=match u with
 | .ref a=>@decide (Im K H n t (.ref a)) (Classical.propDecidable _)
 | _=>false
theorem Zif{X:Cx}{pins:List (Addr×Obj)}{σ:St}{H:Hp}{s:Shared}(I:Inv X pins σ H s){n:Nat}{t:Tr}:∀{ts:List Tr} {as:List Addr} {us:List Value},Paired (Im X.K H n) ts (as.map V.ref)→Yd (as.map V.ref) us→us.any (Zhr X.K H n t)=decide (t∈ts)
 | [],[],_,_,v=>by rw [List.map_nil] at v;cases v;simp
 | [],a ::as,_,p,_=>by rw [List.map_cons] at p;cases p
 | t' ::ts,[],_,p,_=>by rw [List.map_nil] at p;cases p
 | t' ::ts,a ::as,us,p,v=>by
  rw [List.map_cons] at p v
  cases p with
  | cons i p =>
   cases v with
   | cons r v =>
    cases r
    rw [List.any_cons,Zif I p v,Bool.eq_iff_iff,Bool.or_eq_true]
    simp only [Zhr,decide_eq_true_eq,List.mem_cons]
    constructor
    ·rintro (z|z)
     ·exact .inl (Im.inj I z i)
     ·exact .inr z
    ·rintro (z|z)
     ·exact .inl (z ▸ i)
     ·exact .inr z
theorem Zfl{X:Cx}{pins:List (Addr×Obj)}{σ:St}{H:Hp}{s:Shared}(I:Inv X pins σ H s){n:Nat}{A:Around}(hu:A.units+n<cLine){t:Tr}{x:V}{vx:Value}(hx:Im X.K H n t x)(rx:Yo x vx) :
  ∀{ts:List Tr} {as:List Addr} {us:List Value},Paired (Im X.K H n) ts (as.map V.ref)→Yd (as.map V.ref) us→∀u∈us,SeqAt.EqAt A s u vx (Zhr X.K H n t u)
 | [],[],_,_,v=>by rw [List.map_nil] at v;cases v;simp
 | [],a ::as,_,p,_=>by rw [List.map_cons] at p;cases p
 | t' ::ts,[],_,p,_=>by rw [List.map_nil] at p;cases p
 | t' ::ts,a ::as,us,p,v=>by
  rw [List.map_cons] at p v
  cases p with
  | cons i p =>
   cases v with
   | cons r v =>
    cases r
    intro u hm
    rcases List.mem_cons.mp hm with e|e
    ·subst e
     refine Yj (Im.eqAt I n A i hx rfl rx hu) ?_
     simp only [Zhr,decide_eq_decide]
     exact ⟨fun z=>z ▸ i,fun z=>(Im.inj I z i).symm⟩
    ·exact Zfl I hu hx rx p v u e
theorem Zvr{X:Cx}(hu:X.A.units+64<cLine):OpR X (compareOp .In) (Zsv X.K false):=by
 intro pins s σ H x y v u Q I rx ry h
 obtain ⟨p,n,t,ts,as,rfl,hq,hn,hx,hp,q⟩:=h
 cases ry
 obtain ⟨its,r,pl,hz⟩:=I.list hq
 refine SeqAt.in_listAt (Zhr X.K H n t) pl.isList (fun w hw=>Zfl I (by rw [Wd];omega) hx rx hp r w (by simpa using hw)) ⟨.bl _,H,I,rfl,?_⟩
 rw [show its.toArray.any (Zhr X.K H n t)=its.any (Zhr X.K H n t) by simp,Zif I hp r]
 exact q
theorem Zov{X:Cx}(hu:X.A.units+64<cLine):OpR X (compareOp .NotIn) (Zsv X.K true):=by
 intro pins s σ H x y v u Q I rx ry h
 obtain ⟨p,n,t,ts,as,rfl,hq,hn,hx,hp,q⟩:=h
 cases ry
 obtain ⟨its,r,pl,hz⟩:=I.list hq
 refine SeqAt.notIn_listAt (Zhr X.K H n t) pl.isList (fun w hw=>Zfl I (by rw [Wd];omega) hx rx hp r w (by simpa using hw)) ⟨.bl _,H,I,rfl,?_⟩
 rw [show its.toArray.any (Zhr X.K H n t)=its.any (Zhr X.K H n t) by simp,Zif I hp r]
 exact q
section
variable {X:Cx} {k:Nat}
def Zfm(K:Frag):R2:=fun x y H Q=>rNe x y H Q∨Zsw K true x y H Q∨Zxn K x y H Q
theorem Zgv(hr:W8 k X.A):OpR X (compareOp .NotEq) (Zfm X.K):=Zw3.or ((Zvp hr.units).or (Zvd hr.units))
def Zgu(K:Frag):R2:=fun x y H Q=>rIn K false x y H Q∨(∃a o,y=.ref a∧Zc4 H a x o∧Q (.bl o.isSome) H)∨(∃i j,x=.str i∧y=.str j∧Q (.bl (!(Builtin.Str.occurrences j i 0 j.length 1).isEmpty)) H)∨Zsv K false x y H Q
theorem Zh5(hr:W8 k X.A):OpR X (compareOp .In) (Zgu X.K):=Zpa.or ((Zul (Zdb hr)).or (Zpq.or (Zvr hr.units)))
def Zkw(K:Frag):R2:=fun x y H Q=>rIn K true x y H Q∨(∃a o,y=.ref a∧Zc4 H a x o∧Q (.bl (!o.isSome)) H)∨Zsv K true x y H Q
theorem Znu(hr:W8 k X.A):OpR X (compareOp .NotIn) (Zkw X.K):=Zkc.or ((Zpv (Zdb hr)).or (Zov hr.units))
end
end L2
end
section
namespace L2
open PySem
def TrX(h base:Heap)(e:Addr)(cls a0:Value)(dx:Option Addr)(fl:Value):Prop :=
 ∃oe vs T oT ts,h.get? e=some oe∧oe.cls=cls∧oe.dict=dx∧oe.data=.fields vs∧(vs[0]? =some a0∧vs[2]? =some .none)∧vs[1]? =some (.ref T)∧base.get? T=none∧T≠e∧h.get? T=some oT∧oT.data=.fields ts∧ts[3]? =some fl
def Zcj(base:Heap)(l:List Env)(e:Addr)(cls a0:Value)(dx:Option Addr)(fl:Value)(h:Heap):Prop:=base.StaysIn h∧base.get? e=none∧h.FunFrames base l∧TrX h base e cls a0 dx fl
theorem Zo2(f:Array Value→Array Value)(o:Obj):(Obj.mapFields f o).dict=o.dict:=by
 obtain ⟨c,d,dt,sl⟩:=o
 cases dt <;>rfl
theorem Zcj.there{base h:Heap}{l:List Env}{e:Addr}{cls a0 fl:Value}{dx:Option Addr}(x:Zcj base l e cls a0 dx fl h):∃ob,h.get? e=some ob∧ob.cls=cls∧ob.dict=dx∧∃vs,ob.data=.fields vs:=by
 obtain ⟨_,_,_,oe,vs,_,_,_,he,hc,hx,hd,_⟩:=x
 exact ⟨oe,he,hc,hx,vs,hd⟩
theorem Zcj.ctx{base h:Heap}{l:List Env}{e:Addr}{cls a0 fl:Value}{dx:Option Addr}(x:Zcj base l e cls a0 dx fl h):∃ob vs,h.get? e=some ob∧ob.data=.fields vs∧vs[2]? =some .none:=by
 obtain ⟨_,_,_,oe,vs,_,_,_,he,hc,hx,hd,h0,_⟩:=x
 exact ⟨oe,vs,he,hd,h0.2⟩
section
variable {M:Model} {A:Around} {E:Value→Shared→Prop} {s:Shared} {base:Heap} {env:Env} {outer l:List Env} {L e:Addr} {oe:Obj} {vs:Array Value} {head a0 cls fl:Value} {dx:Option Addr} {Q:Unit→Shared→Prop}
theorem Zwt{hadNext:Bool}(hfr:A.frames=some (env ::outer))(hl:s.heap.FunFrames base (env ::outer))(hf:env.frame=some L)(he:s.heap.get? e=some oe)(hkb:base.StaysIn s.heap)(hen:base.get? e=none)(hd:oe.data=.fields vs)(hsz:1<vs.size)
  (h0:vs[0]? =some a0∧vs[2]? =some .none) (h:∀h',Zcj base (env ::outer) e oe.cls a0 oe.dict (rawInt L) h'→s.heap.UpToSlots h'→Q () { s with heap:=h' }) :
  wpAny M A (do let a ←frameOf env;let pl ←entryPlaceOf L hadNext;let b ←EntryCells.newEntry head a .none (rawInt L) .none pl;setField (.ref e) 1 b) Q E s:=by
 have off:e∉(env ::outer).filterMap (·.frame):=fun z=>by
  obtain ⟨_,o,q,nf⟩:=hl.mem z
  rw [he] at q
  cases q
  exact nf vs hd
 refine wpAny_bind (wpAny_frameOf_fun hfr hl hf fun g so=>wpAny_bind (wpAny_entryPlaceOf fun pl hpl=>?_))
 unfold EntryCells.newEntry newFields
 refine wpAny_bind (wpAny_newObj_type ?_ (hpl.sizeOk5 _ _ _ _ _))
 have e1:g.get? e=some oe:=by rw [so.2.1 e off];exact he
 have k1:base.StaysIn g:=fun b o q=>by
  rw [so.2.1 b fun z=>by rw [(hl.mem z).1] at q;cases q]
  exact hkb b o q
 generalize hT:({ cls:=.type "traceback",dict:=none,data:=.fields ([head,.ref L,.none,rawInt L,.none]++(if pl.isEmpty then List.replicate 6 Value.none else pl)).toArray }:Obj)=oT
 have e2:(g.push oT).get? e=some oe:=Heap.get?_push_of_some _ e1
 have nT:g.objs.size≠e:=Nat.ne_of_gt (Heap.lt_size e1)
 have t2:(g.push oT).get? g.objs.size=some oT:=Heap.get?_push_size g (by rw [←hT];rfl)
 refine wpAny_setField e2 hd hsz (h _ ?_ ?_)
 ·have d3:=Obj.data_mapFields hd (·.setIfInBounds 1 (Value.ref g.objs.size))
  have e3:=Heap.get?_update_self (Obj.mapFields (·.setIfInBounds 1 (Value.ref g.objs.size))) e2 (Obj.isFreed_of_fields d3)
  have t3:((g.push oT).update e (Obj.mapFields (·.setIfInBounds 1 (Value.ref g.objs.size)))).get? g.objs.size=some oT:=by rw [Heap.get?_update_other _ _ nT.symm];exact t2
  have old:∀b o,b≠e→g.get? b=some o→((g.push oT).update e (Obj.mapFields (·.setIfInBounds 1 (Value.ref g.objs.size)))).get? b=some o:=fun b o nb q=>by
   rw [Heap.get?_update_other _ _ nb.symm]
   exact Heap.get?_push_of_some _ q
  refine ⟨fun b o q=>old b o (fun z=>by rw [z,hen] at q;cases q) (k1 b o q),hen,hl.of_keeps fun b o q nf=>?_,?_⟩
  ·obtain ⟨sl,z⟩:=so.2.2 b o q
   refine ⟨_,old b _ (fun y=>?_) z,rfl⟩
   rw [y,he] at q
   cases q
   exact nf vs hd
  ·refine ⟨_,_,g.objs.size,oT,_,e3,Obj.cls_mapFields _ _,Zo2 _ _,d3,?_,by simp [hsz],k1.fresh,nT,t3,by rw [←hT],?_⟩
   ·exact ⟨by rw [Array.getElem?_setIfInBounds_ne (by decide)];exact h0.1,by rw [Array.getElem?_setIfInBounds_ne (by decide)];exact h0.2⟩
   ·rcases hpl with rfl|⟨_,_,_,_,_,_,_,rfl⟩ <;>simp
 ·intro b o q nf
  obtain ⟨sl,z⟩:=so.2.2 b o q
  refine ⟨sl,?_⟩
  show ((g.push oT).update e (Obj.mapFields (·.setIfInBounds 1 (Value.ref g.objs.size)))).get? b=_
  rw [Heap.get?_update_other _ _ fun y=>by rw [←y,he] at q;cases q;exact nf vs hd]
  exact Heap.get?_push_of_some _ z
theorem Zlr(hfr:A.frames=some (env ::outer))(hl:s.heap.FunFrames base (env ::outer))(hf:env.frame=some L)(he:s.heap.get? e=some oe)(hkb:base.StaysIn s.heap)(hen:base.get? e=none)(hd:oe.data=.fields vs)
  (h1:vs[1]? =some .none) (h0:vs[0]? =some a0∧vs[2]? =some .none) (h:∀h',Zcj base (env ::outer) e oe.cls a0 oe.dict (rawInt L) h'→s.heap.UpToSlots h'→Q () { s with heap:=h' }):wpAny M A (noteFrame (.ref e) env) Q E s:=by
 unfold noteFrame
 simp only [hf]
 refine wpAny_bind (wpAny_field he hd h1 ?_)
 rw [if_neg (by decide)]
 exact Zwt hfr hl hf he hkb hen hd (Array.getElem?_eq_some_iff.mp h1).1 h0 h
theorem Zg7(hfr:A.frames=some (env ::outer))(hf:env.frame=some L)(x:Zcj base (env ::outer) e cls a0 dx .none s.heap)
  (h:∀h',Zcj base (env ::outer) e cls a0 dx (rawInt L) h'→s.heap.UpToSlots h'→Q () { s with heap:=h' }):wpAny M A (noteFrame (.ref e) env) Q E s:=by
 obtain ⟨hkb,hen,hl,oe,vs,T,oT,ts,he,hc,hx,hd,h0,h1,nT,Te,hT,dT,h3⟩:=x
 subst hc hx
 unfold noteFrame
 simp only [hf]
 refine wpAny_bind (wpAny_field he hd h1 ?_)
 rw [if_pos (by simp)]
 refine wpAny_bind (wpAny_field hT dT h3 ?_)
 rw [if_neg (by simp [rawInt])]
 refine wpAny_bind (wpAny_setField hT dT (Array.getElem?_eq_some_iff.mp h3).1 ?_)
 have oth:∀b,b≠T→(s.heap.update T (Obj.mapFields (·.setIfInBounds 3 Value.none))).get? b=s.heap.get? b:=fun b nb=>Heap.get?_update_other _ _ nb.symm
 have nr:∀b o,s.heap.get? b=some o→(∀vs,o.data ≠ .fields vs)→b≠T:=fun b o q nf z=>by
  rw [z,hT] at q
  cases q
  exact nf ts dT
 refine Zwt hfr (hl.of_keeps fun b o q nf=>⟨o,by rw [oth b (nr b o q nf)];exact q,rfl⟩) hf (by rw [oth e Te.symm];exact he) (fun b o q=>?_) hen hd (Array.getElem?_eq_some_iff.mp h1).1 h0 fun h' f' u'=>h h' f' fun b o q nf=>u' b o (by
  show (s.heap.update T _).get? b=_
  rw [oth b (nr b o q nf)];exact q) nf
 show (s.heap.update T _).get? b=_
 rw [oth b fun z=>by rw [z,nT] at q;cases q]
 exact hkb b o q
theorem Zn8(x:Zcj base l e cls a0 dx fl s.heap)(h:∀h',Zcj base l e cls a0 dx .none h'→s.heap.UpToSlots h'→Q () { s with heap:=h' }):wpAny M A (setFlight (.ref e) none) Q E s:=by
 obtain ⟨hkb,hen,hl,oe,vs,T,oT,ts,he,hc,hx,hd,h0,h1,nT,Te,hT,dT,h3⟩:=x
 have h3':3<ts.size:=(Array.getElem?_eq_some_iff.mp h3).1
 have oth:∀b,b≠T→(s.heap.update T (Obj.mapFields (·.setIfInBounds 3 ((none:Option Addr).elim Value.none fun f=>rawInt f)))).get? b=s.heap.get? b:=fun b nb=>Heap.get?_update_other _ _ nb.symm
 have nr:∀b o,s.heap.get? b=some o→(∀vs,o.data ≠ .fields vs)→b≠T:=fun b o q nf z=>by
  rw [z,hT] at q
  cases q
  exact nf ts dT
 unfold setFlight
 refine wpAny_bind (wpAny_field he hd h1 ?_)
 rw [if_pos (by simp)]
 refine wpAny_setField hT dT h3' (h _ ⟨fun b o q=>?_,hen,hl.of_keeps fun b o q nf=>⟨o,?_,rfl⟩,oe,vs,T,_,_,?_,hc,hx,hd,h0,h1,nT,Te,Heap.get?_update_self _ hT (Obj.isFreed_of_fields (Obj.data_mapFields dT _)),Obj.data_mapFields dT _,by simp [h3']⟩ fun b o q nf=>⟨o.slots,?_⟩)
 ·rw [oth b fun z=>by rw [z,nT] at q;cases q];exact hkb b o q
 ·rw [oth b (nr b o q nf)];exact q
 ·rw [oth e Te.symm];exact he
 ·show (s.heap.update T _).get? b=_
  rw [oth b (nr b o q nf)];exact q
theorem Zcj.out(x:Zcj base (env ::outer) e cls a0 dx fl s.heap):Zcj base outer e cls a0 dx fl s.heap:=by
 obtain ⟨a,b,⟨_,_,c⟩,d⟩:=x
 exact ⟨a,b,c,d⟩
theorem Zv0(hfr:A.frames=some (env ::outer))(hf:env.frame=some L)(x:Zcj base (env ::outer) e cls a0 dx .none s.heap)(h:∀h',Zcj base outer e cls a0 dx .none h'→s.heap.UpToSlots h'→Q () { s with heap:=h' }) :
  wpAny M A (leaving env (.ref e)) Q E s:=by
 unfold leaving
 refine wpAny_bind (Zg7 hfr hf x fun h1 x1 u1=>Zn8 (s:={ s with heap:=h1 }) x1 fun h2 x2 u2=>h h2 ?_ (u1.trans u2))
 exact Zcj.out (s:={ s with heap:=h2 }) x2
theorem Zkt(hfr:A.frames=some (env ::outer))(hl:s.heap.FunFrames base (env ::outer))(hf:env.frame=some L)(he:s.heap.get? e=some oe)(hkb:base.StaysIn s.heap)(hen:base.get? e=none)(hd:oe.data=.fields vs)
  (h1:vs[1]? =some .none) (h0:vs[0]? =some a0∧vs[2]? =some .none) (h:∀h',Zcj base outer e oe.cls a0 oe.dict .none h'→s.heap.UpToSlots h'→Q () { s with heap:=h' }):wpAny M A (leaving env (.ref e)) Q E s:=by
 unfold leaving
 refine wpAny_bind (Zlr hfr hl hf he hkb hen hd h1 h0 fun h1 x1 u1=>Zn8 (s:={ s with heap:=h1 }) x1 fun h2 x2 u2=>h h2 ?_ (u1.trans u2))
 exact Zcj.out (s:={ s with heap:=h2 }) x2
end
end L2
end
section
namespace L2
open PySem PySem.Spec PyProof.Rows
def Zja(K:Frag)(mg:Str→Option Value)(x:Str)(C:Addr)(bm:List Value)(newId:String):Prop:=∀h:Heap,K.In h→OwnCls x C bm newId mg h
theorem Zex{K:Frag}{mg:Str→Option Value}{x:Str}{C:Addr}{bmB:List Value}{newId:String}(m:mg x=some (.ref C))(q:PySem.W.excIn K C bmB newId=true):Zja K mg x C bmB newId:=by
 intro h X
 refine ⟨m,?_⟩
 unfold PySem.W.excIn at q
 split at q
 case h_2=>cases q
 case h_1 dd cd sl ho =>
  split at q
  case h_2=>cases q
  case h_1 C' tl k0 k1 k2 k3 n k5 hm hs =>
   rw [Bool.and_eq_true,Bool.and_eq_true,Bool.and_eq_true,Bool.and_eq_true,Bool.and_eq_true] at q
   obtain ⟨⟨⟨⟨⟨q1,q2⟩,q3⟩,q4⟩,q5⟩,q6⟩:=q
   have e1:C'=C:=beq_iff_eq.mp q1
   have e2:n=newId:=beq_iff_eq.mp q2
   have e6:nsIn K cd.ns "__init__" =some none:=beq_iff_eq.mp q6
   have e3:cd.hasDel=false:=by simpa using q3
   subst e1 e2
   have hsl:sl=#[k0,k1,k2,k3,some (.builtin n),k5]:=Array.toList_inj.mp hs
   obtain ⟨nm,bs,mro,ns,qn,hdct,sn,sub,ab,col,del⟩:=cd
   dsimp only at hm e3 q5 e6
   subst hm e3 hsl
   exact ⟨tl,ns,nm,qn,bs,hdct,sn,sub,ab,col,dd,k0,k1,k2,k3,k5,_,X _ _ ho,.of_isNs (PySem.W.isNs_of_in X q5),PySem.W.nsMap_none_of_in X q5 e6,PySem.W.tail_of_in X q4⟩
def Fly(outer:List Env)(cls:Value)(dx:Option Addr)(H':Hp)(g:Heap)(ea:Addr)(h:Heap):Prop :=
 ∃a0 B,Zcj B outer ea cls a0 dx .none h∧∀b o,h.get? b=some o→((∃o',g.get? b=some o')∨H' b≠none)→b∉frs outer→B.get? b=some o
def CXF(P:Program)(w:World):CXT:=fun outer H s E e s'=>∃ea cls dx H',e=.ref ea∧s'.os=s.os∧AllBare s'.gens∧Un (frs outer) [] H H' s.heap s'.heap∧HOk P w H' s'.heap∧Fly outer cls dx H' s.heap ea s'.heap∧E cls dx H'
theorem Yu.there{P:Program}{w:World}{H:Hp}{h:Heap}{a:Addr}{o:HO}(x:Yu P w H h a o):∃ob,h.get? a=some ob:=by
 cases o with
 | lst xs=>obtain ⟨_,_,_,_,e⟩:=x;exact ⟨_,e⟩
 | tup xs=>obtain ⟨_,_,_,_,e,_⟩:=x;exact ⟨_,e⟩
 | dK kvs=>obtain ⟨_,_,_,_,o,_,_,e,_⟩:=x;exact ⟨_,e⟩
 | dT kvs=>obtain ⟨_,_,_,_,o,_,_,e,_⟩:=x;exact ⟨_,e⟩
 | set S n=>obtain ⟨o,_,_,_,e,_⟩:=x;exact ⟨_,e⟩
 | ins C dx fs=>obtain ⟨_,_,_,e,_⟩:=x;exact ⟨_,e⟩
 | own y=>obtain ⟨_,e⟩:=x;exact ⟨_,e⟩
 | xd fs=>obtain ⟨_,⟨_,_,_,e,_⟩,_⟩:=x;exact ⟨_,e⟩
 | rng lo hi=>obtain ⟨_,_,_,e⟩:=x;exact ⟨_,e⟩
 | frz ob u=>obtain ⟨e,_⟩:=x;exact ⟨_,e⟩
 | tbl ps =>
  obtain ⟨_,_,_,_,_,_,_,e | ⟨_,_,_,_,_,_,_,e⟩⟩:=x
  ·exact ⟨_,e⟩
  ·exact ⟨_,e⟩
 | met f y=>exact ⟨_,show h.get? a=some _ from x⟩
 | ext φ=>obtain ⟨_,⟨_,e⟩,_⟩:=x;exact ⟨_,e⟩
section
variable {P:Program} {w:World} {K:Frag} {mg:Str→Option Value} {base:Heap} {N:List Str} {qual:Str} {scope:Scope} {f:Addr} {cd:Value} {A:Around} {outer:List Env} {s₀:Shared} {H₀:Hp} {E:XK}
theorem Znz{CX:CXT}{pins:List (Addr×Obj)}{σ:St}{H':Hp}{s1:Shared}{h' B:Heap}{ea:Addr}{cls a0:Value}{dx:Option Addr}(I:Inv (Zck CX P w K mg base N qual scope f cd A outer s₀ H₀ E) pins σ H' s1)
  (fl:Zcj B outer ea cls a0 dx .none h') (up:s1.heap.UpToSlots h') (pB:∀b o,s1.heap.get? b=some o→((∃o',s₀.heap.get? b=some o')∨H' b≠none)→b∉frs (envOfC qual scope s₀.heap.objs.size f cd ::outer)→B.get? b=some o)
  (hE:E cls dx H'):CXF P w outer H₀ s₀ E (.ref ea) { s1 with heap:=h' }:=by
 have stay:∀b o,s1.heap.get? b=some o→((∃o',s₀.heap.get? b=some o')∨H' b≠none)→b∉frs (envOfC qual scope s₀.heap.objs.size f cd ::outer)→h'.get? b=some o:=fun b o h1 h2 h3=>fl.1 b o (pB b o h1 h2 h3)
 have frL:frs (envOfC qual scope s₀.heap.objs.size f cd ::outer)=s₀.heap.objs.size ::frs outer:=rfl
 have notL:∀b,((∃o',s₀.heap.get? b=some o')∨H' b≠none)→b∉frs outer→b∉frs (envOfC qual scope s₀.heap.objs.size f cd ::outer):=fun b h1 h2 h3=>by
  rw [frL] at h3
  rcases List.mem_cons.mp h3 with e|e
  ·rcases h1 with h1|h1
   ·obtain ⟨o',h1⟩:=h1
    rw [e] at h1;exact absurd (Heap.lt_size h1) (Nat.lt_irrefl _)
   ·have:H' s₀.heap.objs.size=none:=I.free
    rw [e] at h1;exact h1 this
  ·exact h2 e
 have trk:∀b,H' b≠none→b∉frs outer:=fun b h1 h2=>h1 (I.stkFree b (by show b∈frs (envOfC qual scope s₀.heap.objs.size f cd ::outer);rw [frL];exact List.mem_cons_of_mem _ h2))
 have fr1:∀b,b∈frs outer→∃o,s1.heap.get? b=some o∧∀vs,o.data ≠ .fields vs:=fun b hb=>by
  have h1:s1.heap.FunFrames base (envOfC qual scope s₀.heap.objs.size f cd ::outer):=I.stack
  exact (h1.mem (List.mem_filterMap.mpr (by
   obtain ⟨env,he,hf⟩:=List.mem_filterMap.mp hb
   exact ⟨env,List.mem_cons_of_mem _ he,hf⟩))).2
 have hb0:Un (frs outer) [] H₀ H' s₀.heap s1.heap:=I.base
 refine ⟨ea,cls,dx,H',rfl,I.os,I.bare,⟨fun b o h1 h2 h3 h4=>?_,fun b o h1 h2 h3 h4=>?_,hb0.free,fun b o h1 h4=>?_,hb0.tups,hb0.frzs,hb0.tbls⟩,fun a o ha=>?_,⟨a0,B,fl,fun b o h1 h2 h3=>?_⟩,hE⟩
 ·exact stay b o (hb0.keep b o h1 h2 h3 h4) (.inl ⟨_,h1⟩) (notL b (.inl ⟨_,h1⟩) h3)
 ·obtain ⟨sl,h5⟩:=hb0.slot b o h1 h2 h3 h4
  obtain ⟨o1,h6,h7⟩:=fr1 b h3
  rw [h5] at h6
  cases h6
  obtain ⟨sl',h8⟩:=up b _ h5 h7
  exact ⟨sl',h8⟩
 ·obtain ⟨o1,h5⟩:=hb0.there b o h1 h4
  by_cases hb:b∈frs outer
  ·obtain ⟨o2,h6,h7⟩:=fr1 b hb
   obtain ⟨sl',h8⟩:=up b _ h6 h7
   exact ⟨_,h8⟩
  ·exact ⟨o1,stay b o1 h5 (.inl ⟨_,h1⟩) (notL b (.inl ⟨_,h1⟩) hb)⟩
 ·refine (I.hok a o ha).stay (fun b u hb h1=>?_) (fun _ z=>z) (fun _ _ z=>z)
  have ht:H' b≠none:=by
   rcases hb with e|e
   ·rw [e,ha];exact Option.some_ne_none _
   ·rw [e];exact Option.some_ne_none _
  exact stay b u h1 (.inr ht) (notL b (.inr ht) (trk b ht))
 ·have hs:∃o1,s1.heap.get? b=some o1:=by
   rcases h2 with ⟨o',h2⟩|h2
   ·exact hb0.there b o' h2 (by simp)
   ·cases hq:H' b with
    | none=>exact absurd hq h2
    | some u=>exact (I.hok b u hq).there
  obtain ⟨o1,h4⟩:=hs
  have h5:=pB b o1 h4 h2 (notL b h2 h3)
  have h6:=fl.1 b o1 h5
  have h7:h'.get? b=some o:=h1
  rw [h6] at h7
  cases h7
  exact h5
theorem Zbv:Zbj (CXF P w) (Zck (CXF P w) P w K mg base N qual scope f cd A outer s₀ H₀ E) E:=by
 intro pins σ H s e s' I h
 obtain ⟨ea,cls,dx,H',rfl,os,bare,un,hok,⟨a0,B,fl,pB⟩,hE⟩:=h
 have I':=I.call' os un hok bare (fun b z=>absurd z (by simp))
 show wpAny _ _ (leaving _ (.ref ea)) _ _ s'
 refine Zv0 I'.ok.frames rfl fl fun h' fl' up=>?_
 exact Znz I' fl' up (fun b o h1 h2 h3=>pB b o h1 (h2.imp_left fun ⟨o',z⟩=>I.base.there b o' z (by show b∉([]:List Addr);simp)) h3) hE
def Zvb(C:Addr)(E:XK)(t:TA):TS:=fun _ σ H=>t σ H fun vs H1=>vs.length≤sizeLine∧E (.ref C) none H1
theorem Wu{x:Str}{C:Addr}{bm:List Value}{Bn newId initId:String}{np cpos pos:Pos}{e₀:Expr}{rest:List Expr}{t:TA}(OI:Zja K mg x C bm newId)(FB:ExcBaseFacts Bn newId initId bm)
  (hg:Gl (Zck (CXF P w) P w K mg base N qual scope f cd A outer s₀ H₀ E) x) (ha:PA (Zck (CXF P w) P w K mg base N qual scope f cd A outer s₀ H₀ E) (e₀ ::rest) t)
  (he:starEach (e₀ ::rest) (envOfC qual scope s₀.heap.objs.size f cd)=(false,eval e₀ (envOfC qual scope s₀.heap.objs.size f cd)) ::starEach rest (envOfC qual scope s₀.heap.objs.size f cd):=by rfl)
  (hpl:(backTo cpos (starEach rest (envOfC qual scope s₀.heap.objs.size f cd))).any (·.1)=false:=by rfl) (hd:(x ==("__debug__" :Str))=false:=by decide) :
  PS (Zck (CXF P w) P w K mg base N qual scope f cd A outer s₀ H₀ E) (.Raise (some (.Call (.Name x np) (e₀ ::rest) [] cpos)) none pos) (Zvb C E t):=by
 intro pins s σ H D I h
 have O:OwnCls x C bm newId mg base:=OI base I.ok.mod.kin
 obtain ⟨tl,N',nm,q,bs,hdct,sn,sub,ab,col,dd,k0,k1,k2,k3,k5,mN,hC,hN,hni,T⟩:=O.obj
 refine wpAny_Raise_call_subT (C:=C) (nm:=nm) (q:=q) (N:=N') (bs:=bs) (bm:=tl) (hdct:=hdct) (sn:=sn) (sub:=sub) (ab:=ab) (col:=col) (dd:=dd) (k0:=k0) (k1:=k1) (k2:=k2) (k3:=k3) (k5:=k5)
  FB (mN:=mN) (T.hasType FB.hasBase) (I.ok.hd rfl) (by show (backTo cpos (starEach (e₀ ::rest) (envOfC qual scope s₀.heap.objs.size f cd))).any (·.1)=false;rw [he];show (false || (backTo cpos (starEach rest (envOfC qual scope s₀.heap.objs.size f cd))).any (·.1))=false;rw [hpl];rfl) hni (Zd3 I hg O.bound ⟨rfl,?_⟩ hd)
 have hA:=ha cpos pins s σ H _ I h
 have he':starEach (e₀ ::rest) (Zck (CXF P w) P w K mg base N qual scope f cd A outer s₀ H₀ E).env=(false,eval e₀ (envOfC qual scope s₀.heap.objs.size f cd)) ::starEach rest (envOfC qual scope s₀.heap.objs.size f cd):=he
 rw [he'] at hA ⊢
 refine Calls.evalArgs_plain (thn hA fun us s2 ⟨vs,H2,I2,r2,hl,hE⟩=>?_)
 have keep:∀b o,base.get? b=some o→s2.heap.get? b=some o:=fun b o e=>(I2.bs b o e).1
 refine ⟨rfl,by rw [←r2.length];exact hl,keep _ _ hC,hN.keeps keep,T.keeps keep,fun h' e hm=>?_⟩
 show wpAny _ _ (leaving _ (.ref e)) _ _ _
 obtain ⟨t,he3,_,_⟩:=hm.there
 have hin:∀env∈(envOfC qual scope s₀.heap.objs.size f cd ::outer),∀b,env.frame=some b→b∈frs (envOfC qual scope s₀.heap.objs.size f cd ::outer):=fun env he b hb=>List.mem_filterMap.mpr ⟨env,he,hb⟩
 refine Zkt (base:=PySem.W.hideAll s2.heap (frs (envOfC qual scope s₀.heap.objs.size f cd ::outer))) I2.ok.frames ((PySem.W.funFrames_hide I2.stack hin).of_keeps fun b o q _=>⟨o,hm.keeps b o q,rfl⟩) rfl he3 (fun b o q=>hm.keeps b o (PySem.W.of_hideAll _ q)) ?_ rfl rfl ⟨rfl,rfl⟩ fun h'' fl up=>?_
 ·cases q:(PySem.W.hideAll s2.heap (frs (envOfC qual scope s₀.heap.objs.size f cd ::outer))).get? e with
  | none=>rfl
  | some o=>exact absurd (PySem.W.of_hideAll _ q) (by rw [hm.new];exact fun z=>nomatch z)
 ·have R:=Znz I2 fl ((Heap.UpToSlots.of_keeps hm.keeps).trans up) (fun b o h1 _ h3=>PySem.W.hideAll_get _ h1 h3) hE
  exact R
end
theorem Zus{P:Program}{w:World}{fs:List Addr}{H H':Hp}{g h h' B:Heap}(un:Un fs [] H H' g h)(hok:HOk P w H' h)(fr:∀b∈fs,H' b=none∧∃o,h.get? b=some o∧∀vs,o.data ≠ .fields vs)(st:B.StaysIn h')(up:h.UpToSlots h')
  (pB:∀b o,h.get? b=some o→((∃o',g.get? b=some o')∨H' b≠none)→b∉fs→B.get? b=some o):Un fs [] H H' g h'∧HOk P w H' h':=by
 have stay:∀b o,h.get? b=some o→((∃o',g.get? b=some o')∨H' b≠none)→b∉fs→h'.get? b=some o:=fun b o h1 h2 h3=>st b o (pB b o h1 h2 h3)
 refine ⟨⟨fun b o h1 h2 h3 h4=>stay b o (un.keep b o h1 h2 h3 h4) (.inl ⟨_,h1⟩) h3,fun b o h1 h2 h3 h4=>?_,un.free,fun b o h1 h4=>?_,un.tups,un.frzs,un.tbls⟩,fun a o ha=>?_⟩
 ·obtain ⟨sl,h5⟩:=un.slot b o h1 h2 h3 h4
  obtain ⟨_,o1,h6,h7⟩:=fr b h3
  rw [h5] at h6
  cases h6
  obtain ⟨sl',h8⟩:=up b _ h5 h7
  exact ⟨sl',h8⟩
 ·obtain ⟨o1,h5⟩:=un.there b o h1 h4
  by_cases hb:b∈fs
  ·obtain ⟨_,o2,h6,h7⟩:=fr b hb
   obtain ⟨sl',h8⟩:=up b _ h6 h7
   exact ⟨_,h8⟩
  ·exact ⟨o1,stay b o1 h5 (.inl ⟨_,h1⟩) hb⟩
 ·refine (hok a o ha).stay (fun b u hb h1=>?_) (fun _ z=>z) (fun _ _ z=>z)
  have ht:H' b≠none:=by
   rcases hb with e|e
   ·rw [e,ha];exact Option.some_ne_none _
   ·rw [e];exact Option.some_ne_none _
  exact stay b u h1 (.inr ht) fun z=>ht (fr b z).1
abbrev Cx.tried(X:Cx)(pn:List (Addr×Obj))(E:Value→Shared→Prop):Cx:={ X with pn:=pn,xe:=E }
abbrev Cx.caught(X:Cx)(ea:Addr):Cx:={ X with A:=X.A.mark (some (.ref ea)),calm:=false,xe:=fun _ _=>False }
section
variable {X:Cx} {pins pins':List (Addr×Obj)} {σ:St} {H:Hp} {s:Shared} {E:Value→Shared→Prop}
theorem Inv.tryIn(I:Inv X pins σ H s)(E:Value→Shared→Prop):Inv (X.tried (X.pn++pins) E) [] σ H s :=
 ⟨⟨I.ok.mod,I.ok.kind,I.ok.glob,I.ok.blt,I.ok.above,I.ok.inj,I.ok.has,I.ok.cab,I.ok.hd,I.ok.frames,I.ok.stk,I.ok.exf,I.ok.bs,I.ok.bsz,I.ok.noex,I.ok.exfs,I.ok.funs,I.ok.frf⟩,I.os,I.bare,I.base,I.loc,I.cell,I.free,I.freeC,fun p hp=>I.pin p (by simpa using hp),I.hok,I.len⟩
theorem Inv.tryOut(I:Inv (X.tried (X.pn++pins) E) pins' σ H s):Inv X pins σ H s :=
 ⟨⟨I.ok.mod,I.ok.kind,I.ok.glob,I.ok.blt,I.ok.above,I.ok.inj,I.ok.has,I.ok.cab,I.ok.hd,I.ok.frames,I.ok.stk,I.ok.exf,I.ok.bs,I.ok.bsz,I.ok.noex,I.ok.exfs,I.ok.funs,I.ok.frf⟩,I.os,I.bare,I.base,I.loc,I.cell,I.free,I.freeC,fun p hp=>I.pin p (List.mem_append_left _ hp),I.hok,I.len⟩
theorem Inv.catch(I:Inv X pins σ H s)(ea:Addr):Inv (X.caught ea) pins σ H s :=
 ⟨⟨I.ok.mod,I.ok.kind,I.ok.glob,I.ok.blt,I.ok.above,I.ok.inj,I.ok.has,I.ok.cab,fun z=>absurd z Bool.false_ne_true,I.ok.frames,I.ok.stk,I.ok.exf,I.ok.bs,I.ok.bsz,I.ok.noex,I.ok.exfs,I.ok.funs,I.ok.frf⟩,I.os,I.bare,I.base,I.loc,I.cell,I.free,I.freeC,I.pin,I.hok,I.len⟩
theorem Inv.uncatch{ea:Addr}(hX:X.A.handled=none)(I:Inv (X.caught ea) pins σ H s):Inv X pins σ H s :=
 ⟨⟨I.ok.mod,I.ok.kind,I.ok.glob,I.ok.blt,I.ok.above,I.ok.inj,I.ok.has,I.ok.cab,fun _=>hX,I.ok.frames,I.ok.stk,I.ok.exf,I.ok.bs,I.ok.bsz,I.ok.noex,I.ok.exfs,I.ok.funs,I.ok.frf⟩,I.os,I.bare,I.base,I.loc,I.cell,I.free,I.freeC,I.pin,I.hok,I.len⟩
end
section
variable {P:Program} {w:World} {K:Frag} {mg:Str→Option Value} {base:Heap}
theorem Fun.okX{x qual:Str}{st:Stmt}{f:Addr}{fd:FuncData}{N ps:List Str}{k:Nat}{sp:Sp}(F:Fun K x qual st f fd)(S:Z3 N ps (Zg st))(len:∀vs H Q E,sp vs H Q E→vs.length=ps.length)
  (hbody:∀(cdv:Value) (A:Around) (outer:List Env) (s:Shared) (H:Hp) (vs:List V) (Q:VK) (E:XK),W8 k (A.deeper (envOfC qual (Zg st) s.heap.objs.size f cdv))→sp vs H Q E →
   WSs (Zck (CXF P w) P w K mg base N qual (Zg st) f cdv A outer s H E) (Zv st) { nx:=fun _ H'=>Q .non H',rt:=Q } (start N vs) H):Yf P w K mg base (CXF P w) (k+1) f fd ps sp:=by
 obtain ⟨oc,od,kV,doc,pm,an,cdv,ct,osl,rfl,lk,hcd⟩:=F.ex
 exact Zr3 lk hcd S len fun A outer s H vs Q E hr hsp=>⟨_,Zy,hbody cdv A outer s H vs Q E hr hsp⟩
end
end L2
end
section
namespace L2
open PySem PySem.Spec PyProof.Rows
theorem Inv.laidAt{X:Cx}{pins:List (Addr×Obj)}{σ:St}{H:Hp}{s:Shared}{h':Heap}{t':Nat}{a:Addr}{o:HO}(I:Inv X pins σ H s)(k:∀b u,s.heap.get? b=some u→h'.get? b=some u)(hn:s.heap.get? a=none)(new:Yu X.prog X.w (upd H a o) h' a o) :
  H a=none∧Inv X pins σ (upd H a o) { s with heap:=h',toks:=t' }:=by
 have hH:H a=none:=by
  cases e:H a with
  | none=>rfl
  | some u =>
   obtain ⟨ob,z⟩:=(I.hok a u e).there
   rw [hn] at z
   cases z
 have ne:∀b u,s.heap.get? b=some u→b≠a:=fun b u e z=>by rw [z,hn] at e;cases e
 refine ⟨hH,I.call' (s':={ s with heap:=h',toks:=t' }) rfl ⟨fun b u e _ _ _=>k b u e,fun b u e _ _ _=>⟨u.slots,k b u e⟩,fun b u e n _=>by rw [Zi (ne b u e)];exact n,fun b u e _=>⟨u,k b u e⟩,fun b xs e=>?_,fun b q u e=>?_,fun b ps e=>⟨#[],?_⟩⟩ (fun b u e=>?_) I.bare (fun b z=>absurd z List.not_mem_nil)⟩
 ·rw [Zi (Zh e hH)];exact e
 ·rw [Zi (Zh e hH)];exact e
 ·rw [Zi (Zh e hH)];simpa using e
 ·by_cases z:b=a
  ·rw [z,Zj] at e
   cases e
   rw [z]
   exact new
  ·rw [Zi z] at e
   exact (I.hok b u e).stay (fun c v _ h=>k c v h) (fun c h=>by rw [Zi (Zh h hH)];exact h) (fun c ys h=>by rw [Zi (Zh h hH)];exact h)
def Zpd(tl:TE):TE:=fun σ H Q=>tl σ H fun x H1=>∃d kvs,x=.ref d∧Rd H1 d (.dK kvs)∧New H1 (.lst (kvs.map fun kv=>kv.2)) Q
theorem Zje:∀{kvs:List (Key×V)} {va:List (Key×Value)},KV kvs va→Yd (kvs.map fun kv=>kv.2) (va.map fun kv=>kv.2)
 | [],_,.nil=>.nil
 | _ ::_,_ ::_,.cons r t=>.cons r.2 (Zje t)
theorem Zln{X:Cx}{apos cpos p' pos':Pos}{o:Expr}{to:TE}(hc:X.calm=true) (hgl:Gl X "list") (hml:X.mg "list" =none) (ho:PE X o to) (hbase:attributeBase o "values" X.env (eval o X.env)=eval o X.env:=by rfl) (hline:(apos.endLine ==cpos.line)=true:=by rfl) :
  PE X (.Call (.Name "list" p') [.Call (.Attribute o "values" apos) [] [] cpos] [] pos') (Zpd to):=by
 intro pins s σ H Q I h
 refine wpAny_Call_Name_kw (Zdf I hgl hml PyProof.Rows.boot_list ?_)
 refine PyProof.Rows.callWith_type1 ?_ rfl rfl
 refine Calls.spliced_cons ?_
 refine wpAny_Call_method0_late hbase hline (thn (ho pins s σ H _ I h) fun v s1 ⟨y,H1,I1,r1,q1⟩=>?_)
 obtain ⟨d,kvs,rfl,hd,q⟩:=q1
 cases r1
 obtain ⟨hz,hs,vs,kv,dd⟩:=Zdl I1.hok hd
 obtain ⟨ob,_,_,hob,hex,_⟩:=id dd
 obtain ⟨ep,hD⟩:=Zfx dd hob
 refine ⟨"dict", "dict.values",PySem.F.plainAttrs_dict,PySem.F.slot_dict_values,PySem.F.type_dict_values,dd.typeIs,fun a e=>?_,Calls.callWith_builtin rfl (PySem.evalArgs_none ?_)⟩
 ·cases e
  exact ⟨ob,hob,hex.2.1⟩
 refine call_meetsIn PySem.F.slot_dict_values dd.typeIs PySem.F.entry_dict_values (PySem.F.args_dict_values_1 _) (meets_dict_values (Ym X.prog X.w) d hs) ⟨⟨vs,dd⟩,?_⟩
 refine Calls.spliced_nil ?_
 have I2:Inv X pins σ H1 { s1 with heap:=s1.heap.push { cls:=.type "dict_values",data:=.fields #[.ref d] } }:=I1.kept (t':=s1.toks) fun b o e=>Heap.get?_push_of_some _ e
 have hl:=KV.length kv
 refine PySem.W.kdl_call (PySem.W.kdl_values (knd:=Ym X.prog X.w) (r:=s1.heap.objs.size) (d:=d) (kvs:=vs) (ep:=ep)) (I2.ok.hd hc) ⟨⟨_,Heap.get?_push_size _ rfl,rfl,rfl⟩,hD _ (Heap.get?_push_of_some _ hob)⟩ (by omega) fun h' tk acc' c' hk hD' hacc=>?_
 have e1:acc'.toList=vs.map (·.2):=PySem.W.kdl_vals_eq acc'.toList (by rw [Array.length_toList];exact hacc.1) fun j v e=>hacc.2 j v (by rw [←Array.getElem?_toList];exact e)
 have hv:Yd (kvs.map fun kv=>kv.2) acc'.toList:=by rw [e1];exact Zje kv
 exact ⟨.ref _,_,I2.laid (o:=.lst _) (t':=tk) hk (Nat.le_refl _) (show Yu X.prog X.w _ h' _ (.lst _) from ⟨by rw [List.length_map];exact hz,acc'.toList,c',hv,by rw [hD']⟩),rfl,q.at _ (I2.hok.fresh (Nat.le_refl _))⟩
end L2
end
section
namespace L2
open PySem PySem.Spec PyProof.Rows Builtin Builtin.ObjectAttr
def Zc1(e C:Addr)(dx:Option Addr):HO:=.ext fun h=>∃o vs,h.get? e=some o∧o.cls=.ref C∧o.dict=dx∧o.data=.fields vs∧vs[2]? =some .none
section
variable {P:Program} {w:World} {H:Hp} {h:Heap} {e C t:Addr} {dx:Option Addr}
theorem Zc1.ok{o:Obj}{vs:Array Value}(x:h.get? e=some o)(a:o.cls=.ref C)(b:o.dict=dx)(c:o.data=.fields vs)(d:vs[2]? =some .none):Yu P w H h e (Zc1 e C dx):=⟨⟨o,vs,x,a,b,c,d⟩,⟨_,x⟩,fun _ _ ⟨o,vs,x,r⟩ k=>⟨o,vs,k _ x,r⟩⟩
theorem Zc1.at(k:HOk P w H h)(q:H e=some (Zc1 e C dx)):∃o vs,h.get? e=some o∧o.cls=.ref C∧o.dict=dx∧o.data=.fields vs:=let ⟨o,vs,a,b,c,d,_⟩:=(k e _ q).1;⟨o,vs,a,b,c,d⟩
theorem Zc1.ctx(k:HOk P w H h)(q:H e=some (Zc1 e C dx)):∃o vs,h.get? e=some o∧o.data=.fields vs∧vs[2]? =some .none:=let ⟨o,vs,a,_,_,d,f⟩:=(k e _ q).1;⟨o,vs,a,d,f⟩
end
section
variable {X:Cx} {pins:List (Addr×Obj)} {σ:St} {H:Hp} {s:Shared}
theorem Inv.track{a:Addr}{o:HO}(I:Inv X pins σ H s)(hn:H a=none)(h0:X.s₀.heap.get? a=none)(hl:a≠X.env.locals)(hc:∀x c,X.env.cells.lookup x=some c→c≠a)(hp:∀p∈X.pn++pins,p.1≠a)
  (new:Yu X.prog X.w (upd H a o) s.heap a o):Inv X pins σ (upd H a o) s:=by
 refine ⟨I.ok,I.os,I.bare,⟨I.base.keep,I.base.slot,fun b u z n hx=>?_,I.base.there,fun b xs z=>?_,fun b ob u z=>?_,fun b ps z=>?_⟩,I.loc,I.cell,?_,fun x c z=>?_,fun p z=>?_,fun b u z=>?_,I.len⟩
 ·rw [Zi fun y=>by rw [y,h0] at z;cases z];exact I.base.free b u z n hx
 ·have q:=I.base.tups b xs z;rw [Zi (Zh q hn)];exact q
 ·have q:=I.base.frzs b ob u z;rw [Zi (Zh q hn)];exact q
 ·obtain ⟨more,q⟩:=I.base.tbls b ps z
  exact ⟨more,by rw [Zi (Zh q hn)];exact q⟩
 ·rw [Zi hl.symm];exact I.free
 ·rw [Zi (hc x c z)];exact I.freeC x c z
 ·obtain ⟨q1,q2,q3⟩:=I.pin p z
  exact ⟨q1,by rw [Zi (hp p z)];exact q2,q3⟩
 ·by_cases y:b=a
  ·subst y;rw [Zj] at z;cases z;exact new
  ·rw [Zi y] at z
   exact (I.hok b u z).stay (fun _ _ _ q=>q) (fun c q=>by rw [Zi (Zh q hn)];exact q) fun c xs q=>by rw [Zi (Zh q hn)];exact q
end
section
variable {X:Cx} {pins:List (Addr×Obj)} {σ:St} {H:Hp} {s:Shared} {e C Y t:Addr} {f:Str} {A:Around} {E:Value→Shared→Prop}
structure XA(K:Frag)(C:Addr):Prop where
 ga:findIn K (.ref C) "__getattribute__" =some (some (.builtin "BaseException.__getattribute__"))
 gt:findIn K (.ref C) "__getattr__" =some none
 be:PySem.W.mroIn K C (.type "BaseException")=some true
end
section
variable {prog:Program} {w:World} {A:Around} {E:Value→Shared→Prop} {s:Shared} {K:Frag} {x C:Addr} {ox:Obj} {od:Option Obj} {name:Str} {tk:Tok}
theorem Zp1:builtinKind "BaseException.__getattribute__" =some .slot:=by decide +kernel
theorem Zm0:splitId "BaseException.__getattribute__" =some ("BaseException", "__getattribute__"):=by decide +kernel
theorem Zor{v:Value}{R:Result→Shared→Prop}(X:K.In s.heap)(I:PySem.W.InstAt s.heap x ox C od)(xa:XA K C){fd:Found}(hf:PySem.W.findObj K C od name=some fd)
  (h:match fd with | .value v=>R (.ok (.ret v)) s | .bind g a=>wpAny (model prog w) A.in1 (call g [a,.ref x,.ref C]) (fun v s'=>R (.ok (.ret v)) s') (fun e s'=>R (.error e) s') s | .missing=>False) :
  codeAny (model prog w) A (.call (.builtin "BaseException.__getattribute__") ⟨[.ref x,.str name tk],[]⟩) R s:=by
 have ty:=I.type (M:=model prog w)
 have sub:PySem.W.Looks (model prog w) s.heap (isInstance (.ref x) (.type "BaseException")) true:=ty.andThen (PySem.W.looks_mroIn X xa.be)
 have fn:=PySem.W.looks_find (M:=model prog w) X I hf
 refine codeAny_call_builtin PySem.F.attr_ValueError.ga.plain PySem.F.entry_bexc_ga (@PySem.W.check_slot (model prog w) _ _ s "BaseException.__getattribute__" "BaseException" "__getattribute__" (.ref x) [.str name tk] [] _ Zp1 Zm0 sub (PySem.F.args_bexc_ga _ _) ?_)
 refine wpAny_bind (wpAny_pure (wpAny_bind (wpAny_pure (wpAny_bind (ty.here (wpAny_bind (fn.here ?_)))))))
 cases fd with
 | value v=>exact wpAny_pure h
 | bind g a =>
  show wpAny _ _ (holding [a] (call g [a,.ref x,.ref C]) >>=ret) _ _ _
  exact wpAny_bind (wpAny_holding (wpAny_mono h (fun v s' z=>wpAny_pure z) fun _ _ z=>z))
 | missing=>exact h.elim
theorem Zsj{fill expr:Bool}{Q:Value→Shared→Prop}(X:K.In s.heap)(I:PySem.W.InstAt s.heap x ox C od)(xa:XA K C)
  (h:codeAny (model prog w) A (.call (.builtin "BaseException.__getattribute__") ⟨[.ref x,.str name tk],[]⟩) (fun r s'=>match r with | .ok (.ret v)=>wpAny (model prog w) A (handedOut v) Q E s' | _=>False) s) :
  wpAny (model prog w) A (getAttrBy (.ref x) (.str name tk) fill expr) Q E s:=by
 have ty:=I.type (M:=model prog w)
 have lg:=PySem.W.looks_findIn (M:=model prog w) X xa.ga
 have lt:=PySem.W.looks_findIn (M:=model prog w) X xa.gt
 unfold getAttrBy
 refine wpAny_holding (wpAny_bind (ty.here (wpAny_bind (lg.here ?_))))
 show wpAny _ _ (getAttrByItsOwn (.ref x) (.str name tk) (.ref C) (.builtin "BaseException.__getattribute__") fill expr) _ _ _
 unfold getAttrByItsOwn
 refine wpAny_bind (lt.here (wpAny_bind (wpAny_attempt (wpAny_holding ?_))))
 have he:(expr && onTheHeap (Value.builtin "BaseException.__getattribute__"))=false:=by cases expr <;>rfl
 unfold callGetattribute
 rw [he]
 simp only [Bool.false_eq_true,if_false]
 unfold boundAndCalled
 rw [PySem.F.attr_ValueError.ga.bind]
 refine wpAny_bind (wpAny_pure (wpAny_call (codeAny_mono h fun r s' z=>?_)))
 rcases r with e|(v|_|_|_) <;>first|exact z|exact z.elim
theorem Zqd(xa:XA K C)(hc:(PySem.W.clsIn K C).isSome=true) (ha:findIn K (.ref C) "__class__" =some (some (.builtin "object.__class__"))) (hn:PySem.W.specialIn K (.builtin "object.__class__") "__get__" =some (some (.builtin "getset_descriptor.__get__")))
  (htk:PySem.W.takesIn K (.builtin "object.__class__")=some true) (hm:PySem.W.mroIn K C (.type "object")=some true):PySem.W.KitX K (.ref x) (.ref C) (fun h=>PySem.W.InstAt h x ox C od) where
 ty:=fun _ _ _ I=>I.type
 it:=fun _ _ X _=>by
  unfold PySem.W.clsIn at hc
  split at hc
  ·rename_i c' d' cd' sl' ho
   intro A' Q' E' s' k q
   unfold isType loadHead
   exact wpAny_bind (wpAny_loadPart (k _ _ (X _ _ ho)) (wpAny_pure q))
  ·cases hc
 ne:=fun h tp dd its n sl X htp=>by
  refine Bool.eq_false_iff.mpr fun q=>?_
  have e:C=tp:=Value.ref.inj (beq_iff_eq.mp q)
  subst e
  unfold PySem.W.clsIn at hc
  split at hc
  ·rename_i c' d' cd' sl' ho
   have z:=(X _ _ ho).symm.trans htp
   cases z
  ·cases hc
 ca:=fun {prog w A E Q s} X I k=>by
  have hf:PySem.W.findObj K C od "__class__" =some (.bind (.builtin "getset_descriptor.__get__") (.builtin "object.__class__")):=by
   obtain ⟨cd,hcd⟩:=Option.isSome_iff_exists.mp hc
   unfold PySem.W.findObj
   rw [hcd,Option.bind_some,ha]
   simp [hn,htk]
  unfold getAttr? getAttrBy?
  refine wpAny_bind (wpAny_mkText (wpAny_bind (wpAny_attempt (Zsj (s:={ s with toks:=s.toks+1 }) X I xa (Zor (s:={ s with toks:=s.toks+1 }) (v:=.none) X I xa hf ?_)))))
  exact wpAny_call (PySem.W.class_get (s:={ s with toks:=s.toks+1 }) (ox:=ox) (od:=od) X I hm (wpAny_pure (wpAny_pure k)))
end
section
variable {X:Cx} {f:Str}
end
end L2
end
section
namespace L2
open PySem PySem.Spec PyProof.Rows
section
variable {prog:Program} {w:World} {A:Around} {E:Value→Shared→Prop} {h:Heap} {g:Array GenState} {d:Drawn} {tk:Nat} {os:OsState} {nm qn:Str} {C N:Addr} {bs bm bmB:List Value} {hdct:Bool} {sn:List Str} {sub:List Value} {ab:Bool} {col:Option Bool} {dd:Option Addr} {k0 k1 k2 k3 k5:Option Value} {B newId initId:String}
 {rest:List Value} {fI:Addr} {oI:Obj}
end
section
variable {M:Model} {A:Around} {E:Value→Shared→Prop} {s:Shared} {env:Env} {nm qn:Str} {C N:Addr} {bs bm:List Value} {hdct:Bool} {sn:List Str} {sub:List Value} {ab:Bool} {col:Option Bool} {dd:Option Addr} {k0 k1 k2 k3 k5:Option Value} {newId:String}
end
section
variable {P:Program} {w:World} {K:Frag} {mg:Str→Option Value} {base:Heap} {N:List Str} {qual:Str} {scope:Scope} {f:Addr} {cd:Value} {A:Around} {outer:List Env} {s₀:Shared} {H₀:Hp} {E:XK}
end
section
variable {K:Frag} {M:Model} {A:Around} {E:Value→Shared→Prop} {s:Shared} {e C B:Addr} {o:Obj} {r:Bool}
theorem Zkz{Q:Bool→Shared→Prop}(X:K.In s.heap)(he:s.heap.get? e=some o)(hc:o.cls=.ref C) (kB:PySem.W.kitCls K (.ref B) (.type "BaseException")=some true) (kC:PySem.W.kitCls K (.ref C) (.ref B)=some r) (hq:Q r s) :
  wpAny M A (excMatches (.ref e) (.ref B)) Q E s:=by
 obtain ⟨tB,iB,sB⟩:=PySem.W.kit_cls (M:=M) X kC
 obtain ⟨_,_,bB⟩:=PySem.W.kit_cls (M:=M) X kB
 have ty:PySem.W.Looks M s.heap (typeOf (.ref e)) (.ref C):=hc ▸ (PySem.W.Looks.ld he).andThen .now
 have f:=tc_notTuple
 unfold excMatches isExcClass
 repeat (first | with_reducible refine ty.here ?_ | with_reducible refine tB.here ?_ | with_reducible refine iB.here ?_ | with_reducible refine sB.here ?_ | with_reducible refine bB.here ?_ | wp_step)
 cases r with
 | true=>repeat (first | exact hq | wp_step)
 | false=>repeat (first | exact hq | wp_step)
end
def Zdc.blur(D:Zdc)(n:Nat):Zdc:={ nx:=fun _ H=>D.nx (List.replicate n none) H,rt:=D.rt,bk:=fun _ H=>D.bk (List.replicate n none) H,ct:=fun _ H=>D.ct (List.replicate n none) H }
section
variable {X:Cx} {σ:St} {H:Hp}
end
structure XG(K:Frag)(C:Addr):Prop where
 xa:XA K C
 hc:(PySem.W.clsIn K C).isSome=true
 cl:findIn K (.ref C) "__class__" =some (some (.builtin "object.__class__"))
 cg:PySem.W.specialIn K (.builtin "object.__class__") "__get__" =some (some (.builtin "getset_descriptor.__get__"))
 ct:PySem.W.takesIn K (.builtin "object.__class__")=some true
 ob:PySem.W.mroIn K C (.type "object")=some true
theorem Zky:∀{cs:List Addr} {its:List Value},Yd (cs.map V.ref) its→its=cs.map Value.ref
 | [],_,.nil=>rfl
 | c ::cs,_,.cons r t=>by
  rw [Zky t]
  cases r
  rfl
end L2
end
section
namespace L2
open PySem PySem.Spec PyProof.Rows
theorem Zkd:typeLookup (.type "list") "keys" =pure none:=by rw [typeLookup_type,builtinLookup_eq_fast];kernel_rfl
theorem Zgq:typeLookup (.type "list") "__getattr__" =pure none:=by rw [typeLookup_type,builtinLookup_eq_fast];kernel_rfl
theorem Zna:isSubtype (.type "AttributeError") (.type "AttributeError")=pure true:=by rw [isSubtype_type];kernel_rfl
section
variable {prog:Program} {w:World} {A:Around} {E:Value→Shared→Prop} {h:Heap} {g:Array GenState} {d:Drawn} {t:Nat} {os:OsState} {a:Addr} {vs:Array Value} {n:Nat}
theorem Zs7{β:Type}{msg:Str}{Q:β→Shared→Prop}(hh:A.handled=none)(hm:msg.length≤sizeLine)
  (hq:∀h' e tk',(∀b u,h.get? b=some u→h'.get? b=some u)→(∃oe,h'.get? e=some oe∧oe.cls=.type "AttributeError")→E (.ref e) ⟨h',g,d,tk',os⟩) :
  wpAny (model prog w) A (raiseAttrError (.ref a) "keys" msg:Sem β) Q E ⟨h,g,d,t,os⟩:=by
 have f5:=Zna
 have hm':¬msg.length >sizeLine:=by omega
 unfold raiseAttrError newExc
 repeat (any_goals (first | assumption | rw [if_neg hm'] | wp_step))
 generalize hoX:({ cls:=Value.type "AttributeError",data:=Data.fields (#[Value.ref h.objs.size,Value.none,Value.none,Value.none,Value.bool false,if ((Manifest.find? "AttributeError").elim false fun t=>t.mro.contains "StopIteration" || t.mro.contains "SystemExit")=true then [Value.str msg t].headD Value.none else Value.none]++ownMembersOf (Value.type "AttributeError") [Value.str msg t]) }:Obj)=oX
 have hcX:oX.cls=.type "AttributeError" :=by rw [←hoX]
 have hdX:∃ws,oX.data=.fields ws:=⟨_,by rw [←hoX]⟩
 obtain ⟨ws,hdX⟩:=hdX
 have hX:((h.push { cls:=Value.type "tuple",data:=Data.seq #[Value.str msg t] }).push oX).get? (h.push { cls:=Value.type "tuple",data:=Data.seq #[Value.str msg t] }).objs.size=some oX:=Heap.get?_push_size _ (Obj.isFreed_of_fields hdX)
 refine wpAny_raiseNew_none hh (hq _ _ _ (fun b u hb=>?_) ⟨_,Heap.get?_update_self _ hX (Obj.isFreed_of_fields (Obj.data_mapFields hdX _)),by rw [Obj.cls_mapFields];exact hcX⟩)
 rw [Heap.get?_update_other _ _ (by rw [Heap.size_push];exact Nat.ne_of_gt (Nat.lt_succ_of_lt (Heap.lt_size hb)))]
 exact Heap.get?_push_of_some _ (Heap.get?_push_of_some _ hb)
theorem Znj{tk:Tok}{Q:Fin→Shared→Prop}(hh:A.handled=none) (hx:h.get? a=some { cls:=.type "list",data:=.seq vs n })
  (hq:∀h' e tk',(∀b u,h.get? b=some u→h'.get? b=some u)→(∃oe,h'.get? e=some oe∧oe.cls=.type "AttributeError")→E (.ref e) ⟨h',g,d,tk',os⟩) :
  wpAny (model prog w) A (Builtin.«object.__getattribute__» ⟨[.ref a,.str "keys" tk],[]⟩) Q E ⟨h,g,d,t,os⟩:=by
 have hT:(⟨h,g,d,t,os⟩:Shared).TypeIs (.ref a) "list" :=⟨_,hx,rfl⟩
 have f4:=Zkd
 have f5:=Zna
 repeat (any_goals (first | assumption | wp_step))
 exact Zs7 hh (by decide +kernel) hq
theorem Zqb{Q:Option Value→Shared→Prop}(hh:A.handled=none) (hx:h.get? a=some { cls:=.type "list",data:=.seq vs n })
  (hq:∀h' tk',(∀b u,h.get? b=some u→h'.get? b=some u)→Q none ⟨h',g,d,tk',os⟩):wpAny (model prog w) A (getAttr? (.ref a) "keys") Q E ⟨h,g,d,t,os⟩:=by
 have hT:(⟨h,g,d,t,os⟩:Shared).TypeIs (.ref a) "list" :=⟨_,hx,rfl⟩
 have f2:=F.slot_list_getattribute.lookup
 have f3:=F.slot_list_getattribute.bind (.ref a)
 have f5:=Zna
 have f6:=Zgq
 unfold getAttr? getAttrBy?
 repeat (any_goals (first | assumption | wp_step))
 refine codeAny_call_builtin F.slot_list_getattribute.plain F.entry_list_ga (F.slot_list_getattribute.check _ _ _ _ _ _ _ _ (show (⟨h,g,d,t+1,os⟩:Shared).TypeIs (.ref a) "list" from ⟨_,hx,rfl⟩) (F.args_list_getattribute_2 _ _) (Znj hh hx fun h' e tk' kp ⟨oe,he,hc⟩=>?_))
 have hTe:(⟨h',g,d,tk',os⟩:Shared).TypeIs (.ref e) "AttributeError" :=⟨_,he,hc⟩
 have hq':=hq h' tk' kp
 unfold getattributeRaised
 repeat (any_goals (first | assumption | wp_step))
 all_goals trace_state
end
theorem Zi6:entryFor table "dict.update.loop" =some Builtin.«dict.update.loop» :=entryFor_of_tree (by kernel_rfl)
section
variable {prog:Program} {w:World} {KT:Type} [DecidableEq KT] {knd:KeyKind prog w KT} {A:Around} {R:Result→Shared→Prop} {l d it:Addr} {tps:List Addr} {prs D0:List (KT×Value)} {h₀:Heap}
end
end L2
namespace L2
open PySem PySem.Spec PyProof.Rows
theorem Zgw:bootBuiltins "ValueError" =some (.type "ValueError"):=by decide +kernel
theorem Zie{d:Addr}{o:Obj}{kvs:List (Key×V)}{fr:St→St}{g:TG}{tf:TT}{te:TE}{Q:VK}{σ:St}{H1:Hp}{D:Addr}(Pv:Nat→List V→Hp→Prop)(h0:Pv 0 [] (upd H1 D (.lst [])))(hl:∀i ys H,i≤kvs.length→Pv i ys H→H d=some (.frz o (.dK kvs)))
  (hs:∀i kv ys H,kvs[i]? =some kv→Pv i ys H→∀p H2,Same H H2→H p=none→H2 p=some (.tup [kV kv.1,kv.2])→Zcb fr g tf te σ D (.ref p) ys H2 (Pv (i+1))) (hd:∀ys H,Pv kvs.length ys H→Q (.ref D) H):Zc9 (Iti d o kvs) fr g tf te Q σ H1 D:=by
 refine ⟨fun i m ys H=>m=kvs.length-i∧i≤kvs.length∧Pv i ys H,⟨kvs.length,by simp,Nat.zero_le _,h0⟩,?_⟩
 rintro i m ys H ⟨rfl,hi,p⟩
 have q:=hl i ys H hi p
 by_cases hlt:i<kvs.length
 ·refine .inr ⟨⟨q,hlt⟩,Pv (i+1),fun ys' H' p'=>⟨kvs.length-(i+1),by omega,rfl,hlt,p'⟩,fun x H' y=>?_⟩
  obtain ⟨a,kv,e,hn,hkv,e2⟩:=y
  subst e e2
  exact hs i kv ys H hkv p a _ (Same.new hn) hn Zj
 ·have e:i=kvs.length:=by omega
  subst e
  exact .inl ⟨⟨q,Nat.le_refl _⟩,hd ys H p⟩
theorem Zmu{K:Frag}{t c:Value}{b:Bool}(h:kitOne K t c=some b)(n:(t ==c)=false):PySem.W.kitCls K t c=some b:=by
 unfold kitOne at h
 rw [if_neg (by rw [n];exact Bool.false_ne_true)] at h
 exact h
end L2
end
section
namespace L2
open PySem
end L2
end
section
namespace L2
open PySem PyProof.Rows
theorem Zjb{P:Program}{w:World}{A:Around}{E:Value→Shared→Prop}{it l:Addr}{its:Array Value}(hh:A.handled=none)(hne:l≠it):∀(n i:Nat) (s:Shared) (Q:List Value→Shared→Prop),(s.heap.IsListIter it l i∧s.heap.IsList l its)→i+n≤its.size →
  (∀h' tk,(h'.IsListIter it l (i+n)∧h'.IsList l its)→(∀b o,b∉[it]→s.heap.get? b=some o→h'.get? b=some o)→Q ((its.toList.drop i).take n) { s with heap:=h',toks:=tk })→wpAny (model P w) A (draw (.ref it) n) Q E s
 | 0,i,s,Q,hst,_,hQ=>by
  show wpAny _ _ (pure []) Q E s
  exact wpAny_pure (by simpa using hQ s.heap s.toks hst fun _ _ _ e=>e)
 | n+1,i,s,Q,hst,hle,hQ=>by
  have hlt:i<its.size:=by omega
  show wpAny _ _ (pyNext (.ref it) >>=_) Q E s
  refine wpAny_bind ((Walks.list (prog:=P) (w:=w) hh it l hne its).item i s _ _ hlt hst fun v h1 tk1 hv hst1 hk1=>?_)
  refine wpAny_bind (wpAny_holding (Zjb hh hne n (i+1) _ _ hst1 (by omega) fun h2 tk2 hst2 hk2=>wpAny_pure ?_))
  have hd:its.toList.drop i=its[i] ::its.toList.drop (i+1):=by simp [List.drop_eq_getElem_cons,hlt]
  have ev:v=its[i]:=by rw [Array.getElem?_eq_getElem hlt] at hv;exact (Option.some.inj hv).symm
  have:=hQ h2 tk2 (by rw [show i+(n+1)=i+1+n by omega];exact hst2) fun b o hb e=>hk2 b o hb (hk1 b o hb e)
  rw [hd,List.take_succ_cons,←ev] at this
  exact this
theorem Zl2{P:Program}{w:World}{A:Around}{E:Value→Shared→Prop}{s:Shared}{l:Addr}{its:Array Value}{targets:List (Bool×(Value→Sem Unit))}{Q:Unit→Shared→Prop}(hh:A.handled=none)(hl:s.heap.IsList l its)
  (hn:targets.length=its.size) (hstar:targets.findIdx? (·.1)=none)
  (h:∀h' tk,(∀b o,s.heap.get? b=some o→h'.get? b=some o)→wpAny (model P w) A (assignInOrder (targets.map (·.2)) its.toList) Q E { s with heap:=h',toks:=tk }) :
  wpAny (model P w) A (unpack (.ref l) targets) Q E s:=by
 have hlt:l<s.heap.objs.size:=by obtain ⟨o,ho,_⟩:=hl;exact Heap.lt_size ho
 have ty:s.TypeIs (.ref l) "list" :=by obtain ⟨o,ho,hc,_⟩:=hl;exact ⟨o,ho,hc⟩
 unfold unpack
 rw [hn,hstar]
 refine wpAny_bind (wpAny_holding ?_)
 unfold unpackItems
 refine wpAny_bind ?_
 unfold notIterableAtAll
 refine wpAny_bind (wpAny_specialOf ty F.slot_list_iter.lookup ?_)
 refine wpAny_pure ?_
 simp only [Bool.false_eq_true,if_false]
 refine wpAny_bind (wpAny_holding (wpAny_pyIter_list hl ?_))
 have hne:l≠s.heap.objs.size:=Nat.ne_of_lt hlt
 refine wpAny_bind (wpAny_holding (Zjb hh hne its.size 0 _ _ ⟨⟨_,Heap.get?_push_size _ rfl,rfl,rfl⟩,hl.push _⟩ (by omega) fun h1 tk1 hst1 hk1=>?_))
 have hall:List.take its.size (List.drop 0 its.toList)=its.toList:=by
  rw [List.drop_zero];exact List.take_of_length_le (by simp)
 rw [hall]
 rw [if_neg (by simp)]
 rw [Nat.zero_add] at hst1
 refine wpAny_bind (wpAny_holding ((Walks.list (prog:=P) (w:=w) hh s.heap.objs.size l hne its).done _ _ _ hst1 fun h2 tk2 hk2=>?_))
 simp only [Option.isSome_none,Bool.false_eq_true,if_false]
 refine wpAny_pure (h h2 tk2 fun b o e=>?_)
 have hb:b∉[s.heap.objs.size]:=fun z=>by
  have z':b=s.heap.objs.size:=by simpa using z
  rw [z'] at e
  exact Nat.lt_irrefl _ (Heap.lt_size e)
 exact hk2 b o hb (hk1 b o hb (Heap.get?_push_of_some _ e))
def Zyi(K:Frag)(n:Nat)(t:TGs):TG:=fun v σ H Q=>∃a xs,v=.ref a∧SqL K H a xs∧xs.length=n∧t xs σ H Q
theorem Zuv{X:Cx}{pos:Pos}{es:List Expr}{k:Nat}{t:TGs}{n:Nat}(hc:X.calm=true)(h:PGs X es t)
  (hn:(assignEach es X.env).length=n:=by rfl) (hst:(assignEach es X.env).findIdx? (·.1)=none:=by rfl):PG X (.Tuple es k pos) (Zyi X.K n t):=by
 intro pins s σ H v u Q I r hw
 obtain ⟨a,xs,e1,hq,hl,hw⟩:=hw
 subst e1
 cases r
 obtain ⟨its,rv,ht,hz⟩:=I.list hq
 rw [assign_Tuple]
 refine wpAny_bind (wpAny_standAt (Zl2 (I.ok.hd hc) ht.isList (by simp [hn,←hl,rv.length]) hst fun h' tk hx=>?_))
 have I1:Inv X pins σ H { s with heap:=h',toks:=tk }:=I.kept (t':=tk) fun b o e=>hx b o e
 exact h pins _ σ H xs _ Q I1 (by simpa using rv) hw
def Zrb(ns:List Int):Int:=ns.foldl (· + ·) 0
theorem Zgd(ns:List Int):∀j,preSum (fun i=>ns.getD i 0) j=Zrb (ns.take j)∨ns.length<j
 | 0=>.inl rfl
 | j+1=>by
  by_cases h:ns.length<j+1
  ·exact .inr h
  ·refine .inl ?_
   rcases Zgd ns j with e|e
   ·have hj:j<ns.length:=by omega
    rw [preSum,e,List.take_add_one,List.getElem?_eq_getElem hj]
    unfold Zrb
    rw [List.foldl_append,List.getD_eq_getElem?_getD,List.getElem?_eq_getElem hj]
    rfl
   ·omega
theorem Zq0{X:Cx}(hc:X.calm=true):Xs X (.builtin "sum") (fun xs H Q=>∃(p:Addr) (ns:List Int),xs=[.ref p]∧SqL X.K H p (ns.map V.int)∧Q (.int (Zrb ns)) H):=by
 intro pins s σ H xs us Q I r h
 obtain ⟨p,ns,rfl,hq,q⟩:=h
 obtain ⟨u,rfl,ru⟩:=Zcq r
 cases ru
 obtain ⟨its,rv,pl,hz⟩:=I.list hq
 have hlt:p<s.heap.objs.size:=by obtain ⟨_,_,e,_⟩:=pl;exact Heap.lt_size e
 refine call_sum_walkG (wpAny_pyIter_list pl.isList ?_)
 refine ⟨s.heap.objs.size,_,_,its.toArray.size,_,_,fun i=>ns.getD i 0,rfl,Walks.list (A:=X.A.in1) (show X.A.in1.handled=none from I.ok.hd hc) s.heap.objs.size p (Nat.ne_of_lt hlt) its.toArray,⟨⟨_,Heap.get?_push_size _ rfl,rfl,rfl⟩,pl.isList.push _⟩,?_,?_,fun h' tk t' k=>?_⟩
 ·intro b hb
  have:=Heap.size_push s.heap { cls:=.type "list_iterator",data:=.fields #[.ref p,.int 0 0] }
  have hb':b=s.heap.objs.size∨b=p:=by simpa using hb
  show b<(s.heap.push _).objs.size
  rw [this]
  rcases hb' with rfl|rfl
  ·exact Nat.lt_succ_self _
  ·exact Nat.lt_succ_of_lt hlt
 ·intro i v hv
  obtain ⟨x,hx,rx⟩:=Paired.get' rv (i:=i) (b:=v) (by simpa using hv)
  rw [List.getElem?_map] at hx
  obtain ⟨n,hn,rfl⟩:=Option.map_eq_some_iff.mp hx
  obtain ⟨t,rfl⟩:=rx
  exact ⟨t,by show Value.int n t=Value.int (ns.getD i 0) t;rw [List.getD_eq_getElem?_getD,hn];rfl⟩
 ·have hl:=rv.length
  rw [List.length_map] at hl
  refine ⟨.int (Zrb ns),H,?_,?_,q⟩
  ·refine I.kept (t':=tk) fun b o e=>k b o ?_ (Heap.get?_push_of_some _ e)
   have:=Heap.lt_size e
   intro z
   have z':b=s.heap.objs.size:=by simpa using z
   rw [z'] at this
   exact Nat.lt_irrefl _ this
  ·refine ⟨t',?_⟩
   rw [List.size_toArray,←hl]
   rcases Zgd ns ns.length with e|e
   ·rw [e,List.take_length]
   ·omega
def Ze4(x:Str)(n:Nat):Str:=⟨(List.replicate n x.cps).foldl (· ++ ·) #[]⟩
def Zxh:R2:=fun x y H Q=>∃(z:Str) (n:Nat),x=.str z∧y=.int n∧z.length * n≤1000∧n≤1000∧Q (.str (Ze4 z n)) H
theorem Zte{X:Cx}:OpR X (binaryOp .Mult) Zxh:=by
 intro pins s σ H x y v u Q I rx ry h
 obtain ⟨z,n,rfl,rfl,hz,hn,q⟩:=h
 obtain ⟨t,rfl⟩:=rx
 obtain ⟨t',rfl⟩:=ry
 refine PySem.P.mul_str ?_ ?_ ?_ ?_
 ·rw [decide_eq_false (by omega),decide_eq_false (by omega)];rfl
 ·intro h1 h2 h3
  have:((2:Int) ^ 63-1) / (n:Int) ≥ 1000:=by
   rw [ge_iff_le,Int.le_ediv_iff_mul_le (by omega)]
   omega
  have hz1:z.length≤z.length * n:=Nat.le_mul_of_pos_right _ (by omega)
  omega
 ·intro h1 h2
  show decide (z.length * (n:Int).toNat >sizeLine)=false
  rw [decide_eq_false]
  have:=sz (n:=z.length * n) hz
  rw [Int.toNat_natCast]
  omega
 ·by_cases h0:n=0
  ·subst h0
   rw [if_pos (by decide)]
   exact ⟨by decide,.str (Ze4 z 0),H,I.kept fun b o e=>e,⟨_,rfl⟩,q⟩
  ·rw [if_neg (by omega)]
   by_cases h1:((n:Int) ==1 || z.length ==0)=true
   ·rw [if_pos h1]
    refine ⟨.str (Ze4 z n),H,I,⟨t,?_⟩,q⟩
    have:Ze4 z n=z:=by
     rw [Bool.or_eq_true,beq_iff_eq,beq_iff_eq] at h1
     rcases h1 with e|e
     ·have e:n=1:=by omega
      subst e
      unfold Ze4
      simp
     ·have e:z.cps=#[]:=Array.eq_empty_of_size_eq_zero e
      have:∀m,(List.replicate m (#[]:Array Nat)).foldl (· ++ ·) #[]=#[]:=fun m=>by
       induction m with
       | zero=>rfl
       | succ m ih=>rw [List.replicate_succ,List.foldl_cons];simpa using ih
      unfold Ze4
      rw [e,this n]
      cases z
      simp at e
      rw [e]
    rw [this]
   ·rw [if_neg h1,Int.toNat_natCast]
    refine ⟨?_,.str (Ze4 z n),H,I.kept fun b o e=>e,⟨_,rfl⟩,q⟩
    exact fits_reps (by show decide (_ >sizeLine)=false;rw [decide_eq_false];have:=sz (n:=z.length * n) hz;omega)
def Zyj(K:Frag)(te:TE)(ts:TO):TE:=fun σ H Q=>te σ H fun x H1=>ts σ H1 fun k H2=>∃a xs,k=some (-1)∧x=.ref a∧SqL K H2 a xs∧New H2 (.lst xs.reverse) Q
theorem Yd.rev{xs:List V}{us:List Value}(h:Yd xs us):Yd xs.reverse us.reverse:=by
 induction h with
 | nil=>exact .nil
 | cons r _ ih=>rw [List.reverse_cons,List.reverse_cons];exact Paired.append ih (.cons r .nil)
theorem Zvs{X:Cx}{e st:Expr}{te:TE}{ts:TO}{p2 pos:Pos}{ops:Value→Value→List Value}(he:PE X e te)(hst:PO X (some st) ts)(hs:∀l r,subscripted (.Slice none none (some st) p2) false l r=operate (ops l r) (getItem l r)):PE X (.Subscript e (.Slice none none (some st) p2) pos) (Zyj X.K te ts):=by
 intro pins s σ H Q I h
 refine Subscript_ (thn (he pins s σ H _ I h) fun v s1 ⟨x,H1,I1,r1,q1⟩=>?_)
 refine wpAny_Slice ?_
 rw [evalPart_none]
 refine wpAny_pure ?_
 refine wpAny_pure ?_
 refine thn (hst pins s1 σ H1 _ I1 q1) fun vk s3 ⟨k,H3,I3,pk,a,xs,hk,hx,hq,q⟩=>?_
 subst hk hx
 cases r1
 have I4:Inv X pins σ H3 { s3 with heap:=s3.heap.push { cls:=.type "slice",data:=.fields #[.none,.none,vk] } }:=I3.kept (t':=s3.toks) fun b ob q=>Heap.get?_push_of_some _ q
 obtain ⟨its,r,ht,hz⟩:=I4.list hq
 show wpAny (model X.prog X.w) X.A (subscriptTail e (.Slice none none (some st) p2) (.ref a) (.ref s3.heap.objs.size)) (EP X pins σ Q) X.xe { s3 with heap:=s3.heap.push { cls:=.type "slice",data:=.fields #[.none,.none,vk] } }
 refine tail_any (ops:=ops (.ref a) (.ref s3.heap.objs.size)) ht.isList.typeIs slot_list_getitem.lookup ?_ (hs _ _)
 refine wpAny_getItem_list_slice ht.isList (Heap.IsSliceOf.new ..) .none .none pk (by simp) ?_ (by rw [List.size_toArray,←r.length];exact hz)
 rw [PySem.W.krv_pick]
 refine ⟨.ref _,_,I4.laid (t':=s3.toks) (o:=.lst xs.reverse) (fun b ob q=>Heap.get?_push_of_some _ q) (Nat.le_refl _) ?_,rfl,q.at _ (I4.hok.fresh (Nat.le_refl _))⟩
 exact ⟨by rw [List.length_reverse];exact hz,_,0,Yd.rev r,Heap.get?_push_size _ rfl⟩
end L2
end
section
namespace L2
open PySem PySem.Spec PyProof.Rows
section
variable {prog:Program} {w:World} {KT:Type} [DecidableEq KT] {knd:KeyKind prog w KT} {A:Around} {l d:Addr} {tps:List Addr} {prs D0:List (KT×Value)} {s:Shared} {Q:Value→Shared→Prop} {E:Value→Shared→Prop} {n:Nat}
end
section
variable {X:Cx} {o e:Expr} {apos cpos:Pos} {td ty:TE}
end
end L2
namespace L2
open PySem PySem.Spec PyProof.Rows
section
variable {X:Cx} {pins:List (Addr×Obj)} {σ:St} {H:Hp} {s:Shared} {Q:Value→Shared→Prop} {la:Arguments} {lb:Expr} {ls:Scope} {lp:Pos} {c Pt:Addr} {clos:List (Str×Addr)}
end
section
variable {X:Cx} {pins:List (Addr×Obj)} {σ:St} {H:Hp} {s:Shared} {Q:VK}
end
section
variable {P:Program} {w:World} {K:Frag} {mg:Str→Option Value} {base:Heap}
end
def offL(H:Hp)(cells:List (Str×Addr)):Hp:=fun b=>if b∈cells.map Prod.snd then none else H b
section
variable {P:Program} {w:World} {K:Frag} {mg:Str→Option Value} {base:Heap}
end
end L2
namespace L2
open PySem PySem.Spec PyProof.Rows
end L2
end
section
namespace L2
open PySem PySem.Spec PyProof.Rows
end L2
end
section
namespace L2
open PySem PySem.Spec PyProof.Rows
section
variable {X:Cx} {σ:St} {H:Hp}
end
def Zbn(K:Frag):List V→Hp→VK→Prop:=fun xs H Q=>∃e C c b,xs=[.ref e,c]∧H e=some (Zc1 e C none)∧XG K C∧((∃n,c=.ty n∧kitOne K (.ref C) (.type n)=some b)∨(∃a,c=.ref a∧kitOne K (.ref C) (.ref a)=some b))∧Q (.bl b) H
theorem Y5{X:Cx}:Xs X (.builtin "isinstance") (Zbn X.K):=by
 intro pins s σ H xs us Q I r h
 obtain ⟨e,C,c,b,rfl,he,g,k,q⟩:=h
 obtain ⟨u,w',rfl,rx,rw'⟩:=Zlm r
 obtain rfl:u=Value.ref e:=rx
 obtain ⟨o,vs,ho,oc,od,odt⟩:=Zc1.at I.hok he
 have J:PySem.W.InstAt s.heap e o C none:=⟨ho,oc,by unfold PySem.W.notCls;rw [odt],by rw [od];trivial⟩
 have Z:PySem.W.KitX X.K (.ref e) (.ref C) (fun h=>PySem.W.InstAt h e o C none):=Zqd g.xa g.hc g.cl g.cg g.ct g.ob
 rcases k with ⟨n',rfl,k⟩|⟨a,rfl,k⟩
 ·cases rw'
  exact PySem.W.kia_one Z I.kIn J k (fun z=>nomatch z) fun tk=>⟨.bl b,H,I.tok tk,rfl,q⟩
 ·cases rw'
  exact PySem.W.kia_one Z I.kIn J k (fun z=>nomatch z) fun tk=>⟨.bl b,H,I.tok tk,rfl,q⟩
def Zs6:V→List V→Hp→VK→Prop:=fun x vs H Q=>∃(l:Addr) (bs:List Bool) (b:Bool),x=.ref l∧vs=[.bl b]∧H l=some (.lst (bs.map V.bl))∧Q (.int (bs.countP (fun c=>c ==b):Nat)) H
theorem Zqv:∀{bs:List Bool} {us:List Value},Yd (bs.map V.bl) us→us=bs.map Value.bool
 | [],_,.nil=>rfl
 | b ::bs,_,.cons r t=>by
  rw [Zqv t]
  cases r
  rfl
def isB(b:Bool):Value→Bool
 | .bool c=>c ==b
 | _=>false
theorem Zpr{X:Cx}:MtR X "list.count" Zs6:=by
 intro pins s σ H x vs v us Q I rx rv h
 obtain ⟨l,bs,b,rfl,rfl,hH,q⟩:=h
 cases rx
 obtain ⟨u,rfl,ru⟩:=rv.one
 cases ru
 obtain ⟨z,its,n,r,hl,e⟩:=I.lstM hH
 obtain rfl:=Zqv r
 refine call_meets F.slot_list_count ⟨_,e,rfl⟩ F.entry_list_count (F.args_list_count_2 _ _) (SeqAt.list_countAt l _ n _ _ (.bool b) (isB b)) ⟨e,fun y hy=>?_,?_⟩
 ·have hy:y∈bs.map Value.bool:=by simpa using hy
  obtain ⟨c,_,rfl⟩:=List.mem_map.mp hy
  exact SeqAt.EqAt.bool_bool c b
 ·refine ⟨.int _,H,I.tok _,⟨_,rfl⟩,?_⟩
  have:List.countP (isB b) (bs.map Value.bool).toArray.toList=bs.countP (fun c=>c ==b):=by
   rw [List.toList_toArray,List.countP_map]
   rfl
  rw [this]
  exact q
theorem Zg5{X:Cx}{x v:Str}{pos:Pos}(hg:Gl X x)(h:∃tk,X.mg x=some (.str v tk)) (hd:(x ==("__debug__" :Str))=false:=by decide):PE X (.Name x pos) (tC (.str v)):=by
 obtain ⟨tk,h⟩:=h
 exact Xu hg h ⟨tk,rfl⟩ hd
end L2
end
section
namespace L2
open PySem PySem.Spec PyProof.Rows
structure DnD(K:Frag)(x qual:Str)(st:Stmt)(ps:List Str)(v:V) where
 f:Addr
 fd:FuncData
 dV:Value
 F:FunD K x qual st dV f fd
 b:Zb4 K fd ps []
 u:Value
 r:Yo v u
 b1:Zb4 K fd ps [u]
theorem Zfo{X:Cx}{x:Str}{v:Int}{pos:Pos}(hg:Gl X x)(h:∃tk,X.mg x=some (.int v tk)) (hd:(x ==("__debug__" :Str))=false:=by decide):PE X (.Name x pos) (tC (.int v)):=by
 obtain ⟨tk,h⟩:=h
 exact Xu hg h ⟨tk,rfl⟩ hd
theorem Zgy{α:Type}{l:List α}{i:Nat}{a:α}(nd:l.Nodup)(h:l[i]? =some a):a∉l.take i:=fun m=>by
 have e:l=l.take i++(a ::l.drop (i+1)):=by rw [←Zlo h,List.take_append_drop]
 rw [e,List.nodup_append] at nd
 exact nd.2.2 a m a List.mem_cons_self rfl
section
variable {prog:Program} {w:World} {KT:Type} [DecidableEq KT] {knd:HeapKind prog w KT} {A:Around} {E:Value→Shared→Prop} {s:Shared}
theorem Zmm(c:Addr)(hc:(c ==sysModules)=false):MeetsIn prog w (Builtin.«dict.__len__» ⟨[.ref c],[]⟩) (fun _ R s=>∃ys,s.heap.DictOfH knd c ys∧R (.ok (.ret (.int ys.length s.toks))) { s with toks:=s.toks+1 }) :=
 .of_wp fun A R s ⟨ys,hm,h⟩=>by
  obtain ⟨ob,es,ep,hob,_,hda,hen,_,_⟩:=hm
  show wpAny _ _ (dictSize c >>=_) _ _ s
  unfold dictSize
  refine wpAny_bind (wpAny_bind (wpAny_dictEntries hob hda (wpAny_pure ?_)))
  show wpAny _ _ (Builtin.Dict.pendingCount c >>=_) _ _ s
  refine wpAny_bind (wpAny_pendingCount_other hc (wpAny_ret_mkInt ?_))
  rw [Nat.add_zero,size_of_entries hen];exact h
theorem Zpt{c:Addr}{ys:List (KT×Addr×Value)}{Q:Value→Shared→Prop}(hc:(c ==sysModules)=false)(hm:s.heap.DictOfH knd c ys)(hf:(ys.length:Int)<2 ^ 63)
  (h:Q (.int ys.length (s.toks+1)) { s with toks:=s.toks+1+1 }):wpAny (model prog w) A (call (.builtin "len") [.ref c]) Q E s:=by
 refine Calls.call_function_entry kind_len plain_len entry_len (args_len1 _) ?_
 unfold Builtin.«len»
 refine wpAny_bind (m:=oneArg "len" _) (wpAny_pure (wpAny_bind (m:=callSpecial? (.ref c) (Str.ofString "__len__")) ?_))
 refine wpAny_callSpecial?_slot (name:=Str.ofString "__len__") hm.typeIs F.slot_dict_len (call_meetsIn F.slot_dict_len hm.typeIs F.entry_dict_len (F.args_dict_len_1 _) (Zmm (knd:=knd) c hc) ⟨ys,hm,?_⟩)
 show wpAny _ _ _ _ _ { s with toks:=s.toks+1 }
 refine wpAny_bind (wpAny_holding (wpAny_pure (wpAny_bind (wpAny_letGo ?_))))
 show wpAny _ _ (if ((ys.length:Nat):Int)<0 then _ else _) _ _ _
 rw [if_neg (by omega)]
 show wpAny _ _ (if ((ys.length:Nat):Int) ≥ 2 ^ 63 then _ else _) _ _ _
 rw [if_neg (by omega)]
 exact wpAny_bind (wpAny_mkInt (wpAny_pure ⟨_,rfl,h⟩))
end
def Zqf:List V→Hp→VK→Prop:=fun xs H Q=>∃a kvs,xs=[V.ref a]∧H a=some (.dT kvs)∧Q (.int kvs.length) H
theorem Zi5{X:Cx}:Xs X (.builtin "len") Zqf:=by
 intro pins s σ H xs us Q I r h
 obtain ⟨a,kvs,rfl,ha,q⟩:=h
 obtain ⟨u,rfl,ru⟩:=Zcq r
 cases ru
 obtain ⟨z,hd,ys,rel,dd⟩:=Zt4 I.hok ha
 have hl:kvs.length=ys.length:=Paired.length rel
 refine Zpt hd dd (by rw [←hl];rw [sizeLine_eq] at z;omega) ?_
 rw [←hl]
 exact ⟨.int _,H,I.tok _,⟨_,rfl⟩,q⟩
section
variable {prog:Program} {w:World} {KT:Type} [DecidableEq KT] {knd:HeapKind prog w KT} {A:Around} {R:Result→Shared→Prop} {l d it:Addr} {tps:List Addr} {qs:List (KT×Addr×Value)} {h₀:Heap}
def Zcu(knd:HeapKind prog w KT)(h:Heap)(tps:List Addr)(qs:List (KT×Addr×Value)):Prop :=
 Paired (fun p (q:KT×Addr×Value)=>(∃o n,h.get? p=some o∧o.cls=.type "tuple" ∧o.data=.seq #[.ref q.2.1,q.2.2] n)∧∃ok,h.get? q.2.1=some ok∧∀h':Heap,h'.get? q.2.1=some ok→knd.is h' q.1 q.2.1) tps qs
theorem Zcu.key{h:Heap}(hp:Zcu knd h tps qs):∀q∈qs,∃ok,h.get? q.2.1=some ok∧∀h':Heap,h'.get? q.2.1=some ok→knd.is h' q.1 q.2.1:=by
 unfold Zcu at hp
 induction hp with
 | nil=>intro q z;cases z
 | cons r _ ih =>
  intro q z
  rcases List.mem_cons.mp z with rfl|z
  ·exact r.2
  ·exact ih q z
theorem Zhx{h h':Heap}{ys:List (KT×Addr×Value)}(hD:h.DictOfH knd d ys)(hd:∀o,h.get? d=some o→h'.get? d=some o)(hk:∀y∈ys,knd.is h' y.1 y.2.1):h'.DictOfH knd d ys:=by
 obtain ⟨o,es,ep,ho,r1,r2,r3,_,r5⟩:=hD
 exact ⟨o,es,ep,hd o ho,r1,r2,r3,hk,r5⟩
theorem Zlw(hh:A.handled=none)(hu:knd.room A.in1)(hdi:d≠it)(hl:h₀.IsList l (tps.map Value.ref).toArray)(hld:l≠d)(hli:l≠it)(hp:Zcu knd h₀ tps qs)(hnd:(qs.map (·.1)).Nodup)(hsz:qs.length≤sizeLine)
  (hpd:∀p∈tps,p≠d∧p≠it) (hqd:∀q∈qs,q.2.1≠d∧q.2.1≠it) :
  ∀(n i:Nat) (s:Shared) (j:Int) (tk:Tok),i+n=qs.length→s.heap.IsListIter it l i→s.heap.DictOfH knd d (qs.take i)→(∀b o,b≠d→b≠it→h₀.get? b=some o→s.heap.get? b=some o) →
   (∀h' tk',h'.DictOfH knd d qs→(∀b o,b≠d→b≠it→h₀.get? b=some o→h'.get? b=some o)→R (.ok (.ret .none)) { s with heap:=h',toks:=tk' }) →
   codeAny (model prog w) A (.builtin "dict.update.loop" ⟨[.ref d,.ref it,.int j tk,.none],[]⟩) R s:=by
 have hlen:tps.length=qs.length:=Paired.length hp
 have hkey:=hp.key
 have hu':∀args:Args,knd.room (A.under (.builtin "dict.update.loop" args)):=fun args=>by rw [Around.under_plainId (by decide +kernel)];exact hu
 have is_:∀h':Heap,(∀b o,b≠d→b≠it→h₀.get? b=some o→h'.get? b=some o)→∀q∈qs,knd.is h' q.1 q.2.1:=fun h' kp q hq=>by
  obtain ⟨ok,h1,h2⟩:=hkey q hq
  exact h2 h' (kp _ _ (hqd q hq).1 (hqd q hq).2 h1)
 intro n
 induction n with
 | zero =>
  intro i s j tk hi hit hD keep hq
  have hl':s.heap.IsList l (tps.map Value.ref).toArray:=by
   obtain ⟨o,ho,r⟩:=hl
   exact ⟨o,keep _ _ hld hli ho,r⟩
  refine codeAny_builtin Zi6 ?_
  unfold Builtin.«dict.update.loop»
  dsimp only
  refine wpAny_bind (wpAny_pyNext_list_end hh hit hl' (by rw [List.getElem?_toArray,List.getElem?_map,List.getElem?_eq_none (by omega)];rfl) fun h' eb=>?_)
  dsimp only
  refine wpAny_bind (wpAny_pure (wpAny_pure ?_))
  have kp:∀b o,b≠d→b≠it→h₀.get? b=some o→h'.get? b=some o:=fun b o h1 h2 h3=>eb b o h2 (keep b o h1 h2 h3)
  refine hq h' s.toks ?_ kp
  rw [show qs.take i=qs from List.take_of_length_le (by omega)] at hD
  exact Zhx hD (fun o ho=>eb d o hdi ho) (is_ h' kp)
 | succ n ih =>
  intro i s j tk hi hit hD keep hq
  have hl':s.heap.IsList l (tps.map Value.ref).toArray:=by
   obtain ⟨o,ho,r⟩:=hl
   exact ⟨o,keep _ _ hld hli ho,r⟩
  have hit':i<tps.length:=by omega
  obtain ⟨q,hqi,⟨ot,nt,hpt,hct,hdt⟩,_⟩:=Paired.get hp (i:=i) (a:=tps[i]) (List.getElem?_eq_getElem hit')
  obtain ⟨nd,ni⟩:=hpd tps[i] (List.getElem_mem hit')
  have hqm:q∈qs:=List.mem_of_getElem? hqi
  refine codeAny_builtin Zi6 ?_
  unfold Builtin.«dict.update.loop»
  dsimp only
  refine wpAny_bind (wpAny_pyNext_list_item hit hl' (x:=.ref tps[i]) (by rw [List.getElem?_toArray,List.getElem?_map,List.getElem?_eq_getElem hit'];rfl) fun h1 it1 sb1=>?_)
  have hpt1:h1.get? tps[i]=some ot:=by rw [sb1.2 _ ni];exact keep _ _ nd ni hpt
  have hT:({ s with heap:=h1 }:Shared).TypeIs (.ref tps[i]) "tuple" :=⟨_,hpt1,hct⟩
  have kp1:∀b o,b≠d→b≠it→h₀.get? b=some o→h1.get? b=some o:=fun b o z1 z2 z3=>by rw [sb1.2 _ z2];exact keep b o z1 z2 z3
  have hD1:h1.DictOfH knd d (qs.take i):=Zhx hD (fun o ho=>by rw [sb1.2 _ hdi];exact ho) fun y hy=>is_ h1 kp1 y (List.mem_of_mem_take hy)
  refine wpAny_bind (wpAny_holding (wpAny_bind (wpAny_tryCatch ?_)))
  unfold Builtin.Dict.pairItems
  refine wpAny_bind (wpAny_typeOf hT ?_)
  rw [if_pos (by decide)]
  refine wpAny_bind (wpAny_seqItems (s:={ s with heap:=h1 }) hpt1 hdt (wpAny_pure ?_))
  refine wpAny_holding (wpAny_dictSet_heap (s:={ s with heap:=h1 }) (hu' _) (is_ h1 kp1 q hqm) hD1 (fun h2 hD2 sb2=>?_) ?_)
  ·refine wpAny_pure ⟨Code.quiet_builtin _ (by decide +kernel),?_⟩
   have hno:atKey (qs.take i) q.1=none:=by
    cases e:atKey (qs.take i) q.1 with
    | none=>rfl
    | some z =>
     unfold atKey at e
     obtain ⟨y,hy,_⟩:=Option.map_eq_some_iff.mp e
     have y0:=List.find?_some hy
     have y1:y.1=q.1:=of_decide_eq_true y0
     have m1:y.1∈(qs.map (·.1)).take i:=by rw [←List.map_take];exact List.mem_map.mpr ⟨y,List.mem_of_find?_eq_some hy,rfl⟩
     rw [y1] at m1
     exact absurd m1 (Zgy hnd (by rw [List.getElem?_map,hqi];rfl))
   have hst:storedH (qs.take i) q.1 q.2.1 q.2.2=qs.take (i+1):=by rw [storedH_new hno,List.take_add_one,hqi];rfl
   rw [hst] at hD2
   refine ih (i+1) { s with heap:=h2,toks:=_ } (j+1) _ (by omega) ?_ hD2 (fun b o n1 n2 z=>?_) fun h' tk'=>hq h' tk'
   ·exact it1.at fun o z=>by rw [sb2.2 _ hdi.symm];exact z
   ·rw [sb2.2 _ n1];exact kp1 b o n1 n2 z
  ·rw [List.length_take];omega
theorem Zf5{n:Nat}{s:Shared}{Q:Value→Shared→Prop}{E:Value→Shared→Prop}(hh:A.handled=none)(hu:knd.room A.in1.in1) (hx:s.heap.get? l=some { cls:=.type "list",data:=.seq (tps.map Value.ref).toArray n }) (hp:Zcu knd s.heap tps qs) (hnd:(qs.map (·.1)).Nodup) (hsz:qs.length≤sizeLine)
  (h:∀h' tk' dd,h'.DictOfH knd dd qs→dd=s.heap.objs.size→s.heap.get? dd=none→(∀b o,s.heap.get? b=some o→h'.get? b=some o)→Q (.ref dd) { s with heap:=h',toks:=tk' }) :
  wpAny (model prog w) A (call (.type "dict") [.ref l]) Q E s:=by
 refine callType_codes (Q₁:=fun obj s₁=>obj=.ref s.heap.objs.size∧s₁={ s with heap:=s.heap.push { cls:=.type "dict",data:=.dict #[] } }) F.kt_called_dict (F.kt_typeCall_dict_1 _) F.entry_dict_init (kt_code_dict_new _ ⟨rfl,rfl⟩) ?_
 rintro obj s₁ ⟨rfl,rfl⟩
 have hnew:(s.heap.push { cls:=.type "dict",data:=.dict #[] }).DictOfH knd s.heap.objs.size []:=Heap.DictOfH.new s.heap
 have hx1:(s.heap.push { cls:=.type "dict",data:=.dict #[] }).get? l=some { cls:=.type "list",data:=.seq (tps.map Value.ref).toArray n }:=Heap.get?_push_of_some _ hx
 refine ⟨hnew.typeIs,F.args_dict_init_2 _ _,?_⟩
 unfold Builtin.«dict.__init__»
 refine wpAny_bind ?_
 unfold Builtin.Dict.selfAndRest
 refine wpAny_bind (wpAny_notOrdered_dict hnew.typeIs ?_)
 show wpAny _ _ (pure (s.heap.objs.size,[Value.ref l])) _ _ _
 refine wpAny_pure ?_
 show wpAny _ _ (Builtin.Dict.updateFrom "dict.__init__" s.heap.objs.size (.ref l) [] .none) _ _ _
 unfold Builtin.Dict.updateFrom
 refine wpAny_bind (wpAny_typeOf (T := "list") ⟨_,hx1,rfl⟩ ?_)
 rw [if_pos (by decide)]
 obtain ⟨h0,g0,d0,t0,os0⟩:=s
 dsimp only at *
 refine wpAny_bind (Zqb hh hx1 fun h1 tk1 k1=>?_)
 simp only [Option.isNone_none,if_true]
 have hx2:=k1 _ _ hx1
 have hl2:h1.IsList l (tps.map Value.ref).toArray:=⟨_,hx2,rfl,n,rfl⟩
 refine wpAny_bind (wpAny_rule (wpAny_bind (wpAny_pyIter_list (s:=⟨h1,g0,d0,tk1,os0⟩) hl2 (wpAny_pure ⟨Code.quiet_builtin _ (by decide +kernel),?_⟩))))
 have k2:∀b o,h0.get? b=some o→(h1.push { cls:=.type "list_iterator",data:=.fields #[.ref l,.int 0 0] }).get? b=some o:=fun b o z=>Heap.get?_push_of_some _ (k1 _ _ (Heap.get?_push_of_some _ z))
 have hd1:h1.get? h0.objs.size=some { cls:=.type "dict",data:=.dict #[] }:=k1 _ _ (Heap.get?_push_size h0 rfl)
 have lt1:h0.objs.size<h1.objs.size:=Heap.lt_size hd1
 have hll:l<h0.objs.size:=Heap.lt_size hx
 have hfar:∀c o,h0.get? c=some o→c≠h0.objs.size∧c≠h1.objs.size:=fun c o z=>by
  have:=Heap.lt_size z
  exact ⟨Nat.ne_of_lt this,Nat.ne_of_lt (Nat.lt_trans this lt1)⟩
 refine Zlw (A:=A.in1) (knd:=knd) (h₀:=h1.push { cls:=.type "list_iterator",data:=.fields #[.ref l,.int 0 0] }) (l:=l) (tps:=tps) (qs:=qs) hh hu (Nat.ne_of_lt lt1) ?_ (Nat.ne_of_lt hll) (Nat.ne_of_lt (Nat.lt_trans hll lt1)) ?_ hnd hsz (fun p z=>?_) (fun q z=>?_) qs.length 0 ⟨h1.push { cls:=.type "list_iterator",data:=.fields #[.ref l,.int 0 0] },g0,d0,tk1,os0⟩ 0 0 (by omega) ?_ ?_ (fun _ _ _ _ z=>z) fun h' tk' hD kp=>?_
 ·exact ⟨_,k2 _ _ hx,rfl,n,rfl⟩
 ·exact Paired.mapP hp fun p q ⟨⟨o,m,z2,z3⟩,ok,z4,z5⟩=>⟨⟨o,m,k2 _ _ z2,z3⟩,ok,k2 _ _ z4,z5⟩
 ·obtain ⟨i,hi,rfl⟩:=List.getElem_of_mem z
  obtain ⟨q,_,⟨o,m,z2,_⟩,_⟩:=Paired.get hp (i:=i) (a:=tps[i]) (List.getElem?_eq_getElem hi)
  exact hfar _ _ z2
 ·obtain ⟨ok,z4,_⟩:=hp.key q z
  exact hfar _ _ z4
 ·exact ⟨_,Heap.get?_push_size h1 rfl,rfl,rfl⟩
 ·exact Zhx hnew (fun o ho=>Heap.get?_push_of_some _ (k1 _ _ ho)) fun y hy=>by cases hy
 ·refine ⟨rfl,h h' tk' h0.objs.size hD rfl (Heap.get?_none_of_le (Nat.le_refl _)) fun b o z=>kp b o ?_ ?_ (k2 b o z)⟩
  ·exact (hfar _ _ z).1
  ·exact (hfar _ _ z).2
end
def Zq1:List V→Hp→VK→Prop:=fun xs H Q=>∃(l:Addr) (tps:List Addr) (kvs:List (List Key×V)),xs=[.ref l]∧H l=some (.lst (tps.map V.ref)) ∧
 Paired (fun t (q:List Key×V)=>∃a,H t=some (.tup [.ref a,q.2])∧H a=some (.tup (q.1.map kV))) tps kvs∧(kvs.map Prod.fst).Nodup∧New H (.dT kvs) Q
theorem Zm4{X:Cx}(hc:X.calm=true)(hu:X.A.units+64<cLine):Xs X (.type "dict") Zq1:=by
 intro pins s σ H xs us Q I r h
 obtain ⟨l,tps,kvs,rfl,hl,hp,hn,q⟩:=h
 obtain ⟨u,rfl,ru⟩:=Zcq r
 cases ru
 obtain ⟨hz,its,n,rv,hg⟩:=(show Yu X.prog X.w H s.heap l (.lst (tps.map V.ref)) from I.hok l _ hl)
 rw [Zky rv] at hg
 have key:∀{tps:List Addr} {kvs:List (List Key×V)},Paired (fun t (q:List Key×V)=>∃a,H t=some (.tup [.ref a,q.2])∧H a=some (.tup (q.1.map kV))) tps kvs→∃qs,KT H kvs qs∧Zcu (tupleKind (Ym X.prog X.w)) s.heap tps qs:=by
  intro tps kvs hp
  induction hp with
  | nil=>exact ⟨[],.nil,.nil⟩
  | cons r t ih =>
   rename_i p q _ _
   obtain ⟨qs,h1,h2⟩:=ih
   obtain ⟨a,ra,rk⟩:=r
   obtain ⟨_,its,rv,o,ho,hcl,m,hd⟩:=(show Yu X.prog X.w H s.heap p (.tup [.ref a,q.2]) from I.hok p _ ra)
   obtain ⟨k,v,rfl,rk1,rv2⟩:=Zlm rv
   cases (show k=Value.ref a from rk1)
   obtain ⟨_,its2,r2,o2,ho2,hcl2,m2,hd2⟩:=(show Yu X.prog X.w H s.heap a (.tup (q.1.map kV)) from I.hok a _ rk)
   exact ⟨(q.1,a,v) ::qs,.cons ⟨rfl,rk,rv2⟩ h1,.cons ⟨⟨o,m,ho,hcl,hd⟩,o2,ho2,fun h' e=>⟨o2,_,m2,e,hcl2,hd2,by simpa using Zft r2⟩⟩ h2⟩
 obtain ⟨qs,hkv,hpi⟩:=key hp
 have hql:kvs.length=qs.length:=Paired.length hkv
 have hle:kvs.length≤sizeLine:=by
  have:=Paired.length hp
  rw [List.length_map] at hz
  omega
 have hnd:(qs.map (·.1)).Nodup:=by
  have:∀{kvs:List (List Key×V)} {qs:List (List Key×Addr×Value)},KT H kvs qs→qs.map (·.1)=kvs.map Prod.fst:=by
   intro kvs qs z
   induction z with
   | nil=>rfl
   | cons r t ih=>rw [List.map_cons,List.map_cons,ih,r.1]
  rw [this hkv]
  exact hn
 refine Zf5 (knd:=tupleKind (Ym X.prog X.w)) (I.ok.hd hc) (tupleKind_room_in1 (A:=X.A.in1) (by show X.A.units+1+1<cLine;omega)) hg hpi hnd (by rw [←hql];exact hle) fun h' tk' dd hD hdd hn' k=>?_
 have hsm:dd≠sysModules:=fun z=>by
  have hb:=I.big
  rw [←hdd,z] at hb
  exact Nat.lt_irrefl _ hb
 have hH0:H dd=none:=by
  cases e:H dd with
  | none=>rfl
  | some u =>
   obtain ⟨ob,z⟩:=(I.hok dd u e).there
   rw [hn'] at z
   cases z
 obtain ⟨o,es,ep,e1,e2,e3,e4,_,e5⟩:=hD
 obtain ⟨hH,J⟩:=I.laidAt (t':=tk') (o:=.dT kvs) k hn' (show Yu X.prog X.w (upd H dd (.dT kvs)) h' dd (.dT kvs) from ⟨hle,beq_eq_false_iff_ne.mpr hsm,qs,hkv.keeps fun b ys e=>by rw [Zi (Zh e hH0)];exact e,o,es,ep,e1,e2,e3,e4,e5⟩)
 exact ⟨.ref dd,_,J,rfl,q.at dd hH⟩
end L2
end
section
namespace L2
open PySem PySem.Spec PyProof.Rows
section
variable {prog:Program} {w:World} {A:Around} {E:Value→Shared→Prop} {s:Shared}
theorem Zo7{x:Addr}{ox:Obj}{v:Value}{xs:List Value}{m:Nat}{Q:Option Value→Shared→Prop}(hx:s.heap.get? x=some ox) (cx:ox.cls=.type "tuple") (dx:ox.data=.seq (v ::xs).toArray m) (h:Q (some v) s):wpAny (model prog w) A (firstOfTuple' (.ref x)) Q E s:=by
 show wpAny _ _ (typeOf (.ref x) >>=fun ty=>_) Q E s
 refine wpAny_bind (wpAny_typeOf (T := "tuple") ⟨_,hx,cx⟩ ?_)
 simp only [bne_self_eq_false,Bool.false_eq_true,if_false]
 exact wpAny_bind (listItems_at hx dx (wpAny_pure h))
end
end L2
end
section
namespace L2
open PySem PySem.Spec PyProof.Rows
section
variable {prog:Program} {w:World} {A:Around} {E:Value→Shared→Prop} {s:Shared} {o:Array Keyed} {κ:KeyKind} {kd:SortKind}
structure Sg(kd:SortKind)(o:Array Keyed)(st:SortSt):Prop where
 perm:(arrOf st).Perm o
 kind:kindOf st=kd
 good:failedOf st=none
 idle:pendingOf st=#[]
theorem Sg.many{st:SortSt}(h:Sg kd o st):(arrOf st).size=o.size:=h.perm.size_eq
theorem Sg.to{st:SortSt}(h:Sg kd o st){xs:Array Keyed}(p:xs.Perm (arrOf st)):Sg kd o (setArr st xs):=⟨p.trans h.perm,h.kind,h.good,h.idle⟩
def Lts(prog:Program)(w:World)(A:Around)(s:Shared)(κ:KeyKind)(kd:SortKind):Prop :=
 ∀(x y:Value) (a b:κ.α) (E':Value→Shared→Prop) (Q':Bool→Shared→Prop),κ.keyOf x=some a→κ.keyOf y=some b→a≠b→Q' (κ.blt a b) s→wpAny (model prog w) A (keyLt' kd x y) Q' E' s
theorem Sg.item{st:SortSt}(h:Sg kd o st)(k:KeysOf κ o){i:Nat}(hi:i<o.size):∃x p a,(arrOf st)[i]? =some (x,p)∧κ.keyOf x=some a∧KK κ (arrOf st) i=a:=by
 have hi2:i<(arrOf st).size:=by rw [h.many];exact hi
 have e:(arrOf st)[i]? =some (arrOf st)[i]:=getElem?_pos _ i hi2
 obtain ⟨a,ha⟩:=k _ ((Array.perm_iff_toList_perm.mp h.perm).mem_iff.mp (show (arrOf st)[i]∈(arrOf st).toList by simp))
 exact ⟨_,_,a,e,ha,by unfold KK;rw [e];show (κ.keyOf _).getD _=a;rw [ha];rfl⟩
def Zoh(κ:KeyKind)(o:Array Keyed):Prop:=(o.toList.map fun p=>κ.keyOf p.1).Nodup
theorem Sg.apart{st:SortSt}(h:Sg kd o st)(k:KeysOf κ o)(d:Zoh κ o){i j:Nat}(hij:i<j)(hj:j<o.size):KK κ (arrOf st) i≠KK κ (arrOf st) j:=fun z=>by
 obtain ⟨x,p,a,e1,ka,r1⟩:=h.item k (show i<o.size by omega)
 obtain ⟨y,q,b,e2,kb,r2⟩:=h.item k hj
 rw [r1,r2] at z
 have nd:((arrOf st).toList.map fun p=>κ.keyOf p.1).Nodup:=((Array.perm_iff_toList_perm.mp h.perm).map _).nodup_iff.mpr d
 have m2:((arrOf st).toList.map fun p=>κ.keyOf p.1)[j]? =some (some b):=by rw [List.getElem?_map,Array.getElem?_toList,e2];exact congrArg some kb
 have m1:((arrOf st).toList.map fun p=>κ.keyOf p.1)[i]? =some (some b):=by rw [List.getElem?_map,Array.getElem?_toList,e1,←z];exact congrArg some ka
 exact Zgy nd m2 (List.mem_of_getElem? (i:=i) (by rw [List.getElem?_take,if_pos hij];exact m1))
theorem Zh9{st:SortSt}{i j:Nat}{Q:Option Bool→SortSt→Prop}(hL:Lts prog w A s κ kd)(h:Sg kd o st)(k:KeysOf κ o)(hi:i<o.size)(hj:j<o.size)(hne:KK κ (arrOf st) i≠KK κ (arrOf st) j)
  (q:Q (some (κ.blt (KK κ (arrOf st) i) (KK κ (arrOf st) j))) st):wpS (model prog w) A E s (ltAt' i j) Q st:=by
 obtain ⟨x,p,a,e1,ka,r1⟩:=h.item k hi
 obtain ⟨y,p2,b,e2,kb,r2⟩:=h.item k hj
 rw [r1,r2] at q hne
 rw [ltAt'_eq]
 refine wpS_bind (wpS_get ?_)
 show wpS _ _ _ _ (do let p ←elem' (arrOf st) i;let q ←elem' (arrOf st) j;lt' p q) _ st
 rw [elem'_eq,elem'_eq,e1,e2]
 refine wpS_bind (wpS_pure (wpS_bind (wpS_pure ?_)))
 rw [lt'_eq]
 refine wpS_bind (wpS_get ?_)
 rw [h.kind]
 exact wpS_bind (wpS_lift (wpAny_attempt (hL _ _ _ _ _ _ ka kb hne ⟨rfl,wpS_pure q⟩)))
variable (hL:Lts prog w A s κ kd) (k:KeysOf κ o) (d:Zoh κ o)
include hL k d
theorem Zxe{st:SortSt}{a m:Nat}{Q:AscSt→SortSt→Prop}(h:Sg kd o st)(ha:1≤a)(ham:a≤m)(hm:m≤o.size)(hs:SortedToK κ (arrOf st) a)
  (q:∀n,a≤n→n≤m→SortedToK κ (arrOf st) n→(n=m∨(n<m∧κ.klt (KK κ (arrOf st) n) (KK κ (arrOf st) (n-1))))→Q (none,n) st):wpS (model prog w) A E s (ascLoop a m) Q st:=by
 unfold ascLoop
 refine wpS_forRange (I:=fun n c st2=>st2=st∧c=(none,n)∧SortedToK κ (arrOf st) n) ?_ ?_ ⟨rfl,rfl,hs⟩
 ·rintro n c st2 h1 h2 ⟨rfl,rfl,hs2⟩
  have ne:=(h.apart k d (show n-1<n by omega) (show n<o.size by omega)).symm
  refine wpS_bind (Zh9 hL h k (by omega) (by omega) ne ?_)
  cases e:κ.blt (KK κ (arrOf st2) n) (KK κ (arrOf st2) (n-1)) with
  | true=>exact wpS_pure (q n h1 (by omega) hs2 (.inr ⟨h2,e⟩))
  | false =>
   refine wpS_pure ⟨rfl,rfl,fun i j hij hj=>?_⟩
   rcases Nat.lt_or_ge j n with z|z
   ·exact hs2 i j hij z
   ·have:j=n:=by omega
    subst this
    rcases Nat.lt_or_ge i j with y|y
    ·exact KeyOrd.kle_trans (hs2 i (j-1) (by omega) (by omega)) e
    ·have:i=j:=by omega
     subst this
     exact KeyOrd.kle_refl _
 ·rintro c st2 ⟨rfl,rfl,hs2⟩
  rw [show max a m=m by omega] at hs2 ⊢
  exact q m ham (Nat.le_refl _) hs2 (.inl rfl)
def Zqj(κ:KeyKind)(xs:Array Keyed)(n:Nat):Prop:=∀i j,i<j→j<n→κ.klt (KK κ xs j) (KK κ xs i)
theorem Zya{st:SortSt}{m:Nat}{Q:DescSt→SortSt→Prop}(h:Sg kd o st)(hm:m≤o.size)(h2:2≤m)(hf:Zqj κ (arrOf st) 2)(q:∀n,2≤n→n≤m→Zqj κ (arrOf st) n→Q (none,n,0) st):wpS (model prog w) A E s (descLoop 2 m) Q st:=by
 unfold descLoop
 refine wpS_forRange (I:=fun n c st2=>st2=st∧c=(none,n,0)∧Zqj κ (arrOf st) n) ?_ ?_ ⟨rfl,rfl,hf⟩
 ·rintro n c st2 h1 hn ⟨rfl,rfl,hf2⟩
  have ne:=h.apart k d (show n-1<n by omega) (show n<o.size by omega)
  dsimp only
  refine wpS_bind (Zh9 hL h k (by omega) (by omega) ne.symm ?_)
  cases e:κ.blt (KK κ (arrOf st2) n) (KK κ (arrOf st2) (n-1)) with
  | true =>
   refine wpS_pure ⟨rfl,rfl,fun i j hij hj=>?_⟩
   rcases Nat.lt_or_ge j n with z|z
   ·exact hf2 i j hij z
   ·have:j=n:=by omega
    subst this
    rcases Nat.lt_or_ge i (j-1) with y|y
    ·exact κ.trans _ _ _ e (hf2 i (j-1) y (by omega))
    ·have:i=j-1:=by omega
     subst this
     exact e
  | false =>
   refine wpS_bind (Zh9 hL h k (by omega) (by omega) ne ?_)
   cases e2:κ.blt (KK κ (arrOf st2) (n-1)) (KK κ (arrOf st2) n) with
   | true=>exact wpS_pure (q n h1 (by omega) hf2)
   | false=>exact absurd (κ.total _ _ e2 e) ne
 ·rintro c st2 ⟨rfl,rfl,hf2⟩
  rw [show max 2 m=m by omega] at hf2 ⊢
  exact q m h2 (Nat.le_refl _) hf2
theorem Zpk{st:SortSt}{m:Nat}{Q:Option Nat→SortSt→Prop}(h:Sg kd o st)(h1:1≤m)(hm:m≤o.size)(q:∀n st2,Sg kd o st2→1≤n→n≤m→SortedToK κ (arrOf st2) n→Q (some n) st2):wpS (model prog w) A E s (countRun' 0 m) Q st:=by
 rw [countRun0_eq]
 refine wpS_bind (Zxe hL k d h (Nat.le_refl 1) h1 hm (fun i j hij hj=>by
  have:i=j:=by omega
  subst this
  exact KeyOrd.kle_refl _) fun n hn1 hn2 hs hlast=>?_)
 dsimp only
 by_cases hnm:n=m
 ·rw [if_pos (by simpa using hnm)]
  exact wpS_pure (q n st h hn1 hn2 hs)
 ·rw [if_neg (by simpa using hnm)]
  obtain ⟨hlt,hlast⟩:n<m∧κ.klt (KK κ (arrOf st) n) (KK κ (arrOf st) (n-1)):=hlast.resolve_left hnm
  by_cases hbig:n >1
  ·rw [if_pos hbig]
   have ne:=h.apart k d (show 0<n-1 by omega) (show n-1<o.size by omega)
   refine wpS_bind (Zh9 hL h k (by omega) (by omega) ne ?_)
   cases e:κ.blt (KK κ (arrOf st) 0) (KK κ (arrOf st) (n-1)) with
   | true=>exact wpS_pure (q n st h hn1 hn2 hs)
   | false=>exact absurd (κ.total _ _ e (hs 0 (n-1) (by omega) (by omega))) ne
  ·rw [if_neg hbig]
   have:n=1:=by omega
   subst this
   unfold descPart
   refine wpS_bind (wpS_lift (wpAny_rule ⟨rfl,?_⟩))
   refine wpS_bind (Zya hL k d h hm (by omega) (fun i j hij hj=>by
    have:i=0:=by omega
    have:j=1:=by omega
    subst i j
    exact hlast) fun n2 a1 a2 hf=>?_)
   dsimp only
   rw [if_neg (by decide)]
   unfold tail3
   refine wpS_bind (wpS_reverse ?_)
   have hsz:n2≤(arrOf st).size:=by rw [h.many];omega
   have h3:Sg kd o (setArr st (mirror (arrOf st) 0 n2 ((n2-0) / 2))):=h.to (mirror_perm _ _ _ _)
   refine wpS_bind (Zxe hL k d h3 (by omega) a2 hm (fun i j hij hj=>?_) fun n3 b1 b2 hs3 _=>wpS_pure (q n3 _ h3 (by omega) b2 hs3))
   show κ.kle (KK κ (mirror (arrOf st) 0 n2 ((n2-0) / 2)) i) (KK κ (mirror (arrOf st) 0 n2 ((n2-0) / 2)) j)
   rw [KK_mirror hsz,KK_mirror hsz,if_pos (by omega),if_pos (by omega)]
   rcases Nat.lt_or_ge i j with y|y
   ·exact KeyOrd.kle_of_klt (hf _ _ (by omega) (by omega))
   ·have:i=j:=by omega
    subst this
    exact KeyOrd.kle_refl _
theorem Zu0{st:SortSt}{n r:Nat}{Q:Bool→SortSt→Prop}(h:Sg kd o st)(hr:r≤n)(hn:n≤o.size)(hs:SortedToK κ (arrOf st) r)(q:∀st2,Sg kd o st2→SortedToK κ (arrOf st2) n→Q true st2):wpS (model prog w) A E s (binarySort' 0 n r) Q st:=by
 rw [binarySort'_eq]
 simp only [Nat.zero_add]
 have one:∀st2:SortSt,SortedToK κ (arrOf st2) 1:=fun st2 i j hij hj=>by
  have:i=j:=by omega
  subst this
  exact KeyOrd.kle_refl _
 refine wpS_bind (wpS_mono (wpS_forRange (I:=fun x c st2=>c=(none,())∧Sg kd o st2∧SortedToK κ (arrOf st2) (min x n)) (Q:=fun c st2=>c=(none,())∧Sg kd o st2∧SortedToK κ (arrOf st2) n) ?_ ?_ ⟨rfl,h,?_⟩) ?_)
 ·rintro x c st2 hx1 hx2 ⟨rfl,h2,hs2⟩
  rw [show min x n=x by omega] at hs2
  have hx:x<o.size:=by omega
  refine wpS_bind (wpS_mono (wpS_forRange (I:=fun y c st3=>st3=st2∧∃l u,c=(none,l,u)∧(l≤u∧u≤x∧u-l≤x-y)∧(∀i,i<l→κ.kle (KK κ (arrOf st2) i) (KK κ (arrOf st2) x))∧∀i,u≤i→i<x→κ.klt (KK κ (arrOf st2) x) (KK κ (arrOf st2) i))
   (Q:=fun c st3=>st3=st2∧∃l u,c=(none,l,u)∧l≤x∧(∀i,i<l→κ.kle (KK κ (arrOf st2) i) (KK κ (arrOf st2) x))∧∀i,l≤i→i<x→κ.klt (KK κ (arrOf st2) x) (KK κ (arrOf st2) i)) ?_ ?_ ⟨rfl,0,x,rfl,by omega,fun i hi=>by omega,fun i h1 h2=>by omega⟩) ?_)
  ·rintro y c st3 _ hy ⟨rfl,l,u,rfl,⟨g1,g2,g3⟩,lo,up⟩
   dsimp only
   by_cases hlu:l ≥ u
   ·rw [if_pos hlu]
    have:l=u:=by omega
    subst this
    exact wpS_pure ⟨rfl,l,l,rfl,g2,lo,up⟩
   ·rw [if_neg hlu]
    have ne:=(h2.apart k d (show (l+u) / 2<x by omega) hx).symm
    refine wpS_bind (Zh9 hL h2 k hx (by omega) ne ?_)
    cases e:κ.blt (KK κ (arrOf st3) x) (KK κ (arrOf st3) ((l+u) / 2)) with
    | true=>exact wpS_pure ⟨rfl,l,(l+u) / 2,rfl,by omega,lo,fun i a1 a2=>KeyOrd.klt_of_klt_of_kle e (hs2 _ _ a1 a2)⟩
    | false=>exact wpS_pure ⟨rfl,(l+u) / 2+1,u,rfl,by omega,fun i a1=>KeyOrd.kle_trans (hs2 i ((l+u) / 2) (by omega) (by omega)) e,up⟩
  ·rintro c st3 ⟨rfl,l,u,rfl,⟨g1,g2,g3⟩,lo,up⟩
   have:l=u:=by omega
   subst this
   exact ⟨rfl,l,l,rfl,g2,lo,up⟩
  ·rintro c st3 ⟨rfl,l,u,rfl,g,lo,up⟩
   show wpS _ _ _ _ (do moveDown' x l;pure (ForInStep.yield (none,()))) _ _
   rw [moveDown'_eq]
   refine wpS_bind (wpS_modify (wpS_pure ⟨rfl,h2.to (bubble_perm _ _ _),?_⟩))
   rw [show min (x+1) n=x+1 by omega]
   have hxs:x<(arrOf st3).size:=by rw [h2.many];exact hx
   intro i j hij hj
   show κ.kle (KK κ (bubble (arrOf st3) x (x-l)) i) (KK κ (bubble (arrOf st3) x (x-l)) j)
   have eb:∀z,KK κ (bubble (arrOf st3) x (x-l)) z=if z=l then KK κ (arrOf st3) x else if l<z∧z≤x then KK κ (arrOf st3) (z-1) else KK κ (arrOf st3) z:=fun z=>by
    rw [KK_bubble hxs (by omega),show x-(x-l)=l by omega]
   rw [eb,eb]
   by_cases i1:i=l
   ·rw [if_pos i1]
    by_cases j1:j=l
    ·rw [if_pos j1];exact KeyOrd.kle_refl _
    ·rw [if_neg j1,if_pos (by omega)]
     exact KeyOrd.kle_of_klt (up _ (by omega) (by omega))
   ·rw [if_neg i1]
    by_cases i2:l<i∧i≤x
    ·rw [if_pos i2,if_neg (by omega),if_pos (by omega)]
     exact hs2 _ _ (by omega) (by omega)
    ·rw [if_neg i2]
     by_cases j1:j=l
     ·rw [if_pos j1];exact lo _ (by omega)
     ·rw [if_neg j1]
      by_cases j2:l<j∧j≤x
      ·rw [if_pos j2];exact hs2 _ _ (by omega) (by omega)
      ·rw [if_neg j2];exact hs2 _ _ hij (by omega)
 ·rintro c st2 ⟨rfl,h2,hs2⟩
  refine ⟨rfl,h2,?_⟩
  rw [show min (max (max r 1) n) n=n by omega] at hs2
  exact hs2
 ·rcases Nat.lt_or_ge r 1 with z|z
  ·intro i j hij hj
   exact one st i j hij (by omega)
  ·intro i j hij hj
   exact hs i j hij (by omega)
 ·rintro c st2 ⟨rfl,h2,hs2⟩
  exact wpS_pure (q st2 h2 hs2)
theorem Zre{st:SortSt}{Q:Unit→SortSt→Prop}(h:Sg kd o st)(h2:2≤o.size)(h64:o.size<64)(q:∀st2,(arrOf st2).Perm o→failedOf st2=none→SortedToK κ (arrOf st2) o.size→Q () st2):wpS (model prog w) A E s sortRuns' Q st:=by
 rw [sortRuns'_eq]
 refine wpS_bind (wpS_get ?_)
 dsimp only
 have hmr:minRun' o.size o.size 0=o.size:=by
  obtain ⟨f,hf⟩:∃f,o.size=f+1:=⟨o.size-1,by omega⟩
  rw [show minRun' o.size o.size 0=minRun' (f+1) o.size 0 by rw [←hf],minRun'_succ,if_pos h64]
  rfl
 rw [h.many,hmr]
 have done:∀st3:SortSt,Sg kd o st3→SortedToK κ (arrOf st3) o.size→(arrOf (setPending st3 ((pendingOf st3).push (0,o.size,0)))).Perm o∧failedOf (setPending st3 ((pendingOf st3).push (0,o.size,0)))=none∧pendingOf (setPending st3 ((pendingOf st3).push (0,o.size,0)))=#[(0,o.size,0)]∧SortedToK κ (arrOf (setPending st3 ((pendingOf st3).push (0,o.size,0)))) o.size:=fun st3 h3 hs3 =>
  ⟨h3.perm,h3.good,by show (pendingOf st3).push _=_;rw [h3.idle];rfl,hs3⟩
 refine wpS_bind (wpS_mono (wpS_forRange (I:=fun x c st2=>(x=0∧c=(none,0)∧Sg kd o st2)∨(1≤x∧c=(none,o.size)∧(arrOf st2).Perm o∧failedOf st2=none∧pendingOf st2=#[(0,o.size,0)]∧SortedToK κ (arrOf st2) o.size))
  (Q:=fun c st2=>c=(none,o.size)∧(arrOf st2).Perm o∧failedOf st2=none∧pendingOf st2=#[(0,o.size,0)]∧SortedToK κ (arrOf st2) o.size) ?_ ?_ (.inl ⟨rfl,rfl,h⟩)) ?_)
 ·rintro x c st2 _ hx (⟨rfl,rfl,h3⟩|⟨hx1,rfl,hD⟩)
  ·dsimp only
   rw [if_neg (by omega)]
   simp only [Nat.sub_zero,Nat.min_self,Nat.zero_add]
   refine wpS_bind (Zpk hL k d h3 (by omega) (Nat.le_refl _) fun m st4 h4 m1 m2 hs4=>?_)
   dsimp only
   by_cases hlt:m<o.size
   ·rw [if_pos hlt]
    refine wpS_bind (wpS_lift (wpAny_rule ⟨rfl,?_⟩))
    refine wpS_bind (Zu0 hL k d h4 m2 (Nat.le_refl _) hs4 fun st5 h5 hs5=>?_)
    simp only [Bool.not_true,Bool.false_eq_true,if_false]
    refine wpS_bind (wpS_get ?_)
    rw [show (pendingOf st5).back? =none by rw [h5.idle];rfl]
    exact wpS_bind (wpS_modify (wpS_pure (.inr ⟨by omega,rfl,done st5 h5 hs5⟩)))
   ·rw [if_neg hlt]
    have:m=o.size:=by omega
    subst this
    refine wpS_bind (wpS_get ?_)
    rw [show (pendingOf st4).back? =none by rw [h4.idle];rfl]
    exact wpS_bind (wpS_modify (wpS_pure (.inr ⟨by omega,rfl,done st4 h4 hs4⟩)))
  ·dsimp only
   rw [if_pos (Nat.le_refl _)]
   exact wpS_pure ⟨rfl,hD⟩
 ·rintro c st2 (⟨z,_,_⟩|⟨_,z,hD⟩)
  ·exact absurd z (by omega)
  ·exact ⟨z,hD⟩
 ·rintro c st2 ⟨rfl,d1,d2,d3,d4⟩
  dsimp only
  refine wpS_bind (wpS_mono (wpS_forRange (I:=fun _ c st3=>c=(none,())∧st3=st2) (Q:=fun c st3=>c=(none,())∧st3=st2) ?_ (fun _ _ z=>z) ⟨rfl,rfl⟩) ?_)
  ·rintro x c st3 _ _ ⟨rfl,rfl⟩
   refine wpS_bind (wpS_get ?_)
   rw [if_pos (by rw [d3];exact Nat.le_refl 1)]
   exact wpS_pure ⟨rfl,rfl⟩
  ·rintro c st3 ⟨rfl,rfl⟩
   exact wpS_pure (q _ d1 d2 d4)
end
end L2
namespace L2
open PySem PySem.Spec PyProof.Rows
def Xi(h:Heap):Value→Option (List Nat)
 | .ref a=>match h.get? a with
  | some o=>match o.cls,o.data with
   | .type "tuple",.seq its _=>match (its[0]? :Option Value) with
    | some (.str x _)=>some x.cps.toList
    | _=>none
   | _,_=>none
  | none=>none
 | _=>none
def kF(h:Heap):KeyKind:={ strKind.toKeyOrd with keyOf:=Xi h,dflt:=[] }
theorem Zdz{h:Heap}{a:Addr}{ob:Obj}{x:Str}{t:Tok}{its:List Value}{n:Nat}(g:h.get? a=some ob) (c:ob.cls=.type "tuple") (d:ob.data=.seq (.str x t ::its).toArray n):Xi h (.ref a)=some x.cps.toList:=by
 unfold Xi
 dsimp only
 rw [g]
 dsimp only
 rw [c,d]
 rfl
theorem Zlk(h:Heap):∀vs:List Value,(vs.zip vs).map (fun p=>(kF h).keyOf p.1)=vs.map (Xi h)
 | []=>rfl
 | v ::vs=>by rw [List.zip_cons_cons,List.map_cons,List.map_cons,Zlk h vs];rfl
def Znc(h:Heap)(vs:List Value):Prop:=∀v∈vs,∃(a:Addr) (ob:Obj) (x:Str) (t:Tok) (its:List Value) (n:Nat),v=.ref a∧h.get? a=some ob∧ob.cls=.type "tuple" ∧ob.data=.seq (.str x t ::its).toArray n
section
variable {prog:Program} {w:World} {A:Around} {E:Value→Shared→Prop} {s:Shared}
theorem Zo1{x y:Addr}{ox oy:Obj}{p q:Str}{t u:Tok}{xs ys:List Value}{m1 m2:Nat}{Q:Bool→Shared→Prop}(hx:s.heap.get? x=some ox)(dx:ox.data=.seq (.str p t ::xs).toArray m1)
  (hy:s.heap.get? y=some oy) (dy:oy.data=.seq (.str q u ::ys).toArray m2) (ne:p≠q) (h:Q (decide (p.cps.toList<q.cps.toList)) s):wpAny (model prog w) A (keyLt' (tuples' true) (.ref x) (.ref y)) Q E s:=by
 show wpAny _ _ (Builtin.List.listItems (.ref x) >>=fun xs=>_) Q E s
 refine wpAny_bind (listItems_at hx dx ?_)
 show wpAny _ _ (Builtin.List.listItems (.ref y) >>=fun ys=>_) Q E s
 refine wpAny_bind (listItems_at hy dy ?_)
 rw [show ((Value.str p t ::xs).toArray.toList.zip (Value.str q u ::ys).toArray.toList).zipIdx=((.str p t,.str q u),0) ::(xs.zip ys).zipIdx 1 from rfl,List.forIn_cons]
 refine wpAny_bind (wpAny_bind (wpAny_bind (wpAny_eqBool_str ?_)))
 rw [decide_eq_false ne]
 refine wpAny_bind (oneLt_str ?_)
 exact wpAny_pure (wpAny_pure (wpAny_pure h))
theorem Zhe{Q:List (Option Value)→Shared→Prop}:∀{vs:List Value} {ss:List Str} {fs:List Value},Paired (fun v f=>∃(a:Addr) (ob:Obj) (its:List Value) (n:Nat),v=.ref a∧s.heap.get? a=some ob∧ob.cls=.type "tuple" ∧ob.data=.seq (f ::its).toArray n) vs fs→Q (fs.map some) s→wpAny (model prog w) A (vs.mapM firstOfTuple') Q E s
 | [],_,[],_,h=>by rw [List.mapM_nil];exact wpAny_pure h
 | v ::vs,ss,f ::fs,.cons r t,h=>by
  obtain ⟨a,ob,its,n,rfl,g,c,d⟩:=r
  rw [List.mapM_cons]
  refine wpAny_bind (Zo7 g c d (wpAny_bind ?_))
  exact Zhe (Q:=fun l s'=>wpAny (model prog w) A (pure (some f ::l)) Q E s') (ss:=ss) t (wpAny_pure h)
theorem Zl4{v1 v2:Value}{vs fs:List Value}{ss:List Str}{Q:SortKind→Shared→Prop} (hp:Paired (fun v f=>∃(a:Addr) (ob:Obj) (its:List Value) (n:Nat),v=.ref a∧s.heap.get? a=some ob∧ob.cls=.type "tuple" ∧ob.data=.seq (f ::its).toArray n) (v1 ::v2 ::vs) fs) (hS:StrsAre fs ss) (h:Q (tuples' true) s):wpAny (model prog w) A (keyKind' (v1 ::v2 ::vs).toArray) Q E s:=by
 rw [keyKind'_eq,List.mapM_toArray]
 show wpAny _ _ ((List.toArray <$>(v1 ::v2 ::vs).mapM firstOfTuple') >>=fun firsts=>_) Q E s
 rw [map_eq_pure_bind,bind_assoc]
 refine wpAny_bind (Zhe (ss:=ss) hp ?_)
 rw [pure_bind]
 have e1:((fs.map some).toArray.all fun x=>x.isSome)=true:=by simp
 rw [if_pos e1]
 refine wpAny_bind (wpAny_rule ?_)
 have e2:Array.filterMap id (fs.map some).toArray=fs.toArray:=by simp
 rw [e2,oneTypeOnly'_eq,List.mapM_toArray,mapM_typeOf_strs hS]
 simp only [map_pure,pure_bind]
 match fs,hp with
 | f ::fs,_ =>
  refine wpAny_pure ((congrArg (fun b=>Q (tuples' b) s) (?_:_=true)).mpr h)
  have hall:((List.map (fun _=>Value.type "str") (f ::fs)).toArray.all fun x=>x ==Value.type "str")=true:=by
   simp only [List.all_toArray,List.all_map,List.all_eq_true]
   intro _ _
   rfl
  show Option.any _ (if ((List.map (fun _=>Value.type "str") (f ::fs)).toArray.all fun x=>x ==Value.type "str")=true then some (Value.type "str") else none)=true
  rw [if_pos hall]
  rfl
theorem Zhq{h:Heap}{v:Value}{p:List Nat}(e:Xi h v=some p):∃(a:Addr) (ob:Obj) (x:Str) (t:Tok) (its:List Value) (n:Nat),v=.ref a∧h.get? a=some ob∧ob.cls=.type "tuple" ∧ob.data=.seq (.str x t ::its).toArray n∧x.cps.toList=p:=by
 unfold Xi at e
 split at e
 ·rename_i a
  split at e
  ·rename_i ob g
   split at e
   ·rename_i its n c d
    split at e
    ·rename_i x t i0
     cases e
     obtain ⟨l⟩:=its
     cases l with
     | nil=>exact absurd i0 (by simp)
     | cons v0 l =>
      have:v0=.str x t:=by simpa using i0
      subst this
      exact ⟨a,ob,x,t,l,n,rfl,g,c,d,rfl⟩
    ·cases e
   ·cases e
  ·cases e
 ·cases e
theorem Zd9{h h':Heap}:∀{vs:List Value},Znc h vs→(∀b ob,(∃v∈vs,v=Value.ref b)→h.get? b=some ob→h'.get? b=some ob)→∃fs ss,StrsAre fs ss∧Paired (fun v f=>∃(a:Addr) (ob:Obj) (its:List Value) (n:Nat),v=.ref a∧h'.get? a=some ob∧ob.cls=.type "tuple" ∧ob.data=.seq (f ::its).toArray n) vs fs
 | [],_,_=>⟨[],[],.nil,.nil⟩
 | v ::vs,hF,kp=>by
  obtain ⟨a,ob,x,t,its,n,rfl,g,c,d⟩:=hF v List.mem_cons_self
  obtain ⟨fs,ss,h1,h2⟩:=Zd9 (vs:=vs) (fun u hu=>hF u (List.mem_cons_of_mem _ hu)) fun b ob ⟨u,hu,e⟩=>kp b ob ⟨u,List.mem_cons_of_mem _ hu,e⟩
  exact ⟨.str x t ::fs,x ::ss,.cons _ _ h1,.cons ⟨a,ob,its,n,rfl,kp a ob ⟨_,List.mem_cons_self,rfl⟩ g,c,d⟩ h2⟩
theorem Zpl:∀{vs:List Value},vs.length<2→(vs.toArray.zip vs.toArray).map (·.2)=vs.toArray
 | [],_=>by simp
 | [_],_=>by simp
 | _ ::_ ::_,h=>absurd h (by simp)
theorem Zra{α β:Type}{f:α→β}{R:β→β→Prop}:∀{vs:List α},vs.length<2→(vs.map f).Pairwise R
 | [],_=>.nil
 | [_],_=>List.pairwise_singleton _ _
 | _ ::_ ::_,h=>absurd h (by simp)
theorem Zwx{α:Type}:∀{vs:List α},2≤vs.length→∃a b r,vs=a ::b ::r
 | a ::b ::r,_=>⟨a,b,r,rfl⟩
theorem Zlz{a:Addr}{vs:List Value}{n:Nat}{P:Fin→Shared→Prop} (hl:s.heap.get? a=some (seqObj "list" vs.toArray n)) (hF:Znc s.heap vs) (nd:(vs.map (Xi s.heap)).Nodup) (h64:vs.length<64)
  (h:∀out:List Value,out.Perm vs→(out.map (Xi s.heap)).Pairwise (fun x y=>∀p q,x=some p→y=some q→¬q<p)→P (.done (.ret .none)) { s with heap:=sortedHeap s.heap a vs out.toArray }):wpAny (model prog w) A (Builtin.«list.sort» ⟨[.ref a],[]⟩) P E s:=by
 rw [list_sort_plain]
 have hlt:a<s.heap.objs.size:=Heap.lt_size hl
 have hfew:vs.length≤sizeLine:=by rw [sizeLine_eq];omega
 refine wpAny_bind (listItems_at hl rfl (wpAny_bind (listUpdate_at hl rfl ?_ (hsz:=by simpa using hfew))))
 obtain ⟨e1,hl1⟩:∃e1,(s.heap.update a (Obj.mapSeq fun _=>#[])).get? a=some (seqObj "list" #[] e1):=⟨_,get?_update_seq hl _⟩
 refine wpAny_bind (seqEpoch_at hl1 rfl (wpAny_bind (wpAny_newTuple (hsz:=by simpa using hfew) (wpAny_bind (wpAny_newList (wpAny_holding ?_))))))
 generalize hH:((s.heap.update a (Obj.mapSeq fun _=>#[])).push (seqObj "tuple" vs.toArray 0)).push (seqObj "list" #[] 0)=hp
 have hl2:hp.get? a=some (seqObj "list" #[] e1):=by
  rw [←hH,Heap.get?_push_ne _ _ _ (by rw [size_push',Heap.size_update];exact Nat.ne_of_lt (Nat.lt_succ_of_lt hlt)),Heap.get?_push_ne _ _ _ (by rw [Heap.size_update];exact Nat.ne_of_lt hlt)]
  exact hl1
 have keep:∀b ob,b≠a→s.heap.get? b=some ob→hp.get? b=some ob:=fun b ob ne hb=>by
  have hb':=Heap.lt_size hb
  rw [←hH,Heap.get?_push_ne _ _ _ (by rw [size_push',Heap.size_update];exact Nat.ne_of_lt (Nat.lt_succ_of_lt hb')),Heap.get?_push_ne _ _ _ (by rw [Heap.size_update];exact Nat.ne_of_lt hb'),Heap.get?_update_other _ _ (Ne.symm ne)]
  exact hb
 have far:∀{b:Addr} {ob:Obj},s.heap.get? b=some ob→ob.cls=.type "tuple" →b≠a:=fun {b ob} g c z=>by
  rw [z,hl] at g
  cases g
  exact absurd c (by show ¬Value.type "list" =Value.type "tuple";decide)
 have fin:∀out:List Value,out.Perm vs→(out.map (Xi s.heap)).Pairwise (fun x y=>∀p q,x=some p→y=some q→¬q<p)→P (.done (.ret .none)) { s with heap:=hp.update a (Obj.mapSeq fun _=>out.toArray) }:=fun out h1 h2=>by
  have:=h out h1 h2
  unfold sortedHeap at this
  rw [hH] at this
  exact this
 show wpAny (model prog w) A _ P E { s with heap:=hp }
 dsimp only
 by_cases h2:vs.toArray.size<2
 ·rw [if_pos h2,if_pos h2]
  refine wpAny_bind (wpAny_pure ?_)
  rw [StateT.run_pure]
  refine wpAny_bind (wpAny_pure ?_)
  dsimp only
  refine wpAny_bind (seqEpoch_at hl2 rfl (wpAny_bind (listUpdate_at hl2 rfl ?_ (hsz2:=by rw [Array.size_map];show (pairsOf vs).size≤_;rw [pairsOf_size,sizeLine_eq];omega))))
  simp only [bne_self_eq_false,Bool.false_eq_true,if_false]
  refine wpAny_pure ?_
  have hv:vs.length<2:=by simpa using h2
  have e:=Zpl hv
  show P _ { s with heap:=hp.update a (Obj.mapSeq fun _=>(vs.toArray.zip vs.toArray).map (·.2)) }
  rw [e]
  exact fin vs (List.Perm.refl _) (Zra hv)
 ·rw [if_neg h2,if_neg h2]
  have h2':2≤vs.length:=by
   have:¬vs.length<2:=by simpa using h2
   omega
  obtain ⟨fs,ss,hS,hpr⟩:=Zd9 (h:=s.heap) (h':=hp) hF fun b ob ⟨v,hv,e⟩ g=>by
   obtain ⟨c,ob',x,t,its,m,e',g',cl,_⟩:=hF v hv
   rw [e'] at e
   cases e
   rw [g] at g'
   cases g'
   exact keep _ _ (far g cl) g
  have hLt:Lts prog w A { s with heap:=hp } (kF s.heap) (tuples' true):=by
   intro x y p q E' Q' kx ky ne hq
   obtain ⟨xa,ox,xn,xt,xi,xm,rfl,gx,cx,dx,rfl⟩:=Zhq (show Xi s.heap x=some p from kx)
   obtain ⟨ya,oy,yn,yt,yi,ym,rfl,gy,cy,dy,rfl⟩:=Zhq (show Xi s.heap y=some q from ky)
   exact Zo1 (s:={ s with heap:=hp }) (keep _ _ (far gx cx) gx) dx (keep _ _ (far gy cy) gy) dy (fun z=>ne (by rw [z])) hq
  have hK:KeysOf (kF s.heap) (pairsOf vs):=fun r hr=>by
   rw [pairsOf_toList] at hr
   obtain ⟨_,hm⟩:=mem_zip_self hr
   obtain ⟨c,ob',x,t,its,m,e',g',cl,d⟩:=hF r.1 hm
   exact ⟨_,by rw [e'];exact Zdz g' cl d⟩
  have hA:Zoh (kF s.heap) (pairsOf vs):=by
   unfold Zoh
   rw [pairsOf_toList]
   rw [Zlk]
   exact nd
  obtain ⟨v1,v2,rest,rfl⟩:=Zwx h2'
  refine wpAny_bind (Zl4 (s:={ s with heap:=hp }) hpr hS ?_)
  refine wpAny_bind (wpAny_mono (Zre hLt hK hA (st:=SortSt.mk' (tuples' true) ((v1 ::v2 ::rest).toArray.zip (v1 ::v2 ::rest).toArray) #[] 7 none) (Q:=fun _ st=>(arrOf st).Perm (pairsOf (v1 ::v2 ::rest))∧failedOf st=none∧SortedToK (kF s.heap) (arrOf st) (pairsOf (v1 ::v2 ::rest)).size) ⟨Array.Perm.refl _,rfl,rfl,rfl⟩ (by rw [pairsOf_size];simp) (by rw [pairsOf_size];exact h64) fun st z1 z2 z3=>⟨z1,z2,z3⟩) ?_ fun _ _ e=>e)
  rintro ⟨⟨⟩,st⟩ s' ⟨rfl,p1,p2,p3⟩
  dsimp only
  have hsz:(arrOf st).size=(v1 ::v2 ::rest).length:=p1.size_eq.trans (pairsOf_size _)
  refine wpAny_bind (seqEpoch_at hl2 rfl (wpAny_bind (listUpdate_at hl2 rfl ?_ (hsz2:=by rw [Array.size_map,hsz,sizeLine_eq];omega))))
  rw [p2]
  simp only [bne_self_eq_false,Bool.false_eq_true,if_false]
  refine wpAny_pure ?_
  have pl:(arrOf st).toList.Perm ((v1 ::v2 ::rest).zip (v1 ::v2 ::rest)):=by rw [←pairsOf_toList];exact Array.perm_iff_toList_perm.mp p1
  have eo:(arrOf st).map (·.2)=((arrOf st).toList.map (·.2)).toArray:=by rw [←Array.toList_map,Array.toArray_toList]
  show P _ { s with heap:=hp.update a (Obj.mapSeq fun _=>(arrOf st).map (·.2)) }
  rw [eo]
  refine fin _ ((pl.map _).trans (by rw [List.map_snd_zip (Nat.le_refl _)])) ?_
  rw [List.pairwise_iff_getElem]
  intro i j hi hj hij
  have hj':j<(arrOf st).size:=by simpa using hj
  have hi':i<(arrOf st).size:=by omega
  have kk:∀x (hx:x<(arrOf st).size),∀p,Xi s.heap (arrOf st)[x].2=some p→KK (kF s.heap) (arrOf st) x=p:=fun x hx p e=>by
   have hm:(arrOf st)[x]∈(v1 ::v2 ::rest).zip (v1 ::v2 ::rest):=pl.mem_iff.mp (Array.mem_toList_iff.mpr (Array.getElem_mem hx))
   obtain ⟨e12,_⟩:=mem_zip_self hm
   unfold KK
   rw [getElem?_pos _ x hx]
   show ((kF s.heap).keyOf (arrOf st)[x].1).getD _=p
   rw [e12]
   show (Xi s.heap (arrOf st)[x].2).getD _=p
   rw [e]
   rfl
  intro p q ep eq
  have ep':Xi s.heap (arrOf st)[i].2=some p:=by simpa using ep
  have eq':Xi s.heap (arrOf st)[j].2=some q:=by simpa using eq
  have:=p3 i j (Nat.le_of_lt hij) (by rw [←p1.size_eq];exact hj')
  rw [kk i hi' p ep',kk j hj' q eq'] at this
  exact of_decide_eq_false this
theorem Zip{l:Addr}{vs:List Value}{Q:Value→Shared→Prop}(hl:s.heap.IsList l vs.toArray)(hF:Znc s.heap vs)(nd:(vs.map (Xi s.heap)).Nodup)(h64:vs.length<64)
  (h:∀out:List Value,out.Perm vs→(out.map (Xi s.heap)).Pairwise (fun x y=>∀p q,x=some p→y=some q→¬q<p)→Q (.ref (s.heap.objs.size+1)) { s with heap:=sortedAll s.heap vs out.toArray }):wpAny (model prog w) A (call (.builtin "sorted") [.ref l]) Q E s:=by
 have hz:vs.length≤sizeLine:=by rw [sizeLine_eq];omega
 refine Calls.call_function_entry kind_sorted plain_sorted entry_sorted (args_sorted1 _) ?_
 unfold Builtin.«sorted»
 refine wpAny_bind (m:=checkCount "sorted" 1 1 _) (wpAny_pure (wpAny_bind (collect_list hl (hsz:=hz) (wpAny_bind (wpAny_newList (hsz:=hz) ?_)))))
 have hs:((s.heap.push (seqObj "list" #[] 0)).update s.heap.objs.size (Obj.mapSeq (· ++ vs.toArray))).objs.size=s.heap.objs.size+1:=by rw [Heap.size_update,size_push']
 have hL:(((s.heap.push (seqObj "list" #[] 0)).update s.heap.objs.size (Obj.mapSeq (· ++ vs.toArray))).push (seqObj "list" vs.toArray 0)).get? (s.heap.objs.size+1)=some (seqObj "list" vs.toArray 0):=by
  rw [←hs];exact Heap.get?_push_size _ rfl
 have kp:∀b o,s.heap.get? b=some o→(((s.heap.push (seqObj "list" #[] 0)).update s.heap.objs.size (Obj.mapSeq (· ++ vs.toArray))).push (seqObj "list" vs.toArray 0)).get? b=some o:=fun b o hb=>by
  have lt:=Heap.lt_size hb
  rw [Heap.get?_push_ne _ _ _ (by rw [hs];exact Nat.ne_of_lt (Nat.lt_succ_of_lt lt)),Heap.get?_update_other _ _ (Nat.ne_of_gt lt)]
  exact Heap.get?_push_of_some _ hb
 show wpAny _ _ _ _ _ { s with heap:=((s.heap.push (seqObj "list" #[] 0)).update s.heap.objs.size (Obj.mapSeq (· ++ vs.toArray))).push (seqObj "list" vs.toArray 0) }
 rw [hs]
 generalize hG:((s.heap.push (seqObj "list" #[] 0)).update s.heap.objs.size (Obj.mapSeq (· ++ vs.toArray))).push (seqObj "list" vs.toArray 0)=hp at hL kp ⊢
 have ek:∀v∈vs,Xi hp v=Xi s.heap v:=fun v hv=>by
  obtain ⟨a,ob,x,t,its,n,rfl,g,c,d⟩:=hF v hv
  rw [Zdz g c d,Zdz (kp _ _ g) c d]
 have em:∀l:List Value,(∀v∈l,v∈vs)→l.map (Xi hp)=l.map (Xi s.heap):=fun l hl=>List.map_congr_left fun v hv=>ek v (hl v hv)
 refine wpAny_bind (wpAny_holding (wpAny_call_entry slot_list_sort ⟨_,hL,rfl⟩ entry_list_sort (Zlz hL (fun v hv=>?_) (by rw [em vs fun _ z=>z];exact nd) h64 fun out h1 h2=>⟨_,rfl,?_⟩) (args_list_sort _)))
 ·obtain ⟨a,ob,x,t,its,n,rfl,g,c,d⟩:=hF v hv
  exact ⟨a,ob,x,t,its,n,rfl,kp _ _ g,c,d⟩
 ·rw [em out fun v hv=>h1.mem_iff.mp hv] at h2
  have:=h out h1 h2
  unfold sortedAll at this
  rw [hG] at this
  exact wpAny_pure ⟨_,rfl,this⟩
end
end L2
namespace L2
open PySem PySem.Spec PyProof.Rows
def Zlc(K:Frag):List V→Hp→VK→Prop:=fun xs H Q=>∃(p:Addr) (as:List Addr) (f:Addr→Str),xs=[.ref p]∧SqL K H p (as.map V.ref)∧(∀a∈as,∃rest,H a=some (.tup (.str (f a) ::rest)))∧(as.map f).Nodup∧as.length<64 ∧
 ∀as':List Addr,as'.Perm as→(as'.map f).Pairwise (fun x y=>¬y.cps.toList<x.cps.toList)→New H (.lst (as'.map V.ref)) Q
def Zjc:Value→Addr
 | .ref a=>a
 | _=>0
theorem Zjw:∀{out:List Value} {as:List Addr},(∀v∈out,v∈as.map Value.ref)→out=(out.map Zjc).map Value.ref
 | [],_,_=>rfl
 | v ::out,as,h=>by
  obtain ⟨a,_,e⟩:=List.mem_map.mp (h v List.mem_cons_self)
  rw [List.map_cons,List.map_cons,←Zjw fun u hu=>h u (List.mem_cons_of_mem _ hu),←e]
  rfl
theorem Zjv:∀as:List Addr,Yd (as.map V.ref) (as.map Value.ref)
 | []=>.nil
 | a ::as=>.cons rfl (Zjv as)
theorem Zib{X:Cx}:Xs X (.builtin "sorted") (Zlc X.K):=by
 intro pins s σ H xs us Q I r h
 obtain ⟨p,as,f,rfl,hp,hf,nd,h64,q⟩:=h
 obtain ⟨u,rfl,rx⟩:=Zcq r
 cases rx
 obtain ⟨its,rv,pl,hz⟩:=I.list hp
 have hits:=Zky rv
 subst hits
 have fk:∀a∈as,∃(ob:Obj) (t:Tok) (l:List Value) (n:Nat),s.heap.get? a=some ob∧ob.cls=.type "tuple" ∧ob.data=.seq (.str (f a) t ::l).toArray n:=fun a ha=>by
  obtain ⟨rest,hr⟩:=hf a ha
  obtain ⟨_,l,rl,ob,g,c,n,d⟩:=(show Yu X.prog X.w H s.heap a (.tup (.str (f a) ::rest)) from I.hok a _ hr)
  cases rl with
  | cons z zs =>
   obtain ⟨t,rfl⟩:=z
   exact ⟨ob,t,_,n,g,c,d⟩
 have fe:∀a∈as,Xi s.heap (.ref a)=some (f a).cps.toList:=fun a ha=>by
  obtain ⟨ob,t,l,n,g,c,d⟩:=fk a ha
  exact Zdz g c d
 have em:∀l:List Addr,(∀a∈l,a∈as)→(l.map Value.ref).map (Xi s.heap)=l.map fun a=>some (f a).cps.toList:=fun l hl=>by
  rw [List.map_map]
  exact List.map_congr_left fun a ha=>fe a (hl a ha)
 refine Zip pl.isList (fun v hv=>?_) ?_ (by rw [List.length_map];exact h64) fun out h1 h2=>?_
 ·obtain ⟨a,ha,rfl⟩:=List.mem_map.mp hv
  obtain ⟨ob,t,l,n,g,c,d⟩:=fk a ha
  exact ⟨a,ob,f a,t,l,n,rfl,g,c,d⟩
 ·rw [em as fun _ z=>z]
  have:(as.map fun a=>some (f a).cps.toList)=(as.map f).map fun x=>some x.cps.toList:=by rw [List.map_map];rfl
  rw [this]
  exact nd.map _ fun x y ne z=>ne (ext_toList (Option.some.inj z))
 ·have hm:∀v∈out,v∈as.map Value.ref:=fun v hv=>h1.mem_iff.mp hv
  have eo:=Zjw hm
  have hperm:(out.map Zjc).Perm as:=by
   have:=h1.map Zjc
   rw [List.map_map] at this
   have e:as.map (Zjc ∘ Value.ref)=as:=by
    rw [show (Zjc ∘ Value.ref)=id from rfl,List.map_id]
   rw [e] at this
   exact this
  generalize hA:out.map Zjc=as' at eo hperm
  subst eo
  rw [em as' fun a ha=>hperm.mem_iff.mp ha] at h2
  obtain ⟨e,he⟩:=sortedAll_at s.heap (as.map Value.ref) (as'.map Value.ref).toArray
  have hn:H (s.heap.objs.size+1)=none:=I.hok.fresh (Nat.le_succ _)
  have hl:=hperm.length_eq
  refine ⟨.ref (s.heap.objs.size+1),_,I.laid (a:=s.heap.objs.size+1) (o:=.lst (as'.map V.ref)) (t':=s.toks) (fun b o h=>sortedAll_old h) (Nat.le_succ _) (show Yu X.prog X.w _ _ _ (.lst _) from ⟨by rw [List.length_map];exact sz (by omega),as'.map Value.ref,e,Zjv _,he⟩),rfl,(q as' hperm ?_).at _ hn⟩
  rw [List.pairwise_map] at h2 ⊢
  exact h2.imp fun z=>z _ _ rfl rfl
end L2
end
section
namespace L2
open PySem PySem.Spec PyProof.Rows
end L2
end
section
namespace L2
open PySem PySem.Spec PyProof.Rows
section
variable {prog:Program} {w:World} {A:Around} {E:Value→Shared→Prop} {s:Shared}
theorem Ziz:entryFor table "proto.unchain" =some Builtin.«proto.unchain» :=entryFor_of_tree (by kernel_rfl)
theorem Zku{e ea:Addr}{oe:Obj}{vs:Array Value}{Q:Value→Shared→Prop}(he:s.heap.get? ea=some oe)(hd:oe.data=.fields vs)(h2:vs[2]? =some .none)(hQ:Q .none s) :
  wpAny (model prog w) A (runValue (.builtin "proto.unchain" ⟨[.ref e,.ref ea,.ref ea,.bool false],[]⟩)) Q E s:=by
 refine wpAny_runValue (codeAny_builtin Ziz ?_)
 show wpAny _ _ (field (.ref ea) 2 >>=_) _ _ s
 refine wpAny_bind (wpAny_field he hd h2 ?_)
 exact wpAny_pure hQ
theorem Zq7{M:Model}{a:Addr}{o:Obj}{vs:Array Value}{i:Nat}{v:Value}{Q:Unit→Shared→Prop}(ho:s.heap.get? a=some o)(hd:o.data=.fields vs)(hi:i<vs.size)(h:Q () { s with heap:=s.heap.update a (Obj.mapFields (·.setIfInBounds i v)) }):wpAny M A (updateField a i v) Q E s:=by
 obtain ⟨c,d,dt,sl⟩:=o
 simp only at hd
 subst hd
 simp only [updateField]
 refine wpAny_bind (wpAny_load ho ?_)
 dsimp only
 rw [if_pos hi]
 exact wpAny_update ho h
theorem Zni{it ea:Addr}{x left step:Int}{oe:Obj}{vs:Array Value}{Q:Option Value→Shared→Prop}(hh:A.handled=some (.ref ea))(he:s.heap.get? ea=some oe)(hd:oe.data=.fields vs)(h2:vs[2]? =some .none)
  (hit:IsRangeIter s.heap it x left step) (hleft:left≤0)
  (hQ:∀h',Heap.ExtBut it s.heap h'→Q none { s with heap:=h' }):wpAny (model prog w) A (pyNext (.ref it)) Q E s:=by
 have hT:s.TypeIs (.ref it) "range_iterator" :=⟨_,hit,rfl⟩
 unfold pyNext
 refine wpAny_bind (wpAny_attempt (wpAny_callSpecial?_slot (name:=Str.ofString "__next__") hT F.slot_range_iterator_next
  (wpAny_call_entry F.slot_range_iterator_next hT F.entry_range_iterator_next ?_ (F.args_range_iterator_next_1 _))))
 show wpAny _ _ (field (.ref it) 0 >>=_) _ _ s
 refine wpAny_bind (wpAny_field hit rfl (x:=rawInt x) rfl ?_)
 show wpAny _ _ (field (.ref it) 1 >>=_) _ _ s
 refine wpAny_bind (wpAny_field hit rfl (x:=rawInt left) rfl ?_)
 show wpAny _ _ (field (.ref it) 2 >>=_) _ _ s
 refine wpAny_bind (wpAny_field hit rfl (x:=rawInt step) rfl ?_)
 show wpAny _ _ (if left≤0 then _ else _) _ _ s
 rw [if_pos hleft]
 refine wpAny_bind (wpAny_rule ?_)
 refine wpAny_bind ?_
 show wpAny _ _ (newExc (.type "StopIteration") [] >>=_) _ _ _
 refine wpAny_bind ?_
 simp only [newExc,newTuple]
 refine wpAny_bind (wpAny_newObj_type ?_ (by size_fits))
 refine wpAny_bind (m:=firstArgMember _ _) (wpAny_of_eq (a:=Value.none) (by first | rfl | (simp only [firstArgMember];rfl)) ?_)
 refine wpAny_newObj_type ?_ (by size_fits)
 simp only [raiseNew]
 refine wpAny_bind (wpAny_handled ?_)
 first | rw [show A.in1.handled=some (.ref ea) from hh] | rw [hh]
 have hne:ea≠(s.heap.push { cls:=.type "tuple",dict:=none,data:=.seq ([]:List Value).toArray }).objs.size:=by
  rw [Heap.size_push]
  exact Nat.ne_of_lt (Nat.lt_succ_of_lt (Heap.lt_size he))
 show wpAny _ _ (if (Value.ref ea !=Value.ref _)=true then _ else _) _ _ _
 rw [if_pos (bne_iff_ne.mpr fun z=>hne (Value.ref.inj z))]
 refine wpAny_bind (wpAny_holding (Zku (Heap.get?_push_of_some _ (Heap.get?_push_of_some _ he)) hd h2 ?_))
 refine wpAny_bind (Zq7 (Heap.get?_push_size _ rfl) rfl (by first | (show 2<6;decide) | simp [ownMembersOf]) ?_)
 refine wpAny_throw ?_
 refine wpAny_bind (wpAny_isInstance (T := "StopIteration") (b:=true) ⟨_,Heap.get?_update_self _ (Heap.get?_push_size _ rfl) rfl,rfl⟩ isSubtype_stop ?_)
 refine wpAny_pure (hQ _ fun b o nb q=>?_)
 show (Heap.update _ _ _).get? b=some o
 rw [Heap.get?_update_other _ _ fun z=>by
  have:=Heap.lt_size q
  rw [←z,Heap.size_push] at this
  exact absurd this (Nat.not_lt.mpr (Nat.le_succ _))]
 exact Heap.get?_push_of_some _ (Heap.get?_push_of_some _ q)
end
section
variable {X:Cx} {pins:List (Addr×Obj)} {σ:St} {H:Hp} {s:Shared}
theorem Inv.forgetC{h':Heap}{t':Nat}{x:Str}{c:Addr}{w' v':Option Value}(I:Inv X pins σ H s)(hfn:X.fn x=true)(hc:X.env.cells.lookup x=some c)(z:s.heap.IsCell c w')(hc':h'.IsCell c v')(hs:Heap.SameBut c s.heap h') :
  Inv X pins (List.replicate X.N.length none) H { s with heap:=h',toks:=t' }:=by
 obtain ⟨m,hn,hl⟩:=id I.loc
 have cne:=I.cne
 obtain ⟨oc,hoc,hocd⟩:=id z
 have tracked:HOk X.prog X.w H h':=fun b ob e=>by
  refine (I.hok b ob e).stay (fun d w2 hd q=>(hs.2 d ?_).trans q) (fun _ q=>q) fun _ _ q=>q
  rintro rfl
  have hfree:=I.freeC x d hc
  rcases hd with rfl|hd
  ·rw [hfree] at e;cases e
  ·rw [hfree] at hd;cases hd
 refine ⟨I.ok,I.os,I.bare,⟨fun b o e n hb hx=>?_,fun b o e n hb hx=>?_,I.base.free,fun b o e hx=>?_,I.base.tups,I.base.frzs,I.base.tbls⟩,⟨m,hn.sameBut hs (Ne.symm (cne x c hc)),fun j y v2 _ e2 _=>?_⟩,fun y c' e=>?_,I.free,I.freeC,fun p hp=>?_,tracked,by simp⟩
 ·exact (hs.2 b (Nat.ne_of_lt (Nat.lt_of_lt_of_le (Heap.lt_size e) (I.ok.cab x c hfn hc)))).trans (I.base.keep b o e n hb hx)
 ·obtain ⟨sl,e1⟩:=I.base.slot b o e n hb hx
  exact ⟨sl,(hs.2 b (Nat.ne_of_lt (Nat.lt_of_lt_of_le (Heap.lt_size e) (I.ok.cab x c hfn hc)))).trans e1⟩
 ·obtain ⟨o',e1⟩:=I.base.there b o e hx
  exact ⟨o',(hs.2 b (Nat.ne_of_lt (Nat.lt_of_lt_of_le (Heap.lt_size e) (I.ok.cab x c hfn hc)))).trans e1⟩
 ·rw [List.getElem?_replicate] at e2
  split at e2 <;>cases e2
 ·by_cases hcc:c'=c
  ·subst hcc;exact ⟨_,hc'⟩
  ·obtain ⟨w2,z2⟩:=I.cell y c' e
   exact ⟨w2,z2.sameBut hs hcc⟩
 ·obtain ⟨e,n,ne,nf,d⟩:=I.pin p hp
  refine ⟨(hs.2 p.1 ?_).trans e,n,ne,nf,d⟩
  intro q
  rw [q,hoc] at e
  have q':oc=p.2:=Option.some.inj e
  exact d w' (by rw [←q'];exact hocd)
theorem Zw6{M:Model}{A:Around}{E:Value→Shared→Prop}{i:Nat}{n:Str}{hpos:Pos}{Q:Unit→Shared→Prop}(J:Inv X pins σ H s)(hN:X.N.Nodup)(hi:X.N[i]? =some n)(hlo:X.env.kindOf n=some .cell)(hsc:X.env.scope.names.lookup n=some .cell)(hfn:X.fn n=true)
  (k:∀s4,Inv X pins (List.replicate X.N.length none) H s4→Q () s4):wpAny M A (do bindName X.env n .none;unbindBehindTheSuite X.env n hpos) Q E s:=by
 refine wpAny_bind (wpAny_bindName (Ze3 (v:=.non) J hN hi (.inr hsc) rfl (fun s1 J1=>?_) (.inl hfn)))
 have hiσ:i<σ.length:=by rw [J.len];exact (List.getElem?_eq_some_iff.mp hi).1
 obtain ⟨m,hn,hl⟩:=id J1.loc
 obtain ⟨u,_,lk⟩:=hl i n .non hi (by rw [List.getElem?_set_self hiσ]) (.inr (.inl hsc))
 rcases lk with ⟨y,_⟩|⟨_,c,hc,hv⟩
 ·rw [hlo] at y;cases y
 unfold unbindBehindTheSuite
 refine wpAny_onRaise ?_
 unfold unbindName
 refine wpAny_bind (wpAny_point (wpAny_bind ?_))
 unfold deleteName
 simp only [hlo]
 refine wpAny_bind (wpAny_cellOf hc (wpAny_bind (wpAny_cellGet hv ?_)))
 simp only [Option.isSome_some,if_true]
 exact wpAny_cellSet hv fun h' hc' hs=>wpAny_point (k _ (J1.forgetC hfn hc hv hc' hs))
end
structure Zt9(ea:Addr)(P:Program)(w:World)(K:Frag)(tg:Expr)(J:It)(fp:List Addr)(it:Addr)(tn:Nat→Heap→Prop):Prop where
 mem:it∈fp
 obj:∀i h,tn i h→∀b∈fp,∃o,h.get? b=some o∧∀v,o.data ≠ .cell v
 keep:∀i h h',tn i h→(∀b∈fp,∀o,h.get? b=some o→h'.get? b=some o)→tn i h'
 item:∀(X:Cx),X.prog=P→X.w=w→X.K=K→X.A.handled=some (.ref ea)→∀(i:Nat) (pins:List (Addr×Obj)) (s:Shared) (σ:St) (H:Hp) (E:Value→Shared→Prop),Inv X pins σ H s→(∀b∈fp,Zd8 X pins H b)→tn i s.heap→J.go i H →
  wpAny (model P w) X.A (pyNext (.ref it)) (fun r s1=>∃u,r=some u ∧
   wpAny (model P w) X.A (letOwnedTupleGo tg (.ref it) u) (fun _ s2=>∃x H',Inv X pins σ H' s2∧Yo x u∧J.yld i H x H'∧tn (i+1) s2.heap∧∀b∈fp,H' b=none) E s1) E s
 done:∀(X:Cx),X.prog=P→X.w=w→X.K=K→X.A.handled=some (.ref ea)→∀(i:Nat) (pins:List (Addr×Obj)) (s:Shared) (σ:St) (H:Hp) (E:Value→Shared→Prop),Inv X pins σ H s→(∀b∈fp,Zd8 X pins H b)→tn i s.heap→J.stop i H →
  wpAny (model P w) X.A (pyNext (.ref it)) (fun r s1=>r=none∧Inv X pins σ H s1) E s
 self:∀(A:Around) (i:Nat) (s:Shared) (Q:Value→Shared→Prop) (E:Value→Shared→Prop),tn i s.heap→Q (.ref it) s→wpAny (model P w) A (pyIter (.ref it)) Q E s
def Zss(ea:Addr)(lo:Int)(n:Nat):It:=⟨fun i _=>i<n,fun i H x H'=>H'=H∧x=.int (lo+i),fun i H=>n≤i∧∃C dx,H ea=some (Zc1 ea C dx)⟩
theorem Zmk{ea:Addr}{P:Program}{w:World}{K:Frag}{tg:Expr}(it:Addr)(lo:Int)(n:Nat):Zt9 ea P w K tg (Zss ea lo n) [it] it (fun i h=>IsRangeIter h it (lo+(i:Nat) * 1) ((n:Int)-(i:Nat)) 1) where
 mem:=by simp
 obj:=fun i h st b hb=>by
  have e:b=it:=by simpa using hb
  subst e
  exact ⟨_,st,fun v z=>by
   have z':Data.fields _=Data.cell v:=z
   cases z'⟩
 keep:=fun i h h' st k=>k it (by simp) _ st
 item:=by
  intro X hP hw hK hc i pins s σ H E I hf st hg
  subst hP hw hK
  obtain ⟨f0,f1,f2,f3,f4,f5⟩:=hf it (by simp)
  have hg:i<n:=hg
  refine wpAny_pyNext_range_item st (by omega) fun h' st' sb=>?_
  have st':IsRangeIter h' it (lo+((i+1:Nat):Nat) * 1) ((n:Int)-((i+1:Nat):Nat)) 1:=by
   have e1:lo+(i:Int) * 1+1=lo+((i+1:Nat):Int) * 1:=by omega
   have e2:(n:Int)-(i:Int)-1=(n:Int)-((i+1:Nat):Int):=by omega
   rw [←e1,←e2]
   exact st'
  have I1:Inv X pins σ H { s with heap:=h',toks:=s.toks+1 }:=I.turned (fun b o hb e=>(sb.2 b hb).trans e) f0 f1 f3 f4 f5
  refine ⟨_,rfl,Zjk (s:={ s with heap:=h',toks:=s.toks+1 }) (n := "range_iterator") st' rfl rfl (by decide) ⟨.int (lo+i),H,I1,⟨s.toks,?_⟩,⟨rfl,rfl⟩,st',fun b hb=>(hf b hb).1⟩⟩
  rw [Int.mul_one]
 done:=by
  intro X hP hw hK hc i pins s σ H E I hf st hg
  subst hP hw hK
  obtain ⟨f0,f1,f2,f3,f4,f5⟩:=hf it (by simp)
  obtain ⟨hg,C,dx,hx⟩:=hg
  obtain ⟨oe,vs,x1,x2,x3⟩:=Zc1.ctx I.hok hx
  exact Zni hc x1 x2 x3 st (by omega) fun h' eb=>⟨rfl,I.turned (t':=s.toks) (fun b o hb e=>eb b o hb e) f0 f1 f3 f4 f5⟩
 self:=fun _ _ _ _ _ st h=>wpAny_pyIter_rangeiter st h
def Zw5(ea:Addr)(X:Cx)(pins:List (Addr×Obj))(σ:St)(tg:Expr)(R:It→Hp→Prop)(itv:Value)(s2:Shared):Prop :=
 ∃(it:Addr) (fp:List Addr) (tn:Nat→Heap→Prop) (J:It) (H':Hp),itv=.ref it∧Inv X pins σ H' s2∧Zt9 ea X.prog X.w X.K tg J fp it tn∧tn 0 s2.heap∧(∀b∈fp,Zd8 X pins H' b)∧R J H'
def PIH(ea:Addr)(X:Cx)(tg iter:Expr)(wi:TI):Prop :=
 ∀(pins:List (Addr×Obj)) (s:Shared) (σ:St) (H:Hp) (R:It→Hp→Prop),Inv X pins σ H s→wi σ H R →
  wpAny (model X.prog X.w) X.A (eval iter X.env) (fun v s1=>wpAny (model X.prog X.w) X.A (pyIter v) (Zw5 ea X pins σ tg R) X.xe s1) X.xe s
section
variable {X:Cx} {tg:Expr} {ea:Addr}
theorem Zps{pins:List (Addr×Obj)}{σ:St}{H:Hp}{s:Shared}{R:It→Hp→Prop}{E:Value→Shared→Prop}{lo hi:Int}{t u v:Tok}{tk:Nat}(I:Inv X pins σ H s)(h1:-(2 ^ 62)≤lo)(h2:lo<2 ^ 62)(h3:-(2 ^ 62)≤hi)(h4:hi<2 ^ 62)
  (q:R (Zss ea lo (hi-lo).toNat) H):wpAny (model X.prog X.w) X.A (pyIter (.ref s.heap.objs.size)) (Zw5 ea X pins σ tg R) E { s with heap:=s.heap.push { cls:=.type "range",data:=.fields #[.int lo t,.int hi u,.int 1 v] },toks:=tk }:=by
 refine wpAny_pyIter_range (IsRange.new ..) (small_one h1 h2 h3 h4) ?_
 have I1:Inv X pins σ H { s with heap:=s.heap.push { cls:=.type "range",data:=.fields #[.int lo t,.int hi u,.int 1 v] },toks:=tk }:=I.kept fun b o e=>Heap.get?_push_of_some _ e
 refine ⟨(s.heap.push { cls:=.type "range",data:=.fields #[.int lo t,.int hi u,.int 1 v] }).objs.size,[(s.heap.push { cls:=.type "range",data:=.fields #[.int lo t,.int hi u,.int 1 v] }).objs.size],_,_,H,rfl,
  I1.kept (t':=tk) fun b o e=>Heap.get?_push_of_some _ e,Zmk _ lo (hi-lo).toNat,?_,fun b hb=>?_,q⟩
 ·have e1:lo+((0:Nat):Int) * 1=lo:=by simp
  have e2:(((hi-lo).toNat:Nat):Int)-((0:Nat):Int)=Builtin.Range.rangeSize lo hi 1:=by rw [rangeSize_one];split <;>omega
  show IsRangeIter _ _ (lo+((0:Nat):Int) * 1) ((((hi-lo).toNat:Nat):Int)-((0:Nat):Int)) 1
  rw [e1,e2]
  exact Heap.get?_push_size _ rfl
 ·have e:b=(s.heap.push { cls:=.type "range",data:=.fields #[.int lo t,.int hi u,.int 1 v] }).objs.size:=by simpa using hb
  subst e
  exact I1.fpOk (Nat.le_refl _) (I1.hok.fresh (Nat.le_refl _))
def Zvl(ea:Addr)(ta:TA):TI:=fun σ H R=>ta σ H fun vs H1=>∃j:Int,vs=[.int j]∧-(2 ^ 62)≤j∧j<2 ^ 62∧R (Zss ea 0 j.toNat) H1
theorem Zmv{a:Expr}{ta:TA}{p pos:Pos} (hg:Gl X "range") (hm:X.mg "range" =none) (ha:PA X [a] ta) (hs:starEach [a] X.env=[(false,eval a X.env)]:=by rfl):PIH ea X tg (.Call (.Name "range" p) [a] [] pos) (Zvl ea ta):=by
 intro pins s σ H R I h
 refine Call_ (Zdf I hg hm boot_range (PyProof.Rows.callWith_type1 (thn (ha pos pins s σ H _ I h) fun us s1 ⟨vs,H1,I1,r1,q1⟩=>?_) hs rfl))
 obtain ⟨j,e,q1,q2,q⟩:=q1
 subst e
 cases r1 with
 | cons r rr =>
  cases rr
  obtain ⟨t,rfl⟩:=r
  exact call_range_1 (Zps I1 (by omega) (by omega) q1 q2 (by simpa using q))
end
theorem Zql{X:Cx}{ea:Addr}{elt tg iter:Expr}{ifs:List Expr}{scope:Scope}{pos:Pos}{cl:List (Str×Addr)}{N':List Str}{fr:St→St}{wi:TI}{g:TG}{tf:TT}{te:TE}
  (hc:X.A.handled=some (.ref ea)) (S:Z9 X scope cl N' fr) (hi:PIH ea X tg iter wi) (hg:∀s H C ex,PG (Yt X scope cl N' s H C ex) tg g) (hf:∀s H C ex,PF (Yt X scope cl N' s H C ex) ifs tf)
  (he:∀s H C ex,PE (Yt X scope cl N' s H C ex) elt te) (hs:∀x,foldedSetIterable iter X.env x=pure x:=by intro _;rfl):PE X (.ListComp elt [⟨tg,iter,ifs,0⟩] scope pos) (Zrr wi fr g tf te):=by
 intro pins s σ H Q I h
 rw [eval_ListComp]
 refine wpAny_comprehension_free (use:=none) rfl hs S.clos S.kind S.names (thn (hi pins s σ H _ I h) fun v s1 h1=>thn h1 fun itv s2 h2=>?_)
 obtain ⟨it,fp,tn,J,H2,e,I2,T,st2,f2,q⟩:=h2
 subst e
 refine wpAny_newObj_type (wpAny_newFunctionEnv S.cell (by intro y hy;simp at hy) (fun h₁ hns₁ hsb₁=>?_) S.kind)
 dsimp only at hns₁ hsb₁ ⊢
 generalize hP:s2.heap.push { cls:=.type "list",dict:=none,data:=.seq ([]:List Value).toArray }=P at hns₁ hsb₁ ⊢
 have hPz:P.objs.size=s2.heap.objs.size+1:=by rw [←hP,Heap.size_push]
 have hCD:s2.heap.objs.size<P.objs.size:=by rw [hPz];exact Nat.lt_succ_self _
 have ho2:∀b∈fp,∃o,s2.heap.get? b=some o:=fun b hb=>let ⟨o,e,_⟩:=T.obj _ _ st2 b hb;⟨o,e⟩
 have below:∀b,b<s2.heap.objs.size→b≠P.objs.size:=fun b hb=>Nat.ne_of_lt (Nat.lt_trans hb hCD)
 have old:∀b o,s2.heap.get? b=some o→h₁.get? b=some o:=fun b o e=>hsb₁.extBut b o (below b (Heap.lt_size e)) (Heap.get?_push_of_some _ (hP ▸ Heap.get?_push_of_some _ e))
 have hacc:h₁.get? s2.heap.objs.size=some { cls:=.type "list",data:=.seq ([]:List Value).toArray 0 }:=hsb₁.extBut _ _ (Nat.ne_of_lt hCD) (Heap.get?_push_of_some _ (hP ▸ Heap.get?_push_size _ rfl))
 have fD:H2 s2.heap.objs.size=none:=I2.hok.fresh (Nat.le_refl _)
 obtain ⟨W,⟨m0,w0⟩,turn⟩:=q s2.heap.objs.size fD
 have hz:h₁.objs.size≤P.objs.size+1:=by
  have e:=hsb₁.1
  rw [Heap.size_push] at e
  exact Nat.le_of_eq e
 have st1:tn 0 h₁:=T.keep _ _ _ st2 fun b hb o e=>old b o e
 have stat:∀{pins':List (Addr×Obj)} {H':Hp},(∀p∈pins',p.1∉fp)→(∀b∈fp,H' b=none)→∀b∈fp,Zd8 (Yt X scope cl N' s2 H2 P.objs.size fp) pins' H' b:=fun {pins' H'} hp hn b hb=>by
  obtain ⟨o,e⟩:=ho2 b hb
  obtain ⟨_,f1,f2',f3,f4,f5⟩:=f2 b hb
  refine ⟨hn b hb,below b (Heap.lt_size e),fun z=>?_,.inl hb,fun x c h=>f4 x c (S.sub x c h),fun p hp' z=>?_⟩
  ·rcases List.mem_cons.mp (I2.stkSub b z) with q|q
   ·exact f1 q
   ·exact f2' q
  ·have hp2:p∈pins':=by simpa [Yt] using hp'
   exact hp p hp2 (by rw [z];exact hb)
 have loop:∀s3:Shared,s3={ s2 with heap:=h₁,toks:=s2.toks+([]:List (Str×Value)).length } →
   codeAny (model X.prog X.w) X.A (.compLoop (.ListComp elt [⟨tg,iter,ifs,0⟩] scope pos) 0 (.ref it) (.ref s2.heap.objs.size) (compEnvC scope cl P.objs.size X.env)) (compPost (model X.prog X.w) X.A X.xe none (EP X pins σ Q) (.ref s2.heap.objs.size) P.objs.size) s3:=by
  rintro s3 rfl
  have I3:Inv (Yt X scope cl N' s2 H2 P.objs.size fp) [] (fr σ) (upd H2 s2.heap.objs.size (.lst [])) { s2 with heap:=h₁,toks:=s2.toks+([]:List (Str×Value)).length }:=Zef I2 S hCD rfl f2 ho2 old hacc hns₁ hz
  refine Ws (fun n s'=>∃i ys H',Inv (Yt X scope cl N' s2 H2 P.objs.size fp) [] (fr σ) H' s'∧tn i s'.heap∧(∀b∈fp,H' b=none)∧W i n ys H') ?_ m0 ⟨0,[],_,I3,st1,fun b hb=>?_,w0⟩
  ·rintro n s3 ⟨i,ys,H3,I3,st3,fr3,w3⟩
   rcases turn i n ys H3 w3 with ⟨stop,qn⟩|⟨go,N,hN,step⟩
   ·refine thn (T.done (Yt X scope cl N' s2 H2 P.objs.size fp) rfl rfl rfl hc i [] s3 (fr σ) H3 _ I3 (stat (by simp) fr3) st3 stop) fun r s4 ⟨hr,I4⟩=>?_
    subst hr
    obtain ⟨m4,hn4,_⟩:=I4.loc
    exact ⟨m4,hn4,fun h' hs'=>⟨.ref s2.heap.objs.size,H3,Zhm I2 hCD f2 I4 hs',rfl,qn⟩⟩
   ·refine thn (T.item (Yt X scope cl N' s2 H2 P.objs.size fp) rfl rfl rfl hc i [] s3 (fr σ) H3 _ I3 (stat (by simp) fr3) st3 go) fun r s4 ⟨u,hr,h4⟩=>?_
    subst hr
    refine thn h4 fun _ s5 ⟨x,H5,I5,r5,y5,st5,fr5⟩=>?_
    have I5':=I5.pinned (stat (by simp) fr5) (T.obj _ _ st5)
    refine thn (hg s2 H2 P.objs.size fp _ s5 (fr σ) H5 x u _ I5' r5 (step x H5 y5)) fun _ s6 ⟨σ6,H6,I6,kp,q6⟩=>?_
    refine thn (hf s2 H2 P.objs.size fp _ s6 σ6 H6 _ I6 q6) fun ok s7 ⟨H7,I7,q7⟩=>?_
    have again:∀{σ8:St} {H8:Hp} {s8:Shared} {ys8:List V},Wr (fr σ) σ8→Inv (Yt X scope cl N' s2 H2 P.objs.size fp) ([]++Zer fp s5.heap) σ8 H8 s8→N ys8 H8 →
      ∃m,m<n∧∃i ys H',Inv (Yt X scope cl N' s2 H2 P.objs.size fp) [] (fr σ) H' s8∧tn i s8.heap∧(∀b∈fp,H' b=none)∧W i m ys H':=fun {σ8 H8 s8 ys8} kp8 I8 n8=>by
     obtain ⟨m',hm,w8⟩:=hN ys8 H8 n8
     refine ⟨m',hm,i+1,ys8,H8,(I8.unpinned).weak (by rw [I8.len];exact S.len σ I2.len) kp8,T.keep _ _ _ st5 fun b hb o e=>(I8.pin (b,o) (List.mem_append_right _ (List.mem_append_right _ (Wt hb e)))).1,fun b hb=>?_,w8⟩
     obtain ⟨o,e,d⟩:=T.obj _ _ st5 b hb
     exact (I8.pin (b,o) (List.mem_append_right _ (List.mem_append_right _ (Wt hb e)))).2.1
    cases ok with
    | false=>exact again kp I7 q7
    | true =>
     refine thn (he s2 H2 P.objs.size fp _ s7 σ6 H7 _ I7 q7) fun uy s8 ⟨y,H8,I8,r8,hD8,hz8,q8⟩=>?_
     exact thn (Xp _ s8 σ6 H8 (.ref s2.heap.objs.size) [y] (.ref s2.heap.objs.size) [uy] (fun _ H9=>N (ys++[y]) H9) I8 rfl (.cons r8 .nil) ⟨_,ys,y,rfl,rfl,hD8,hz8,q8⟩) fun _ s9 ⟨v9,H9,I9,_,q9⟩=>again kp I9 q9
  ·show upd H2 s2.heap.objs.size (.lst []) b=none
   obtain ⟨o,e⟩:=ho2 b hb
   rw [Zi (Nat.ne_of_lt (Heap.lt_size e))]
   exact (f2 b hb).1
 exact codeAny_compStart_list (loop _ rfl) (T.self X.A 0 _ _ _ st1 (loop _ rfl))
theorem Zmc{ea:Addr}{fr:St→St}{g:TG}{tf:TT}{te:TE}{Q:VK}{σ:St}{H1:Hp}{D:Addr}{lo:Int}{n:Nat}(Pv:Nat→List V→Hp→Prop)(h0:Pv 0 [] (upd H1 D (.lst [])))
  (hs:∀i ys H,i<n→Pv i ys H→Zcb fr g tf te σ D (.int (lo+i)) ys H (Pv (i+1))) (hd:∀ys H,Pv n ys H→(∃C dx,H ea=some (Zc1 ea C dx))∧Q (.ref D) H):Zc9 (Zss ea lo n) fr g tf te Q σ H1 D:=by
 refine ⟨fun i m ys H=>m=n-i∧i≤n∧Pv i ys H,⟨n,by simp,Nat.zero_le _,h0⟩,?_⟩
 rintro i m ys H ⟨rfl,hi,p⟩
 by_cases hlt:i<n
 ·refine .inr ⟨hlt,Pv (i+1),fun ys' H' p'=>⟨n-(i+1),by omega,rfl,hlt,p'⟩,fun x H' y=>?_⟩
  obtain ⟨e,y⟩:=y
  subst e y
  exact hs i ys _ hlt p
 ·have e:i=n:=by omega
  subst e
  exact .inl ⟨⟨Nat.le_refl _,(hd ys H p).1⟩,(hd ys H p).2⟩
structure Zca(k:Nat)(A:Around):Prop where
 dp:A.depth+3 * k+5<recursionLimit
 un:A.units+16 * k+200<cLine
theorem W8.h{k:Nat}{A:Around}(r:W8 k A)(h:Option Value):Zca k (A.mark h):=⟨r.dp,r.un⟩
theorem Zca.mono{j k:Nat}{A:Around}(r:Zca k A)(h:j≤k):Zca j A:=⟨by have:=r.dp;omega,by have:=r.un;omega⟩
theorem Zca.deeper{k:Nat}{A:Around}(r:Zca (k+1) A)(env:Env):Zca k (A.deeper env) :=
 ⟨by have:=r.dp;show A.depth+1+3 * k+5<_;omega,by have:=r.un;show A.units+3+16 * k+200<_;omega⟩
theorem Zca.depth{k:Nat}{A:Around}(r:Zca k A):A.depth<recursionLimit:=by have:=r.dp;omega
structure FnOkH(P:Program)(w:World)(K:Frag)(mg:Str→Option Value)(base:Heap)(CX:CXT)(k:Nat)(f:Addr)(fd:FuncData)(ps:List Str)(sp:Sp):Prop where
 len:∀vs H Q E,sp vs H Q E→vs.length=ps.length
 run:∀(A:Around) (outer:List Env) (s:Shared) (H:Hp) (args:Args) (us:List Value) (vs:List V) (Q:VK) (E:XK),Zca k A→Zkk P w K mg base A outer s H→BindsTo s fd args (ps.zip us)→Yd vs us→sp vs H Q E →
  codeAny (model P w) A (.call (.ref f) args) (CR CX outer P w H s Q E) s
abbrev Cx.shy(X:Cx):Cx:={ X with calm:=false }
theorem Zmn{CX:CXT}{P:Program}{w:World}{K:Frag}{mg:Str→Option Value}{base:Heap}{N ps:List Str}{qual:Str}{scope:Scope}{f:Addr}{cd:Value}{A:Around}{outer:List Env}{s s1:Shared}{H:Hp}{E:XK}{us:List Value}{vs:List V}
  (S:Z3 N ps scope) (e0:Zkk P w K mg base A outer s H) (hl:vs.length=ps.length) (r:Yd vs us)
  (x:InCallC s s.heap.objs.size (bindL (envOfC qual scope s.heap.objs.size f cd).kindOf (ps.zip us) fun _=>none) (cellsFrom (s.heap.objs.size+1) scope.names []) (bindC (envOfC qual scope s.heap.objs.size f cd).kindOf (ps.zip us) fun _=>none) s1) :
  Inv (Zck CX P w K mg base N qual scope f cd A outer s H E).shy [] (start N vs) H s1:=by
 have hpl:ps.length≤N.length:=by have:=congrArg List.length S.pre;rw [List.length_take] at this;omega
 obtain ⟨h1,tk,rfl,hk⟩:=x.done
 have noA:∀b:Addr,b∉(Zck CX P w K mg base N qual scope f cd A outer s H E).shy.ex:=fun b z=>absurd (show b∈([]:List Addr) from z) (by simp)
 refine ⟨⟨e0.mod,S.kind,rfl,rfl,Nat.le_refl _,fun y z c h1 h2=>?_,fun y hy=>?_,fun y c _ h=>?_,fun z=>(Bool.false_ne_true z).elim,Around.frames_deeper e0.frames,.inr ⟨rfl,rfl⟩,fun b z=>absurd z (noA b),e0.bs,e0.bsz,fun b _ _=>noA b,fun b z=>absurd z (noA b),e0.funs,e0.frf⟩,
  rfl,e0.bare,Un.kept hk,⟨_,x.toInCall.ns,fun i y v h1 h2 h3=>?_⟩,fun y c h=>⟨_,x.cell y c h⟩,e0.hok.fresh (Nat.le_refl _),fun y c h=>?_,fun p hp=>absurd (show p∈([]:List (Addr×Obj)) from hp) (by simp),e0.hok.kept hk,?_⟩
 ·exact name_of_addr x.apart (PySem.mem_of_lookup h1) (PySem.mem_of_lookup h2)
 ·have hy:scope.names.lookup y=some .cell∨scope.names.lookup y=some .free:=hy
  rcases hy with hy|hy
  ·exact Zez hy
  ·exact absurd rfl (S.nofree _ (PySem.mem_of_lookup hy))
 ·exact Nat.le_of_lt (x.above y c (PySem.mem_of_lookup h))
 ·have hi:i<vs.length:=by
   unfold start at h2
   by_cases hi:i<vs.length
   ·exact hi
   ·rw [List.getElem?_append_right (by simpa using hi)] at h2
    rw [List.getElem?_replicate] at h2
    split at h2 <;>cases h2
  have ha:vs[i]? =some v:=by
   unfold start at h2
   rw [List.getElem?_append_left (by simpa using hi),List.getElem?_map] at h2
   cases e:vs[i]? with
   | none=>rw [e] at h2;cases h2
   | some a=>rw [e] at h2;cases h2;rfl
  obtain ⟨u,hu,rv⟩:=r.get ha
  have hp:ps[i]? =some y:=by
   rw [←S.pre,List.getElem?_take_of_lt (by omega)];exact h1
  have ndP:ps.Nodup:=by rw [←S.pre];exact S.nd.sublist (List.take_sublist _ _)
  refine ⟨u,rv,?_⟩
  rcases S.par y (List.mem_of_getElem? hp) with k|k
  ·exact .inl ⟨k,Zfu ndP hp hu k⟩
  ·obtain ⟨c,e⟩:=Zez (n:=s.heap.objs.size+1) k
   refine .inr ⟨.inl k,c,e,?_⟩
   have q:=x.cell y c e
   rw [Zfs ndP hp hu (by show scope.names.lookup y≠_;rw [k];decide)] at q
   exact q
 ·exact e0.hok.fresh (Nat.le_of_lt (x.above y c (PySem.mem_of_lookup h)))
 ·unfold start
  show _=N.length
  rw [List.length_append,List.length_map,List.length_replicate]
  omega
theorem Zux{CX:CXT}{P:Program}{w:World}{K:Frag}{mg:Str→Option Value}{base:Heap}{k:Nat}{f:Addr}{name qual:Str}{params:Arguments}{body:List Stmt}{scope:Scope}{dV kV doc pm cdv ct oc:Value}{an od:Option Addr}
  {osl:Array (Option Value)} {N ps:List Str} {sp:Sp} (lk:K.lookup f=some ⟨oc,od,.func (fnOf name qual params body scope dV kV doc pm an cdv ct),osl⟩) (hcd:codeIn K cdv qual=true) (S:Z3 N ps scope)
  (len:∀vs H Q E,sp vs H Q E→vs.length=ps.length)
  (hbody:∀(A:Around) (outer:List Env) (s:Shared) (H:Hp) (vs:List V) (Q:VK) (E:XK),Zca k (A.deeper (envOfC qual scope s.heap.objs.size f cdv))→sp vs H Q E →
   ∃t,PSs (Zck CX P w K mg base N qual scope f cdv A outer s H E).shy body t∧t { nx:=fun _ H'=>Q .non H',rt:=Q } (start N vs) H) :
  FnOkH P w K mg base CX (k+1) f (fnOf name qual params body scope dV kV doc pm an cdv ct) ps sp:=by
 refine ⟨len,fun A outer s H args us vs Q E hr e0 hb r hsp=>?_⟩
 have hl:=len _ _ _ _ hsp
 have KX:K.In s.heap:=e0.mod.kin.keeps fun b o e=>(e0.bs b o e).1
 have lim:s.heap.NoLimit:=e0.mod.nolimit.keeps fun b o e=>(e0.bs b o e).1
 have hkind:∀y∈ps.zip us,scope.names.lookup y.1=some .local∨(scope.names.lookup y.1=some .cell∧((cellsFrom (s.heap.objs.size+1) scope.names []).lookup y.1).isSome=true):=fun ⟨n,v⟩ hy=>by
  rcases S.par n (List.of_mem_zip hy).1 with q|q
  ·exact .inl q
  ·exact .inr ⟨q,PySem.W.cellsFrom_some _ _ _ (.inl q)⟩
 refine codeAny_call_function hr.depth (KX _ _ lk) rfl S.co S.gen rfl (PySem.W.codeRec_of KX hcd) (hb _ _ _ _ ?_)
 refine wpAny_newFunctionEnv_cells S.kind hkind fun env he s1 x=>?_
 subst he
 refine ⟨lim.keeps x.toInCall.keep,codeAny_func ?_⟩
 obtain ⟨t,ht,hq⟩:=hbody A outer s H vs Q E (hr.deeper _) hsp
 have I:Inv (Zck CX P w K mg base N qual scope f cdv A outer s H E).shy [] (start N vs) H s1:=Zmn S e0 hl r x
 refine wpAny_mono (ht [] s1 (start N vs) H _ I hq) (fun fl s' hs=>?_) fun e s' hs=>hs
 have fin:∀{σ':St} {H':Hp} {v:V} {u:Value},Inv (Zck CX P w K mg base N qual scope f cdv A outer s H E).shy [] σ' H' s'→Yo v u→Q v H'→CE outer P w H s Q u s' :=
  fun {σ' H' v u} J rv q=>⟨v,H',J.os,J.bare,J.base,J.hok,rv,q⟩
 cases fl with
 | ret u =>
  obtain ⟨v,σ',H',J,rv,q⟩:=hs
  exact fin J rv q
 | next =>
  obtain ⟨σ',H',J,q⟩:=hs
  exact fin (v:=V.non) (u:=Value.none) J rfl q
 | brk =>
  obtain ⟨_,_,_,q⟩:=hs
  exact False.elim q
 | cont =>
  obtain ⟨_,_,_,q⟩:=hs
  exact False.elim q
theorem Fun.okH{P:Program}{w:World}{K:Frag}{mg:Str→Option Value}{base:Heap}{x qual:Str}{st:Stmt}{f:Addr}{fd:FuncData}{N ps:List Str}{k:Nat}{sp:Sp}(F:Fun K x qual st f fd)(S:Z3 N ps (Zg st))(len:∀vs H Q E,sp vs H Q E→vs.length=ps.length)
  (hbody:∀(cdv:Value) (A:Around) (outer:List Env) (s:Shared) (H:Hp) (vs:List V) (Q:VK) (E:XK),Zca k (A.deeper (envOfC qual (Zg st) s.heap.objs.size f cdv))→sp vs H Q E →
   WSs (Zck CX0 P w K mg base N qual (Zg st) f cdv A outer s H E).shy.nox (Zv st) { nx:=fun _ H'=>Q .non H',rt:=Q } (start N vs) H):FnOkH P w K mg base CX0 (k+1) f fd ps sp:=by
 obtain ⟨oc,od,kV,doc,pm,an,cdv,ct,osl,rfl,lk,hcd⟩:=F.ex
 refine Zux lk hcd S len fun A outer s H vs Q E hr hsp=>?_
 exact ⟨_,PSs.nox Zy,hbody cdv A outer s H vs Q E hr hsp⟩
section
variable {X:Cx} {CX:CXT} {k:Nat} {f:Addr} {fd:FuncData} {ps:List Str} {sp:Sp} {dvs:List V} {ds:List Value} {E:XK} {x:Str} {p pos:Pos} {e:Expr} {es:List Expr} {t:TA}
theorem Zsn{pins:List (Addr×Obj)}{σ:St}{H:Hp}{s:Shared}{Q:VK}{us:List Value}{vs:List V}(F:FnOkH X.prog X.w X.K X.mg X.base CX k f fd ps sp)(hr:Zca k X.A)(hb:Zb4 X.K fd ps ds)(hd:Yd dvs ds)(hx:Zbj CX X E)
  (I:Inv X pins σ H s) (r:Yd vs us) (h:sp (vs++dvs) H Q E):wpAny (model X.prog X.w) X.A (call (.ref f) us) (EP X pins σ Q) X.xe s:=by
 have r2:Yd (vs++dvs) (us++ds):=r.append hd
 have hl:(us++ds).length=ps.length:=by rw [←r2.length];exact F.len _ _ _ _ h
 refine wpAny_call (codeAny_mono (F.run X.A X.stack s H ⟨us,[]⟩ (us++ds) (vs++dvs) Q E hr I.env0 (hb s us I.kIn hl) r2 h) fun r s' hq=>?_)
 cases r with
 | error e=>exact hx pins σ H s e s' I hq
 | ok fl =>
  cases fl with
  | ret u=>exact I.after hq
  | next=>exact False.elim hq
  | brk=>exact False.elim hq
  | cont=>exact False.elim hq
theorem Zsf(F:FnOkH X.prog X.w X.K X.mg X.base CX k f fd ps sp)(hr:Zca k X.A)(hg:Gl X x)(hm:X.mg x=some (.ref f))(hk:keepIn X.K (.ref f)=true)(hb:Zb4 X.K fd ps ds)(hd:Yd dvs ds)(hx:Zbj CX X E)
  (ha:PA X (e ::es) t) (hdb:(x ==("__debug__" :Str))=false:=by decide) (he:starEach (e ::es) X.env=(false,eval e X.env) ::starEach es X.env:=by rfl) (hpl:(backTo pos (starEach es X.env)).any (·.1)=false:=by rfl) :
  PE X (.Call (.Name x p) (e ::es) [] pos) (Zt8 sp dvs E t):=by
 intro pins s σ H Q I h
 refine wpAny_Call_Name_kw (Zd3 I hg hm ?_ hdb)
 refine PySem.W.callWith_K (h₀:=X.base) I.ok.mod.kin hk (thn (ha pos pins s σ H _ I h) fun us s1 ⟨vs,H1,I1,r,q⟩=>⟨I1.kIn,?_⟩) he hpl
 exact Zsn F hr hb hd hx I1 r q
end
theorem WS.tryAsC{X:Cx}{σ:St}{H:Hp}{x n:Str}{B:Addr}{i:Nat}{np hpos pos:Pos}{body suite:List Stmt}{b₀:Stmt}{D:Zdc}{Ex:XK}{R:Addr→Option Addr→Hp→Prop}(hm:X.mg x=some (.ref B)) (kB:PySem.W.kitCls X.K (.ref B) (.type "BaseException")=some true) (hg:Gl X x) (hN:X.N.Nodup) (hi:X.N[i]? =some n) (hlo:X.env.kindOf n=some .cell) (hsc:X.env.scope.names.lookup n=some .cell) (hfn:X.fn n=true)
  (hst:X.stack=X.env ::X.outer) (hfm:X.env.frame=some X.env.locals) (hcm:X.calm=true) (hex:X.ex=[]) (hE:∀cls dx H',Ex cls dx H'→∃C,cls=.ref C∧PySem.W.kitCls X.K (.ref C) (.ref B)=some true∧R C dx H')
  (hb:∀pn xe,Zbj (CXF X.prog X.w) (X.tried pn xe) Ex→WSs (X.tried pn xe) body D σ H) (hh:∀(ea C:Addr) (dx:Option Addr) (σ':St) (H':Hp),σ'.length=X.N.length→R C dx H'→H' ea=none→WSs (X.caught ea) (b₀ ::suite) (D.blur X.N.length) (σ'.set i (some (.ref ea))) (upd H' ea (Zc1 ea C dx))) (hd:(x ==("__debug__" :Str))=false:=by decide) :
  WS X (.Try body [.ExceptHandler (some (.Name x np)) (some n) (b₀ ::suite) hpos] [] [] pos) D σ H:=by
 refine ⟨fun pins s I=>?_⟩
 refine wpAny_Try_except ?_
 have pass:Zbj (CXF X.prog X.w) (X.tried (X.pn++pins) fun e s₁=>wpAny (model X.prog X.w) X.A (noteFrame e X.env) (fun _ s₂=>wpAny (model X.prog X.w) X.A (setFlight e none) (fun _ s₃=>wpAny (model X.prog X.w) X.A (handleBy e X.env [.ExceptHandler (some (.Name x np)) (some n) (b₀ ::suite) hpos]) (SP X pins D) X.xe s₃) X.xe s₂) X.xe s₁) Ex:=by
  intro pins' σ' H1 s1 e s2 I1 hc
  obtain ⟨ea,cls,dx,H2,rfl,os,bare,un,hok,⟨a0,B0,fl,pB⟩,hEx⟩:=hc
  obtain ⟨C,rfl,kC,hR⟩:=hE _ _ _ hEx
  have IX:Inv X pins σ' H1 s1:=I1.tryOut
  have I2:Inv X pins σ' H2 s2:=IX.call' os un hok bare (fun b z=>absurd z (by simp))
  have fr:∀b∈frs X.stack,H2 b=none∧∃o,s2.heap.get? b=some o∧∀vs,o.data ≠ .fields vs:=fun b hb=>⟨I2.stkFree b hb,(I2.stack.mem hb).2⟩
  have step:∀h',B0.StaysIn h'→s2.heap.UpToSlots h'→Inv X pins σ' H2 { s2 with heap:=h' }:=fun h' st up =>
   let ⟨u,k⟩:=Zus un hok fr st up pB
   IX.call' (s':={ s2 with heap:=h' }) os u k bare (fun b z=>absurd z (by simp))
  have new:∀b o,s1.heap.get? b=some o→b≠ea:=fun b o q z=>by
   subst z
   obtain ⟨ob,hob,_,_,vs,hvs⟩:=fl.there
   by_cases hf:b∈frs X.stack
   ·obtain ⟨_,o2,h2,h3⟩:=fr b hf
    rw [hob] at h2
    cases h2
    exact h3 vs hvs
   ·have:=pB b ob hob (.inl ⟨o,q⟩) hf
    rw [fl.2.1] at this
    cases this
  have non:H2 ea=none:=by
   cases q:H2 ea with
   | none=>rfl
   | some u =>
    obtain ⟨ob,hob,_⟩:=fl.there
    have:=pB ea ob hob (.inr (by rw [q];exact Option.some_ne_none _)) (fun z=>by have:=(fr ea z).1;rw [q] at this;cases this)
    rw [fl.2.1] at this
    cases this
  have fl:Zcj B0 (X.env ::X.outer) ea (.ref C) a0 dx .none s2.heap:=by rw [←hst];exact fl
  have hfr:X.A.frames=some (X.env ::X.outer):=by rw [←hst];exact I2.ok.frames
  show wpAny (model X.prog X.w) X.A (noteFrame (.ref ea) X.env) _ _ s2
  refine Zg7 hfr hfm fl fun h₄ held₄ sm₄=>Zn8 (s:={ s2 with heap:=h₄ }) held₄ fun h₅ fl₅ sm₅=>?_
  have sm25:s2.heap.UpToSlots h₅:=sm₄.trans sm₅
  have I5:=(step h₅ fl₅.1 sm25).catch ea
  refine wpAny_handleBy_cons (codeAny_handlers_test (Zd3 I5 hg hm ?_ hd)) (by intro q;cases q)
  obtain ⟨ob,hob,hobc,_⟩:=fl₅.there
  refine Zkz I5.kIn hob hobc kB kC (codeAny_handlers_suite_as ?_)
  refine Zn8 (s:={ s2 with heap:=h₅ }) fl₅ fun h₆ fl₆ sm₆=>?_
  have I6:=step h₆ fl₆.1 (sm25.trans sm₆)
  obtain ⟨o6,ho6,oc6,od6,vs6,ov6⟩:=fl₆.there
  have oc2:vs6[2]? =some .none:=by
   obtain ⟨ob,vs,q1,q2,q3⟩:=fl₆.ctx
   rw [ho6] at q1
   cases q1
   rw [ov6] at q2
   cases q2
   exact q3
  have I7:Inv X pins σ' (upd H2 ea (Zc1 ea C dx)) { s2 with heap:=h₆ }:=I6.track non
   (by
    cases q:X.s₀.heap.get? ea with
    | none=>rfl
    | some o =>
     obtain ⟨o',q'⟩:=IX.base.there ea o q (by rw [hex];simp)
     exact absurd rfl (new ea o' q'))
   (fun z=>by
    obtain ⟨m,⟨o,_,_,q,_⟩,_⟩:=IX.loc
    exact new _ o q z.symm)
   (fun y c q=>by
    obtain ⟨v,o,q',_⟩:=IX.cell y c q
    exact new c o q')
   (fun p q=>new p.1 p.2 (IX.pin p q).1) (Zc1.ok ho6 oc6 od6 ov6 oc2)
  refine Ze3 (X:=X.caught ea) (s:={ s2 with heap:=h₆ }) (I7.catch ea) hN hi (.inr hsc) (v:=.ref ea) rfl (fun s8 I8=>?_) (.inl hfn)
  refine wpAny_mono ((hh ea C dx σ' H2 IX.len hR non).run pins _ I8) (fun f s₃ q=>?_) fun _ _ z=>False.elim z
  have hX:=I.ok.hd hcm
  have goes:∀{σ'':St} {H'':Hp} {s3:Shared} {Q:Unit→Shared→Prop},Inv (X.caught ea) pins σ'' H'' s3→(∀s4,Inv X pins (List.replicate X.N.length none) H'' s4→Q () s4)→wpAny (model X.prog X.w) X.A (do bindName X.env n .none;unbindBehindTheSuite X.env n hpos) Q X.xe s3:=by
   intro σ'' H'' s3 Q J k
   exact Zw6 (J.uncatch hX) hN hi hlo hsc hfn k
  cases f with
  | next=>obtain ⟨σ'',H'',J,q⟩:=q;exact goes J fun s4 J4=>⟨_,H'',J4,q⟩
  | brk=>obtain ⟨σ'',H'',J,q⟩:=q;exact goes J fun s4 J4=>⟨_,H'',J4,q⟩
  | cont=>obtain ⟨σ'',H'',J,q⟩:=q;exact goes J fun s4 J4=>⟨_,H'',J4,q⟩
  | ret u=>obtain ⟨v,σ'',H'',J,r,q⟩:=q;exact goes J fun s4 J4=>⟨v,_,H'',J4,r,q⟩
 refine wpAny_mono ((hb _ _ pass).run [] s (I.tryIn _)) (fun f s₁ q=>?_) fun e s₁ z=>z
 cases f with
 | next =>
  obtain ⟨σ',H',J,q⟩:=q
  exact wpAny_execs_nil ⟨σ',H',J.tryOut,q⟩
 | brk=>obtain ⟨σ',H',J,q⟩:=q;exact ⟨σ',H',J.tryOut,q⟩
 | cont=>obtain ⟨σ',H',J,q⟩:=q;exact ⟨σ',H',J.tryOut,q⟩
 | ret u=>obtain ⟨v,σ',H',J,r,q⟩:=q;exact ⟨v,σ',H',J.tryOut,r,q⟩
end L2
end
section
namespace NM
def tA:List Int:=[0,1035609595,1591546621,1776858963,1869515134,207121919,1962171305,454727606,934757567,592286321,1177302783,484597899,2054827476,1896763824,227363803,784868522,1541120607,2082079291,1369884984,958709409,1662393215,867403751,1316040773,418501921,1027413738,1329914572,948381912,913256656,1187423725,1664836201,392434261,1903795744,1844302127,161532633,2114781469,949938980,684942492,1304871617,1553096528,632254608,1904938431,1177567069,1507443699,923030587,1731762210,977450723,1282992784,1986753328,513706869,985311221,664957286,2125682195,474190956,1235096585,456628328,1385409768,1667453686,319569803,1906159924,17552705,1269958954,1073116705,951897872,1004962466]
def tB:List Int:=[0,1073741815,1610612722,1789569691,805306361,214748363,1968526660,766958439,1476394995,2028178983,1181115996,1268967599,984263330,412977621,1457221034,787410664,1811939312,1831677213,2087831306,1412818177,590557998,255652813,1708225614,1820692642,492131665,1331439850,1280230625,676059661,728610517,1369946453,393705332,381005160,905969656,1138817076,1989580421,1871378591,1043915653,1421982403,1780150903,137659207,295278999,1126119464,1201568221,1173624774,854112807,1694125974,910346321,525448122,1319807647,1029915618,665719925,610559071,1713857127,1600483082,1411771645,1971780423,1438047073,1902595145,1758715041,1401324063,196852666,1637016209,190502580,1516873357]
end NM
namespace NM
open PySem L2
def Zfe:List Nat:=[97,98,99,100,101,102,103,104,105,106,107,108,109,110,111,112,113,114,115,116,117,118,119,120,121,122]
theorem Zk2:("abcdefghijklmnopqrstuvwxyz" :Str).cps.toList=Zfe:=by decide +kernel
theorem Zgx:("abcdefghijklmnopqrstuvwxyz" :Str).length=26:=by decide +kernel
def uniq(f:Nat→Str):Nat→List Str
 | 0=>[]
 | n+1=>if f n∈uniq f n then uniq f n else uniq f n++[f n]
end NM
end
section
namespace YM
open PySem L2 NM
def Zee(c k:Int):Int:=((c+7919 * k) * 48271%2147483647) * ((c+7919 * k) * 48271%2147483647+2 * k+1)%2147483629
theorem Zsd(c k:Int):0≤Zee c k:=Int.emod_nonneg _ (by decide)
theorem Zqm(c k:Int):Zee c k<2147483629:=Int.emod_lt_of_pos _ (by decide)
def Zas(ns:List Int)(k:Nat):Int:=match ns[k]? with
 | some c=>Zee c k
 | none=>0
abbrev Zc:=Str×Str
def Yc(k:Str):List Str:=if k = "points" then ["stem", "left", "right"] else if k = "cross" then ["a", "b", "c", "d"] else if k = "plain" then ["a", "b"] else ["a"]
def Zcm(i:Int):Nat:=Zfe.getD i.toNat 0
def Zb0(k:Nat):Str:=toString (k:Int)
def Ys(kind:Str)(c:Int)(k:Nat):Str:=if c%3=0 then ⟨#[kind.cps.toList.getD 0 0]⟩++Zb0 k else (⟨#[Zcm (c / 3%26)]⟩++⟨#[Zcm (c / 78%26)]⟩)++Ze4 "0" (c / 2028%3).toNat++Zb0 k
theorem Zbu:∀k,k<100→(Zb0 k).length≤2:=by decide +kernel
theorem Zce{k:Nat}(h:k<100):(k:Int).natAbs.log2<1920:=by
 rw [Int.natAbs_natCast]
 refine Nat.lt_of_le_of_lt (Nat.log2_le_self k) (by omega)
def Zeb(a c:Nat):Nat:=if 48≤c∧c≤57 then a * 10+(c-48) else 0
def Ze6(s:Str):Nat:=s.cps.toList.foldl Zeb 0
theorem Zka:∀k,k<100→Ze6 (Zb0 k)=k:=by decide +kernel
theorem Zfj:∀k,k<100→0<(Zb0 k).length:=by decide +kernel
theorem Zr7:∀m,m<3→(Ze4 "0" m).cps.toList.foldl Zeb 0=0:=by decide +kernel
theorem Zr0:∀m,m<3→(Ze4 "0" m).length=m:=by decide +kernel
theorem Zsk:∀i,i<26→97≤Zfe.getD i 0∧Zfe.getD i 0≤122:=by decide +kernel
theorem Zjy{i:Int}(h0:0≤i)(h1:i<26):97≤Zcm i∧Zcm i≤122:=Zsk i.toNat (by omega)
theorem Za5(x y:Str):(x++y).cps.toList=x.cps.toList++y.cps.toList:=PySem.W.KT.app_list x y
theorem Zb5{kind:Str}{c:Int}{k:Nat}(hk:57<kind.cps.toList.getD 0 0)(h:k<100):Ze6 (Ys kind c k)=k:=by
 have hbig:∀a c,57<c→Zeb a c=0:=fun a c h=>by unfold Zeb;rw [if_neg (by omega)]
 unfold Ys
 split
 ·unfold Ze6
  rw [Za5,List.foldl_append]
  show List.foldl Zeb (Zeb 0 (kind.cps.toList.getD 0 0)) _=k
  rw [hbig _ _ hk]
  exact Zka k h
 ·have a0:=Int.emod_nonneg (c / 3) (show (26:Int)≠0 by decide)
  have a1:=Int.emod_lt_of_pos (c / 3) (show (0:Int)<26 by decide)
  have b0:=Int.emod_nonneg (c / 78) (show (26:Int)≠0 by decide)
  have b1:=Int.emod_lt_of_pos (c / 78) (show (0:Int)<26 by decide)
  have z0:=Int.emod_nonneg (c / 2028) (show (3:Int)≠0 by decide)
  have z1:=Int.emod_lt_of_pos (c / 2028) (show (0:Int)<3 by decide)
  unfold Ze6
  rw [Za5,Za5,Za5,List.foldl_append,List.foldl_append,List.foldl_append]
  show List.foldl Zeb (List.foldl Zeb (Zeb (Zeb 0 (Zcm (c / 3%26))) (Zcm (c / 78%26))) _) _=k
  rw [hbig _ (Zcm (c / 78%26)) (by have:=Zjy b0 b1;omega),Zr7 _ (by omega)]
  exact Zka k h
theorem Zbr{kind:Str}{c:Int}{k:Nat}(h:k<100):2≤(Ys kind c k).length:=by
 have:=Zfj k h
 unfold Ys
 split
 ·rw [PySem.Str.length_append]
  show 2≤1+_
  omega
 ·rw [PySem.Str.length_append,PySem.Str.length_append,PySem.Str.length_append]
  show 2≤1+1+_+_
  omega
theorem Zpp{kind:Str}{c:Int}{k:Nat}(h:k<100):(Ys kind c k).length≤6:=by
 have:=Zbu k h
 unfold Ys
 split
 ·rw [PySem.Str.length_append]
  show 1+_≤6
  omega
 ·have z0:=Int.emod_nonneg (c / 2028) (show (3:Int)≠0 by decide)
  have z1:=Int.emod_lt_of_pos (c / 2028) (show (0:Int)<3 by decide)
  rw [PySem.Str.length_append,PySem.Str.length_append,PySem.Str.length_append,Zr0 _ (by omega)]
  show 1+1+_+_≤6
  omega
def Ye(ps:List Zc):List Zc:=ps.flatMap fun p=>(Yc p.1).map fun e=>(p.2,e)
def Yr(js:List (Zc×Zc)):List Zc:=js.flatMap fun j=>[j.1,j.2]
theorem Zc5(a b:List Zc):Ye (a++b)=Ye a++Ye b:=List.flatMap_append ..
theorem Wf(a b:List (Zc×Zc)):Yr (a++b)=Yr a++Yr b:=List.flatMap_append ..
def Y6:List Str:=["plain", "points", "cross", "gate", "stop"]
structure Net(ps:List Zc)(js:List (Zc×Zc))(opn:List Zc):Prop where
 perm:(Yr js++opn).Perm (Ye ps)
 nd:(ps.map Prod.snd).Nodup
 apart:∀j∈js,j.1.1≠j.2.1
 kind:∀p∈ps,p.1∈Y6
inductive Zao(n1 n2 n3 n4:Str):List Zc→List (Zc×Zc)→Zc→Zc→Prop
 | plain (a b:Str) (h:(a,b)∈[(("a" :Str),("b" :Str)),("b", "a")]):Zao n1 n2 n3 n4 [("plain",n1)] [] (n1,a) (n1,b)
 | loop (a b:Str) (h:(a,b)∈[(("left" :Str),("right" :Str)),("right", "left")]):Zao n1 n2 n3 n4 [("points",n1),("plain",n2),("plain",n3),("points",n4)] [((n1, "left"),(n2, "a")),((n1, "right"),(n3, "a")),((n2, "b"),(n4,a)),((n4,b),(n3, "b"))] (n1, "stem") (n4, "stem")
 | siding (x a b k:Str) (h:[x,a,b].Perm ["stem", "left", "right"]) (hk:k∈[("stop" :Str), "gate"]):Zao n1 n2 n3 n4 [("points",n1),("plain",n2),(k,n3)] [((n1,x),(n2, "b")),((n2, "a"),(n3, "a"))] (n1,a) (n1,b)
 | cross (k:Str) (hk:k∈[("gate" :Str), "stop"]):Zao n1 n2 n3 n4 [("cross",n1),("gate",n2),(k,n3)] [((n1, "c"),(n2, "a")),((n3, "a"),(n1, "d"))] (n1, "a") (n1, "b")
theorem Zg3{α:Type}{d:α}{l m:List α}(is:List Nat)(h:is.Perm (List.range m.length))(e:l=is.map fun i=>m.getD i d):l.Perm m:=by
 have h2:((List.range m.length).map fun i=>m.getD i d)=m:=by
  apply List.ext_getElem
  ·simp
  ·intro i h1 h3
   simp [List.getD_eq_getElem?_getD,h3]
 rw [e]
 exact (h.map _).trans (by rw [h2])
theorem Zao.sub{n1 n2 n3 n4:Str}{ps:List Zc}{js:List (Zc×Zc)}{a b:Zc}(h:Zao n1 n2 n3 n4 ps js a b):(ps.map Prod.snd).Sublist [n1,n2,n3,n4]:=by
 cases h with
 | plain=>exact .cons_cons _ (List.nil_sublist _)
 | loop=>exact List.Sublist.refl _
 | siding=>exact .cons_cons _ (.cons_cons _ (.cons_cons _ (List.nil_sublist _)))
 | cross=>exact .cons_cons _ (.cons_cons _ (.cons_cons _ (List.nil_sublist _)))
theorem Zd2{k:Str} (hk:k = "gate" ∨k = "stop"):Yc k=[("a" :Str)]:=by rcases hk with rfl|rfl <;>decide +kernel
theorem Zgi:Yc "points" =[("stem" :Str), "left", "right"]:=by decide +kernel
theorem Zc6:Yc "plain" =[("a" :Str), "b"]:=by decide +kernel
theorem Zmr:Yc "cross" =[("a" :Str), "b", "c", "d"]:=by decide +kernel
theorem Zao.perm{n1 n2 n3 n4:Str}{ps:List Zc}{js:List (Zc×Zc)}{a b:Zc}(h:Zao n1 n2 n3 n4 ps js a b):(Yr js++[a,b]).Perm (Ye ps):=by
 cases h with
 | plain a b h =>
  simp only [List.mem_cons,List.mem_nil_iff,or_false,Prod.mk.injEq] at h
  rcases h with ⟨rfl,rfl⟩|⟨rfl,rfl⟩
  ·simp [Yr,Ye,Zc6]
  ·simp only [Yr,Ye,Zc6,List.flatMap_nil,List.flatMap_cons,List.map_cons,List.map_nil,List.nil_append,List.append_nil]
   exact List.Perm.swap _ _ _
 | loop a b h =>
  have he:Ye [("points",n1),("plain",n2),("plain",n3),("points",n4)]=([(n1, "stem"),(n1, "left"),(n1, "right"),(n2, "a"),(n2, "b"),(n3, "a"),(n3, "b"),(n4, "stem"),(n4, "left"),(n4, "right")]:List Zc):=by simp [Ye,Zgi,Zc6]
  rw [he]
  simp only [List.mem_cons,List.mem_nil_iff,or_false,Prod.mk.injEq] at h
  rcases h with ⟨rfl,rfl⟩|⟨rfl,rfl⟩
  ·exact Zg3 (d:=(n1,n1)) [1,3,2,5,4,8,9,6,0,7] (show List.Perm _ (List.range 10) by decide) rfl
  ·exact Zg3 (d:=(n1,n1)) [1,3,2,5,4,9,8,6,0,7] (show List.Perm _ (List.range 10) by decide) rfl
 | siding x a b k h hk =>
  have hk':k = "gate" ∨k = "stop" :=by
   simp only [List.mem_cons,List.mem_nil_iff,or_false] at hk
   exact hk.symm
  have he:Ye [("points",n1),("plain",n2),(k,n3)]=([("stem" :Str), "left", "right"].map fun e=>(n1,e))++([(n2, "a"),(n2, "b"),(n3, "a")]:List Zc):=by simp [Ye,Zgi,Zc6,Zd2 hk']
  rw [he]
  refine List.Perm.trans ?_ (List.Perm.append_right _ (h.map fun e=>(n1,e)))
  exact Zg3 (d:=(n1,n1)) [0,4,3,5,1,2] (show List.Perm _ (List.range 6) by decide) rfl
 | cross k hk =>
  have hk':k = "gate" ∨k = "stop" :=by
   simp only [List.mem_cons,List.mem_nil_iff,or_false] at hk
   exact hk
  have he:Ye [("cross",n1),("gate",n2),(k,n3)]=([(n1, "a"),(n1, "b"),(n1, "c"),(n1, "d"),(n2, "a"),(n3, "a")]:List Zc):=by simp [Ye,Zmr,Zd2 hk',Zd2 (k := "gate") (.inl rfl)]
  rw [he]
  exact Zg3 (d:=(n1,n1)) [2,4,5,3,0,1] (show List.Perm _ (List.range 6) by decide) rfl
theorem Zao.kind{n1 n2 n3 n4:Str}{ps:List Zc}{js:List (Zc×Zc)}{a b:Zc}(h:Zao n1 n2 n3 n4 ps js a b):∀p∈ps,p.1∈Y6:=by
 cases h with
 | plain=>intro p hp;simp at hp;subst hp;simp [Y6]
 | loop=>intro p hp;simp at hp;rcases hp with rfl|rfl|rfl|rfl <;>simp [Y6]
 | siding x a b k h hk=>intro p hp;simp at hp hk;rcases hp with rfl|rfl|rfl <;>rcases hk with rfl|rfl <;>simp [Y6]
 | cross k hk=>intro p hp;simp at hp hk;rcases hp with rfl|rfl|rfl <;>rcases hk with rfl|rfl <;>simp [Y6]
theorem Zao.apart{n1 n2 n3 n4:Str}{ps:List Zc}{js:List (Zc×Zc)}{a b:Zc}(h:Zao n1 n2 n3 n4 ps js a b)(nd:[n1,n2,n3,n4].Nodup):∀j∈js,j.1.1≠j.2.1:=by
 simp only [List.nodup_cons,List.mem_cons,List.mem_nil_iff,or_false,not_or,List.not_mem_nil,not_false_eq_true,List.nodup_nil,and_true] at nd
 obtain ⟨⟨a1,a2,a3⟩,⟨b1,b2⟩,c1⟩:=nd
 cases h with
 | plain=>intro j hj;cases hj
 | loop=>intro j hj;simp at hj;rcases hj with rfl|rfl|rfl|rfl <;>first|assumption|exact Ne.symm (by assumption)
 | siding x a b k h hk=>intro j hj;simp at hj;rcases hj with rfl|rfl <;>first|assumption|exact Ne.symm (by assumption)
 | cross k hk=>intro j hj;simp at hj;rcases hj with rfl|rfl <;>first|assumption|exact Ne.symm (by assumption)
theorem Zao.opens{n1 n2 n3 n4:Str}{ps:List Zc}{js:List (Zc×Zc)}{a b:Zc}(h:Zao n1 n2 n3 n4 ps js a b):a.1∈ps.map Prod.snd∧b.1∈ps.map Prod.snd:=by
 cases h <;>simp
theorem Zdi{ps:List Zc}{e:Zc}(h:e∈Ye ps):e.1∈ps.map Prod.snd:=by
 obtain ⟨p,hp,he⟩:=List.mem_flatMap.mp h
 obtain ⟨x,_,rfl⟩:=List.mem_map.mp he
 exact List.mem_map.mpr ⟨p,hp,rfl⟩
theorem Net.more{ps:List Zc}{js:List (Zc×Zc)}{e:Zc}{n1 n2 n3 n4:Str}{qs:List Zc}{ks:List (Zc×Zc)}{a b:Zc}(h:Net ps js [e])(B:Zao n1 n2 n3 n4 qs ks a b)(nd:[n1,n2,n3,n4].Nodup)(new:∀n∈[n1,n2,n3,n4],n∉ps.map Prod.snd):Net (ps++qs) (js++ks++[(e,a)]) [b]:=by
 have he:e.1∈ps.map Prod.snd:=Zdi (h.perm.subset (by simp))
 have ha:a.1∉ps.map Prod.snd:=new _ (B.sub.subset B.opens.1)
 refine ⟨?_,?_,?_,?_⟩
 ·rw [Wf,Wf,Zc5]
  refine List.Perm.trans ?_ (h.perm.append B.perm)
  show (Yr js++Yr ks++[e,a]++[b]).Perm ((Yr js++[e])++(Yr ks++[a,b]))
  rw [List.append_assoc,List.append_assoc,List.append_assoc]
  refine List.Perm.append_left _ ?_
  show (Yr ks++([e]++[a,b])).Perm ([e]++(Yr ks++[a,b]))
  rw [←List.append_assoc,←List.append_assoc]
  exact List.Perm.append_right _ List.perm_append_comm
 ·rw [List.map_append,List.nodup_append]
  exact ⟨h.nd,List.Pairwise.sublist B.sub nd,fun x hx y hy z=>new y (B.sub.subset hy) (z ▸ hx)⟩
 ·intro j hj
  rw [List.mem_append,List.mem_append] at hj
  rcases hj with (z|z)|z
  ·exact h.apart j z
  ·exact B.apart nd j z
  ·simp at z
   subst z
   exact fun y=>ha (y ▸ he)
 ·intro p hp
  rcases List.mem_append.mp hp with z|z
  ·exact h.kind p z
  ·exact B.kind p z
def Zld(s:Str)(n:Nat):Prop:=∃kd c k,(96<kd.cps.toList.getD 0 0∧kd.cps.toList.getD 0 0<123)∧k<n∧s=Ys kd c k
theorem Zao.len{n1 n2 n3 n4:Str}{ps:List Zc}{js:List (Zc×Zc)}{a b:Zc}(h:Zao n1 n2 n3 n4 ps js a b):ps.length≤4∧js.length≤4:=by
 cases h <;>simp
structure Zc3(i:Nat)(ps:List Zc)(js:List (Zc×Zc))(cur:Zc):Prop where
 net:Net ps js [cur]
 pl:ps.length≤1+4 * i
 jl:js.length≤5 * i
 nm:∀p∈ps,p=((("gate" :Str),("g" :Str)):Zc)∨Zld p.2 (4 * i)
theorem Zc3.start:Zc3 0 [("gate", "g")] [] ("g", "a"):=by
 refine ⟨⟨?_,by simp,by simp,by simp [Y6]⟩,by simp,by simp,by simp⟩
 simp [Yr,Ye,Zd2 (k := "gate") (.inl rfl)]
theorem Zod{x s:Str}(hx:x.length=1)(h:2≤s.length):s≠x:=fun z=>by rw [z] at h;omega
theorem Zc3.more{i:Nat}{ps:List Zc}{js:List (Zc×Zc)}{cur:Zc}{k1 k2 k3 k4:Str}{c1 c2 c3 c4:Int}{qs:List Zc}{ks:List (Zc×Zc)}{a b:Zc}(h:Zc3 i ps js cur)(hi:i<20)
  (g1:96<k1.cps.toList.getD 0 0∧k1.cps.toList.getD 0 0<123) (g2:96<k2.cps.toList.getD 0 0∧k2.cps.toList.getD 0 0<123) (g3:96<k3.cps.toList.getD 0 0∧k3.cps.toList.getD 0 0<123) (g4:96<k4.cps.toList.getD 0 0∧k4.cps.toList.getD 0 0<123)
  (B:Zao (Ys k1 c1 (4 * i)) (Ys k2 c2 (4 * i+1)) (Ys k3 c3 (4 * i+2)) (Ys k4 c4 (4 * i+3)) qs ks a b):Zc3 (i+1) (ps++qs) (js++ks++[(cur,a)]) b:=by
 have v1:=Zb5 (c:=c1) (Nat.lt_trans (by decide) g1.1) (show 4 * i<100 by omega)
 have v2:=Zb5 (c:=c2) (Nat.lt_trans (by decide) g2.1) (show 4 * i+1<100 by omega)
 have v3:=Zb5 (c:=c3) (Nat.lt_trans (by decide) g3.1) (show 4 * i+2<100 by omega)
 have v4:=Zb5 (c:=c4) (Nat.lt_trans (by decide) g4.1) (show 4 * i+3<100 by omega)
 have ne:∀{x y:Str} {m n:Nat},Ze6 x=m→Ze6 y=n→m≠n→x≠y:=fun hx hy hn z=>hn (by rw [←hx,←hy,z])
 have nd:[Ys k1 c1 (4 * i),Ys k2 c2 (4 * i+1),Ys k3 c3 (4 * i+2),Ys k4 c4 (4 * i+3)].Nodup:=by
  simp [ne v1 v2 (by omega),ne v1 v3 (by omega),ne v1 v4 (by omega),ne v2 v3 (by omega),ne v2 v4 (by omega),ne v3 v4 (by omega)]
 have all:∀n∈[Ys k1 c1 (4 * i),Ys k2 c2 (4 * i+1),Ys k3 c3 (4 * i+2),Ys k4 c4 (4 * i+3)],4 * i≤Ze6 n∧2≤n.length∧Zld n (4 * (i+1)):=by
  intro n hn
  simp only [List.mem_cons,List.mem_nil_iff,or_false] at hn
  rcases hn with rfl|rfl|rfl|rfl
  ·exact ⟨by omega,Zbr (by omega),_,_,_,g1,by omega,rfl⟩
  ·exact ⟨by omega,Zbr (by omega),_,_,_,g2,by omega,rfl⟩
  ·exact ⟨by omega,Zbr (by omega),_,_,_,g3,by omega,rfl⟩
  ·exact ⟨by omega,Zbr (by omega),_,_,_,g4,by omega,rfl⟩
 refine ⟨h.net.more B nd fun n hn hm=>?_,?_,?_,?_⟩
 ·obtain ⟨p,hp,rfl⟩:=List.mem_map.mp hm
  obtain ⟨a1,a2,_⟩:=all _ hn
  rcases h.nm p hp with z|⟨kd,c,k,hk,hlt,e⟩
  ·exact Zod (x := "g") (by decide +kernel) a2 (by rw [z])
  ·rw [e,Zb5 (Nat.lt_trans (by decide) hk.1) (by omega)] at a1
   omega
 ·have:=B.len.1;have:=h.pl;rw [List.length_append];omega
 ·have:=B.len.2;have:=h.jl;rw [List.length_append,List.length_append];show _+_+1≤_;omega
 ·intro p hp
  rcases List.mem_append.mp hp with z|z
  ·rcases h.nm p z with y|⟨kd,c,k,hk,hlt,e⟩
   ·exact .inl y
   ·exact .inr ⟨kd,c,k,hk,by omega,e⟩
  ·exact .inr (all _ (B.sub.subset (List.mem_map.mpr ⟨p,z,rfl⟩))).2.2
theorem Zc3.done{i:Nat}{ps:List Zc}{js:List (Zc×Zc)}{cur:Zc}(h:Zc3 i ps js cur)(hi:i<20):Net (ps++[(("gate" :Str),("h" :Str))]) (js++[(cur,(("h" :Str),("a" :Str)))]) []:=by
 have hno:("h" :Str)∉ps.map Prod.snd:=fun z=>by
  obtain ⟨p,hp,e⟩:=List.mem_map.mp z
  rcases h.nm p hp with y|⟨kd,c,k,hk,hlt,y⟩
  ·rw [y] at e
   exact absurd e (by decide +kernel)
  ·exact Zod (x := "h") (by decide +kernel) (Zbr (kind:=kd) (c:=c) (k:=k) (by omega)) (by rw [←y];exact e)
 have hc:cur.1∈ps.map Prod.snd:=Zdi (h.net.perm.subset (by simp))
 refine ⟨?_,?_,?_,?_⟩
 ·rw [Wf,Zc5,List.append_nil]
  have he:Ye [("gate", "h")]=([("h", "a")]:List Zc):=by simp [Ye,Zd2 (k := "gate") (.inl rfl)]
  rw [he]
  show (Yr js++([cur]++[(("h" :Str),("a" :Str))])).Perm _
  rw [←List.append_assoc]
  exact List.Perm.append_right _ h.net.perm
 ·rw [List.map_append,List.nodup_append]
  exact ⟨h.net.nd,by simp,fun x hx y hy z=>by simp at hy;rw [z,hy] at hx;exact hno hx⟩
 ·intro j hj
  rcases List.mem_append.mp hj with z|z
  ·exact h.net.apart j z
  ·simp at z
   subst z
   exact fun y=>hno (by have y:cur.1=("h" :Str):=y;rw [←y];exact hc)
 ·intro p hp
  rcases List.mem_append.mp hp with z|z
  ·exact h.net.kind p z
  ·simp at z
   subst z
   simp [Y6]
def W7(j:Nat):Str := "e" ++ Zb0 j
def Zeq(rest:List Zc)(i:Nat)(nps:List Zc)(njs:List (Zc×Zc)):Prop:=∃ks:List Str,ks.length=i∧(∀k∈ks,k = "gate" ∨k = "stop")∧nps=(List.range i).map (fun j=>(ks.getD j "gate",W7 j))∧njs=(List.range i).map (fun j=>(rest.getD j ("", ""),(W7 j,("a" :Str))))
theorem Zeq.more{rest:List Zc}{i:Nat}{nps:List Zc}{njs:List (Zc×Zc)}{k:Str}{q:Zc}(h:Zeq rest i nps njs) (hk:k = "gate" ∨k = "stop") (hq:rest[i]? =some q):Zeq rest (i+1) (nps++[(k,W7 i)]) (njs++[(q,(W7 i,("a" :Str)))]):=by
 obtain ⟨ks,hl,hks,rfl,rfl⟩:=h
 refine ⟨ks++[k],by rw [List.length_append,hl];rfl,?_,?_,?_⟩
 ·intro x hx
  rcases List.mem_append.mp hx with z|z
  ·exact hks x z
  ·simp at z;rw [z];exact hk
 ·rw [List.range_succ,List.map_append]
  congr 1
  ·refine List.map_congr_left fun j hj=>?_
   have hj:=List.mem_range.mp hj
   rw [List.getD_eq_getElem?_getD,List.getD_eq_getElem?_getD,List.getElem?_append_left (by omega)]
  ·show [(k,W7 i)]=[((ks++[k]).getD i "gate",W7 i)]
   rw [List.getD_eq_getElem?_getD,List.getElem?_append_right (by omega),hl,Nat.sub_self]
   rfl
 ·rw [List.range_succ,List.map_append]
  congr 1
  show [(q,(W7 i,("a" :Str)))]=[(rest.getD i ("", ""),(W7 i,("a" :Str)))]
  rw [List.getD_eq_getElem?_getD,hq]
  rfl
theorem Zr4(k:Str):(Yc k).Nodup:=by
 unfold Yc
 split
 ·decide +kernel
 ·split
  ·decide +kernel
  ·split <;>decide +kernel
theorem Za1:∀{ps:List Zc},(ps.map Prod.snd).Nodup→(Ye ps).Nodup
 | [],_=>List.nodup_nil
 | p ::ps,h=>by
  rw [List.map_cons,List.nodup_cons] at h
  rw [show Ye (p ::ps)=((Yc p.1).map fun e=>(p.2,e))++Ye ps from List.flatMap_cons ..,List.nodup_append]
  refine ⟨?_,Za1 h.2,?_⟩
  ·refine List.Pairwise.map _ (fun a b z y=>z ?_) (Zr4 p.1)
   exact (Prod.mk.inj y).2
  ·intro x hx y hy z
   obtain ⟨e,_,rfl⟩:=List.mem_map.mp hx
   rw [←z] at hy
   exact h.1 (Zdi hy)
theorem Net.ond{ps:List Zc}{js:List (Zc×Zc)}{o:List Zc}(h:Net ps js o):o.Nodup:=by
 have:=(h.perm.nodup_iff).mpr (Za1 h.nd)
 exact (List.nodup_append.mp this).2.1
theorem Net.add{ps:List Zc}{js:List (Zc×Zc)}{o:List Zc}{k n:Str}(h:Net ps js o)(hn:n∉ps.map Prod.snd)(hk:k∈Y6):Net (ps++[(k,n)]) js (o++(Yc k).map fun e=>(n,e)):=by
 refine ⟨?_,?_,h.apart,?_⟩
 ·rw [Zc5,←List.append_assoc]
  have:Ye [(k,n)]=(Yc k).map fun e=>(n,e):=by simp [Ye]
  rw [this]
  exact List.Perm.append_right _ h.perm
 ·rw [List.map_append,List.nodup_append]
  exact ⟨h.nd,by simp,fun x hx y hy z=>by simp at hy;rw [z,hy] at hx;exact hn hx⟩
 ·intro p hp
  rcases List.mem_append.mp hp with z|z
  ·exact h.kind p z
  ·simp at z
   rw [z]
   exact hk
theorem Net.join{ps:List Zc}{js:List (Zc×Zc)}{o o':List Zc}{a b:Zc}(h:Net ps js o)(hp:(a ::b ::o').Perm o)(ne:a.1≠b.1):Net ps (js++[(a,b)]) o':=by
 refine ⟨?_,h.nd,?_,h.kind⟩
 ·rw [Wf]
  refine List.Perm.trans ?_ h.perm
  show (Yr js++[a,b]++o').Perm _
  rw [List.append_assoc]
  exact List.Perm.append_left _ hp
 ·intro j hj
  rcases List.mem_append.mp hj with z|z
  ·exact h.apart j z
  ·simp at z
   rw [z]
   exact ne
theorem Zev{α:Type}:∀{l:List α} {i:Nat} {a:α},l[i]? =some a→(a ::l.eraseIdx i).Perm l
 | [],_,_,h=>by cases h
 | x ::l,0,a,h=>by cases h;exact List.Perm.refl _
 | x ::l,i+1,a,h=>by
  rw [List.eraseIdx_cons_succ]
  exact (List.Perm.swap x a _).trans ((Zev (l:=l) h).cons x)
theorem Zr2{α:Type}{l m:List α}{i j:Nat}{a b:α}(ha:l[i]? =some a)(hb:m[j]? =some b):(a ::b ::(l.eraseIdx i++m.eraseIdx j)).Perm (l++m):=by
 refine List.Perm.trans ?_ ((Zev ha).append (Zev hb))
 show List.Perm _ (a ::(l.eraseIdx i++(b ::m.eraseIdx j)))
 exact (List.perm_middle.symm).cons a
theorem Zoz{l:List Zc}{a:Zc}(nd:l.Nodup)(ha:a∈l):(a ::l.filter fun e=>decide (e≠a)).Perm l:=by
 induction l with
 | nil=>cases ha
 | cons x l ih =>
  rw [List.nodup_cons] at nd
  by_cases z:x=a
  ·subst z
   rw [List.filter_cons,if_neg (by simp)]
   have:(l.filter fun e=>decide (e≠x))=l:=List.filter_eq_self.mpr fun e he=>decide_eq_true fun y=>nd.1 (y ▸ he)
   rw [this]
  ·rw [List.filter_cons,if_pos (decide_eq_true z)]
   have ha':a∈l:=by
    rcases List.mem_cons.mp ha with y|y
    ·exact absurd y.symm z
    ·exact y
   exact (List.Perm.swap x a _).trans ((ih nd.2 ha').cons x)
theorem Zp3{r:Zc}{l:List Zc}{a:Zc}(nd:(r ::l).Nodup)(ha:a∈l):(a ::r ::l.filter fun e=>decide (e≠a)).Perm (r ::l) :=
 (List.Perm.swap r a _).trans ((Zoz (List.nodup_cons.mp nd).2 ha).cons r)
theorem Zn4{j:Nat}(h:j<100):Ze6 (W7 j)=j:=by
 unfold W7 Ze6
 rw [Za5,List.foldl_append]
 exact Zka j h
theorem Zo8:∀k,k<100→(Zb0 k).cps.toList.getD 0 0≤57:=by decide +kernel
theorem Zr8{kd:Str}{c:Int}{k j:Nat}(hj:j<100)(hk:kd.cps.toList.getD 0 0≠101):Ys kd c k≠W7 j:=by
 intro z
 have z':=congrArg (fun s:Str=>s.cps.toList) z
 have he:(W7 j).cps.toList=101 ::(Zb0 j).cps.toList:=by unfold W7;rw [Za5];rfl
 simp only [he] at z'
 unfold Ys at z'
 split at z'
 ·rw [Za5] at z'
  exact hk (List.cons.inj z').1
 ·rw [Za5,Za5,Za5] at z'
  have b0:=Int.emod_nonneg (c / 78) (show (26:Int)≠0 by decide)
  have b1:=Int.emod_lt_of_pos (c / 78) (show (0:Int)<26 by decide)
  have hb:=Zjy b0 b1
  have z2:=(List.cons.inj z').2
  have hf:=Zo8 j hj
  rw [←z2] at hf
  have:Zcm (c / 78%26)≤57:=hf
  omega
theorem Net.closed{ps:List Zc}{js:List (Zc×Zc)}{rest nps:List Zc}{njs:List (Zc×Zc)}(h:Net ps js rest)(hc:Zeq rest rest.length nps njs)(hl:rest.length≤90)(hn:∀j,j<90→W7 j∉ps.map Prod.snd):Net (ps++nps) (js++njs) []:=by
 obtain ⟨ks,hkl,hks,rfl,rfl⟩:=hc
 have hno:∀n,n≤rest.length→Net (ps++(List.range n).map fun j=>(ks.getD j "gate",W7 j)) (js++(List.range n).map fun j=>(rest.getD j ("", ""),(W7 j,("a" :Str)))) (rest.drop n):=by
  intro n
  induction n with
  | zero=>intro _;simpa using h
  | succ n ih =>
   intro hn'
   have h0:=ih (by omega)
   have hlt:n<rest.length:=by omega
   have hkd:ks.getD n "gate" = "gate" ∨ks.getD n "gate" = "stop" :=hks _ (by
    rw [List.getD_eq_getElem?_getD,List.getElem?_eq_getElem (by omega)]
    exact List.getElem_mem _)
   have hnew:W7 n∉(ps++(List.range n).map fun j=>(ks.getD j "gate",W7 j)).map Prod.snd:=by
    rw [List.map_append,List.mem_append]
    rintro (z|z)
    ·exact hn n (by omega) z
    ·rw [List.map_map] at z
     obtain ⟨j,hj,e⟩:=List.mem_map.mp z
     have hj:=List.mem_range.mp hj
     have:=congrArg Ze6 e
     rw [Zn4 (by omega)] at this
     have h2:Ze6 (W7 j)=n:=this
     rw [Zn4 (by omega)] at h2
     omega
   have h1:=h0.add hnew (k:=ks.getD n "gate") (by rcases hkd with z|z <;>rw [z] <;>simp [Y6])
   rw [Zd2 hkd] at h1
   have hd:rest.drop n=rest.getD n ("", "") ::rest.drop (n+1):=by
    rw [List.drop_eq_getElem_cons hlt,List.getD_eq_getElem?_getD,List.getElem?_eq_getElem hlt]
    rfl
   have hin:(rest.getD n ("", "")).1≠W7 n:=by
    have:rest.getD n ("", "")∈rest.drop n:=by rw [hd];simp
    have h3:=Zdi (h0.perm.subset (List.mem_append_right _ this))
    exact fun z=>hnew (z ▸ h3)
   have h2:=h1.join (a:=rest.getD n ("", "")) (b:=(W7 n, "a")) (o':=rest.drop (n+1)) (by
    rw [hd]
    show List.Perm _ (rest.getD n ("", "") ::(rest.drop (n+1)++[(W7 n,("a" :Str))]))
    exact (List.perm_append_singleton _ _).symm.cons _) hin
   rw [List.range_succ,List.map_append,List.map_append,←List.append_assoc,←List.append_assoc]
   exact h2
 have:=hno rest.length (Nat.le_refl _)
 rwa [List.drop_length] at this
end YM
end
section
namespace YM
open PySem L2 NM
theorem Zgz:∀k∈Y6,57<k.cps.toList.getD 0 0∧k.cps.toList.getD 0 0≠101∧0<k.length∧k.length≤6∧(Yc k).length≤4∧0<(Yc k).length:=by decide +kernel
def nmD(s:Str)(n:Nat):Prop:=∃kd∈Y6,∃(c:Int) (k:Nat),k<n∧s=Ys kd c k
structure Xk(i m:Nat)(ps:List Zc)(js:List (Zc×Zc))(rest:List Zc):Prop where
 net:Net ps js rest
 sum:ps.length+rest.length≤39
 jl:js.length≤m
 nm:∀p∈ps,nmD p.2 i
theorem Xk.start:Xk 0 0 [] [] []:=⟨⟨List.Perm.refl _,List.nodup_nil,by simp,by simp⟩,by simp,by simp,by simp⟩
theorem Xk.mono{i m i' m':Nat}{ps:List Zc}{js:List (Zc×Zc)}{rest:List Zc}(h:Xk i m ps js rest)(hi:i≤i')(hm:m≤m'):Xk i' m' ps js rest :=
 ⟨h.net,h.sum,Nat.le_trans h.jl hm,fun p hp=>let ⟨kd,h1,c,k,h2,h3⟩:=h.nm p hp;⟨kd,h1,c,k,by omega,h3⟩⟩
theorem Xk.new{i m:Nat}{ps:List Zc}{js:List (Zc×Zc)}{rest:List Zc}{kd:Str}{c:Int}(h:Xk i m ps js rest)(hi:i<100)(hk:kd∈Y6):Ys kd c i∉ps.map Prod.snd:=fun z=>by
 obtain ⟨p,hp,e⟩:=List.mem_map.mp z
 obtain ⟨kd',h1,c',k,h2,h3⟩:=h.nm p hp
 have:=congrArg Ze6 (e.symm.trans h3)
 rw [Zb5 (Zgz _ hk).1 hi,Zb5 (Zgz _ h1).1 (by omega)] at this
 omega
theorem Xk.add{i m:Nat}{ps:List Zc}{js:List (Zc×Zc)}{rest:List Zc}{kd:Str}{c:Int}(h:Xk i m ps js rest)(hi:i<100)(hk:kd∈Y6)(hs:ps.length+rest.length+(Yc kd).length≤38):Xk (i+1) m (ps++[(kd,Ys kd c i)]) js (rest++(Yc kd).map fun e=>(Ys kd c i,e)):=by
 refine ⟨h.net.add (h.new hi hk) hk,?_,h.jl,?_⟩
 ·rw [List.length_append,List.length_append,List.length_map];show _+1+_≤39;omega
 ·intro p hp
  rcases List.mem_append.mp hp with z|z
  ·exact (h.mono (Nat.le_succ i) (Nat.le_refl m)).nm p z
  ·simp at z
   rw [z]
   exact ⟨kd,hk,c,i,by omega,rfl⟩
theorem Xk.join{i m:Nat}{ps:List Zc}{js:List (Zc×Zc)}{o o':List Zc}{a b:Zc}(h:Xk i m ps js o)(hp:(a ::b ::o').Perm o)(ne:a.1≠b.1):Xk i (m+1) ps (js++[(a,b)]) o':=by
 refine ⟨h.net.join hp ne,?_,?_,h.nm⟩
 ·have:=h.sum
  have hl:=hp.length_eq
  simp at hl
  omega
 ·rw [List.length_append];exact Nat.succ_le_succ h.jl
theorem Xk.done{i m:Nat}{ps:List Zc}{js:List (Zc×Zc)}{rest nps:List Zc}{njs:List (Zc×Zc)}(h:Xk i m ps js rest)(hi:i≤100)(hc:Zeq rest rest.length nps njs):Net (ps++nps) (js++njs) []:=by
 have hs:=h.sum
 refine h.net.closed hc (by omega) fun j hj z=>?_
 obtain ⟨p,hp,e⟩:=List.mem_map.mp z
 obtain ⟨kd',h1,c',k,h2,h3⟩:=h.nm p hp
 exact Zr8 (by omega) (Zgz _ h1).2.1 (h3.symm.trans e)
theorem Zfd{α β:Type}{R:α→β→Prop}:∀{l:List α} {m:List β},Paired R l m→∀i,Paired R (l.eraseIdx i) (m.eraseIdx i)
 | _,_,.nil,_=>.nil
 | _,_,.cons r t,0=>t
 | _,_,.cons r t,i+1=>.cons r (Zfd t i)
theorem Zj0{α β:Type}(f:α→β):∀(l:List α) (i:Nat),(l.map f).eraseIdx i=(l.eraseIdx i).map f
 | [],_=>rfl
 | _ ::_,0=>rfl
 | x ::l,i+1=>by rw [List.map_cons,List.eraseIdx_cons_succ,List.eraseIdx_cons_succ,List.map_cons,Zj0 f l i]
def Zad(k:Nat):Str := "p" ++ Zb0 k
def Zbp(n:Nat):List Zc:=[(("gate" :Str),("g" :Str))]++((List.range n).map fun k=>(("plain" :Str),Zad k))++[(("gate" :Str),("h" :Str))]
def Zol(n:Nat):List (Zc×Zc):=[((("g" :Str),("a" :Str)),(Zad 0,("a" :Str))),((("h" :Str),("a" :Str)),(Zad (n-1),("b" :Str)))]++(List.range (n-1)).map fun k=>((Zad k,("b" :Str)),(Zad (k+1),("a" :Str)))
theorem Zot:∀n∈[9,10,11,12,13,14],(Yr (Zol n)++[]).Perm (Ye (Zbp n)):=by decide +kernel
theorem Zti:∀n∈[9,10,11,12,13,14],((Zbp n).map Prod.snd).Nodup:=by decide +kernel
theorem Zmq:∀n∈[9,10,11,12,13,14],∀j∈Zol n,j.1.1≠j.2.1:=by decide +kernel
theorem Zp5:∀n∈[9,10,11,12,13,14],∀p∈Zbp n,p.1∈Y6:=by decide +kernel
theorem Zqt{n:Nat}(h:n∈[9,10,11,12,13,14]):Net (Zbp n) (Zol n) []:=⟨Zot n h,Zti n h,Zmq n h,Zp5 n h⟩
end YM
end
section
namespace K14
open PySem L2 NM
def top(i:Nat):Stmt:=PySem.Challenge.pw_yardkeep_k14_tracks_refused.main.body.getD i (.Pass ⟨0,0,0,0⟩)
abbrev X8:Stmt:=Wp (top 7) 0
abbrev Wa:Stmt:=Wp (top 8) 0
abbrev Xx:Stmt:=Wp (top 9) 0
abbrev Xj:Stmt:=Wp (top 13) 0
abbrev Zbt:Stmt:=top 18
theorem Znm:Z3 ["thing"] ["thing"] (Zg Zbt):=⟨rfl,rfl,rfl,by decide +kernel,rfl,by decide +kernel,by decide +kernel⟩
abbrev Xo:Stmt:=Wp (top 19) 0
theorem Zf2:Z3 ["self", "name"] ["self", "name"] (Zg Xo):=⟨rfl,rfl,rfl,by decide +kernel,rfl,by decide +kernel,by decide +kernel⟩
abbrev Zah:Stmt:=Wp (top 19) 1
theorem Zkl:Z3 ["self"] ["self"] (Zg Zah):=⟨rfl,rfl,rfl,by decide +kernel,rfl,by decide +kernel,by decide +kernel⟩
abbrev W6:Stmt:=Wp (top 19) 5
theorem Zin:Z3 ["self"] ["self"] (Zg W6):=⟨rfl,rfl,rfl,by decide +kernel,rfl,by decide +kernel,by decide +kernel⟩
abbrev Zak:Stmt:=Wp (top 21) 0
theorem Zk6:Z3 ["self"] ["self"] (Zg Zak):=⟨rfl,rfl,rfl,by decide +kernel,rfl,by decide +kernel,by decide +kernel⟩
abbrev Wm:Stmt:=Wp (top 23) 0
theorem Zh1:Z3 ["self"] ["self"] (Zg Wm):=⟨rfl,rfl,rfl,by decide +kernel,rfl,by decide +kernel,by decide +kernel⟩
abbrev Xz:Stmt:=Wp (top 23) 3
theorem Zgp:Z3 ["self"] ["self"] (Zg Xz):=⟨rfl,rfl,rfl,by decide +kernel,rfl,by decide +kernel,by decide +kernel⟩
abbrev W5:Stmt:=Wp (top 24) 0
theorem Zir:Z3 ["self"] ["self"] (Zg W5):=⟨rfl,rfl,rfl,by decide +kernel,rfl,by decide +kernel,by decide +kernel⟩
abbrev Wg:Stmt:=Wp (top 24) 2
theorem Zh0:Z3 ["self"] ["self"] (Zg Wg):=⟨rfl,rfl,rfl,by decide +kernel,rfl,by decide +kernel,by decide +kernel⟩
abbrev Zbs:Stmt:=top 28
theorem Zmw:Z3 ["thing"] ["thing"] (Zg Zbs):=⟨rfl,rfl,rfl,by decide +kernel,rfl,by decide +kernel,by decide +kernel⟩
abbrev Za4:Stmt:=top 29
theorem Zli:Z3 ["end", "ends"] ["end", "ends"] (Zg Za4):=⟨rfl,rfl,rfl,by decide +kernel,rfl,by decide +kernel,by decide +kernel⟩
abbrev Wc:Stmt:=top 30
theorem Zh4:Z3 ["name", "known"] ["name", "known"] (Zg Wc):=⟨rfl,rfl,rfl,by decide +kernel,rfl,by decide +kernel,by decide +kernel⟩
abbrev Xl:Stmt:=top 31
theorem Za3:Z3 ["parts", "part_of", "part"] ["parts"] (Zg Xl):=⟨rfl,rfl,rfl,by decide +kernel,rfl,by decide +kernel,by decide +kernel⟩
abbrev Xn:Stmt:=top 32
theorem X0:Z3 ["part_of", "part_at", "name", "part", "end"] ["part_of"] (Zg Xn):=⟨rfl,rfl,rfl,by decide +kernel,rfl,by decide +kernel,by decide +kernel⟩
abbrev Wh:Stmt:=top 33
theorem Zdm:Z3 ["join", "part_at", "joined", "end"] ["join", "part_at", "joined"] (Zg Wh):=⟨rfl,rfl,rfl,by decide +kernel,rfl,by decide +kernel,by decide +kernel⟩
abbrev Wj:Stmt:=top 34
theorem Zbx:Z3 ["joins", "part_at", "joined", "join"] ["joins", "part_at"] (Zg Wj):=⟨rfl,rfl,rfl,by decide +kernel,rfl,by decide +kernel,by decide +kernel⟩
abbrev Wk:Stmt:=top 35
theorem Zii:Z3 ["end", "part_at", "ends_with_signals"] ["end", "part_at", "ends_with_signals"] (Zg Wk):=⟨rfl,rfl,rfl,by decide +kernel,rfl,by decide +kernel,by decide +kernel⟩
abbrev Za0:Stmt:=top 36
theorem Zbf:Z3 ["signals", "part_at", "post_of", "signal", "name", "end"] ["signals", "part_at"] (Zg Za0):=⟨rfl,rfl,rfl,by decide +kernel,rfl,by decide +kernel,by decide +kernel⟩
abbrev Xa:Stmt:=Wp (top 37) 0
theorem X7:Z3 ["self", "parts", "joins", "signals", "asked_signals", "part_at"] ["self", "parts", "joins", "signals"] (Zg Xa):=⟨rfl,rfl,rfl,by decide +kernel,rfl,by decide +kernel,by decide +kernel⟩
abbrev Xh:Stmt:=Wp (top 37) 5
theorem Zfb:Z3 ["self"] ["self"] (Zg Xh):=⟨rfl,rfl,rfl,by decide +kernel,rfl,by decide +kernel,by decide +kernel⟩
abbrev W3:Stmt:=top 39
theorem Zea:Z3 ["_law_cell", "_law_k", "_law_left"] ["_law_cell", "_law_k"] (Zg W3):=⟨rfl,rfl,rfl,by decide +kernel,rfl,by decide +kernel,by decide +kernel⟩
abbrev X2:Stmt:=top 40
theorem Zgr:Z3 ["_law_script", "_law_k"] ["_law_script", "_law_k"] (Zg X2):=⟨rfl,rfl,rfl,by decide +kernel,rfl,by decide +kernel,by decide +kernel⟩
abbrev Wy:Stmt:=top 41
theorem Zis:Z3 ["_law_script", "_law_at", "_law_end"] ["_law_script", "_law_at", "_law_end"] (Zg Wy):=⟨rfl,rfl,rfl,by decide +kernel,rfl,by decide +kernel,by decide +kernel⟩
abbrev Zaj:Stmt:=top 42
theorem Zk3:Z3 ["_law_kind"] ["_law_kind"] (Zg Zaj):=⟨rfl,rfl,rfl,by decide +kernel,rfl,by decide +kernel,by decide +kernel⟩
abbrev X3:Stmt:=top 43
theorem Zbh:Z3 ["_law_kind", "_law_cell", "_law_k", "_law_letters", "_law_first"] ["_law_kind", "_law_cell", "_law_k"] (Zg X3):=⟨rfl,rfl,rfl,by decide +kernel,rfl,by decide +kernel,by decide +kernel⟩
abbrev W1:Stmt:=top 44
theorem Yb:Z3 ["_law_cell", "_law_names", "_law_one", "_law_two", "_law_three", "_law_four", "_law_way", "_law_ends_here", "_law_far", "_law_joins", "_law_parts", "_law_turn", "_law_aside", "_law_rest"] ["_law_cell", "_law_names"] (Zg W1):=⟨rfl,rfl,rfl,by decide +kernel,rfl,by decide +kernel,by decide +kernel⟩
abbrev Zai:Stmt:=top 45
theorem Yy:Z3 ["_law_cells_here", "_law_parts", "_law_joins", "_law_end", "_law_k", "_law_cell", "_law_names", "_law_block_here"] ["_law_cells_here"] (Zg Zai):=⟨rfl,rfl,rfl,by decide +kernel,rfl,by decide +kernel,by decide +kernel⟩
abbrev Wb:Stmt:=top 46
theorem Zau:Z3 ["_law_parts", "_law_joins", "_law_rest", "_law_cell", "_law_j", "_law_end", "_law_name"] ["_law_parts", "_law_joins", "_law_rest", "_law_cell"] (Zg Wb):=⟨rfl,rfl,rfl,by decide +kernel,rfl,by decide +kernel,by decide +kernel⟩
abbrev Wx:Stmt:=top 47
theorem Yl:Z3 ["_law_cells_here", "_law_parts", "_law_joins", "_law_rest", "_law_k", "_law_cell", "_law_kind", "_law_ends_here", "_law_name", "_law_fresh", "_law_near", "_law_other"] ["_law_cells_here"] (Zg Wx):=⟨rfl,rfl,rfl,by decide +kernel,rfl,by decide +kernel,by decide +kernel⟩
abbrev Y9:Stmt:=top 48
theorem Ya:Z3 ["_law_parts", "_law_cell", "_law_letters", "_law_ends_here", "_law_kind", "_law_name", "_law_end", "_law_found", "_law_k", "_law_draw"] ["_law_parts", "_law_cell"] (Zg Y9):=⟨rfl,rfl,rfl,by decide +kernel,rfl,by decide +kernel,by decide +kernel⟩
abbrev Zal:Stmt:=top 49
theorem Wz:Z3 ["_law_cell", "_law_k", "_law_names", "_law_parts", "_law_joins", "_law_signals"] ["_law_cell"] (Zg Zal):=⟨rfl,rfl,rfl,by decide +kernel,rfl,by decide +kernel,by decide +kernel⟩
abbrev X4:Stmt:=top 50
theorem Xd:Z3 ["_law_cells_here", "_law_cell", "_law_found", "_law_parts", "_law_joins", "_law_at"] ["_law_cells_here", "_law_cell"] (Zg X4):=⟨rfl,rfl,rfl,by decide +kernel,rfl,by decide +kernel,by decide +kernel⟩
abbrev Zan:Stmt:=top 51
theorem Zki:Z3 ["_law_kind", "_law_name"] ["_law_kind", "_law_name"] (Zg Zan):=⟨rfl,rfl,rfl,by decide +kernel,rfl,by decide +kernel,by decide +kernel⟩
abbrev We:Stmt:=top 52
theorem Zhf:Z3 ["_law_yard"] ["_law_yard"] (Zg We):=⟨rfl,rfl,rfl,by decide +kernel,rfl,by decide +kernel,by decide +kernel⟩
abbrev Wv:Stmt:=top 53
theorem Za6:Z3 ["_law_e", "_law_kinds"] ["_law_e"] (Zg Wv):=⟨rfl,rfl,rfl,by decide +kernel,rfl,by decide +kernel,by decide +kernel⟩
abbrev Wi:Stmt:=top 54
theorem Yq:Z3 ["_law_yard", "_law_parts", "_law_joins", "_law_signals", "_law_names", "_law_taken", "_law_kind", "_law_name"] ["_law_yard"] (Zg Wi):=⟨rfl,rfl,rfl,by decide +kernel,rfl,by decide +kernel,by decide +kernel⟩
abbrev Xw:Stmt:=top 55
theorem Zbg:Z3 ["_law_parts", "_law_joins", "_law_signals", "_law_e", "_law_kinds"] ["_law_parts", "_law_joins", "_law_signals"] (Zg Xw):=⟨rfl,rfl,rfl,by decide +kernel,rfl,by decide +kernel,by decide +kernel⟩
abbrev Y0:Stmt:=top 56
theorem Z0:Z3 ["_law_yard", "_law_cell", "_law_parts", "_law_joins", "_law_signals", "_law_two", "_law_name", "_law_stiff", "_law_place"] ["_law_yard", "_law_cell"] (Zg Y0):=⟨rfl,rfl,rfl,by decide +kernel,rfl,by decide +kernel,by decide +kernel⟩
abbrev Wl:Stmt:=top 57
theorem Yw:Z3 ["_law_parts", "_law_joins", "_law_cell", "_law_name", "_law_wide", "_law_ends_here", "_law_one", "_law_other", "_law_beyond", "_law_join", "_law_rest"] ["_law_parts", "_law_joins", "_law_cell"] (Zg Wl):=⟨rfl,rfl,rfl,by decide +kernel,rfl,by decide +kernel,by decide +kernel⟩
abbrev Xc:Stmt:=top 58
theorem Z7:Z3 ["_law_yard", "_law_cell", "_law_parts", "_law_joins", "_law_signals", "_law_one", "_law_some"] ["_law_yard", "_law_cell"] (Zg Xc):=⟨rfl,rfl,rfl,by decide +kernel,rfl,by decide +kernel,by decide +kernel⟩
abbrev Ww:Stmt:=top 59
theorem Xr:Z3 ["_law_yard", "_law_way", "_law_cell", "_law_parts", "_law_joins", "_law_signals", "_law_odd"] ["_law_yard", "_law_way", "_law_cell"] (Zg Ww):=⟨rfl,rfl,rfl,by decide +kernel,rfl,by decide +kernel,by decide +kernel⟩
abbrev Ze1:Stmt:=top 60
theorem Zch:Z3 ["_law_script", "_law_yard", "_law_cell", "_law_plain", "_law_ways", "_law_due", "_law_way"] ["_law_script"] (Zg Ze1):=⟨rfl,rfl,rfl,by decide +kernel,rfl,by decide +kernel,by decide +kernel⟩
set_option genInjectivity false in
set_option genSizeOfSpec false in
structure Tx(K:Frag)(mg:Str→Option Value) where
 d_Held___init__:Dn K "__init__" "Held.__init__" X8 ["self", "part"]
 d_Seen___init__:Dn K "__init__" "Seen.__init__" Wa ["self", "part"]
 d_Stiff___init__:Dn K "__init__" "Stiff.__init__" Xx ["self", "part"]
 d_BadText___init__:Dn K "__init__" "BadText.__init__" Xj ["self", "row"]
 d_is_name:Dn K "is_name" "is_name" Zbt ["thing"]
 m_is_name:mg "is_name" =some (.ref d_is_name.f)
 d_Part___init__:Dn K "__init__" "Part.__init__" Xo ["self", "name"]
 d_Part_ends:Dn K "ends" "Part.ends" Zah ["self"]
 d_Part_bears:Dn K "bears" "Part.bears" W6 ["self"]
 d_Stop_ends:Dn K "ends" "Stop.ends" Zak ["self"]
 d_Points_ends:Dn K "ends" "Points.ends" Wm ["self"]
 d_Points_bears:Dn K "bears" "Points.bears" Xz ["self"]
 d_Cross_ends:Dn K "ends" "Cross.ends" W5 ["self"]
 d_Cross_bears:Dn K "bears" "Cross.bears" Wg ["self"]
 d_is_pair:Dn K "is_pair" "is_pair" Zbs ["thing"]
 m_is_pair:mg "is_pair" =some (.ref d_is_pair.f)
 d_is_known:Dn K "is_known" "is_known" Za4 ["end", "ends"]
 m_is_known:mg "is_known" =some (.ref d_is_known.f)
 d_refuse_name:Dn K "refuse_name" "refuse_name" Wc ["name", "known"]
 m_refuse_name:mg "refuse_name" =some (.ref d_refuse_name.f)
 d_parts_by_name:Dn K "parts_by_name" "parts_by_name" Xl ["parts"]
 m_parts_by_name:mg "parts_by_name" =some (.ref d_parts_by_name.f)
 d_ends_to_parts:Dn K "ends_to_parts" "ends_to_parts" Xn ["part_of"]
 m_ends_to_parts:mg "ends_to_parts" =some (.ref d_ends_to_parts.f)
 d_refuse_join:Dn K "refuse_join" "refuse_join" Wh ["join", "part_at", "joined"]
 m_refuse_join:mg "refuse_join" =some (.ref d_refuse_join.f)
 d_joined_ends:Dn K "joined_ends" "joined_ends" Wj ["joins", "part_at"]
 m_joined_ends:mg "joined_ends" =some (.ref d_joined_ends.f)
 d_refuse_post:Dn K "refuse_post" "refuse_post" Wk ["end", "part_at", "ends_with_signals"]
 m_refuse_post:mg "refuse_post" =some (.ref d_refuse_post.f)
 d_posts_of:Dn K "posts_of" "posts_of" Za0 ["signals", "part_at"]
 m_posts_of:mg "posts_of" =some (.ref d_posts_of.f)
 d_Tracks___init__:DnD K "__init__" "Tracks.__init__" Xa ["self", "parts", "joins", "signals"] .non
 d_Tracks_signals:Dn K "signals" "Tracks.signals" Xh ["self"]
 d__law_mixed:Dn K "_law_mixed" "_law_mixed" W3 ["_law_cell", "_law_k"]
 m__law_mixed:mg "_law_mixed" =some (.ref d__law_mixed.f)
 d__law_cell_at:Dn K "_law_cell_at" "_law_cell_at" X2 ["_law_script", "_law_k"]
 m__law_cell_at:mg "_law_cell_at" =some (.ref d__law_cell_at.f)
 d__law_cells:Dn K "_law_cells" "_law_cells" Wy ["_law_script", "_law_at", "_law_end"]
 m__law_cells:mg "_law_cells" =some (.ref d__law_cells.f)
 d__law_ends:Dn K "_law_ends" "_law_ends" Zaj ["_law_kind"]
 m__law_ends:mg "_law_ends" =some (.ref d__law_ends.f)
 d__law_name_by:Dn K "_law_name_by" "_law_name_by" X3 ["_law_kind", "_law_cell", "_law_k"]
 m__law_name_by:mg "_law_name_by" =some (.ref d__law_name_by.f)
 d__law_block:Dn K "_law_block" "_law_block" W1 ["_law_cell", "_law_names"]
 m__law_block:mg "_law_block" =some (.ref d__law_block.f)
 d__law_line:Dn K "_law_line" "_law_line" Zai ["_law_cells_here"]
 m__law_line:mg "_law_line" =some (.ref d__law_line.f)
 d__law_closed:Dn K "_law_closed" "_law_closed" Wb ["_law_parts", "_law_joins", "_law_rest", "_law_cell"]
 m__law_closed:mg "_law_closed" =some (.ref d__law_closed.f)
 d__law_drawn:Dn K "_law_drawn" "_law_drawn" Wx ["_law_cells_here"]
 m__law_drawn:mg "_law_drawn" =some (.ref d__law_drawn.f)
 d__law_signals_by:Dn K "_law_signals_by" "_law_signals_by" Y9 ["_law_parts", "_law_cell"]
 m__law_signals_by:mg "_law_signals_by" =some (.ref d__law_signals_by.f)
 d__law_long:Dn K "_law_long" "_law_long" Zal ["_law_cell"]
 m__law_long:mg "_law_long" =some (.ref d__law_long.f)
 d__law_yard_by:Dn K "_law_yard_by" "_law_yard_by" X4 ["_law_cells_here", "_law_cell"]
 m__law_yard_by:mg "_law_yard_by" =some (.ref d__law_yard_by.f)
 d__law_part:Dn K "_law_part" "_law_part" Zan ["_law_kind", "_law_name"]
 m__law_part:mg "_law_part" =some (.ref d__law_part.f)
 d__law_tracks:Dn K "_law_tracks" "_law_tracks" We ["_law_yard"]
 m__law_tracks:mg "_law_tracks" =some (.ref d__law_tracks.f)
 d__law_alone:Dn K "_law_alone" "_law_alone" Wv ["_law_e"]
 m__law_alone:mg "_law_alone" =some (.ref d__law_alone.f)
 d__law_filled:Dn K "_law_filled" "_law_filled" Wi ["_law_yard"]
 m__law_filled:mg "_law_filled" =some (.ref d__law_filled.f)
 d__law_refusal:Dn K "_law_refusal" "_law_refusal" Xw ["_law_parts", "_law_joins", "_law_signals"]
 m__law_refusal:mg "_law_refusal" =some (.ref d__law_refusal.f)
 d__law_wrong_signal:Dn K "_law_wrong_signal" "_law_wrong_signal" Y0 ["_law_yard", "_law_cell"]
 m__law_wrong_signal:mg "_law_wrong_signal" =some (.ref d__law_wrong_signal.f)
 d__law_within:Dn K "_law_within" "_law_within" Wl ["_law_parts", "_law_joins", "_law_cell"]
 m__law_within:mg "_law_within" =some (.ref d__law_within.f)
 d__law_wrong_join:Dn K "_law_wrong_join" "_law_wrong_join" Xc ["_law_yard", "_law_cell"]
 m__law_wrong_join:mg "_law_wrong_join" =some (.ref d__law_wrong_join.f)
 d__law_wrong:Dn K "_law_wrong" "_law_wrong" Ww ["_law_yard", "_law_way", "_law_cell"]
 m__law_wrong:mg "_law_wrong" =some (.ref d__law_wrong.f)
 CPart:Addr
 mPart:mg "Part" =some (.ref CPart)
 clPart:Cls K CPart
 nPart_name:X6 K CPart "name"
 mkPart:Mk K CPart d_Part___init__.f
 mtPart_ends:Zdd K CPart "ends" d_Part_ends.f
 mtPart_bears:Zdd K CPart "bears" d_Part_bears.f
 CPlain:Addr
 mPlain:mg "Plain" =some (.ref CPlain)
 clPlain:Cls K CPlain
 nPlain_name:X6 K CPlain "name"
 mkPlain:Mk K CPlain d_Part___init__.f
 mtPlain_ends:Zdd K CPlain "ends" d_Part_ends.f
 mtPlain_bears:Zdd K CPlain "bears" d_Part_bears.f
 CStop:Addr
 mStop:mg "Stop" =some (.ref CStop)
 clStop:Cls K CStop
 nStop_name:X6 K CStop "name"
 mkStop:Mk K CStop d_Part___init__.f
 mtStop_ends:Zdd K CStop "ends" d_Stop_ends.f
 mtStop_bears:Zdd K CStop "bears" d_Part_bears.f
 CGate:Addr
 mGate:mg "Gate" =some (.ref CGate)
 clGate:Cls K CGate
 nGate_name:X6 K CGate "name"
 mkGate:Mk K CGate d_Part___init__.f
 mtGate_ends:Zdd K CGate "ends" d_Stop_ends.f
 mtGate_bears:Zdd K CGate "bears" d_Part_bears.f
 CPoints:Addr
 mPoints:mg "Points" =some (.ref CPoints)
 clPoints:Cls K CPoints
 nPoints_name:X6 K CPoints "name"
 mkPoints:Mk K CPoints d_Part___init__.f
 mtPoints_ends:Zdd K CPoints "ends" d_Points_ends.f
 mtPoints_bears:Zdd K CPoints "bears" d_Points_bears.f
 CCross:Addr
 mCross:mg "Cross" =some (.ref CCross)
 clCross:Cls K CCross
 nCross_name:X6 K CCross "name"
 mkCross:Mk K CCross d_Part___init__.f
 mtCross_ends:Zdd K CCross "ends" d_Cross_ends.f
 mtCross_bears:Zdd K CCross "bears" d_Cross_bears.f
 CTracks:Addr
 mTracks:mg "Tracks" =some (.ref CTracks)
 clTracks:Cls K CTracks
 nTracks_part_of:X6 K CTracks "part_of"
 nTracks_joined:X6 K CTracks "joined"
 nTracks_post_of:X6 K CTracks "post_of"
 nTracks_signal_on:X6 K CTracks "signal_on"
 mkTracks:Mk K CTracks d_Tracks___init__.f
 mtTracks_signals:Zdd K CTracks "signals" d_Tracks_signals.f
 CYardError:Addr
 mYardError:mg "YardError" =some (.ref CYardError)
 CBadName:Addr
 mBadName:mg "BadName" =some (.ref CBadName)
 CBadEnd:Addr
 mBadEnd:mg "BadEnd" =some (.ref CBadEnd)
 CTooMany:Addr
 mTooMany:mg "TooMany" =some (.ref CTooMany)
 CBadWay:Addr
 mBadWay:mg "BadWay" =some (.ref CBadWay)
 CHeld:Addr
 mHeld:mg "Held" =some (.ref CHeld)
 CSeen:Addr
 mSeen:mg "Seen" =some (.ref CSeen)
 CStiff:Addr
 mStiff:mg "Stiff" =some (.ref CStiff)
 CNoTrain:Addr
 mNoTrain:mg "NoTrain" =some (.ref CNoTrain)
 CNoTurn:Addr
 mNoTurn:mg "NoTurn" =some (.ref CNoTurn)
 COneFault:Addr
 mOneFault:mg "OneFault" =some (.ref COneFault)
 CBadText:Addr
 mBadText:mg "BadText" =some (.ref CBadText)
 n_len:mg "len" =none
 n_range:mg "range" =none
 n_isinstance:mg "isinstance" =none
 n_list:mg "list" =none
 n_dict:mg "dict" =none
 n_tuple:mg "tuple" =none
 n_str:mg "str" =none
 n_enumerate:mg "enumerate" =none
 n_max:mg "max" =none
 n_min:mg "min" =none
 n_sum:mg "sum" =none
 n_sorted:mg "sorted" =none
 n_all:mg "all" =none
 n_ValueError:mg "ValueError" =none
 n_int:mg "int" =none
 kTT:kitOne K (.type "tuple") (.type "tuple")=some true
 kSS:kitOne K (.type "str") (.type "str")=some true
 keB0:kitOne K (.ref CBadName) (.ref CBadName)=some true
 keB1:kitOne K (.ref CBadName) (.ref CBadEnd)=some false
 keB2:kitOne K (.ref CBadName) (.ref CTooMany)=some false
 keB3:kitOne K (.ref CBadName) (.ref CBadWay)=some false
 keB4:kitOne K (.ref CBadName) (.ref CHeld)=some false
 keB5:kitOne K (.ref CBadName) (.ref CSeen)=some false
 keB6:kitOne K (.ref CBadName) (.ref CStiff)=some false
 keB7:kitOne K (.ref CBadName) (.ref CNoTrain)=some false
 keB8:kitOne K (.ref CBadName) (.ref CNoTurn)=some false
 keB9:kitOne K (.ref CBadName) (.ref COneFault)=some false
 keB10:kitOne K (.ref CBadName) (.ref CBadText)=some false
 kdB0:kitOne K (.ref CBadEnd) (.ref CBadName)=some false
 kdB1:kitOne K (.ref CBadEnd) (.ref CBadEnd)=some true
 kdB2:kitOne K (.ref CBadEnd) (.ref CTooMany)=some false
 kdB3:kitOne K (.ref CBadEnd) (.ref CBadWay)=some false
 kdB4:kitOne K (.ref CBadEnd) (.ref CHeld)=some false
 kdB5:kitOne K (.ref CBadEnd) (.ref CSeen)=some false
 kdB6:kitOne K (.ref CBadEnd) (.ref CStiff)=some false
 kdB7:kitOne K (.ref CBadEnd) (.ref CNoTrain)=some false
 kdB8:kitOne K (.ref CBadEnd) (.ref CNoTurn)=some false
 kdB9:kitOne K (.ref CBadEnd) (.ref COneFault)=some false
 kdB10:kitOne K (.ref CBadEnd) (.ref CBadText)=some false
 kyT0:kitOne K (.ref CTooMany) (.ref CBadName)=some false
 kyT1:kitOne K (.ref CTooMany) (.ref CBadEnd)=some false
 kyT2:kitOne K (.ref CTooMany) (.ref CTooMany)=some true
 kyT3:kitOne K (.ref CTooMany) (.ref CBadWay)=some false
 kyT4:kitOne K (.ref CTooMany) (.ref CHeld)=some false
 kyT5:kitOne K (.ref CTooMany) (.ref CSeen)=some false
 kyT6:kitOne K (.ref CTooMany) (.ref CStiff)=some false
 kyT7:kitOne K (.ref CTooMany) (.ref CNoTrain)=some false
 kyT8:kitOne K (.ref CTooMany) (.ref CNoTurn)=some false
 kyT9:kitOne K (.ref CTooMany) (.ref COneFault)=some false
 kyT10:kitOne K (.ref CTooMany) (.ref CBadText)=some false
 ceB:PySem.W.kitCls K (.ref CBadName) (.ref CYardError)=some true
 cdB:PySem.W.kitCls K (.ref CBadEnd) (.ref CYardError)=some true
 cyT:PySem.W.kitCls K (.ref CTooMany) (.ref CYardError)=some true
 veB:kitOne K (.ref CBadName) (.type "ValueError")=some true
 vdB:kitOne K (.ref CBadEnd) (.type "ValueError")=some true
 vyT:kitOne K (.ref CTooMany) (.type "ValueError")=some true
 kYB:kitOne K (.ref CYardError) (.type "BaseException")=some true
 x_YardError:Zja K mg "YardError" CYardError [.type "ValueError",.type "Exception",.type "BaseException",.type "object"] "ValueError.__new__"
 x_BadName:Zja K mg "BadName" CBadName [.type "ValueError",.type "Exception",.type "BaseException",.type "object"] "ValueError.__new__"
 x_BadEnd:Zja K mg "BadEnd" CBadEnd [.type "ValueError",.type "Exception",.type "BaseException",.type "object"] "ValueError.__new__"
 x_TooMany:Zja K mg "TooMany" CTooMany [.type "ValueError",.type "Exception",.type "BaseException",.type "object"] "ValueError.__new__"
 c_LETTERS:∃tk,mg "LETTERS" =some (.str "abcdefghijklmnopqrstuvwxyz" tk)
 c_FIGURES:∃tk,mg "FIGURES" =some (.str "0123456789" tk)
 g_BadName:XG K CBadName
 g_BadEnd:XG K CBadEnd
 g_TooMany:XG K CTooMany
 c_LONGEST_NAME:∃tk,mg "LONGEST_NAME" =some (.int 6 tk)
 c_MOST_PARTS:∃tk,mg "MOST_PARTS" =some (.int 40 tk)
 c_MOST_SIGNALS:∃tk,mg "MOST_SIGNALS" =some (.int 40 tk)
section
variable {P:Program} {w:World} {K:Frag} {mg:Str→Option Value} {base:Heap}
seal PySem.wpAny
open YM
def Zok:Sp:=fun vs H Q _=>∃c k:Int,vs=[.int c,.int k]∧Q (.int (Zee c k)) H
def Zqu(K:Frag):Sp:=fun vs H Q _=>∃(a:Addr) (ns:List Int) (k:Nat),vs=[.ref a,.int k]∧SqL K H a (ns.map V.int)∧Q (.int (Zas ns k)) H
theorem Zse(T:Tx K mg):Yf P w K mg base CX0 1 T.d__law_mixed.f T.d__law_mixed.fd ["_law_cell", "_law_k"] Zok:=by
 refine T.d__law_mixed.F.okW Zea (fun vs H Q E h=>?_) (fun cdv A outer s H vs Q E hr h=>?_)
 ·obtain ⟨c,k,rfl,_⟩:=h
  rfl
 ·obtain ⟨c,k,rfl,q⟩:=h
  refine WSs.step (Zn (i:=2) Zea.nd rfl (by first | exact Or.inl rfl | exact Or.inr rfl) (Zk Z6 (Zk Zf7 (Zk Y3 (pv 0) (Zk Zf7 Zd (pv 1))) Zd) Zd)) ?_
  refine ⟨_,rfl,_,rfl,_,_,rfl,rfl,.inl ⟨by decide,by decide⟩,.inl ⟨_,_,rfl,rfl,_,_,rfl,rfl,.inr ⟨by decide,by decide⟩,_,_,rfl,rfl,(by show (0:Int)<2147483647;decide),?_⟩⟩
  refine WSs.last (Z8 (Zk Z6 (Zk Zf7 (pv 2) (Zk Y3 (Zk Y3 (pv 2) (Zk Zf7 Zd (pv 1))) Zd)) Zd)) ?_
  refine ⟨_,rfl,_,rfl,_,rfl,_,_,rfl,rfl,.inl ⟨by decide,by decide⟩,.inl ⟨_,_,rfl,rfl,.inl ⟨_,_,rfl,rfl,_,_,rfl,rfl,.inl ?_,_,_,rfl,rfl,(by show (0:Int)<2147483629;decide),q⟩⟩⟩
  have h1:=Int.emod_nonneg ((c+7919 * k) * 48271) (show (2147483647:Int)≠0 by decide)
  have h2:=Int.emod_lt_of_pos ((c+7919 * k) * 48271) (show (0:Int)<2147483647 by decide)
  constructor <;>omega
theorem Zaw(T:Tx K mg){k:Nat}(h:1≤k:=by decide):Yf P w K mg base CX0 k T.d__law_mixed.f T.d__law_mixed.fd ["_law_cell", "_law_k"] Zok:=(Zse T).mono h
theorem Ztj(T:Tx K mg):Yf P w K mg base CX0 2 T.d__law_cell_at.f T.d__law_cell_at.fd ["_law_script", "_law_k"] (Zqu K):=by
 refine T.d__law_cell_at.F.okW Zgr (fun vs H Q E h=>?_) (fun cdv A outer s H vs Q E hr h=>?_)
 ·obtain ⟨a,ns,k,rfl,_⟩:=h
  rfl
 ·obtain ⟨a,ns,k,rfl,hS,q⟩:=h
  refine WSs.step (Yg (Zo Zed (pv 1) (Zp (r:=Xb K) Xf (by rfl) T.n_len PySem.boot_len (Zb (pv 0) Za)) (Zx _)) Zy Z2) ?_
  refine ⟨_,rfl,_,rfl,.inl ⟨a,_,rfl,.inl hS,_,_,rfl,rfl,_,rfl,Yk (fun hlt=>?_) (fun hlt=>?_)⟩⟩
  ·have hlt:=of_decide_eq_true hlt
   rw [List.length_map] at hlt
   have hk:k<ns.length:=by omega
   have e:ns[k]? =some ns[k]:=by simp [hk]
   refine WSs.last (Z8 (Z5 (Zaw T) hr rfl T.m__law_mixed T.d__law_mixed.F.kp T.d__law_mixed.b .nil Yn (Zb (Zt (r:=rIx K) Zm (pv 0) (pv 1) (fun _ _=>rfl)) (Zb (pv 1) Za)))) ⟨_,rfl,_,rfl,.inl ⟨a,_,_,V.int ns[k],rfl,rfl,hS,Zr (by rw [List.getElem?_map,e];rfl),_,rfl,ns[k],k,rfl,?_⟩⟩
   unfold Zas at q
   rw [e] at q
   exact q
  ·have hlt:¬((k:Int)<((ns.map V.int).length:Int)):=fun z=>hlt (decide_eq_true z)
   rw [List.length_map] at hlt
   have e:ns[k]? =none:=List.getElem?_eq_none (by omega)
   unfold Zas at q
   rw [e] at q
   exact WSs.last (Z8 Zd) q
theorem Zb2(T:Tx K mg){k:Nat}(h:2≤k:=by decide):Yf P w K mg base CX0 k T.d__law_cell_at.f T.d__law_cell_at.fd ["_law_script", "_law_k"] (Zqu K):=(Ztj T).mono h
def Zqk:Sp:=fun vs H Q _=>∃k:Str,vs=[.str k]∧∀p H',Same H H'→H p=none→H' p=some (.lst ((Yc k).map V.str))→Q (.ref p) H'
theorem Zkx(T:Tx K mg):Yf P w K mg base CX0 1 T.d__law_ends.f T.d__law_ends.fd ["_law_kind"] Zqk:=by
 refine T.d__law_ends.F.okW Zk3 (fun vs H Q E h=>?_) (fun cdv A outer s H vs Q E hr h=>?_)
 ·obtain ⟨k,rfl,_⟩:=h
  rfl
 ·obtain ⟨k,rfl,q⟩:=h
  refine WSs.step (Yg (Zo (r:=X9 K) (Wo hr) (pv 0) Ze (Zx _)) Zy Z2) ⟨_,rfl,.inl ⟨rfl,_,rfl,Yk (fun hc=>?_) (fun hc=>?_)⟩⟩
  ·have hc:k = "points" :=by simpa using hc
   subst hc
   exact WSs.last (Z8 (Zl (Zb Ze (Zb Ze (Zb Ze Za))))) ⟨sz (by simp),fun p H1 s1 n1 e1=>q p H1 s1 n1 e1⟩
  have h1:¬k = "points" :=by simpa using hc
  refine WSs.step (Yg (Zo (r:=X9 K) (Wo hr) (pv 0) Ze (Zx _)) Zy Z2) ⟨_,rfl,.inl ⟨rfl,_,rfl,Yk (fun hc=>?_) (fun hc=>?_)⟩⟩
  ·have hc:k = "cross" :=by simpa using hc
   subst hc
   exact WSs.last (Z8 (Zl (Zb Ze (Zb Ze (Zb Ze (Zb Ze Za)))))) ⟨sz (by simp),fun p H1 s1 n1 e1=>q p H1 s1 n1 e1⟩
  have h2:¬k = "cross" :=by simpa using hc
  refine WSs.step (Yg (Zo (r:=X9 K) (Wo hr) (pv 0) Ze (Zx _)) Zy Z2) ⟨_,rfl,.inl ⟨rfl,_,rfl,Yk (fun hc=>?_) (fun hc=>?_)⟩⟩
  ·have hc:k = "plain" :=by simpa using hc
   subst hc
   exact WSs.last (Z8 (Zl (Zb Ze (Zb Ze Za)))) ⟨sz (by simp),fun p H1 s1 n1 e1=>q p H1 s1 n1 e1⟩
  have h3:¬k = "plain" :=by simpa using hc
  exact WSs.last (Z8 (Zl (Zb Ze Za))) ⟨sz (by simp),fun p H1 s1 n1 e1=>q p H1 s1 n1 (by unfold Yc;rw [if_neg h1,if_neg h2,if_neg h3];exact e1)⟩
theorem Za9(T:Tx K mg){k:Nat}(h:1≤k:=by decide):Yf P w K mg base CX0 k T.d__law_ends.f T.d__law_ends.fd ["_law_kind"] Zqk:=(Zkx T).mono h
theorem Zht{n:Nat}{i:Int}{l:List Nat}(hl:l.length=n)(h0:0≤i)(h1:i<n):atI l i=some (l.getD i.toNat 0):=by
 have e:i=((i.toNat:Nat):Int):=by omega
 have hi:i.toNat<l.length:=by omega
 rw [e]
 refine Zr ?_
 rw [List.getD_eq_getElem?_getD,Int.toNat_natCast,List.getElem?_eq_getElem hi]
 rfl
def Zlh:Sp:=fun vs H Q _=>∃(kind:Str) (c:Int) (k:Nat),vs=[.str kind,.int c,.int k]∧0<kind.length∧kind.length≤100∧0≤c∧k<100∧Q (.str (Ys kind c k)) H
theorem Zgo(T:Tx K mg):Yf P w K mg base CX0 1 T.d__law_name_by.f T.d__law_name_by.fd ["_law_kind", "_law_cell", "_law_k"] Zlh:=by
 refine T.d__law_name_by.F.okW Zbh (fun vs H Q E h=>?_) (fun cdv A outer s H vs Q E hr h=>?_)
 ·obtain ⟨kind,c,k,rfl,_⟩:=h
  rfl
 ·obtain ⟨kind,c,k,rfl,hk0,hkl,hc,hk,q⟩:=h
  refine WSs.step (Zn (i:=3) Zbh.nd rfl (by first | exact Or.inl rfl | exact Or.inr rfl) Ze) ?_
  have fl:=Zbu k hk
  refine WSs.step (Yg (Zo (r:=X9 K) (Wo hr) (Zk Z6 (pv 1) Zd) Zd (Zx _)) Zy Z2) ⟨_,rfl,_,_,rfl,rfl,(by show (0:Int)<3;decide),.inl ⟨rfl,_,rfl,Yk (fun hc3=>?_) (fun hc3=>?_)⟩⟩
  ·have hc3:c%3=0:=by simpa using hc3
   unfold Ys at q
   rw [if_pos hc3] at q
   refine WSs.last (Z8 (Zk Y3 (Zt (r:=rIx K) Zm (pv 0) Zd (fun _ _=>rfl)) (Y4 Y7 (by rfl) T.n_str PyProof.Rows.boot_str (Zb (pv 2) Za)))) ⟨_,rfl,.inr (.inr ⟨kind,0,kind.cps.toList.getD 0 0,rfl,rfl,sz (by omega),?_,_,rfl,(k:Int),rfl,Zce hk,.inr (.inl ⟨_,_,rfl,rfl,sz ?_,q⟩)⟩)⟩
   ·have:(0:Int)<kind.cps.toList.length:=by rw [Array.length_toList];exact Int.ofNat_lt.mpr hk0
    exact Zht (n:=kind.cps.toList.length) rfl (by decide) this
   ·show 1+(Zb0 k).length≤1000
    omega
  have hc3:¬c%3=0:=by simpa using hc3
  have a0:=Int.emod_nonneg (c / 3) (show (26:Int)≠0 by decide)
  have a1:=Int.emod_lt_of_pos (c / 3) (show (0:Int)<26 by decide)
  have b0:=Int.emod_nonneg (c / 78) (show (26:Int)≠0 by decide)
  have b1:=Int.emod_lt_of_pos (c / 78) (show (0:Int)<26 by decide)
  have z0:=Int.emod_nonneg (c / 2028) (show (3:Int)≠0 by decide)
  have z1:=Int.emod_lt_of_pos (c / 2028) (show (0:Int)<3 by decide)
  obtain ⟨zn,hzn⟩:∃zn:Nat,c / 2028%3=(zn:Int):=⟨(c / 2028%3).toNat,by omega⟩
  unfold Ys at q
  rw [if_neg hc3,hzn,Int.toNat_natCast] at q
  refine WSs.step (Zn (i:=4) Zbh.nd rfl (by first | exact Or.inl rfl | exact Or.inr rfl) (Zk Y3 (Zt (r:=rIx K) Zm (pv 3) (Zk Z6 (Zk Yh (pv 1) Zd) Zd) (fun _ _=>rfl)) (Zt (r:=rIx K) Zm (pv 3) (Zk Z6 (Zk Yh (pv 1) Zd) Zd) (fun _ _=>rfl)))) ⟨_,rfl,_,rfl,_,_,rfl,rfl,⟨by decide,by decide⟩,_,_,rfl,rfl,(by show (0:Int)<26;decide),.inr (.inr ⟨_,_,Zcm (c / 3%26),rfl,rfl,sz (by rw [Zgx];decide),(by rw [Zk2];exact Zht (n:=26) rfl a0 a1),?_⟩)⟩
  refine ⟨_,rfl,_,rfl,_,_,rfl,rfl,⟨by decide,by decide⟩,_,_,rfl,rfl,(by show (0:Int)<26;decide),.inr (.inr ⟨_,_,Zcm (c / 78%26),rfl,rfl,sz (by rw [Zgx];decide),(by rw [Zk2];exact Zht (n:=26) rfl b0 b1),.inr (.inl ⟨_,_,rfl,rfl,sz (by show 1+1≤1000;decide),?_⟩)⟩)⟩
  have rl:(Ze4 "0" zn).length≤2:=by
   have:zn<3:=by omega
   have hd:∀m,m<3→(Ze4 "0" m).length≤2:=by decide +kernel
   exact hd zn this
  have ll:(⟨#[Zcm (c / 3%26)]⟩++⟨#[Zcm (c / 78%26)]⟩:Str).length=2:=by rw [PySem.Str.length_append];rfl
  refine WSs.last (Z8 (Zk Y3 (Zk Y3 (pv 4) (Zk Zte Ze (Zk Z6 (Zk Yh (pv 1) Zd) Zd))) (Y4 Y7 (by rfl) T.n_str PyProof.Rows.boot_str (Zb (pv 2) Za)))) ⟨_,rfl,_,rfl,_,_,rfl,rfl,⟨by decide,by decide⟩,_,_,rfl,rfl,(by show (0:Int)<3;decide), "0",zn,rfl,by rw [←hzn],by show 1 * zn≤1000;omega,by omega,.inr (.inl ⟨_,_,rfl,rfl,sz (by rw [ll];omega),_,rfl,(k:Int),rfl,Zce hk,.inr (.inl ⟨_,_,rfl,rfl,sz ?_,q⟩)⟩)⟩
  show _+(Zb0 k).length≤1000
  rw [PySem.Str.length_append,ll]
  omega
theorem Zdv(T:Tx K mg){k:Nat}(h:1≤k:=by decide):Yf P w K mg base CX0 k T.d__law_name_by.f T.d__law_name_by.fd ["_law_kind", "_law_cell", "_law_k"] Zlh:=(Zgo T).mono h
def Zu(H:Hp)(t:Addr)(q:Zc):Prop:=H t=some (.tup [.str q.1,.str q.2])
def Y2(H:Hp)(t:Addr)(j:Zc×Zc):Prop:=∃a b,H t=some (.tup [.ref a,.ref b])∧Zu H a j.1∧Zu H b j.2
def Zs(H:Hp)(l:Addr)(ps:List Zc):Prop:=∃ts:List Addr,H l=some (.lst (ts.map V.ref))∧Paired (Zu H) ts ps
def Z1(H:Hp)(l:Addr)(js:List (Zc×Zc)):Prop:=∃ts:List Addr,H l=some (.lst (ts.map V.ref))∧Paired (Y2 H) ts js
theorem Zu.mono{H H':Hp}{t:Addr}{q:Zc}(e:Same H H')(h:Zu H t q):Zu H' t q:=e.at h
theorem Y2.mono{H H':Hp}{t:Addr}{j:Zc×Zc}(e:Same H H')(h:Y2 H t j):Y2 H' t j:=let ⟨a,b,h1,h2,h3⟩:=h;⟨a,b,e.at h1,h2.mono e,h3.mono e⟩
theorem Zs.mono{H H':Hp}{l:Addr}{ps:List Zc}(e:Same H H')(h:Zs H l ps):Zs H' l ps:=let ⟨ts,h1,h2⟩:=h;⟨ts,e.at h1,Paired.mapP h2 fun _ _ r=>r.mono e⟩
theorem Z1.mono{H H':Hp}{l:Addr}{js:List (Zc×Zc)}(e:Same H H')(h:Z1 H l js):Z1 H' l js:=let ⟨ts,h1,h2⟩:=h;⟨ts,e.at h1,Paired.mapP h2 fun _ _ r=>r.mono e⟩
def Zn6:Sp:=fun vs H Q _=>∃(c:Int) (nl:Addr) (n1 n2 n3 n4:Str),vs=[.int c,.ref nl]∧H nl=some (.lst [.str n1,.str n2,.str n3,.str n4]) ∧
 ∀(t:Addr) (H':Hp) (pl jl ie oe:Addr) (ps:List Zc) (js:List (Zc×Zc)) (e1 e2:Zc),Same H H'→H' t=some (.tup [.ref pl,.ref jl,.ref ie,.ref oe])→Zs H' pl ps→Z1 H' jl js→Zu H' ie e1→Zu H' oe e2→Zao n1 n2 n3 n4 ps js e1 e2→Q (.ref t) H'
theorem Zk1{n:Int}{u v:V}:∃w,atI [u,v] (n%2)=some w∧((n%2=0∧w=u)∨(n%2=1∧w=v)):=by
 have h0:=Int.emod_nonneg n (show (2:Int)≠0 by decide)
 have h1:=Int.emod_lt_of_pos n (show (0:Int)<2 by decide)
 generalize n%2=m at h0 h1
 have:m=0∨m=1:=by omega
 rcases this with rfl|rfl
 ·exact ⟨u,rfl,.inl ⟨rfl,rfl⟩⟩
 ·exact ⟨v,rfl,.inr ⟨rfl,rfl⟩⟩
theorem Zs5{l D:Addr}{xs:List Str}{x:Str}{H1:Hp}{Q:VK}{σ:St}(hl:H1 l=some (.lst (xs.map V.str)))(hn:xs.length≤100)(hD:H1 D=none)(q:∀H',Same H1 H'→H' D=some (.lst ((xs.filter fun e=>decide (e≠x)).map V.str))→Q (.ref D) H'){fr:St→St}(hfr:fr σ=[none,some (.str x)]){tf:TT}(htf:tf=Zt2 (tOp (Zfm K) (Zi3 0) (Zi3 1))) :
  Zc9 (Itl K l) fr (Zga 0) tf (Zi3 0) Q σ H1 D:=by
 refine Xv (xs:=xs.map V.str) (fun i ys H'=>ys=((xs.take i).filter fun e=>decide (e≠x)).map V.str∧H' D=some (.lst ys)∧Same H1 H') ⟨rfl,Zj,Same.new hD⟩ ?_ ?_ ?_
 ·rintro i ys H' _ ⟨_,_,sm⟩
  exact SqL.of (sm.at hl)
 ·rintro k v ys H' hk ⟨rfl,hD',sm⟩
  rw [List.getElem?_map] at hk
  obtain ⟨y,hy,rfl⟩:=Option.map_eq_some_iff.mp hk
  unfold Zcb
  rw [hfr,htf]
  refine ⟨Wr.set rfl,_,rfl,_,rfl,.inl ⟨rfl,_,rfl,Yk (fun hc=>?_) (fun hc=>?_)⟩⟩
  ·have hc:y≠x:=by simpa using hc
   refine ⟨_,rfl,hD',?_,?_,Zj,fun b o e=>?_⟩
   ·rw [List.length_map]
    have:=List.length_filter_le (fun e:Str=>decide (e≠x)) (xs.take k)
    rw [List.length_take] at this
    exact Z4 (by omega)
   ·rw [List.take_add_one,hy,List.filter_append,List.map_append,show (some y).toList=[y] from rfl,List.filter_cons,if_pos (decide_eq_true hc)]
    rfl
   ·rw [Zi (Zh e hD)];exact sm.at e
  ·have hc:¬y≠x:=by simpa using hc
   refine ⟨?_,hD',sm⟩
   rw [List.take_add_one,hy,List.filter_append,show (some y).toList=[y] from rfl,List.filter_cons,if_neg (by simpa using hc),List.filter_nil,List.append_nil]
 ·rintro ys H6 ⟨rfl,hD6,s6⟩
  rw [List.length_map,List.take_length] at hD6
  exact q H6 s6 hD6
theorem Zi4(T:Tx K mg):Yf P w K mg base CX0 1 T.d__law_block.f T.d__law_block.fd ["_law_cell", "_law_names"] Zn6:=by
 refine T.d__law_block.F.okW Yb (fun vs H Q E h=>?_) (fun cdv A outer s H vs Q E hr h=>?_)
 ·obtain ⟨c,nl,n1,n2,n3,n4,rfl,_⟩:=h
  rfl
 ·obtain ⟨c,nl,n1,n2,n3,n4,rfl,hnl,q⟩:=h
  refine WSs.step (Zej (pv 1) (Zuv rfl (Zw (Zq (i:=2) Yb.nd rfl (by first | exact Or.inl rfl | exact Or.inr rfl)) (Zw (Zq (i:=3) Yb.nd rfl (by first | exact Or.inl rfl | exact Or.inr rfl)) (Zw (Zq (i:=4) Yb.nd rfl (by first | exact Or.inl rfl | exact Or.inr rfl)) (Zw (Zq (i:=5) Yb.nd rfl (by first | exact Or.inl rfl | exact Or.inr rfl)) Y8)))))) ⟨_,rfl,nl,_,rfl,SqL.of hnl,rfl,_,_,rfl,_,_,rfl,_,_,rfl,_,_,rfl,rfl,?_⟩
  refine WSs.step (Zn (i:=6) Yb.nd rfl (by first | exact Or.inl rfl | exact Or.inr rfl) (Zk Z6 (pv 0) Zd)) ⟨_,rfl,_,_,rfl,rfl,(by show (0:Int)<8;decide),?_⟩
  refine WSs.step (Yg (Zo Zed (pv 6) Zd (Zx _)) Zy Z2) ⟨_,rfl,_,_,rfl,rfl,_,rfl,Yk (fun _=>?_) (fun _=>?_)⟩
  ·refine WSs.step (Zn (i:=7) Yb.nd rfl (by first | exact Or.inl rfl | exact Or.inr rfl) (Zt (r:=rIx K) Zm (Zl (Zb (Zl (Zb Ze (Zb Ze Za))) (Zb (Zl (Zb Ze (Zb Ze Za))) Za))) (Zk Z6 (Zk Yh (pv 0) Zd) Zd) (fun _ _=>rfl))) ⟨sz (by simp),fun la H1 s1 _ e1=>⟨sz (by simp),fun lb H2 s2 _ e2=>⟨sz (by simp),fun ll H3 s3 _ e3=>⟨_,rfl,_,_,rfl,rfl,⟨by decide,by decide⟩,_,_,rfl,rfl,(by show (0:Int)<2;decide),?_⟩⟩⟩⟩
   obtain ⟨l7,a,b,hat,h7,hab⟩:∃l7 a b,atI [V.ref la,.ref lb] (c / 8%2)=some (.ref l7)∧H3 l7=some (.lst [.str a,.str b])∧(a,b)∈[(("a" :Str),("b" :Str)),("b", "a")]:=by
    obtain ⟨w,hw,h | h⟩:=Zk1 (n:=c / 8) (u:=V.ref la) (v:=V.ref lb)
    ·exact ⟨la, "a", "b",by rw [hw,h.2],s3.at (s2.at e1),by simp⟩
    ·exact ⟨lb, "b", "a",by rw [hw,h.2],s3.at e2,by simp⟩
   refine .inl ⟨ll,_,_,.ref l7,rfl,rfl,SqL.of e3,hat,?_⟩
   have s03:=s1.trans (s2.trans s3)
   refine WSs.last (Z8 (Zf (Zb (Zl (Zb (Zf (Zb Ze (Zb (pv 2) Za))) Za)) (Zb (Zl Za) (Zb (Zf (Zb (pv 2) (Zb (Zt (r:=rIx K) Zm (pv 7) Zd (fun _ _=>rfl)) Za))) (Zb (Zf (Zb (pv 2) (Zb (Zt (r:=rIx K) Zm (pv 7) Zd (fun _ _=>rfl)) Za))) Za)))))) ⟨_,rfl,sz (by simp),fun t1 H4 s4 _ e4=>⟨sz (by simp),fun pl H5 s5 _ e5=>⟨sz (by simp),fun jl H6 s6 _ e6=>⟨_,rfl,_,rfl,.inl ⟨l7,_,_,.str a,rfl,rfl,SqL.of (s6.at (s5.at (s4.at h7))),rfl,sz (by simp),fun ie H7 s7 _ e7=>⟨_,rfl,_,rfl,.inl ⟨l7,_,_,.str b,rfl,rfl,SqL.of (s7.at (s6.at (s5.at (s4.at h7)))),rfl,sz (by simp),fun oe H8 s8 _ e8=>⟨sz (by simp),fun t H9 s9 _ e9=>?_⟩⟩⟩⟩⟩⟩⟩⟩
   exact q t H9 pl jl ie oe _ _ _ _ (s03.trans (s4.trans (s5.trans (s6.trans (s7.trans (s8.trans s9)))))) e9 ⟨[t1],s9.at (s8.at (s7.at (s6.at e5))),.cons (s9.at (s8.at (s7.at (s6.at (s5.at e4))))) .nil⟩ ⟨[],s9.at (s8.at (s7.at e6)),.nil⟩ (s9.at (s8.at e7)) (s9.at e8) (.plain a b hab)
  refine WSs.step (Yg (Zo Zed (pv 6) Zd (Zx _)) Zy Z2) ⟨_,rfl,_,_,rfl,rfl,_,rfl,Yk (fun _=>?_) (fun _=>?_)⟩
  ·refine WSs.step (Zn (i:=8) Yb.nd rfl (by first | exact Or.inl rfl | exact Or.inr rfl) (Zt (r:=rIx K) Zm (Zl (Zb (Zl (Zb Ze (Zb Ze Za))) (Zb (Zl (Zb Ze (Zb Ze Za))) Za))) (Zk Z6 (Zk Yh (pv 0) Zd) Zd) (fun _ _=>rfl))) ⟨sz (by simp),fun la H1 s1 _ e1=>⟨sz (by simp),fun lb H2 s2 _ e2=>⟨sz (by simp),fun ll H3 s3 _ e3=>⟨_,rfl,_,_,rfl,rfl,⟨by decide,by decide⟩,_,_,rfl,rfl,(by show (0:Int)<2;decide),?_⟩⟩⟩⟩
   obtain ⟨l7,a,b,hat,h7,hab⟩:∃l7 a b,atI [V.ref la,.ref lb] (c / 8%2)=some (.ref l7)∧H3 l7=some (.lst [.str a,.str b])∧(a,b)∈[(("left" :Str),("right" :Str)),("right", "left")]:=by
    obtain ⟨w,hw,h | h⟩:=Zk1 (n:=c / 8) (u:=V.ref la) (v:=V.ref lb)
    ·exact ⟨la, "left", "right",by rw [hw,h.2],s3.at (s2.at e1),by simp⟩
    ·exact ⟨lb, "right", "left",by rw [hw,h.2],s3.at e2,by simp⟩
   refine .inl ⟨ll,_,_,.ref l7,rfl,rfl,SqL.of e3,hat,?_⟩
   have s03:=s1.trans (s2.trans s3)
   refine WSs.step (Zn (i:=9) Yb.nd rfl (by first | exact Or.inl rfl | exact Or.inr rfl) (Zl (Zb (Zf (Zb (Zf (Zb (pv 2) (Zb Ze Za))) (Zb (Zf (Zb (pv 3) (Zb Ze Za))) Za))) (Zb (Zf (Zb (Zf (Zb (pv 2) (Zb Ze Za))) (Zb (Zf (Zb (pv 4) (Zb Ze Za))) Za))) Za)))) ⟨_,rfl,sz (by simp),fun a1 H4 s4 _ f1=>⟨_,rfl,sz (by simp),fun a2 H5 s5 _ f2=>⟨sz (by simp),fun j1 H6 s6 _ f3=>⟨_,rfl,sz (by simp),fun a3 H7 s7 _ f4=>⟨_,rfl,sz (by simp),fun a4 H8 s8 _ f5=>⟨sz (by simp),fun j2 H9 s9 _ f6=>⟨sz (by simp),fun jA H10 s10 _ f7=>?_⟩⟩⟩⟩⟩⟩⟩
   have J1:Y2 H10 j1 ((n1, "left"),(n2, "a")):=⟨a1,a2,s10.at (s9.at (s8.at (s7.at f3))),s10.at (s9.at (s8.at (s7.at (s6.at (s5.at f1))))),s10.at (s9.at (s8.at (s7.at (s6.at f2))))⟩
   have J2:Y2 H10 j2 ((n1, "right"),(n3, "a")):=⟨a3,a4,s10.at f6,s10.at (s9.at (s8.at f4)),s10.at (s9.at f5)⟩
   have s0A:=s03.trans (s4.trans (s5.trans (s6.trans (s7.trans (s8.trans (s9.trans s10))))))
   have h7:=(s4.trans (s5.trans (s6.trans (s7.trans (s8.trans (s9.trans s10)))))).at h7
   clear s1 s2 s3 s4 s5 s6 s7 s8 s9 s10 f1 f2 f3 f4 f5 f6 e1 e2 e3 s03
   refine WSs.step (Zn (i:=9) Yb.nd rfl (by first | exact Or.inl rfl | exact Or.inr rfl) (Zk Y3 (pv 9) (Zl (Zb (Zf (Zb (Zf (Zb (pv 3) (Zb Ze Za))) (Zb (Zf (Zb (pv 5) (Zb (Zt (r:=rIx K) Zm (pv 8) Zd (fun _ _=>rfl)) Za))) Za))) (Zb (Zf (Zb (Zf (Zb (pv 5) (Zb (Zt (r:=rIx K) Zm (pv 8) Zd (fun _ _=>rfl)) Za))) (Zb (Zf (Zb (pv 4) (Zb Ze Za))) Za))) Za))))) ⟨_,rfl,_,rfl,sz (by simp),fun b1 H11 s11 _ f1=>⟨_,rfl,_,rfl,.inl ⟨l7,_,_,.str a,rfl,rfl,SqL.of (s11.at h7),rfl,sz (by simp),fun b2 H12 s12 _ f2=>⟨sz (by simp),fun j3 H13 s13 _ f3=>⟨_,rfl,_,rfl,.inl ⟨l7,_,_,.str b,rfl,rfl,SqL.of (s13.at (s12.at (s11.at h7))),rfl,sz (by simp),fun b3 H14 s14 _ f4=>⟨_,rfl,sz (by simp),fun b4 H15 s15 _ f5=>⟨sz (by simp),fun j4 H16 s16 _ f6=>⟨sz (by simp),fun jB H17 s17 _ f8=>.inr (.inr ⟨jA,jB,_,_,rfl,rfl,(s11.trans (s12.trans (s13.trans (s14.trans (s15.trans (s16.trans s17)))))).at f7,f8,sz (by simp),fun jl H18 s18 _ f9=>?_⟩)⟩⟩⟩⟩⟩⟩⟩⟩⟩
   have sAB:=s11.trans (s12.trans (s13.trans (s14.trans (s15.trans (s16.trans (s17.trans s18))))))
   have J3:Y2 H18 j3 ((n2, "b"),(n4,a)):=⟨b1,b2,(s14.trans (s15.trans (s16.trans (s17.trans s18)))).at f3,(s12.trans (s13.trans (s14.trans (s15.trans (s16.trans (s17.trans s18)))))).at f1,(s13.trans (s14.trans (s15.trans (s16.trans (s17.trans s18))))).at f2⟩
   have J4:Y2 H18 j4 ((n4,b),(n3, "b")):=⟨b3,b4,(s17.trans s18).at f6,(s15.trans (s16.trans (s17.trans s18))).at f4,(s16.trans (s17.trans s18)).at f5⟩
   have hjl:Z1 H18 jl [((n1, "left"),(n2, "a")),((n1, "right"),(n3, "a")),((n2, "b"),(n4,a)),((n4,b),(n3, "b"))]:=⟨[j1,j2,j3,j4],f9,.cons (J1.mono sAB) (.cons (J2.mono sAB) (.cons J3 (.cons J4 .nil)))⟩
   have s0B:=s0A.trans sAB
   clear J1 J2 J3 J4 s11 s12 s13 s14 s15 s16 s17 s18 sAB s0A f1 f2 f3 f4 f5 f6 f7 f8 f9 h7
   refine WSs.step (Zn (i:=10) Yb.nd rfl (by first | exact Or.inl rfl | exact Or.inr rfl) (Zl (Zb (Zf (Zb Ze (Zb (pv 2) Za))) (Zb (Zf (Zb Ze (Zb (pv 3) Za))) (Zb (Zf (Zb Ze (Zb (pv 4) Za))) (Zb (Zf (Zb Ze (Zb (pv 5) Za))) Za)))))) ⟨_,rfl,sz (by simp),fun c1 G1 s1 _ f1=>⟨_,rfl,sz (by simp),fun c2 G2 s2 _ f2=>⟨_,rfl,sz (by simp),fun c3 G3 s3 _ f3=>⟨_,rfl,sz (by simp),fun c4 G4 s4 _ f4=>⟨sz (by simp),fun pl G5 s5 _ f5=>?_⟩⟩⟩⟩⟩
   have hpl:Zs G5 pl [("points",n1),("plain",n2),("plain",n3),("points",n4)]:=⟨[c1,c2,c3,c4],f5,.cons (s5.at (s4.at (s3.at (s2.at f1)))) (.cons (s5.at (s4.at (s3.at f2))) (.cons (s5.at (s4.at f3)) (.cons (s5.at f4) .nil)))⟩
   have sG:=s1.trans (s2.trans (s3.trans (s4.trans s5)))
   refine WSs.last (Z8 (Zf (Zb (pv 10) (Zb (pv 9) (Zb (Zf (Zb (pv 2) (Zb Ze Za))) (Zb (Zf (Zb (pv 5) (Zb Ze Za))) Za)))))) ⟨_,rfl,_,rfl,_,rfl,sz (by simp),fun ie G6 s6 _ f6=>⟨_,rfl,sz (by simp),fun oe G7 s7 _ f7=>⟨sz (by simp),fun t G8 s8 _ f8=>?_⟩⟩⟩
   have sG8:=s6.trans (s7.trans s8)
   exact q t G8 pl jl ie oe _ _ _ _ (s0B.trans (sG.trans sG8)) f8 (hpl.mono sG8) (hjl.mono (sG.trans sG8)) ((s7.trans s8).at f6) (s8.at f7) (.loop a b hab)
  refine WSs.step (Yg (Zo Zed (pv 6) Zd (Zx _)) Zy Z2) ⟨_,rfl,_,_,rfl,rfl,_,rfl,Yk (fun _=>?_) (fun _=>?_)⟩
  ·refine WSs.step (Zn (i:=7) Yb.nd rfl (by first | exact Or.inl rfl | exact Or.inr rfl) (Zl (Zb Ze (Zb Ze (Zb Ze Za))))) ⟨sz (by simp),fun le H1 s1 _ e1=>?_⟩
   refine WSs.step (Zn (i:=11) Yb.nd rfl (by first | exact Or.inl rfl | exact Or.inr rfl) (Zk Z6 (Zk Yh (pv 0) Zd) Zd)) ⟨_,rfl,_,_,rfl,rfl,⟨by decide,by decide⟩,_,_,rfl,rfl,(by show (0:Int)<3;decide),?_⟩
   obtain ⟨x,r0,r1,hat,hfl,hpm⟩:∃x r0 r1:Str,atI [V.str "stem",.str "left",.str "right"] (2-c / 8%3)=some (.str x)∧(([("stem" :Str), "left", "right"].filter fun e=>decide (e≠x))=[r0,r1])∧[x,r0,r1].Perm ["stem", "left", "right"]:=by
    have h0:=Int.emod_nonneg (c / 8) (show (3:Int)≠0 by decide)
    have h1:=Int.emod_lt_of_pos (c / 8) (show (0:Int)<3 by decide)
    generalize c / 8%3=m at h0 h1
    have:m=0∨m=1∨m=2:=by omega
    rcases this with rfl|rfl|rfl
    ·exact ⟨"right", "stem", "left",rfl,by decide +kernel,by decide +kernel⟩
    ·exact ⟨"left", "stem", "right",rfl,by decide +kernel,by decide +kernel⟩
    ·exact ⟨"stem", "left", "right",rfl,by decide +kernel,by decide +kernel⟩
   refine WSs.step (Zn (i:=12) Yb.nd rfl (by first | exact Or.inl rfl | exact Or.inr rfl) (Zt (r:=rIx K) Zm (pv 7) (Zk Zdj Zd (pv 11)) (fun _ _=>rfl))) ⟨_,rfl,_,rfl,_,_,rfl,rfl,.inl ⟨le,_,_,.str x,rfl,rfl,SqL.of e1,hat,?_⟩⟩
   refine WSs.step (Zn (i:=9) Yb.nd rfl (by first | exact Or.inl rfl | exact Or.inr rfl) (Zl (Zb (Zf (Zb (Zf (Zb (pv 2) (Zb (pv 12) Za))) (Zb (Zf (Zb (pv 3) (Zb Ze Za))) Za))) (Zb (Zf (Zb (Zf (Zb (pv 3) (Zb Ze Za))) (Zb (Zf (Zb (pv 4) (Zb Ze Za))) Za))) Za)))) ⟨_,rfl,_,rfl,sz (by simp),fun a1 H2 s2 _ f1=>⟨_,rfl,sz (by simp),fun a2 H3 s3 _ f2=>⟨sz (by simp),fun j1 H4 s4 _ f3=>⟨_,rfl,sz (by simp),fun a3 H5 s5 _ f4=>⟨_,rfl,sz (by simp),fun a4 H6 s6 _ f5=>⟨sz (by simp),fun j2 H7 s7 _ f6=>⟨sz (by simp),fun jl H8 s8 _ f7=>?_⟩⟩⟩⟩⟩⟩⟩
   have hjl:Z1 H8 jl [((n1,x),(n2, "b")),((n2, "a"),(n3, "a"))]:=⟨[j1,j2],f7,.cons ⟨a1,a2,(s5.trans (s6.trans (s7.trans s8))).at f3,(s3.trans (s4.trans (s5.trans (s6.trans (s7.trans s8))))).at f1,(s4.trans (s5.trans (s6.trans (s7.trans s8)))).at f2⟩ (.cons ⟨a3,a4,s8.at f6,(s6.trans (s7.trans s8)).at f4,(s7.trans s8).at f5⟩ .nil)⟩
   have s28:=s2.trans (s3.trans (s4.trans (s5.trans (s6.trans (s7.trans s8)))))
   have s08:=s1.trans s28
   have e1:=s28.at e1
   clear s1 s2 s3 s4 s5 s6 s7 s8 f1 f2 f3 f4 f5 f6 f7 s28
   refine WSs.step (Xq (i:=13) (N':=["_law_end", "_law_aside"]) Yb.nd rfl (Or.inl rfl) rfl (Z9.std 1 [12] rfl (by decide +kernel) (by decide +kernel) rfl ⟨rfl,trivial⟩ rfl rfl ⟨⟨_,rfl,rfl,rfl⟩,trivial⟩) (Yx (pv 7)) (fun _ _ _ _=>(Zq (i:=0) (by show (["_law_end", "_law_aside"]:List Str).Nodup;decide +kernel) rfl (Or.inl (lookup_relabel_local rfl)) (Or.inr (lookup_relabel_local rfl)))) (fun _ _ _ _=>(Zdx (Zo (r:=Zfm K) (Zgv hr) (pv 0) (pv 1) (Zx _)))) (fun _ _ _ _=>(pv 0))) ⟨_,rfl,le,rfl,⟨_,SqL.of e1⟩,fun lr hlr=>?_⟩
   refine Zs5 (xs:=["stem", "left", "right"]) (x:=x) e1 (by decide) hlr (fun H9 s9 e9=>?qq) ?aa ?bb
   case aa=>rfl
   case bb=>rfl
   rw [hfl] at e9
   obtain ⟨kd,hkd,hkm⟩:∃kd:Str,atI [V.str "stop",.str "gate"] (c / 24%2)=some (.str kd)∧kd∈[("stop" :Str), "gate"]:=by
    obtain ⟨w,hw,h | h⟩:=Zk1 (n:=c / 24) (u:=V.str "stop") (v:=V.str "gate")
    ·exact ⟨"stop",by rw [hw,h.2],by simp⟩
    ·exact ⟨"gate",by rw [hw,h.2],by simp⟩
   refine WSs.step (Zn (i:=10) Yb.nd rfl (by first | exact Or.inl rfl | exact Or.inr rfl) (Zl (Zb (Zf (Zb Ze (Zb (pv 2) Za))) (Zb (Zf (Zb Ze (Zb (pv 3) Za))) (Zb (Zf (Zb (Zt (r:=rIx K) Zm (Zl (Zb Ze (Zb Ze Za))) (Zk Z6 (Zk Yh (pv 0) Zd) Zd) (fun _ _=>rfl)) (Zb (pv 4) Za))) Za))))) ⟨_,rfl,sz (by simp),fun c1 G1 s1 _ f1=>⟨_,rfl,sz (by simp),fun c2 G2 s2 _ f2=>⟨sz (by simp),fun lk G3 s3 _ f3=>⟨_,rfl,_,_,rfl,rfl,⟨by decide,by decide⟩,_,_,rfl,rfl,(by show (0:Int)<2;decide),.inl ⟨lk,_,_,.str kd,rfl,rfl,SqL.of f3,hkd,_,rfl,sz (by simp),fun c3 G4 s4 _ f4=>⟨sz (by simp),fun pl G5 s5 _ f5=>?_⟩⟩⟩⟩⟩⟩
   have hpl:Zs G5 pl [("points",n1),("plain",n2),(kd,n3)]:=⟨[c1,c2,c3],f5,.cons (s5.at (s4.at (s3.at (s2.at f1)))) (.cons (s5.at (s4.at (s3.at f2))) (.cons (s5.at f4) .nil))⟩
   have sG:=s1.trans (s2.trans (s3.trans (s4.trans s5)))
   obtain ⟨a,b,ha,hb,hab⟩:∃a b:Str,atI [V.str r0,.str r1] (c / 48%2)=some (.str a)∧atI [V.str r0,.str r1] (1-c / 48%2)=some (.str b)∧[x,a,b].Perm ["stem", "left", "right"]:=by
    have h0:=Int.emod_nonneg (c / 48) (show (2:Int)≠0 by decide)
    have h1:=Int.emod_lt_of_pos (c / 48) (show (0:Int)<2 by decide)
    generalize c / 48%2=m at h0 h1
    have:m=0∨m=1:=by omega
    rcases this with rfl|rfl
    ·exact ⟨r0,r1,rfl,rfl,hpm⟩
    ·exact ⟨r1,r0,rfl,rfl,((List.Perm.swap r0 r1 []).cons x).trans hpm⟩
   refine WSs.last (Z8 (Zf (Zb (pv 10) (Zb (pv 9) (Zb (Zf (Zb (pv 2) (Zb (Zt (r:=rIx K) Zm (pv 13) (Zk Z6 (Zk Yh (pv 0) Zd) Zd) (fun _ _=>rfl)) Za))) (Zb (Zf (Zb (pv 2) (Zb (Zt (r:=rIx K) Zm (pv 13) (Zk Zdj Zd (Zk Z6 (Zk Yh (pv 0) Zd) Zd)) (fun _ _=>rfl)) Za))) Za)))))) ⟨_,rfl,_,rfl,_,rfl,_,rfl,_,rfl,_,_,rfl,rfl,⟨by decide,by decide⟩,_,_,rfl,rfl,(by show (0:Int)<2;decide),.inl ⟨lr,_,_,.str a,rfl,rfl,SqL.of (sG.at e9),ha,sz (by simp),fun ie G6 s6 _ f6=>?_⟩⟩
   refine ⟨_,rfl,_,rfl,_,rfl,_,_,rfl,rfl,⟨by decide,by decide⟩,_,_,rfl,rfl,(by show (0:Int)<2;decide),_,_,rfl,rfl,.inl ⟨lr,_,_,.str b,rfl,rfl,SqL.of (s6.at (sG.at e9)),hb,sz (by simp),fun oe G7 s7 _ f7=>⟨sz (by simp),fun t G8 s8 _ f8=>?_⟩⟩⟩
   have sG8:=s6.trans (s7.trans s8)
   exact q t G8 pl jl ie oe _ _ _ _ (s08.trans (s9.trans (sG.trans sG8))) f8 (hpl.mono sG8) (hjl.mono (s9.trans (sG.trans sG8))) ((s7.trans s8).at f6) (s8.at f7) (.siding x a b kd hab hkm)
  refine WSs.step (Zn (i:=9) Yb.nd rfl (by first | exact Or.inl rfl | exact Or.inr rfl) (Zl (Zb (Zf (Zb (Zf (Zb (pv 2) (Zb Ze Za))) (Zb (Zf (Zb (pv 3) (Zb Ze Za))) Za))) (Zb (Zf (Zb (Zf (Zb (pv 4) (Zb Ze Za))) (Zb (Zf (Zb (pv 2) (Zb Ze Za))) Za))) Za)))) ⟨_,rfl,sz (by simp),fun a1 H2 s2 _ f1=>⟨_,rfl,sz (by simp),fun a2 H3 s3 _ f2=>⟨sz (by simp),fun j1 H4 s4 _ f3=>⟨_,rfl,sz (by simp),fun a3 H5 s5 _ f4=>⟨_,rfl,sz (by simp),fun a4 H6 s6 _ f5=>⟨sz (by simp),fun j2 H7 s7 _ f6=>⟨sz (by simp),fun jl H8 s8 _ f7=>?_⟩⟩⟩⟩⟩⟩⟩
  have hjl:Z1 H8 jl [((n1, "c"),(n2, "a")),((n3, "a"),(n1, "d"))]:=⟨[j1,j2],f7,.cons ⟨a1,a2,(s5.trans (s6.trans (s7.trans s8))).at f3,(s3.trans (s4.trans (s5.trans (s6.trans (s7.trans s8))))).at f1,(s4.trans (s5.trans (s6.trans (s7.trans s8)))).at f2⟩ (.cons ⟨a3,a4,s8.at f6,(s6.trans (s7.trans s8)).at f4,(s7.trans s8).at f5⟩ .nil)⟩
  have s08:=s2.trans (s3.trans (s4.trans (s5.trans (s6.trans (s7.trans s8)))))
  clear s2 s3 s4 s5 s6 s7 s8 f1 f2 f3 f4 f5 f6 f7
  obtain ⟨kd,hkd,hkm⟩:∃kd:Str,atI [V.str "gate",.str "stop"] (c / 8%2)=some (.str kd)∧kd∈[("gate" :Str), "stop"]:=by
   obtain ⟨w,hw,h | h⟩:=Zk1 (n:=c / 8) (u:=V.str "gate") (v:=V.str "stop")
   ·exact ⟨"gate",by rw [hw,h.2],by simp⟩
   ·exact ⟨"stop",by rw [hw,h.2],by simp⟩
  refine WSs.step (Zn (i:=10) Yb.nd rfl (by first | exact Or.inl rfl | exact Or.inr rfl) (Zl (Zb (Zf (Zb Ze (Zb (pv 2) Za))) (Zb (Zf (Zb Ze (Zb (pv 3) Za))) (Zb (Zf (Zb (Zt (r:=rIx K) Zm (Zl (Zb Ze (Zb Ze Za))) (Zk Z6 (Zk Yh (pv 0) Zd) Zd) (fun _ _=>rfl)) (Zb (pv 4) Za))) Za))))) ⟨_,rfl,sz (by simp),fun c1 G1 s1 _ f1=>⟨_,rfl,sz (by simp),fun c2 G2 s2 _ f2=>⟨sz (by simp),fun lk G3 s3 _ f3=>⟨_,rfl,_,_,rfl,rfl,⟨by decide,by decide⟩,_,_,rfl,rfl,(by show (0:Int)<2;decide),.inl ⟨lk,_,_,.str kd,rfl,rfl,SqL.of f3,hkd,_,rfl,sz (by simp),fun c3 G4 s4 _ f4=>⟨sz (by simp),fun pl G5 s5 _ f5=>?_⟩⟩⟩⟩⟩⟩
  have hpl:Zs G5 pl [("cross",n1),("gate",n2),(kd,n3)]:=⟨[c1,c2,c3],f5,.cons (s5.at (s4.at (s3.at (s2.at f1)))) (.cons (s5.at (s4.at (s3.at f2))) (.cons (s5.at f4) .nil))⟩
  have sG:=s1.trans (s2.trans (s3.trans (s4.trans s5)))
  refine WSs.last (Z8 (Zf (Zb (pv 10) (Zb (pv 9) (Zb (Zf (Zb (pv 2) (Zb Ze Za))) (Zb (Zf (Zb (pv 2) (Zb Ze Za))) Za)))))) ⟨_,rfl,_,rfl,_,rfl,sz (by simp),fun ie G6 s6 _ f6=>⟨_,rfl,sz (by simp),fun oe G7 s7 _ f7=>⟨sz (by simp),fun t G8 s8 _ f8=>?_⟩⟩⟩
  have sG8:=s6.trans (s7.trans s8)
  exact q t G8 pl jl ie oe _ _ _ _ (s08.trans (sG.trans sG8)) f8 (hpl.mono sG8) (hjl.mono (sG.trans sG8)) ((s7.trans s8).at f6) (s8.at f7) (.cross kd hkm)
theorem Zlb(T:Tx K mg){k:Nat}(h:1≤k:=by decide):Yf P w K mg base CX0 k T.d__law_block.f T.d__law_block.fd ["_law_cell", "_law_names"] Zn6:=(Zi4 T).mono h
end
end K14
end
section
namespace K14
open PySem L2 NM YM
section
variable {P:Program} {w:World} {K:Frag} {mg:Str→Option Value} {base:Heap}
seal PySem.wpAny
theorem Zcw(xs:List V)(k:Nat):Zgt xs (some (k:Int)) none=xs.drop k:=by
 unfold Zgt
 rw [HT.sIx_nat,HT.sIx_none]
 by_cases h:k≤xs.length
 ·rw [Nat.min_eq_left h,List.take_of_length_le (by rw [List.length_drop];exact Nat.le_refl _)]
 ·rw [Nat.min_eq_right (by omega),List.drop_length,List.take_nil,List.drop_of_length_le (by omega)]
theorem Zf0(xs:List V)(k:Nat):Zgt xs none (some (k:Int))=xs.take k:=by
 unfold Zgt
 rw [HT.sIx_nat,HT.sIx_none,List.drop_zero,Nat.sub_zero]
 by_cases h:k≤xs.length
 ·rw [Nat.min_eq_left h]
 ·rw [Nat.min_eq_right (by omega),List.take_length,List.take_of_length_le (by omega)]
theorem Zs.app{H:Hp}{l:Addr}{ts us:List Addr}{ps qs:List Zc}(h1:Paired (Zu H) ts ps)(h2:Paired (Zu H) us qs)(e:H l=some (.lst (ts.map V.ref++us.map V.ref))):Zs H l (ps++qs):=⟨ts++us,by rw [List.map_append];exact e,Paired.append h1 h2⟩
theorem Z1.app{H:Hp}{l:Addr}{ts us:List Addr}{ps qs:List (Zc×Zc)}(h1:Paired (Y2 H) ts ps)(h2:Paired (Y2 H) us qs)(e:H l=some (.lst (ts.map V.ref++us.map V.ref))):Z1 H l (ps++qs):=⟨ts++us,by rw [List.map_append];exact e,Paired.append h1 h2⟩
def Zrk(K:Frag):Sp:=fun vs H Q _=>∃(cl:Addr) (cs:List Int),vs=[.ref cl]∧SqL K H cl (cs.map V.int)∧(∀c∈cs,0≤c) ∧
 ∀(t:Addr) (H':Hp) (pl jl:Addr) (ps:List Zc) (js:List (Zc×Zc)),Same H H'→H' t=some (.tup [.ref pl,.ref jl])→Zs H' pl ps→Z1 H' jl js→H pl=none→H jl=none→Net ps js []→ps.length≤38→(∀p∈ps,p=((("gate" :Str),("g" :Str)):Zc)∨p=((("gate" :Str),("h" :Str)):Zc)∨Zld p.2 36)→Q (.ref t) H'
theorem Zkv(T:Tx K mg):Yf P w K mg base CX0 2 T.d__law_line.f T.d__law_line.fd ["_law_cells_here"] (Zrk K):=by
 refine T.d__law_line.F.okW Yy (fun vs H Q E h=>?_) (fun cdv A outer s H vs Q E hr h=>?_)
 ·obtain ⟨cl,cs,rfl,_⟩:=h
  rfl
 ·obtain ⟨cl,cs,rfl,hcl,hcs,q⟩:=h
  refine WSs.step (Zn (i:=1) Yy.nd rfl (by first | exact Or.inl rfl | exact Or.inr rfl) (Zl (Zb (Zf (Zb Ze (Zb Ze Za))) Za))) ⟨sz (by simp),fun t1 H1 s1 _ e1=>⟨sz (by simp),fun pl0 H2 s2 n2 e2=>?_⟩⟩
  refine WSs.step (Zn (i:=2) Yy.nd rfl (by first | exact Or.inl rfl | exact Or.inr rfl) (Zl Za)) ⟨sz (by simp),fun jl0 H3 s3 n3 e3=>?_⟩
  refine WSs.step (Zn (i:=3) Yy.nd rfl (by first | exact Or.inl rfl | exact Or.inr rfl) (Zf (Zb Ze (Zb Ze Za)))) ⟨sz (by simp),fun e0 H4 s4 n4 e4=>?_⟩
  have s04:=s1.trans (s2.trans (s3.trans s4))
  have hp0:Zs H4 pl0 [("gate", "g")]:=⟨[t1],s4.at (s3.at e2),.cons (s4.at (s3.at (s2.at e1))) .nil⟩
  have hj0:Z1 H4 jl0 []:=⟨[],s4.at e3,.nil⟩
  have f0:H pl0=none:=s1.free n2
  have f1:H jl0=none:=s1.free (s2.free n3)
  clear s1 s2 s3 s4 n2 n3 n4 e1 e2 e3
  refine WSs.step (Zae PassesOwn.never rfl (Zg4 rfl T.n_enumerate (Zb (Xy (r:=Ze8 K) Zf6 (pv 0) W4 (Wq Zd)) Za)) (Zax rfl (Zw (Zq (i:=4) Yy.nd rfl (by first | exact Or.inl rfl | exact Or.inr rfl)) (Zw (Zq (i:=5) Yy.nd rfl (by first | exact Or.inl rfl | exact Or.inr rfl)) Y8))) Zy) ⟨_,rfl,_,rfl,.inr (.inl ⟨cl,_,rfl,s04.seq hcl,fun c9 H5 s5 n5 e5=>⟨c9,rfl,⟨_,SqL.of e5⟩,?_⟩⟩)⟩
  rw [show (some (9:Int))=some ((9:Nat):Int) from rfl,Zf0,←List.map_take] at e5
  have s05:=s04.trans s5
  refine Zfh (xs:=(cs.take 9).map V.int) (fun i σ H'=>Same H5 H'∧∃pl jl e o4 o5 o6 o7 ps js cur,σ=[some (.ref cl),some (.ref pl),some (.ref jl),some (.ref e),o4,o5,o6,o7]∧Zs H' pl ps∧Z1 H' jl js∧Zu H' e cur∧Zc3 i ps js cur∧H pl=none∧H jl=none)
   ⟨Same.refl _,pl0,jl0,e0,none,none,none,none,_,_,_,rfl,hp0.mono s5,hj0.mono s5,s5.at e4,Zc3.start,f0,f1⟩ ?_ ?_ ?_
  ·rintro i σ H' _ ⟨sm,_⟩
   exact SqL.of (sm.at e5)
  ·rintro i v σ H6 hi ⟨s6,pl,jl,e,o4,o5,o6,o7,ps,js,cur,rfl,hpl,hjl,hpe,hok,fp,fj⟩ tp H7 s7 n7 e7
   rw [List.getElem?_map] at hi
   obtain ⟨c,hc,rfl⟩:=Option.map_eq_some_iff.mp hi
   have hi9:i<9:=by
    have:=(List.getElem?_eq_some_iff.mp hc).1
    rw [List.length_take] at this
    omega
   have hc0:0≤c:=hcs c (List.mem_of_mem_take (List.mem_of_getElem? hc))
   refine ⟨tp,_,rfl,SqT.of e7,rfl,_,_,rfl,_,_,rfl,rfl,?_⟩
   have s07:=s6.trans s7
   have hpl:=hpl.mono s7
   have hjl:=hjl.mono s7
   have hpe:=hpe.mono s7
   obtain ⟨nm,hnm⟩:∃nm:Nat→Str,nm=fun j=>Ys ((["p", "q", "r", "t"]:List Str).getD j "p") (c / 96+5 * (j:Int)) (4 * i+j):=⟨_,rfl⟩
   refine WSs.step (Xq (i:=6) (N':=["_law_j", "_law_cell", "_law_k"]) Yy.nd rfl (Or.inl rfl) rfl (Z9.std 1 [5,4] rfl (by decide +kernel) (by decide +kernel) rfl ⟨rfl,rfl,trivial⟩ rfl rfl ⟨⟨_,rfl,rfl,rfl⟩,⟨_,rfl,rfl,rfl⟩,trivial⟩) (Zd4 rfl T.n_range (Zb Zd Za)) (fun _ _ _ _=>(Zq (i:=0) (by show (["_law_j", "_law_cell", "_law_k"]:List Str).Nodup;decide +kernel) rfl (Or.inl (lookup_relabel_local rfl)) (Or.inr (lookup_relabel_local rfl)))) (fun _ _ _ _=>W9) (fun _ _ _ _=>(Z5 (Zdv T) hr rfl T.m__law_name_by T.d__law_name_by.F.kp T.d__law_name_by.b .nil Yn (Zb (Zt (r:=rIx K) Zm (Zl (Zb Ze (Zb Ze (Zb Ze (Zb Ze Za))))) (pv 0) (fun _ _=>rfl)) (Zb (Zk Y3 (Zk Yh (pv 1) Zd) (Zk Zf7 Zd (pv 0))) (Zb (Zk Y3 (Zk Zf7 Zd (pv 2)) (pv 0)) Za)))))) ⟨_,rfl,by decide,by decide,fun D hD=>Zb1 (lo:=0) (n:=4) (fun j ys H'=>ys=((List.range j).map nm).map V.str∧H' D=some (.lst ys)∧Same H7 H') ⟨rfl,Zj,Same.new hD⟩ ?_ ?_⟩
   ·rintro j ys H8 hj ⟨rfl,hD8,s8⟩
    unfold Zcb
    obtain ⟨kd,hkd⟩:∃kd,kd=(["p", "q", "r", "t"]:List Str).getD j "p" :=⟨_,rfl⟩
    have hj4:j=0∨j=1∨j=2∨j=3:=by omega
    have hat:atI [V.str "p",.str "q",.str "r",.str "t"] ((0:Int)+(j:Int))=some (.str kd):=by
     rw [hkd]
     rcases hj4 with rfl|rfl|rfl|rfl <;>rfl
    have hkl:kd.length=1:=by
     rw [hkd]
     rcases hj4 with rfl|rfl|rfl|rfl <;>decide +kernel
    refine ⟨Wr.set rfl,sz (by simp),fun lq H9 s9 n9 e9=>⟨_,rfl,.inl ⟨lq,_,_,.str kd,rfl,rfl,SqL.of e9,hat,_,rfl,_,_,rfl,rfl,⟨by decide,by decide⟩,_,rfl,_,_,rfl,rfl,.inl ⟨by decide,by decide⟩,.inl ⟨_,_,rfl,rfl,_,rfl,_,_,rfl,rfl,.inl ⟨by decide,by decide⟩,_,rfl,.inl ⟨_,_,rfl,rfl,kd,c / 96+5 * (j:Int),4 * i+j,?_,by omega,by omega,?_,by omega,s9.at hD8,?_,?_,Zj,fun b o z=>?_⟩⟩⟩⟩⟩
    ·show [V.str kd,V.int (c / 96+5 * (0+(j:Int))),V.int (4 * (i:Int)+(0+(j:Int)))]=_
     rw [show (0:Int)+(j:Int)=j by omega,show 4 * (i:Int)+(j:Int)=((4 * i+j:Nat):Int) by omega]
    ·have:=Int.ediv_nonneg hc0 (show (0:Int)≤96 by decide)
     omega
    ·rw [List.length_map,List.length_map,List.length_range];exact Z4 (by omega)
    ·rw [List.range_succ,List.map_append,List.map_append,hnm,hkd]
     rfl
    ·rw [Zi (Zh z hD)];exact s9.at (s8.at z)
   ·rintro ys H8 ⟨rfl,hD8,s8⟩
    have hpl:=hpl.mono s8
    have hjl:=hjl.mono s8
    have hpe:=hpe.mono s8
    refine WSs.step (Zn (i:=7) Yy.nd rfl (by first | exact Or.inl rfl | exact Or.inr rfl) (Z5 (Zlb T) hr rfl T.m__law_block T.d__law_block.F.kp T.d__law_block.b .nil Yn (Zb (pv 5) (Zb (pv 6) Za)))) ⟨_,rfl,_,rfl,c,D,nm 0,nm 1,nm 2,nm 3,rfl,hD8,fun t H9 bp bj ie oe qs ks a b s9 e9 hbp hbj hie hoe B=>?_⟩
    subst hnm
    have hok':=hok.more (by omega) (by decide +kernel) (by decide +kernel) (by decide +kernel) (by decide +kernel) B
    obtain ⟨ts,ht,hts⟩:=hpl.mono s9
    obtain ⟨us,hu,hus⟩:=hbp
    obtain ⟨js1,hj1,hjs1⟩:=hjl.mono s9
    obtain ⟨js2,hj2,hjs2⟩:=hbj
    have lp:=hok.pl
    have lj:=hok.jl
    have lb:=B.len
    have c1:=Paired.length hts
    have c2:=Paired.length hus
    have c3:=Paired.length hjs1
    have c4:=Paired.length hjs2
    refine WSs.step (Zn (i:=1) Yy.nd rfl (by first | exact Or.inl rfl | exact Or.inr rfl) (Zk Y3 (pv 1) (Zt (r:=rIx K) Zm (pv 7) Zd (fun _ _=>rfl)))) ⟨_,rfl,_,rfl,.inr (.inl ⟨t,_,_,.ref bp,rfl,rfl,SqT.of e9,rfl,.inr (.inr ⟨pl,bp,_,_,rfl,rfl,ht,hu,?_,fun pl' H10 s10 n10 e10=>?_⟩)⟩)⟩
    ·rw [List.length_map,List.length_map];exact sz (by omega)
    refine WSs.step (Zn (i:=2) Yy.nd rfl (by first | exact Or.inl rfl | exact Or.inr rfl) (Zk Y3 (Zk Y3 (pv 2) (Zt (r:=rIx K) Zm (pv 7) Zd (fun _ _=>rfl))) (Zl (Zb (Zf (Zb (pv 3) (Zb (Zt (r:=rIx K) Zm (pv 7) Zd (fun _ _=>rfl)) Za))) Za)))) ⟨_,rfl,_,rfl,.inr (.inl ⟨t,_,_,.ref bj,rfl,rfl,SqT.of (s10.at e9),rfl,.inr (.inr ⟨jl,bj,_,_,rfl,rfl,s10.at hj1,s10.at hj2,?_,fun jm H11 s11 n11 e11=>⟨_,rfl,_,rfl,.inr (.inl ⟨t,_,_,.ref ie,rfl,rfl,SqT.of (s11.at (s10.at e9)),rfl,sz (by simp),fun tj H12 s12 n12 e12=>⟨sz (by simp),fun l2 H13 s13 n13 e13=>.inr (.inr ⟨jm,l2,_,_,rfl,rfl,(s12.trans s13).at e11,e13,?_,fun jl' H14 s14 n14 e14=>?_⟩)⟩⟩)⟩⟩)⟩)⟩
    ·rw [List.length_map,List.length_map];exact sz (by omega)
    ·rw [List.length_append,List.length_map,List.length_map];exact sz (by simp;omega)
    have s104:=s11.trans (s12.trans (s13.trans s14))
    have s94:=s10.trans s104
    refine WSs.last (Zn (i:=3) Yy.nd rfl (by first | exact Or.inl rfl | exact Or.inr rfl) (Zt (r:=rIx K) Zm (pv 7) Zd (fun _ _=>rfl))) ⟨_,rfl,.inr (.inl ⟨t,_,_,.ref oe,rfl,rfl,SqT.of (s94.at e9),rfl,s07.trans (s8.trans (s9.trans s94)),pl',jl',oe,_,_,_,_,_,_,_,rfl,?_,?_,hoe.mono s94,hok',?_,?_⟩)⟩
    ·exact Zs.app (ts:=ts) (us:=us) (Paired.mapP hts fun _ _ r=>r.mono s94) (Paired.mapP hus fun _ _ r=>r.mono s94) (s104.at e10)
    ·have hall:Paired (Y2 H14) (js1++js2) (js++ks):=Paired.append (Paired.mapP hjs1 fun _ _ r=>r.mono s94) (Paired.mapP hjs2 fun _ _ r=>r.mono s94)
     refine Z1.app (ts:=js1++js2) (us:=[tj]) hall (.cons ⟨e,ie,(s13.trans s14).at e12,(hpe.mono s9).mono s94,hie.mono s94⟩ .nil) ?_
     rw [List.map_append]
     exact e14
    ·exact s05.free (s07.free (s8.free (s9.free n10)))
    ·exact s05.free (s07.free (s8.free (s9.free ((s10.trans (s11.trans (s12.trans s13))).free n14))))
  ·rintro σ H6 ⟨s6,pl,jl,e,o4,o5,o6,o7,ps,js,cur,rfl,hpl,hjl,hpe,hok,fp,fj⟩
   rw [List.length_map,List.length_take] at hok
   have hm:min 9 cs.length≤9:=Nat.min_le_left ..
   have hdone:=hok.done (by omega)
   obtain ⟨ts,ht,hts⟩:=hpl
   obtain ⟨js1,hj1,hjs1⟩:=hjl
   have lp:=hok.pl
   have lj:=hok.jl
   have c1:=Paired.length hts
   have c3:=Paired.length hjs1
   refine WSs.last (Z8 (Zf (Zb (Zk Y3 (pv 1) (Zl (Zb (Zf (Zb Ze (Zb Ze Za))) Za))) (Zb (Zk Y3 (pv 2) (Zl (Zb (Zf (Zb (pv 3) (Zb (Zf (Zb Ze (Zb Ze Za))) Za))) Za))) Za)))) ⟨_,rfl,sz (by simp),fun t1 H7 s7 _ e7=>⟨sz (by simp),fun l1 H8 s8 _ e8=>.inr (.inr ⟨pl,l1,_,_,rfl,rfl,s8.at (s7.at ht),e8,?_,fun pl' H9 s9 n9 e9=>⟨_,rfl,_,rfl,sz (by simp),fun t2 H10 s10 _ e10=>⟨sz (by simp),fun t3 H11 s11 _ e11=>⟨sz (by simp),fun l2 H12 s12 _ e12=>.inr (.inr ⟨jl,l2,_,_,rfl,rfl,(s7.trans (s8.trans (s9.trans (s10.trans (s11.trans s12))))).at hj1,e12,?_,fun jl' H13 s13 n13 e13=>⟨sz (by simp),fun t H14 s14 _ e14=>?_⟩⟩)⟩⟩⟩⟩)⟩⟩
   ·rw [List.length_map];exact sz (by simp;omega)
   ·rw [List.length_map];exact sz (by simp;omega)
   have s612:=s7.trans (s8.trans (s9.trans (s10.trans (s11.trans s12))))
   have s614:=s612.trans (s13.trans s14)
   have s914:=s10.trans (s11.trans (s12.trans (s13.trans s14)))
   refine q t H14 pl' jl' _ _ (s05.trans (s6.trans s614)) e14 ?_ ?_ (s05.free (s6.free (s7.free (s8.free n9)))) (s05.free (s6.free (s612.free n13))) hdone ?_ ?_
   ·exact Zs.app (ts:=ts) (us:=[t1]) (Paired.mapP hts fun _ _ r=>r.mono s614) (.cons ((s8.trans (s9.trans s914)).at e7) .nil) (s914.at e9)
   ·exact Z1.app (ts:=js1) (us:=[t3]) (Paired.mapP hjs1 fun _ _ r=>r.mono s614) (.cons ⟨e,t2,(s12.trans (s13.trans s14)).at e11,hpe.mono s614,(s11.trans (s12.trans (s13.trans s14))).at e10⟩ .nil) (s14.at e13)
   ·rw [List.length_append];simp;omega
   ·intro p hp
    rcases List.mem_append.mp hp with z|z
    ·rcases hok.nm p z with y|⟨kd,c,k,h1,h2,h3⟩
     ·exact .inl y
     ·exact .inr (.inr ⟨kd,c,k,h1,by omega,h3⟩)
    ·simp at z
     subst z
     exact .inr (.inl rfl)
theorem Zmh(T:Tx K mg){k:Nat}(h:2≤k:=by decide):Yf P w K mg base CX0 k T.d__law_line.f T.d__law_line.fd ["_law_cells_here"] (Zrk K):=(Zkv T).mono h
def Znx(K:Frag):Sp:=fun vs H Q _=>∃(a:Addr) (ns:List Int) (i j:Nat),vs=[.ref a,.int i,.int j]∧SqL K H a (ns.map V.int)∧ns.length≤63∧i≤1000∧j≤1000 ∧
 ∀(p:Addr) (H':Hp) (cs:List Int),Same H H'→H p=none→H' p=some (.lst (cs.map V.int))→(∀c∈cs,0≤c∧c<2147483629)→cs.length≤63→Q (.ref p) H'
theorem Zi1(T:Tx K mg):Yf P w K mg base CX0 2 T.d__law_cells.f T.d__law_cells.fd ["_law_script", "_law_at", "_law_end"] (Znx K):=by
 refine T.d__law_cells.F.okW Zis (fun vs H Q E h=>?_) (fun cdv A outer s H vs Q E hr h=>?_)
 ·obtain ⟨a,ns,i,j,rfl,_⟩:=h
  rfl
 ·obtain ⟨a,ns,i,j,rfl,hS,hn,hi,hj,q⟩:=h
  have hmin:(if ((ns.map V.int).length:Int)<(j:Int) then ((ns.map V.int).length:Int) else (j:Int))=((min j ns.length:Nat):Int):=by
   rw [List.length_map]
   split <;>omega
  refine WSs.last (Z8 (W2 (N':=["_law_k", "_law_script"]) rfl (Z9.std 1 [0] rfl (by decide +kernel) (by decide +kernel) rfl ⟨rfl,trivial⟩ rfl rfl ⟨⟨_,rfl,rfl,rfl⟩,trivial⟩) (Zj1 rfl T.n_range (Zb (pv 1) (Zb (Zp (Zo6 rfl) (by rfl) T.n_min PyProof.Rows.boot_min (Zb (pv 2) (Zb (Zp (r:=Xb K) Xf (by rfl) T.n_len PySem.boot_len (Zb (pv 0) Za)) Za))) Za))) (fun _ _ _ _=>(Zq (i:=0) (by show (["_law_k", "_law_script"]:List Str).Nodup;decide +kernel) rfl (Or.inl (lookup_relabel_local rfl)) (Or.inr (lookup_relabel_local rfl)))) (fun _ _ _ _=>W9) (fun _ _ _ _=>(Z5 (Zaw T) hr rfl T.m__law_mixed T.d__law_mixed.F.kp T.d__law_mixed.b .nil Yn (Zb (Zt (r:=rIx K) Zm (pv 1) (pv 0) (fun _ _=>rfl)) (Zb (pv 0) Za)))))) ⟨_,rfl,_,rfl,_,rfl,.inl ⟨a,_,rfl,.inl hS,_,_,rfl,_,_,rfl,?_,fun D hD=>?_⟩⟩
  ·rw [hmin];omega
  rw [hmin]
  obtain ⟨m,hm⟩:∃m:Nat,(((min j ns.length:Nat):Int)-(i:Int)).toNat=m:=⟨_,rfl⟩
  rw [hm]
  refine Zb1 (lo:=(i:Int)) (n:=m) (fun k ys H'=>(∃cs:List Int,ys=cs.map V.int∧cs.length=k∧∀c∈cs,0≤c∧c<2147483629)∧H' D=some (.lst ys)∧Same H H') ⟨⟨[],rfl,rfl,by simp⟩,Zj,Same.new hD⟩ ?_ ?_
  ·rintro k ys H2 hk ⟨⟨cs,rfl,hcl,hcs⟩,hD2,s2⟩
   unfold Zcb
   have hlt:i+k<ns.length:=by omega
   refine ⟨Wr.set rfl,_,rfl,_,rfl,.inl ⟨a,_,_,.int (ns.getD (i+k) 0),rfl,rfl,s2.seq hS,?_,_,rfl,_,_,rfl,hD2,?_,⟨cs++[Zee (ns.getD (i+k) 0) ((i:Int)+(k:Int))],?_,?_,?_⟩,Zj,fun b o e=>?_⟩⟩
   ·rw [show (i:Int)+(k:Int)=((i+k:Nat):Int) by omega]
    refine Zr ?_
    rw [List.getElem?_map,List.getElem?_eq_getElem hlt,List.getD_eq_getElem?_getD,List.getElem?_eq_getElem hlt]
    rfl
   ·rw [List.length_map];exact Z4 (by omega)
   ·rw [List.map_append];rfl
   ·rw [List.length_append];simp;exact hcl
   ·intro c hc
    rcases List.mem_append.mp hc with z|z
    ·exact hcs c z
    ·simp at z
     rw [z]
     exact ⟨Zsd _ _,Zqm _ _⟩
   ·rw [Zi (Zh e hD)];exact s2.at e
  ·rintro ys H2 ⟨⟨cs,rfl,hcl,hcs⟩,hD2,s2⟩
   exact q D H2 cs s2 hD hD2 hcs (by omega)
theorem Zkm(T:Tx K mg){k:Nat}(h:2≤k:=by decide):Yf P w K mg base CX0 k T.d__law_cells.f T.d__law_cells.fd ["_law_script", "_law_at", "_law_end"] (Znx K):=(Zi1 T).mono h
theorem W0{H:Hp}{c:Addr}{o:HO}{xs:List V}{ts:List Addr}{ps:List Zc}(h:Paired (Zu H) ts ps)(hc:H c=some (.lst xs)):Paired (Zu (upd H c o)) ts ps :=
 Paired.mapP h fun t q r=>by
  unfold Zu at r ⊢
  rw [Zi fun z=>by rw [z,hc] at r;cases r]
  exact r
theorem Y2.off{H:Hp}{c t:Addr}{o:HO}{xs:List V}{j:Zc×Zc}(h:Y2 H t j)(hc:H c=some (.lst xs)):Y2 (upd H c o) t j:=by
 obtain ⟨a,b,h1,h2,h3⟩:=h
 unfold Zu at h2 h3
 have ne:∀{t:Addr} {ys:List V},H t=some (.tup ys)→t≠c:=fun h z=>by rw [z,hc] at h;cases h
 exact ⟨a,b,by rw [Zi (ne h1)];exact h1,by unfold Zu;rw [Zi (ne h2)];exact h2,by unfold Zu;rw [Zi (ne h3)];exact h3⟩
theorem Zaz{H:Hp}{c:Addr}{o:HO}{xs:List V}{ts:List Addr}{js:List (Zc×Zc)}(h:Paired (Y2 H) ts js)(hc:H c=some (.lst xs)):Paired (Y2 (upd H c o)) ts js:=Paired.mapP h fun _ _ r=>r.off hc
def Zl6:Sp:=fun vs H Q _=>∃(pl jl rl:Addr) (c:Int) (ps:List Zc) (js:List (Zc×Zc)) (rest:List Zc),vs=[.ref pl,.ref jl,.ref rl,.int c]∧Zs H pl ps∧Z1 H jl js∧Zs H rl rest∧pl≠jl∧rl≠pl∧rl≠jl∧ps.length≤100∧js.length≤200∧rest.length≤90 ∧
 ∀(H':Hp) (nps:List Zc) (njs:List (Zc×Zc)),(∀b o,b≠pl→b≠jl→H b=some o→H' b=some o)→Zs H' pl (ps++nps)→Z1 H' jl (js++njs)→Zeq rest rest.length nps njs→Q .non H'
theorem Zhs(T:Tx K mg):Yf P w K mg base CX0 2 T.d__law_closed.f T.d__law_closed.fd ["_law_parts", "_law_joins", "_law_rest", "_law_cell"] Zl6:=by
 refine T.d__law_closed.F.okW Zau (fun vs H Q E h=>?_) (fun cdv A outer s H vs Q E hr h=>?_)
 ·obtain ⟨pl,jl,rl,c,ps,js,rest,rfl,_⟩:=h
  rfl
 ·obtain ⟨pl,jl,rl,c,ps,js,rest,rfl,hpl,hjl,⟨rs,hrl,hrs⟩,n1,n2,n3,lp,lj,lr,q⟩:=h
  have lrs:=Paired.length hrs
  refine WSs.last (Zae PassesOwn.never rfl (Zg4 rfl T.n_enumerate (Zb (pv 2) Za)) (Zax rfl (Zw (Zq (i:=4) Zau.nd rfl (by first | exact Or.inl rfl | exact Or.inr rfl)) (Zw (Zq (i:=5) Zau.nd rfl (by first | exact Or.inl rfl | exact Or.inr rfl)) Y8))) Zy) ⟨_,rfl,rl,rfl,⟨_,SqL.of hrl⟩,Zfh (xs:=rs.map V.ref) (fun i σ H'=>(∃o4 o5 o6,σ=[some (.ref pl),some (.ref jl),some (.ref rl),some (.int c),o4,o5,o6])∧(∀b o,b≠pl→b≠jl→H b=some o→H' b=some o)∧∃nps njs,Zs H' pl (ps++nps)∧Z1 H' jl (js++njs)∧Zeq rest i nps njs)
   ⟨⟨none,none,none,rfl⟩,fun _ _ _ _ z=>z,[],[],by rw [List.append_nil];exact hpl,by rw [List.append_nil];exact hjl,[],rfl,by simp,rfl,rfl⟩ ?_ ?_ ?_⟩
  ·rintro i σ H' _ ⟨_,km,_⟩
   exact SqL.of (km _ _ n2 n3 hrl)
  ·rintro i v σ H2 hi ⟨⟨o4,o5,o6,rfl⟩,km,nps,njs,⟨ts,ht,hts⟩,⟨us,hu,hus⟩,hcl⟩ tp H3 s3 n3' e3
   rw [List.getElem?_map] at hi
   obtain ⟨te,hte,rfl⟩:=Option.map_eq_some_iff.mp hi
   obtain ⟨y,hy,hye⟩:=Paired.get hrs hte
   have hil:i<rs.length:=(List.getElem?_eq_some_iff.mp hte).1
   obtain ⟨ks,hkl,hks,hnp,hnj⟩:=id hcl
   have c1:=Paired.length hts
   have c2:=Paired.length hus
   rw [List.length_append,hnp,List.length_map,List.length_range] at c1
   rw [List.length_append,hnj,List.length_map,List.length_range] at c2
   have hye2:Zu H2 te y:=by
    unfold Zu at hye ⊢
    refine km _ _ (fun z=>?_) (fun z=>?_) hye
    ·obtain ⟨_,h1,_⟩:=hpl;rw [z,h1] at hye;cases hye
    ·obtain ⟨_,h1,_⟩:=hjl;rw [z,h1] at hye;cases hye
   refine ⟨tp,_,rfl,SqT.of e3,rfl,_,_,rfl,_,_,rfl,rfl,?_⟩
   have fl:=Zbu i (by omega)
   refine WSs.step (Zn (i:=6) Zau.nd rfl (by first | exact Or.inl rfl | exact Or.inr rfl) (Zk Y3 Ze (Y4 Y7 (by rfl) T.n_str PyProof.Rows.boot_str (Zb (pv 4) Za)))) ⟨_,rfl,(i:Int),rfl,Zce (by omega),.inr (.inl ⟨_,_,rfl,rfl,sz (by show 1+(Zb0 i).length≤1000;omega),?_⟩)⟩
   obtain ⟨kd,hkd,hkm⟩:∃kd:Str,atI [V.str "gate",.str "stop",.str "gate"] (Zee c (i:Int)%3)=some (.str kd)∧(kd = "gate" ∨kd = "stop"):=by
    have h0:=Int.emod_nonneg (Zee c (i:Int)) (show (3:Int)≠0 by decide)
    have h1:=Int.emod_lt_of_pos (Zee c (i:Int)) (show (0:Int)<3 by decide)
    generalize Zee c (i:Int)%3=m at h0 h1
    have:m=0∨m=1∨m=2:=by omega
    rcases this with rfl|rfl|rfl
    ·exact ⟨"gate",rfl,.inl rfl⟩
    ·exact ⟨"stop",rfl,.inr rfl⟩
    ·exact ⟨"gate",rfl,.inl rfl⟩
   refine WSs.step (Xt (Zda PySem.F.plainAttrs_list PySem.F.slot_list_append PySem.F.type_list_append Xp (pv 0) (Zb (Zf (Zb (Zt (r:=rIx K) Zm (Zl (Zb Ze (Zb Ze (Zb Ze Za)))) (Zk Z6 (Z5 (Zaw T) hr rfl T.m__law_mixed T.d__law_mixed.F.kp T.d__law_mixed.b .nil Yn (Zb (pv 3) (Zb (pv 4) Za))) Zd) (fun _ _=>rfl)) (Zb (pv 6) Za))) Za))) ⟨_,rfl,.inl ⟨rfl,_,SqL.of (s3.at ht)⟩,sz (by simp),fun lk H4 s4 n4 e4=>⟨_,rfl,_,rfl,c,(i:Int),rfl,_,_,rfl,rfl,(by show (0:Int)<3;decide),.inl ⟨lk,_,_,.str kd,rfl,rfl,SqL.of e4,hkd,_,rfl,sz (by simp),fun t5 H5 s5 n5 e5=>⟨pl,_,_,rfl,rfl,s5.at (s4.at (s3.at ht)),?_,?_⟩⟩⟩⟩
   ·rw [List.length_map];exact Z4 (by omega)
   have s25:=s3.trans (s4.trans s5)
   have hpl5:=s25.at ht
   have hts5:Paired (Zu H5) ts (ps++nps):=Paired.mapP hts fun _ _ r=>r.mono s25
   have hus5:Paired (Y2 H5) us (js++njs):=Paired.mapP hus fun _ _ r=>r.mono s25
   have p6:Paired (Zu (upd H5 pl (.lst (ts.map V.ref++[.ref t5])))) (ts++[t5]) ((ps++nps)++[(kd,W7 i)]):=W0 (Paired.append hts5 (.cons e5 .nil)) hpl5
   have j6:=Zaz (o:=.lst (ts.map V.ref++[.ref t5])) hus5 hpl5
   have hu6:upd H5 pl (.lst (ts.map V.ref++[.ref t5])) jl=some (.lst (us.map V.ref)):=(Zi (Ne.symm n1)).trans (s25.at hu)
   have k6:∀b o,b≠pl→b≠jl→H b=some o→upd H5 pl (.lst (ts.map V.ref++[.ref t5])) b=some o:=fun b o b1 b2 z=>(Zi b1).trans (s25.at (km b o b1 b2 z))
   have y6:Zu (upd H5 pl (.lst (ts.map V.ref++[.ref t5]))) te y:=by
    have z:=hye2.mono s25
    unfold Zu at z ⊢
    exact (Zi fun w=>by rw [w,hpl5] at z;cases z).trans z
   have e6:upd H5 pl (.lst (ts.map V.ref++[.ref t5])) pl=some (.lst ((ts++[t5]).map V.ref)):=by rw [Zj,List.map_append];rfl
   generalize (upd H5 pl (.lst (ts.map V.ref++[.ref t5])))=H6 at p6 j6 hu6 k6 y6 e6
   refine WSs.last (Xt (Zda PySem.F.plainAttrs_list PySem.F.slot_list_append PySem.F.type_list_append Xp (pv 1) (Zb (Zf (Zb (pv 5) (Zb (Zf (Zb (pv 6) (Zb Ze Za))) Za))) Za))) ⟨_,rfl,.inl ⟨rfl,_,SqL.of hu6⟩,_,rfl,_,rfl,sz (by simp),fun t7 H7 s7 n7 e7=>⟨sz (by simp),fun t8 H8 s8 n8 e8=>⟨jl,_,_,rfl,rfl,s8.at (s7.at hu6),?_,⟨_,_,_,rfl⟩,fun b o b1 b2 z=>?_,nps++[(kd,W7 i)],njs++[(y,(W7 i,("a" :Str)))],⟨ts++[t5],?_,?_⟩,⟨us++[t8],?_,?_⟩,hcl.more hkm hy⟩⟩⟩
   ·rw [List.length_map];exact Z4 (by omega)
   ·exact (Zi b2).trans (s8.at (s7.at (k6 b o b1 b2 z)))
   ·exact (Zi n1).trans (s8.at (s7.at e6))
   ·rw [←List.append_assoc]
    exact W0 (Paired.mapP p6 fun _ _ r=>r.mono (s7.trans s8)) (s8.at (s7.at hu6))
   ·rw [Zj,List.map_append];rfl
   ·rw [←List.append_assoc]
    exact Zaz (Paired.append (Paired.mapP j6 fun _ _ r=>r.mono (s7.trans s8)) (.cons ⟨te,t7,e8,y6.mono (s7.trans s8),s8.at e7⟩ .nil)) (s8.at (s7.at hu6))
  ·rintro σ H2 ⟨⟨o4,o5,o6,rfl⟩,km,nps,njs,h1,h2,hcl⟩
   rw [List.length_map,lrs] at hcl
   exact q H2 nps njs km h1 h2 hcl
theorem Zil(T:Tx K mg){k:Nat}(h:2≤k:=by decide):Yf P w K mg base CX0 k T.d__law_closed.f T.d__law_closed.fd ["_law_parts", "_law_joins", "_law_rest", "_law_cell"] Zl6:=(Zhs T).mono h
def trP(q:Zc):Tr:=.tup [.str q.1,.str q.2]
theorem Zdu{H:Hp}{ts:List Addr}{ps:List Zc}(h:Paired (Zu H) ts ps):Paired (Im K H 1) (ps.map trP) (ts.map V.ref):=by
 induction h with
 | nil=>exact .nil
 | cons r _ ih=>exact .cons (Im.tup (SqT.of r) (.cons (.str _) (.cons (.str _) .nil))) ih
theorem Zs.im{H:Hp}{l:Addr}{ps:List Zc}(h:Zs H l ps):Im K H 2 (.lst (ps.map trP)) (.ref l):=let ⟨_,h1,h2⟩:=h;Im.lst (SqL.of h1) (Zdu h2)
theorem Zhy{l D:Addr}{xs:List Str}{x:Str}{H1:Hp}{Q:VK}{σ:St}(hl:H1 l=some (.lst (xs.map V.str)))(hn:xs.length≤100)(hD:H1 D=none)(q:∀H',Same H1 H'→Zs H' D (xs.map fun e=>(x,e))→Q (.ref D) H'){fr:St→St}(hfr:fr σ=[none,some (.str x)]){te:TE}(hte:te=Zrv (Zi7 (Zi3 1) (Zi7 (Zi3 0) Zst))) :
  Zc9 (Itl K l) fr (Zga 0) Zrd te Q σ H1 D:=by
 refine Xv (xs:=xs.map V.str) (fun i ys H'=>(∃ts:List Addr,ys=ts.map V.ref∧Paired (Zu H') ts ((xs.take i).map fun e=>(x,e)))∧H' D=some (.lst ys)∧Same H1 H') ⟨⟨[],rfl,.nil⟩,Zj,Same.new hD⟩ ?_ ?_ ?_
 ·rintro i ys H' _ ⟨_,_,sm⟩
  exact SqL.of (sm.at hl)
 ·rintro k v ys H' hk ⟨⟨ts,rfl,hts⟩,hD',sm⟩
  rw [List.getElem?_map] at hk
  obtain ⟨y,hy,rfl⟩:=Option.map_eq_some_iff.mp hk
  unfold Zcb
  rw [hfr,hte]
  have hlen:ts.length≤100:=by
   have:=Paired.length hts
   rw [List.length_map,List.length_take] at this
   omega
  refine ⟨Wr.set rfl,_,rfl,_,rfl,sz (by simp),fun t H2 s2 n2 e2=>⟨s2.at hD',by rw [List.length_map];exact Z4 (by omega),⟨ts++[t],by rw [List.map_append];rfl,?_⟩,Zj,fun b o e=>?_⟩⟩
  ·rw [List.take_add_one,hy,List.map_append]
   exact W0 (Paired.append (Paired.mapP hts fun _ _ r=>r.mono s2) (.cons e2 .nil)) (s2.at hD')
  ·rw [Zi (Zh e hD)];exact s2.at (sm.at e)
 ·rintro ys H6 ⟨⟨ts,rfl,hts⟩,hD6,s6⟩
  rw [List.length_map,List.take_length] at hts
  exact q H6 s6 ⟨ts,hD6,hts⟩
theorem Zu.offL{H:Hp}{c t:Addr}{o:HO}{xs:List V}{q:Zc}(h:Zu H t q)(hc:H c=some (.lst xs)):Zu (upd H c o) t q:=by
 unfold Zu at h ⊢
 exact (Zi fun z=>by rw [z,hc] at h;cases h).trans h
theorem Zs.offL{H:Hp}{c l:Addr}{o:HO}{xs:List V}{ps:List Zc}(h:Zs H l ps)(hc:H c=some (.lst xs))(ne:l≠c):Zs (upd H c o) l ps:=let ⟨ts,h1,h2⟩:=h;⟨ts,(Zi ne).trans h1,W0 h2 hc⟩
theorem Zs.erased{H:Hp}{l:Addr}{ts:List Addr}{ps:List Zc}(h1:H l=some (.lst (ts.map V.ref)))(h2:Paired (Zu H) ts ps)(k:Nat):Zs (upd H l (.lst ((ts.map V.ref).eraseIdx k))) l (ps.eraseIdx k):=⟨ts.eraseIdx k,by rw [Zj,Zj0],W0 (Zfd h2 k) h1⟩
theorem Zon{k n:Nat}(h:k<n):seqIndex? (k:Int) n=some k:=by
 unfold seqIndex?
 have h1:¬(k:Int)<0:=by omega
 simp only [h1,if_false]
 rw [if_pos (by simp;omega)]
 simp
theorem Zbq{a:Int}{n:Nat}(h:0<n):∃k:Nat,a%(n:Int)=(k:Int)∧k<n:=by
 have h0:=Int.emod_nonneg a (show (n:Int)≠0 by omega)
 have h1:=Int.emod_lt_of_pos a (show (0:Int)<n by omega)
 exact ⟨(a%(n:Int)).toNat,by omega,by omega⟩
theorem Zdo{α β:Type}{R:α→β→Prop}{l₁:List α}{l₂:List β}(h:Paired R l₁ l₂)(n:Nat):Paired R (l₁.drop n) (l₂.drop n):=by
 induction n generalizing l₁ l₂ with
 | zero=>exact h
 | succ n ih =>
  cases h with
  | nil=>exact .nil
  | cons _ t=>exact ih t
theorem Zjh{l D:Addr}{ts:List Addr}{qs:List Zc}{keep:Zc→Bool}{w:Option V}{H1:Hp}{Q:VK}{σ:St}(hl:H1 l=some (.lst (ts.map V.ref)))(hts:Paired (Zu H1) ts qs)(hn:qs.length≤100)(hD:H1 D=none)(q:∀H',Same H1 H'→Zs H' D (qs.filter keep)→Q (.ref D) H'){fr:St→St}(hfr:fr σ=[none,w]){tf:TT}(htf:∀(t:Addr) (x:Zc) (H':Hp) (R:Bool→Hp→Prop),Same H1 H'→Zu H' t x→x∈qs→R (keep x) H'→tf [some (.ref t),w] H' R) :
  Zc9 (Itl K l) fr (Zga 0) tf (Zi3 0) Q σ H1 D:=by
 have hln:=Paired.length hts
 refine Xv (xs:=ts.map V.ref) (fun i ys H'=>(∃ts':List Addr,ys=ts'.map V.ref∧Paired (Zu H1) ts' ((qs.take i).filter keep))∧H' D=some (.lst ys)∧Same H1 H') ⟨⟨[],rfl,.nil⟩,Zj,Same.new hD⟩ ?_ ?_ ?_
 ·rintro i ys H' _ ⟨_,_,sm⟩
  exact SqL.of (sm.at hl)
 ·rintro k v ys H' hk ⟨⟨ts',rfl,hs'⟩,hD',sm⟩
  rw [List.getElem?_map] at hk
  obtain ⟨t,ht,rfl⟩:=Option.map_eq_some_iff.mp hk
  obtain ⟨x,hx,r2⟩:=Paired.get hts ht
  unfold Zcb
  rw [hfr]
  have hlen:ts'.length≤100:=by
   rw [Paired.length hs']
   have:=List.length_filter_le keep (qs.take k)
   rw [List.length_take] at this
   omega
  refine ⟨Wr.set rfl,htf t x H' _ sm (r2.mono sm) (List.mem_of_getElem? hx) (Yk (fun hc=>?_) (fun hc=>?_))⟩
  ·refine ⟨_,rfl,hD',by rw [List.length_map];exact Z4 (by omega),⟨ts'++[t],by rw [List.map_append];rfl,?_⟩,Zj,fun b o e=>?_⟩
   ·rw [List.take_add_one,hx,List.filter_append]
    refine Paired.append hs' ?_
    rw [show (some x).toList=[x] from rfl,List.filter_cons,if_pos hc]
    exact .cons r2 .nil
   ·rw [Zi (Zh e hD)];exact sm.at e
  ·refine ⟨⟨ts',rfl,?_⟩,hD',sm⟩
   rw [List.take_add_one,hx,List.filter_append,show (some x).toList=[x] from rfl,List.filter_cons,if_neg hc,List.filter_nil,List.append_nil]
   exact hs'
 ·rintro ys H6 ⟨⟨ts',rfl,hs'⟩,hD6,s6⟩
  rw [List.length_map,hln,List.take_length] at hs'
  exact q H6 s6 ⟨ts',hD6,Paired.mapP hs' fun _ _ r=>r.mono s6⟩
def Zn1(K:Frag):Sp:=fun vs H Q _=>∃(cl:Addr) (cs:List Int),vs=[.ref cl]∧SqL K H cl (cs.map V.int)∧(∀c∈cs,0≤c)∧cs.length≤63 ∧
 ∀(t:Addr) (H':Hp) (pl jl:Addr) (ps:List Zc) (js:List (Zc×Zc)) (n:Nat),Same H H'→H' t=some (.tup [.ref pl,.ref jl])→Zs H' pl ps→Z1 H' jl js→H pl=none→H jl=none→Net ps js []→ps.length≤39→(∀p∈ps,nmD p.2 63∨∃j,j<90∧p.2=W7 j)→Q (.ref t) H'
theorem Ziu(T:Tx K mg):Yf P w K mg base CX0 3 T.d__law_drawn.f T.d__law_drawn.fd ["_law_cells_here"] (Zn1 K):=by
 refine T.d__law_drawn.F.okW Yl (fun vs H Q E h=>?_) (fun cdv A outer s H vs Q E hr h=>?_)
 ·obtain ⟨cl,cs,rfl,_⟩:=h
  rfl
 ·obtain ⟨cl,cs,rfl,hcl,hcs,hcn,q⟩:=h
  refine WSs.step (Zn (i:=1) Yl.nd rfl (by first | exact Or.inl rfl | exact Or.inr rfl) (Zl Za)) ⟨sz (by simp),fun pl H1 s1 n1 e1=>?_⟩
  refine WSs.step (Zn (i:=2) Yl.nd rfl (by first | exact Or.inl rfl | exact Or.inr rfl) (Zl Za)) ⟨sz (by simp),fun jl H2 s2 n2 e2=>?_⟩
  refine WSs.step (Zn (i:=3) Yl.nd rfl (by first | exact Or.inl rfl | exact Or.inr rfl) (Zl Za)) ⟨sz (by simp),fun rl0 H3 s3 n3 e3=>?_⟩
  have s03:=s1.trans (s2.trans s3)
  have fp:H pl=none:=n1
  have fj:H jl=none:=s1.free n2
  have fr0:H rl0=none:=s1.free (s2.free n3)
  have npj:pl≠jl:=Zh e1 n2
  have nrp:rl0≠pl:=Ne.symm (Zh (s2.at e1) n3)
  have nrj:rl0≠jl:=Ne.symm (Zh e2 n3)
  have hp0:Zs H3 pl []:=⟨[],s3.at (s2.at e1),.nil⟩
  have hj0:Z1 H3 jl []:=⟨[],s3.at e2,.nil⟩
  have hr0:Zs H3 rl0 []:=⟨[],e3,.nil⟩
  clear s1 s2 s3 n1 n2 n3 e1 e2 e3
  refine WSs.step (Zae PassesOwn.never rfl (Zg4 rfl T.n_enumerate (Zb (pv 0) Za)) (Zax rfl (Zw (Zq (i:=4) Yl.nd rfl (by first | exact Or.inl rfl | exact Or.inr rfl)) (Zw (Zq (i:=5) Yl.nd rfl (by first | exact Or.inl rfl | exact Or.inr rfl)) Y8))) Zy) ⟨_,rfl,cl,rfl,⟨_,s03.seq hcl⟩,Zfh (xs:=cs.map V.int) (fun i σ H'=>Same H H'∧∃rl o4 o5 o6 o7 o8 o9 o10 o11 ps js rest,σ=[some (.ref cl),some (.ref pl),some (.ref jl),some (.ref rl),o4,o5,o6,o7,o8,o9,o10,o11]∧Zs H' pl ps∧Z1 H' jl js∧Zs H' rl rest∧Xk i (2 * i) ps js rest∧H rl=none∧rl≠pl∧rl≠jl)
   ⟨s03,rl0,none,none,none,none,none,none,none,none,_,_,_,rfl,hp0,hj0,hr0,Xk.start,fr0,nrp,nrj⟩ ?_ ?_ ?_⟩
  ·rintro i σ H' _ ⟨sm,_⟩
   exact sm.seq hcl
  ·rintro i v σ H4 hi ⟨s4,rl,o4,o5,o6,o7,o8,o9,o10,o11,ps,js,rest,rfl,hpl,hjl,hrl,hok,frl,nrp',nrj'⟩ tp H5 s5 n5 e5
   rw [List.getElem?_map] at hi
   obtain ⟨c,hc,rfl⟩:=Option.map_eq_some_iff.mp hi
   have hi63:i<63:=by
    have:=(List.getElem?_eq_some_iff.mp hc).1
    omega
   have hc0:0≤c:=hcs c (List.mem_of_getElem? hc)
   refine ⟨tp,_,rfl,SqT.of e5,rfl,_,_,rfl,_,_,rfl,rfl,?_⟩
   obtain ⟨kd,hkd,hkm⟩:∃kd:Str,atI [V.str "plain",.str "plain",.str "plain",.str "points",.str "points",.str "cross",.str "gate",.str "stop"] (c%8)=some (.str kd)∧kd∈Y6:=by
    have h0:=Int.emod_nonneg c (show (8:Int)≠0 by decide)
    have h1:=Int.emod_lt_of_pos c (show (0:Int)<8 by decide)
    generalize c%8=m at h0 h1
    have:m=0∨m=1∨m=2∨m=3∨m=4∨m=5∨m=6∨m=7:=by omega
    rcases this with rfl|rfl|rfl|rfl|rfl|rfl|rfl|rfl <;>exact ⟨_,rfl,by simp [Y6]⟩
   obtain ⟨g1,g2,g3,g4,g5,g6⟩:=Zgz kd hkm
   refine WSs.step (Zn (i:=6) Yl.nd rfl (by first | exact Or.inl rfl | exact Or.inr rfl) (Zt (r:=rIx K) Zm (Zl (Zb Ze (Zb Ze (Zb Ze (Zb Ze (Zb Ze (Zb Ze (Zb Ze (Zb Ze Za))))))))) (Zk Z6 (pv 5) Zd) (fun _ _=>rfl))) ⟨sz (by simp),fun lk H6 s6 n6 e6=>⟨_,rfl,_,_,rfl,rfl,(by show (0:Int)<8;decide),.inl ⟨lk,_,_,.str kd,rfl,rfl,SqL.of e6,hkd,?_⟩⟩⟩
   refine WSs.step (Zn (i:=7) Yl.nd rfl (by first | exact Or.inl rfl | exact Or.inr rfl) (Z5 (Za9 T) hr rfl T.m__law_ends T.d__law_ends.F.kp T.d__law_ends.b .nil Yn (Zb (pv 6) Za))) ⟨_,rfl,kd,rfl,fun le H7 s7 n7 e7=>?_⟩
   have s47:=s5.trans (s6.trans s7)
   have s07:=s4.trans s47
   have nl1:pl≠le:=let ⟨_,z,_⟩:=hpl;Zh ((s5.trans s6).at z) n7
   have nl2:jl≠le:=let ⟨_,z,_⟩:=hjl;Zh ((s5.trans s6).at z) n7
   have hpl:=hpl.mono s47
   have hjl:=hjl.mono s47
   have hrl:=hrl.mono s47
   obtain ⟨ts,ht,hts⟩:=hpl
   obtain ⟨rs,hr',hrs⟩:=hrl
   have c1:=Paired.length hts
   have c2:=Paired.length hrs
   refine WSs.step (Yg (Zo Zgf (Zk Y3 (Zk Y3 (Zp (r:=Xb K) Xf (by rfl) T.n_len PySem.boot_len (Zb (pv 1) Za)) (Zp (r:=Xb K) Xf (by rfl) T.n_len PySem.boot_len (Zb (pv 3) Za))) (Zp (r:=Xb K) Xf (by rfl) T.n_len PySem.boot_len (Zb (pv 7) Za))) Zd (Zx _)) Zy Z2) ⟨_,rfl,.inl ⟨pl,_,rfl,.inl (SqL.of ht),_,rfl,.inl ⟨rl,_,rfl,.inl (SqL.of hr'),.inl ⟨_,_,rfl,rfl,_,rfl,.inl ⟨le,_,rfl,.inl (SqL.of e7),.inl ⟨_,_,rfl,rfl,_,_,rfl,rfl,_,rfl,Yk (fun hgt=>?_) (fun hgt=>?_)⟩⟩⟩⟩⟩⟩
   ·exact WSs.last Zls ⟨s07,rl,_,_,_,_,_,_,_,_,ps,js,rest,rfl,⟨ts,ht,hts⟩,hjl,⟨rs,hr',hrs⟩,hok.mono (by omega) (by omega),frl,nrp',nrj'⟩
   have hgt:ps.length+rest.length+(Yc kd).length≤38:=by
    have z:¬(((ts.map V.ref).length:Int)+((rs.map V.ref).length:Int)+(((Yc kd).map V.str).length:Int) >38):=fun z=>hgt (decide_eq_true z)
    rw [List.length_map,List.length_map,List.length_map] at z
    omega
   obtain ⟨n,hn⟩:∃n,n=Ys kd (c / 8) i:=⟨_,rfl⟩
   refine WSs.step (Zn (i:=8) Yl.nd rfl (by first | exact Or.inl rfl | exact Or.inr rfl) (Z5 (Zdv T) hr rfl T.m__law_name_by T.d__law_name_by.F.kp T.d__law_name_by.b .nil Yn (Zb (pv 6) (Zb (Zk Yh (pv 5) Zd) (Zb (pv 4) Za))))) ⟨_,rfl,_,rfl,_,_,rfl,rfl,⟨by decide,by decide⟩,_,rfl,kd,c / 8,i,rfl,g3,by omega,Int.ediv_nonneg hc0 (by decide),by omega,?_⟩
   rw [←hn]
   refine WSs.step (Xt (Zda PySem.F.plainAttrs_list PySem.F.slot_list_append PySem.F.type_list_append Xp (pv 1) (Zb (Zf (Zb (pv 6) (Zb (pv 8) Za))) Za))) ⟨_,rfl,.inl ⟨rfl,_,SqL.of ht⟩,_,rfl,_,rfl,sz (by simp),fun t8 H8 s8 n8 e8=>⟨pl,_,_,rfl,rfl,s8.at ht,?_,?_⟩⟩
   ·rw [List.length_map];exact Z4 (by omega)
   have ok8:=hok.add (c:=c / 8) (by omega) hkm hgt
   rw [←hn] at ok8
   obtain ⟨us,hu,hus⟩:=hjl.mono s8
   have p9:Zs (upd H8 pl (.lst (ts.map V.ref++[.ref t8]))) pl (ps++[(kd,n)]):=⟨ts++[t8],by rw [Zj,List.map_append];rfl,W0 (Paired.append (Paired.mapP hts fun _ _ r=>r.mono s8) (.cons e8 .nil)) (s8.at ht)⟩
   have j9:Z1 (upd H8 pl (.lst (ts.map V.ref++[.ref t8]))) jl js:=⟨us,(Zi (Ne.symm npj)).trans hu,Zaz hus (s8.at ht)⟩
   have r9:Zs (upd H8 pl (.lst (ts.map V.ref++[.ref t8]))) rl rest:=⟨rs,(Zi nrp').trans (s8.at hr'),W0 (Paired.mapP hrs fun _ _ r=>r.mono s8) (s8.at ht)⟩
   have e9:upd H8 pl (.lst (ts.map V.ref++[.ref t8])) le=_:=(Zi (Ne.symm nl1)).trans (s8.at e7)
   have s09:Same H (upd H8 pl (.lst (ts.map V.ref++[.ref t8]))):=fun b o z=>(Zi (Zh z fp)).trans (s8.at (s07.at z))
   generalize (upd H8 pl (.lst (ts.map V.ref++[.ref t8])))=H9 at p9 j9 r9 e9 s09
   have hok':=hok
   clear hts hrs ht hr' hu hus s8 s47 s07 hjl hok n8 e8
   refine WSs.step (Xq (i:=9) (N':=["_law_end", "_law_name"]) Yl.nd rfl (Or.inl rfl) rfl (Z9.std 1 [8] rfl (by decide +kernel) (by decide +kernel) rfl ⟨rfl,trivial⟩ rfl rfl ⟨⟨_,rfl,rfl,rfl⟩,trivial⟩) (Yx (pv 7)) (fun _ _ _ _=>(Zq (i:=0) (by show (["_law_end", "_law_name"]:List Str).Nodup;decide +kernel) rfl (Or.inl (lookup_relabel_local rfl)) (Or.inr (lookup_relabel_local rfl)))) (fun _ _ _ _=>W9) (fun _ _ _ _=>(Zf (Zb (pv 1) (Zb (pv 0) Za))))) ⟨_,rfl,le,rfl,⟨_,SqL.of e9⟩,fun lf hlf=>?_⟩
   refine Zhy (xs:=Yc kd) (x:=n) e9 (by omega) hlf (fun H10 s10 f10=>?qq) ?aa ?bb
   case aa=>rfl
   case bb=>rfl
   have p10:=p9.mono s10
   have j10:=j9.mono s10
   have r10:=r9.mono s10
   have s010:=s09.trans s10
   have flf:H lf=none:=s09.free hlf
   have nfp:lf≠pl:=let ⟨_,z,_⟩:=p9;Ne.symm (Zh z hlf)
   have nfj:lf≠jl:=let ⟨_,z,_⟩:=j9;Ne.symm (Zh z hlf)
   have nfr:lf≠rl:=let ⟨_,z,_⟩:=r9;Ne.symm (Zh z hlf)
   clear p9 j9 r9 s09 e9 s10
   refine WSs.cut (fun σ H'=>Same H H'∧∃rest' fresh' js',σ=[some (.ref cl),some (.ref pl),some (.ref jl),some (.ref rl),some (.int i),some (.int c),some (.str kd),some (.ref le),some (.str n),some (.ref lf),o10,o11]∧Zs H' pl (ps++[(kd,n)])∧Z1 H' jl js'∧Zs H' rl rest'∧Zs H' lf fresh'∧Xk (i+1) (2 * i+1) (ps++[(kd,n)]) js' (rest'++fresh')) ?_ ?_
   ·refine WS.of (Yg (Zo (r:=Zfm K) (Zgv hr) (pv 3) (Zl Za) (Zx _)) Zy Z2) ⟨_,rfl,sz (by simp),fun l0 H11 s11 n11 e11=>.inr (.inl ⟨2,.lst (rest.map trP),.lst [],by decide,.inr ⟨_,_,rfl,rfl⟩,Zs.im (r10.mono s11),Im.lst (SqL.of e11) .nil,_,rfl,Yk (fun hne=>?_) (fun hne=>?_)⟩)⟩
    ·have hne:0<rest.length:=by
      cases rest with
      | nil=>simp at hne
      | cons=>simp
     obtain ⟨rs1,hr1,hrs1⟩:=r10.mono s11
     obtain ⟨fs1,hf1,hfs1⟩:=f10.mono s11
     obtain ⟨us1,hu1,hus1⟩:=j10.mono s11
     have cr:=Paired.length hrs1
     have cf:=Paired.length hfs1
     have cu:=Paired.length hus1
     rw [List.length_map] at cf
     have hjl1:=hok'.jl
     obtain ⟨k1,hk1,hk1l⟩:=Zbq (a:=c / 24) (n:=(rs1.map V.ref).length) (by rw [List.length_map];omega)
     obtain ⟨k2,hk2,hk2l⟩:=Zbq (a:=c / 100) (n:=(fs1.map V.ref).length) (by rw [List.length_map];omega)
     obtain ⟨ta,hta⟩:∃ta,rs1[k1]? =some ta:=⟨_,List.getElem?_eq_getElem (by rw [List.length_map] at hk1l;exact hk1l)⟩
     obtain ⟨tb,htb⟩:∃tb,fs1[k2]? =some tb:=⟨_,List.getElem?_eq_getElem (by rw [List.length_map] at hk2l;exact hk2l)⟩
     obtain ⟨qa,hqa,hqat⟩:=Paired.get hrs1 hta
     obtain ⟨qb,hqb,hqbt⟩:=Paired.get hfs1 htb
     refine WSs.last (Xt (Zda PySem.F.plainAttrs_list PySem.F.slot_list_append PySem.F.type_list_append Xp (pv 2) (Zb (Zf (Zb (Zda PySem.F.plainAttrs_list PySem.F.slot_list_pop PySem.F.type_list_pop Zmg (pv 3) (Zb (Zk Z6 (Zk Yh (pv 5) Zd) (Zp (r:=Xb K) Xf (by rfl) T.n_len PySem.boot_len (Zb (pv 3) Za))) Za)) (Zb (Zda PySem.F.plainAttrs_list PySem.F.slot_list_pop PySem.F.type_list_pop Zmg (pv 9) (Zb (Zk Z6 (Zk Yh (pv 5) Zd) (Zp (r:=Xb K) Xf (by rfl) T.n_len PySem.boot_len (Zb (pv 9) Za))) Za)) Za))) Za))) ⟨_,rfl,.inl ⟨rfl,_,SqL.of hu1⟩,_,rfl,.inl ⟨rfl,_,SqL.of hr1⟩,_,rfl,_,_,rfl,rfl,⟨by decide,by decide⟩,_,rfl,.inl ⟨rl,_,rfl,.inl (SqL.of hr1),_,_,rfl,rfl,by omega,rl,_,_,k1,.ref ta,rfl,rfl,hr1,by omega,by rw [List.length_map] at hk1l;omega,by rw [hk1];exact Zon hk1l,by rw [List.getElem?_map,hta];rfl,?_⟩⟩
     have r12:=Zs.erased hr1 hrs1 k1
     have f12:=Zs.offL (o:=.lst ((rs1.map V.ref).eraseIdx k1)) ⟨fs1,hf1,hfs1⟩ hr1 nfr
     have p12:=(p10.mono s11).offL (o:=.lst ((rs1.map V.ref).eraseIdx k1)) hr1 (Ne.symm nrp')
     have hu12:upd H11 rl (.lst ((rs1.map V.ref).eraseIdx k1)) jl=_:=(Zi (Ne.symm nrj')).trans hu1
     have hus12:=Zaz (o:=.lst ((rs1.map V.ref).eraseIdx k1)) hus1 hr1
     have hf12:upd H11 rl (.lst ((rs1.map V.ref).eraseIdx k1)) lf=_:=(Zi nfr).trans hf1
     have hfs12:=W0 (o:=.lst ((rs1.map V.ref).eraseIdx k1)) hfs1 hr1
     have a12:=hqat.offL (o:=.lst ((rs1.map V.ref).eraseIdx k1)) hr1
     have b12:=hqbt.offL (o:=.lst ((rs1.map V.ref).eraseIdx k1)) hr1
     have s12:Same H (upd H11 rl (.lst ((rs1.map V.ref).eraseIdx k1))):=fun b o z=>(Zi (Zh z frl)).trans (s11.at (s010.at z))
     generalize (upd H11 rl (.lst ((rs1.map V.ref).eraseIdx k1)))=H12 at r12 f12 p12 hu12 hus12 hf12 hfs12 a12 b12 s12
     refine ⟨_,rfl,.inl ⟨rfl,_,SqL.of hf12⟩,_,rfl,_,_,rfl,rfl,⟨by decide,by decide⟩,_,rfl,.inl ⟨lf,_,rfl,.inl (SqL.of hf12),_,_,rfl,rfl,by omega,lf,_,_,k2,.ref tb,rfl,rfl,hf12,by omega,by rw [List.length_map] at hk2l;omega,by rw [hk2];exact Zon hk2l,by rw [List.getElem?_map,htb];rfl,?_⟩⟩
     have f13:=Zs.erased hf12 hfs12 k2
     have r13:=r12.offL (o:=.lst ((fs1.map V.ref).eraseIdx k2)) hf12 (Ne.symm nfr)
     have p13:=p12.offL (o:=.lst ((fs1.map V.ref).eraseIdx k2)) hf12 (Ne.symm nfp)
     have hu13:upd H12 lf (.lst ((fs1.map V.ref).eraseIdx k2)) jl=_:=(Zi (Ne.symm nfj)).trans hu12
     have hus13:=Zaz (o:=.lst ((fs1.map V.ref).eraseIdx k2)) hus12 hf12
     have a13:=a12.offL (o:=.lst ((fs1.map V.ref).eraseIdx k2)) hf12
     have b13:=b12.offL (o:=.lst ((fs1.map V.ref).eraseIdx k2)) hf12
     have s13:Same H (upd H12 lf (.lst ((fs1.map V.ref).eraseIdx k2))):=fun b o z=>(Zi (Zh z flf)).trans (s12.at z)
     generalize (upd H12 lf (.lst ((fs1.map V.ref).eraseIdx k2)))=H13 at f13 r13 p13 hu13 hus13 a13 b13 s13
     refine ⟨sz (by simp),fun tj H14 s14 n14 e14=>⟨jl,_,_,rfl,rfl,s14.at hu13,?_,?_⟩⟩
     ·rw [List.length_map];exact Z4 (by omega)
     have hu14:=s14.at hu13
     have hqn:qb.1=n:=by
      rw [List.getElem?_map] at hqb
      obtain ⟨x,_,rfl⟩:=Option.map_eq_some_iff.mp hqb
      rfl
     have hqo:qa.1≠qb.1:=by
      rw [hqn,hn]
      have h1:=Zdi (hok'.net.perm.subset (List.mem_append_right _ (List.mem_of_getElem? hqa)))
      exact fun z=>hok'.new (by omega) hkm (z ▸ h1)
     refine ⟨fun b o z=>(Zi (Zh z fj)).trans (s14.at (s13.at z)),rest.eraseIdx k1,_,js++[(qa,qb)],rfl,(p13.mono s14).offL hu14 npj,⟨us1++[tj],?_,?_⟩,(r13.mono s14).offL hu14 nrj',(f13.mono s14).offL hu14 nfj,ok8.join (Zr2 hqa hqb) hqo⟩
     ·rw [Zj,List.map_append];rfl
     ·exact Zaz (Paired.append (Paired.mapP hus13 fun _ _ r=>r.mono s14) (.cons ⟨ta,tb,e14,a13.mono s14,b13.mono s14⟩ .nil)) hu14
    ·exact ⟨s010.trans s11,rest,_,js,rfl,p10.mono s11,j10.mono s11,r10.mono s11,f10.mono s11,ok8.mono (Nat.le_refl _) (by omega)⟩
   rintro σ H12 ⟨s012,rest2,fresh2,js2,rfl,p12,j12,⟨rs2,hr12,hrs2⟩,⟨fs2,hf12,hfs2⟩,ok12⟩
   have sm12:=ok12.sum
   have cr:=Paired.length hrs2
   have cf:=Paired.length hfs2
   rw [List.length_append,List.length_append] at sm12
   refine WSs.step (Zn (i:=3) Yl.nd rfl (by first | exact Or.inl rfl | exact Or.inr rfl) (Zk Y3 (pv 3) (pv 9))) ⟨_,rfl,_,rfl,.inr (.inr ⟨rl,lf,_,_,rfl,rfl,hr12,hf12,?_,fun rm H13 s13 n13 e13=>?_⟩)⟩
   ·rw [List.length_map,List.length_map];exact sz (by omega)
   have r13:Zs H13 rm (rest2++fresh2):=Zs.app (Paired.mapP hrs2 fun _ _ r=>r.mono s13) (Paired.mapP hfs2 fun _ _ r=>r.mono s13) e13
   have p13:=p12.mono s13
   have j13:=j12.mono s13
   have s013:=s012.trans s13
   have frm:H rm=none:=s012.free n13
   have nmp:rm≠pl:=let ⟨_,z,_⟩:=p12;Ne.symm (Zh z n13)
   have nmj:rm≠jl:=let ⟨_,z,_⟩:=j12;Ne.symm (Zh z n13)
   clear hr12 hf12 hrs2 hfs2 p12 j12 s012 s13 p10 j10 r10 f10 s010 e13
   obtain ⟨op,hop⟩:∃op,op=rest2++fresh2:=⟨_,rfl⟩
   rw [←hop] at r13 ok12
   have hopl:op.length≤39:=by rw [hop,List.length_append];omega
   clear hop sm12 cr cf
   obtain ⟨rs,hrm,hrs⟩:=r13
   have crs:=Paired.length hrs
   refine WSs.step (Xq (i:=10) (N':=["_law_end", "_law_rest"]) Yl.nd rfl (Or.inl rfl) rfl (Z9.std 1 [3] rfl (by decide +kernel) (by decide +kernel) rfl ⟨rfl,trivial⟩ rfl rfl ⟨⟨_,rfl,rfl,rfl⟩,trivial⟩) (Yx (Xy (r:=Ze8 K) Zf6 (pv 3) (Wq Zd) W4)) (fun _ _ _ _=>(Zq (i:=0) (by show (["_law_end", "_law_rest"]:List Str).Nodup;decide +kernel) rfl (Or.inl (lookup_relabel_local rfl)) (Or.inr (lookup_relabel_local rfl)))) (fun _ _ _ _=>(Zdx (Zo (r:=Zfm K) (Zgv hr) (Zt (r:=rIx K) Zm (pv 0) Zd (fun _ _=>rfl)) (Zt (r:=rIx K) Zm (Zt (r:=rIx K) Zm (pv 1) Zd (fun _ _=>rfl)) Zd (fun _ _=>rfl)) (Zx _)))) (fun _ _ _ _=>(pv 0))) ⟨_,rfl,_,rfl,.inr (.inl ⟨rm,_,rfl,SqL.of hrm,fun l1 H14 s14 n14 e14=>⟨l1,rfl,⟨_,SqL.of e14⟩,fun D hD=>?_⟩⟩)⟩
   rw [show (some (1:Int))=some ((1:Nat):Int) from rfl,Zcw,←List.map_drop] at e14
   have hrs14:Paired (Zu H14) rs op:=Paired.mapP hrs fun _ _ r=>r.mono s14
   have hrm14:=s14.at hrm
   obtain ⟨q0,hq0⟩:∃q0,q0=op.getD 0 ("", ""):=⟨_,rfl⟩
   refine Zjh (keep:=fun x=>decide (x.1≠q0.1)) (w:=some (.ref rm)) e14 (Zdo hrs14 1) (by rw [List.length_drop];omega) hD (fun H15 s15 f15=>?q2) ?a2 ?b2
   case a2=>rfl
   case b2 =>
    intro t x H' R sm hx hm hR
    cases hrs14 with
    | nil=>simp at hm
    | cons r0 _ =>
     subst hq0
     refine ⟨_,rfl,.inr (.inl ⟨t,_,_,_,rfl,rfl,SqT.of hx,rfl,_,rfl,.inl ⟨rm,_,_,_,rfl,rfl,SqL.of (sm.at hrm14),(show atI _ ((0:Nat):Int)=_ from Zr rfl),.inr (.inl ⟨_,_,_,_,rfl,rfl,SqT.of (sm.at r0),rfl,.inl ⟨rfl,_,rfl,?_⟩⟩)⟩⟩)⟩
     simpa using hR
   obtain ⟨near,hnear⟩:∃near,near=(op.drop 1).filter fun x=>decide (x.1≠q0.1):=⟨_,rfl⟩
   rw [←hnear] at f15
   have p15:=(p13.mono s14).mono s15
   have j15:=(j13.mono s14).mono s15
   have hrm15:=s15.at hrm14
   have hrs15:Paired (Zu H15) rs op:=Paired.mapP hrs14 fun _ _ r=>r.mono s15
   have s015:=s013.trans (s14.trans s15)
   clear p13 j13 s013 s14 s15 hrm14 hrs14 hrm hrs e14
   refine WSs.last (Yg (PW.pt (Zbi (Zo (r:=Zfm K) (Zgv hr) (pv 10) (Zl Za) (Zx _)) (Zaq (Zo (r:=X9 K) (Wo hr) (Zk Z6 (Zk Yh (pv 5) Zd) Zd) Zd (Zx _))))) Zy Z2) ⟨_,rfl,sz (by simp),fun l0 H16 s16 n16 e16=>.inr (.inl ⟨2,.lst (near.map trP),.lst [],by decide,.inr ⟨_,_,rfl,rfl⟩,Zs.im (f15.mono s16),Im.lst (SqL.of e16) .nil,_,rfl,Yk (fun hne=>?_) (fun hne=>?_)⟩)⟩
   ·refine ⟨_,rfl,_,_,rfl,rfl,⟨by decide,by decide⟩,_,_,rfl,rfl,(by show (0:Int)<3;decide),.inl ⟨rfl,_,rfl,Yk (fun _=>?_) (fun _=>?_)⟩⟩
    ·obtain ⟨ns,hnl,hns⟩:=f15.mono s16
     have cn:=Paired.length hns
     have hnl0:0<near.length:=by
      cases near with
      | nil=>simp at hne
      | cons=>simp
     obtain ⟨k3,hk3,hk3l⟩:=Zbq (a:=c / 1500) (n:=(ns.map V.ref).length) (by rw [List.length_map];omega)
     obtain ⟨to,hto⟩:∃to,ns[k3]? =some to:=⟨_,List.getElem?_eq_getElem (by rw [List.length_map] at hk3l;exact hk3l)⟩
     obtain ⟨q3,hq3,hq3t⟩:=Paired.get hns hto
     have hq3m:q3∈near:=List.mem_of_getElem? hq3
     refine WSs.step (Zn (i:=11) Yl.nd rfl (by first | exact Or.inl rfl | exact Or.inr rfl) (Zt (r:=rIx K) Zm (pv 10) (Zk Z6 (Zk Yh (pv 5) Zd) (Zp (r:=Xb K) Xf (by rfl) T.n_len PySem.boot_len (Zb (pv 10) Za))) (fun _ _=>rfl))) ⟨_,rfl,_,rfl,_,_,rfl,rfl,⟨by decide,by decide⟩,_,rfl,.inl ⟨D,_,rfl,.inl (SqL.of hnl),_,_,rfl,rfl,by omega,.inl ⟨D,_,_,.ref to,rfl,rfl,SqL.of hnl,by rw [hk3];exact Zr (by rw [List.getElem?_map,hto];rfl),?_⟩⟩⟩
     obtain ⟨us,hu,hus⟩:=j15.mono s16
     have cu:=Paired.length hus
     have hju:=ok12.jl
     have hrm16:=s16.at hrm15
     have hrs16:Paired (Zu H16) rs op:=Paired.mapP hrs15 fun _ _ r=>r.mono s16
     rw [hnear] at hq3m
     obtain ⟨hqd,hqk⟩:=List.mem_filter.mp hq3m
     have hqk:q3.1≠q0.1:=of_decide_eq_true hqk
     obtain ⟨t0,rs',tl,rfl,rfl,r0,hrt⟩:∃t0 rs' tl,rs=t0 ::rs'∧op=q0 ::tl∧Zu H16 t0 q0∧Paired (Zu H16) rs' tl:=by
      cases hrs16 with
      | nil=>simp at hqd
      | cons r0 rt=>exact ⟨_,_,_,rfl,by rw [hq0];rfl,by rw [hq0];exact r0,rt⟩
     have hqd:q3∈tl:=hqd
     refine WSs.step (Xt (Zda PySem.F.plainAttrs_list PySem.F.slot_list_append PySem.F.type_list_append Xp (pv 2) (Zb (Zf (Zb (pv 11) (Zb (Zt (r:=rIx K) Zm (pv 3) Zd (fun _ _=>rfl)) Za))) Za))) ⟨_,rfl,.inl ⟨rfl,_,SqL.of hu⟩,_,rfl,_,rfl,.inl ⟨rm,_,_,.ref t0,rfl,rfl,SqL.of hrm16,(show atI _ ((0:Nat):Int)=_ from Zr rfl),sz (by simp),fun tj H17 s17 n17 e17=>⟨jl,_,_,rfl,rfl,s17.at hu,?_,?_⟩⟩⟩
     ·rw [List.length_map];exact Z4 (by omega)
     have hu17:=s17.at hu
     have j18:Z1 (upd H17 jl (.lst (us.map V.ref++[.ref tj]))) jl (js2++[(q3,q0)]):=⟨us++[tj],by rw [Zj,List.map_append];rfl,Zaz (Paired.append (Paired.mapP hus fun _ _ r=>r.mono s17) (.cons ⟨to,t0,e17,hq3t.mono s17,r0.mono s17⟩ .nil)) hu17⟩
     have p18:=((p15.mono s16).mono s17).offL (o:=.lst (us.map V.ref++[.ref tj])) hu17 npj
     have hrm18:upd H17 jl (.lst (us.map V.ref++[.ref tj])) rm=_:=(Zi nmj).trans (s17.at hrm16)
     have hrt18:=W0 (o:=.lst (us.map V.ref++[.ref tj])) (Paired.mapP hrt fun _ _ r=>r.mono s17) hu17
     have q18:=(hq3t.mono s17).offL (o:=.lst (us.map V.ref++[.ref tj])) hu17
     have s18:Same H (upd H17 jl (.lst (us.map V.ref++[.ref tj]))):=fun b o z=>(Zi (Zh z fj)).trans (s17.at (s16.at (s015.at z)))
     generalize (upd H17 jl (.lst (us.map V.ref++[.ref tj])))=H18 at j18 p18 hrm18 hrt18 q18 s18
     refine WSs.last (Zn (i:=3) Yl.nd rfl (by first | exact Or.inl rfl | exact Or.inr rfl) (W2 (N':=["_law_end", "_law_other"]) rfl (Z9.std 1 [11] rfl (by decide +kernel) (by decide +kernel) rfl ⟨rfl,trivial⟩ rfl rfl ⟨⟨_,rfl,rfl,rfl⟩,trivial⟩) (Yx (Xy (r:=Ze8 K) Zf6 (pv 3) (Wq Zd) W4)) (fun _ _ _ _=>(Zq (i:=0) (by show (["_law_end", "_law_other"]:List Str).Nodup;decide +kernel) rfl (Or.inl (lookup_relabel_local rfl)) (Or.inr (lookup_relabel_local rfl)))) (fun _ _ _ _=>(Zdx (Zo (r:=Zfm K) (Zgv hr) (pv 0) (pv 1) (Zx _)))) (fun _ _ _ _=>(pv 0)))) ⟨_,rfl,_,rfl,.inr (.inl ⟨rm,_,rfl,SqL.of hrm18,fun l2 H19 s19 n19 e19=>⟨l2,rfl,⟨_,SqL.of e19⟩,fun D2 hD2=>?_⟩⟩)⟩
     rw [show (some (1:Int))=some ((1:Nat):Int) from rfl,Zcw,←List.map_drop] at e19
     have q19:=q18.mono s19
     refine Zjh (ts:=rs') (qs:=tl) (keep:=fun x=>decide (x≠q3)) (w:=some (.ref to)) e19 (Paired.mapP hrt18 fun _ _ r=>r.mono s19) (by simp at hopl;omega) hD2 (fun H20 s20 f20=>?q4) ?a4 ?b4
     case a4=>rfl
     case b4 =>
      intro t x H' R sm hx hm hR
      refine ⟨_,rfl,_,rfl,.inr (.inl ⟨1,trP x,trP q3,by decide,.inl ⟨_,_,rfl,rfl⟩,Im.tup (SqT.of hx) (.cons (.str _) (.cons (.str _) .nil)),Im.tup (SqT.of (q19.mono sm)) (.cons (.str _) (.cons (.str _) .nil)),_,rfl,?_⟩)⟩
      have:(!decide (trP x=trP q3))=decide (x≠q3):=by
       rw [Bool.eq_iff_iff]
       simp [trP,Prod.ext_iff]
      rw [if_pos rfl,this]
      exact hR
     have s1820:=s19.trans s20
     exact ⟨s18.trans s1820,D2,_,_,_,_,_,_,_,_,_,_,_,rfl,p18.mono s1820,j18.mono s1820,f20,(ok12.join (Zp3 ok12.net.ond hqd) hqk).mono (by omega) (by omega),(s18.trans s19).free hD2,(let ⟨_,z,_⟩:=p18;Ne.symm (Zh (s19.at z) hD2)),(let ⟨_,z,_⟩:=j18;Ne.symm (Zh (s19.at z) hD2))⟩
    ·exact ⟨s015.trans s16,rm,_,_,_,_,_,_,_,_,_,_,_,rfl,p15.mono s16,j15.mono s16,⟨rs,s16.at hrm15,Paired.mapP hrs15 fun _ _ r=>r.mono s16⟩,ok12.mono (by omega) (by omega),frm,nmp,nmj⟩
   ·exact ⟨s015.trans s16,rm,_,_,_,_,_,_,_,_,_,_,_,rfl,p15.mono s16,j15.mono s16,⟨rs,s16.at hrm15,Paired.mapP hrs15 fun _ _ r=>r.mono s16⟩,ok12.mono (by omega) (by omega),frm,nmp,nmj⟩
  ·rintro σ H4 ⟨s4,rl,o4,o5,o6,o7,o8,o9,o10,o11,ps,js,rest,rfl,hpl,hjl,hrl,hok,frl,nrp',nrj'⟩
   rw [List.length_map] at hok
   have hsm:=hok.sum
   have hjb:=hok.jl
   refine WSs.step (Xt (Z5 (Zil T) hr rfl T.m__law_closed T.d__law_closed.F.kp T.d__law_closed.b .nil Yn (Zb (pv 1) (Zb (pv 2) (Zb (pv 3) (Zb (Zp (Zq0 rfl) (by rfl) T.n_sum PyProof.Rows.boot_sum (Zb (pv 0) Za)) Za)))))) ⟨_,rfl,_,rfl,_,rfl,_,rfl,cl,cs,rfl,s4.seq hcl,pl,jl,rl,Zrb cs,ps,js,rest,rfl,hpl,hjl,hrl,npj,nrp',nrj',by omega,by omega,by omega,fun H5 nps njs km hp5 hj5 hcl5=>?_⟩
   have hnet:=hok.done (by omega) hcl5
   have hnl:nps.length=rest.length:=by obtain ⟨ks,hk1,hk2,hk3,hk4⟩:=hcl5;rw [hk3,List.length_map,List.length_range]
   refine WSs.last (Z8 (Zf (Zb (pv 1) (Zb (pv 2) Za)))) ⟨_,rfl,_,rfl,sz (by simp),fun t H6 s6 n6 e6=>q t H6 pl jl _ _ 0 (fun b o z=>s6.at (km b o (Zh z fp) (Zh z fj) (s4.at z))) e6 (hp5.mono s6) (hj5.mono s6) fp fj hnet ?_ ?_⟩
   ·rw [List.length_append];omega
   ·intro p hp
    rcases List.mem_append.mp hp with z|z
    ·obtain ⟨kd,h1,c,k,h2,h3⟩:=hok.nm p z
     exact .inl ⟨kd,h1,c,k,by omega,h3⟩
    ·obtain ⟨ks,hk1,hk2,hk3,hk4⟩:=hcl5
     rw [hk3] at z
     obtain ⟨j,hj,rfl⟩:=List.mem_map.mp z
     exact .inr ⟨j,by have:=List.mem_range.mp hj;omega,rfl⟩
theorem Zj7(T:Tx K mg){k:Nat}(h:3≤k:=by decide):Yf P w K mg base CX0 k T.d__law_drawn.f T.d__law_drawn.fd ["_law_cells_here"] (Zn1 K):=(Ziu T).mono h
def Zci(n k:Nat):Str:=("s" :Str)++Str.ofString (toString (n:Int))++(⟨#[Zfe.getD (k / 26) 0]⟩:Str)++(⟨#[Zfe.getD (k%26) 0]⟩:Str)
theorem Zm8:∀i<26,Zfe.getD i 0=97+i:=by decide
theorem Zd1(n k:Nat):(Zci n k).cps.toList=(("s" :Str)++Str.ofString (toString (n:Int))).cps.toList++[Zfe.getD (k / 26) 0]++[Zfe.getD (k%26) 0]:=by
 unfold Zci
 rw [PySem.W.KT.app_list,PySem.W.KT.app_list]
theorem Zrn{n n' k k':Nat}(hk:k<600)(hk':k'<600)(h:Zci n k=Zci n' k'):k=k':=by
 have:=congrArg (fun s:Str=>s.cps.toList) h
 simp only [Zd1] at this
 obtain ⟨h1,h2⟩:=List.append_inj' this rfl
 obtain ⟨_,h3⟩:=List.append_inj' h1 rfl
 rw [List.cons.injEq] at h2 h3
 rw [Zm8 _ (by omega),Zm8 _ (by omega)] at h2 h3
 omega
def X5(H:Hp)(t:Addr)(q:Str×Str×Str):Prop:=H t=some (.tup [.str q.1,.str q.2.1,.str q.2.2])
def Wn(H:Hp)(l:Addr)(sg:List (Str×Str×Str)):Prop:=∃ts:List Addr,H l=some (.lst (ts.map V.ref))∧Paired (X5 H) ts sg
def X1(ps:List Zc):List Zc:=ps.flatMap fun p=>if p.1∈[("plain" :Str), "gate", "stop"] then (Yc p.1).map (fun x=>(p.2,x)) else []
theorem Zm1(ps:List Zc)(p:Zc):X1 (ps++[p])=X1 ps++(if p.1∈[("plain" :Str), "gate", "stop"] then (Yc p.1).map (fun x=>(p.2,x)) else []):=by
 unfold X1
 rw [List.flatMap_append]
 simp
structure Zcd(es:List Zc)(i:Nat)(sg:List (Str×Str×Str)):Prop where
 at_:(sg.map fun q=>((q.2.1,q.2.2):Zc)).Sublist (es.take i)
 name:∀q∈sg,q.1=q.2.1∨∃n k,n<99∧k<i∧q.1=Zci n k
 nd:(sg.map Prod.fst).Nodup
 len:sg.length≤40
theorem Zcd.skip{es:List Zc}{i:Nat}{sg:List (Str×Str×Str)}(h:Zcd es i sg):Zcd es (i+1) sg:=by
 refine ⟨h.at_.trans ?_,fun q hq=>?_,h.nd,h.len⟩
 ·rw [List.take_add_one];exact List.sublist_append_left _ _
 ·rcases h.name q hq with z|⟨n,k,a,b,c⟩
  ·exact .inl z
  ·exact .inr ⟨n,k,a,by omega,c⟩
theorem Zcd.add{es:List Zc}{i:Nat}{sg:List (Str×Str×Str)}{e:Zc}{nm:Str}(h:Zcd es i sg)(he:es[i]? =some e)(hn:nm=e.1∨∃n,n<99∧nm=Zci n i)(hnew:nm∉sg.map Prod.fst)(hl:sg.length<40):Zcd es (i+1) (sg++[(nm,e.1,e.2)]):=by
 refine ⟨?_,fun q hq=>?_,?_,by rw [List.length_append];simp;omega⟩
 ·rw [List.take_add_one,he,List.map_append]
  exact List.Sublist.append h.at_ (List.Sublist.refl _)
 ·rcases List.mem_append.mp hq with z|z
  ·exact h.skip.name q z
  ·rw [List.mem_singleton] at z
   subst z
   rcases hn with y|⟨n,a,b⟩
   ·exact .inl y
   ·exact .inr ⟨n,i,a,by omega,b⟩
 ·rw [List.map_append,List.nodup_append]
  refine ⟨h.nd,by simp,fun a ha b hb z=>?_⟩
  simp at hb
  exact hnew (by rw [←hb,←z];exact ha)
theorem Zcd.fresh{es:List Zc}{i n:Nat}{sg:List (Str×Str×Str)}(h:Zcd es i sg)(hi:i<600)(hne:∀n k e,e∈es→n<99→k<600→e.1≠Zci n k)(hn:n<99):Zci n i∉sg.map Prod.fst:=fun hm=>by
 obtain ⟨q,hq,e⟩:=List.mem_map.mp hm
 rcases h.name q hq with z|⟨n',k,a,b,c⟩
 ·have:((q.2.1,q.2.2):Zc)∈es:=List.mem_of_mem_take (h.at_.subset (List.mem_map.mpr ⟨q,hq,rfl⟩))
  exact hne n i _ this hn hi (z.symm.trans e)
 ·have:=Zrn hi (by omega) (e.symm.trans c)
  omega
theorem Wn.mono{H H':Hp}{l:Addr}{sg:List (Str×Str×Str)}(e:Same H H')(h:Wn H l sg):Wn H' l sg:=let ⟨ts,h1,h2⟩:=h;⟨ts,e.at h1,Paired.mapP h2 fun _ _ r=>e.at r⟩
def Zuk(K:Frag):Sp:=fun vs H Q _=>∃(pl:Addr) (c:Int) (ps:List Zc),vs=[.ref pl,.int c]∧Zs H pl ps∧ps.length≤45∧(∀n k e,e∈X1 ps→n<99→k<600→e.1≠Zci n k) ∧
 ∀(l:Addr) (H':Hp) (sg:List (Str×Str×Str)),Same H H'→H l=none→Wn H' l sg→Zcd (X1 ps) (X1 ps).length sg→Q (.ref l) H'
theorem Zg1(k:Str):(Yc k).length≤4:=by
 unfold Yc
 split
 ·decide
 ·split
  ·decide
  ·split <;>decide
theorem Ze2:∀ps:List Zc,(X1 ps).length≤4 * ps.length
 | []=>by simp [X1]
 | p ::ps=>by
  have:=Ze2 ps
  have h2:=Zg1 p.1
  rw [show X1 (p ::ps)=(if p.1∈[("plain" :Str), "gate", "stop"] then (Yc p.1).map (fun x=>((p.2,x):Zc)) else [])++X1 ps from rfl,List.length_append,List.length_cons]
  split
  ·rw [List.length_map];omega
  ·simp;omega
theorem Zno{l D:Addr}{gs:List Addr}{sg:List (Str×Str×Str)}{H1:Hp}{Q:VK}{σ:St}(hl:H1 l=some (.lst (gs.map V.ref)))(hg:Paired (X5 H1) gs sg)(hn:sg.length≤100)(hD:H1 D=none)(q:∀H',Same H1 H'→H' D=some (.lst ((sg.map Prod.fst).map V.str))→Q (.ref D) H'){fr:St→St}(hfr:fr σ=[none]){te:TE}(hte:te=tOp (rIx K) (Zi3 0) (tC (.int 0))) :
  Zc9 (Itl K l) fr (Zga 0) Zrd te Q σ H1 D:=by
 refine Xv (xs:=gs.map V.ref) (fun i ys H'=>ys=((sg.take i).map Prod.fst).map V.str∧H' D=some (.lst ys)∧Same H1 H') ⟨rfl,Zj,Same.new hD⟩ ?_ ?_ ?_
 ·rintro i ys H' _ ⟨_,_,sm⟩
  exact SqL.of (sm.at hl)
 ·rintro k v ys H' hk ⟨rfl,hD',sm⟩
  rw [List.getElem?_map] at hk
  obtain ⟨t,ht,rfl⟩:=Option.map_eq_some_iff.mp hk
  obtain ⟨g,hs,r2⟩:=Paired.get hg ht
  unfold Zcb
  rw [hfr,hte]
  refine ⟨Wr.set rfl,_,rfl,.inr (.inl ⟨t,_,_,.str g.1,rfl,rfl,SqT.of (sm.at r2),rfl,hD',?_,?_,Zj,fun b o z=>?_⟩)⟩
  ·rw [List.length_map,List.length_map,List.length_take];exact Z4 (by omega)
  ·rw [List.take_add_one,hs,List.map_append,List.map_append];rfl
  ·rw [Zi (Zh z hD)];exact sm.at z
 ·rintro ys H6 ⟨rfl,hD6,s6⟩
  refine q H6 s6 ?_
  rw [hD6,List.length_map,Paired.length hg,List.take_length]
theorem Zog:∀n<99,(Str.ofString (toString ((n:Nat):Int))).length≤2:=by decide +kernel
theorem Ztl:∀n<99,(((n:Nat):Int).natAbs).log2<1920:=by decide +kernel
theorem Zen(T:Tx K mg):Yf P w K mg base CX0 2 T.d__law_signals_by.f T.d__law_signals_by.fd ["_law_parts", "_law_cell"] (Zuk K):=by
 refine T.d__law_signals_by.F.okW Ya (fun vs H Q E h=>?_) (fun cdv A outer s H vs Q E hr h=>?_)
 ·obtain ⟨pl,c,ps,rfl,_⟩:=h
  rfl
 ·obtain ⟨pl,c,ps,rfl,⟨ts,hts,hps⟩,hpl,hne,q⟩:=h
  have htl:ts.length=ps.length:=Paired.length hps
  refine WSs.step (Zn (i:=2) Ya.nd rfl (by first | exact Or.inl rfl | exact Or.inr rfl) Ze) ?_
  refine WSs.step (Zn (i:=3) Ya.nd rfl (by first | exact Or.inl rfl | exact Or.inr rfl) (Zl Za)) ⟨sz (by simp),fun l0 H1 s1 n1 e1=>?_⟩
  refine WSs.step (Zae PassesOwn.never rfl (Yx (pv 0)) (Zax rfl (Zw (Zq (i:=4) Ya.nd rfl (by first | exact Or.inl rfl | exact Or.inr rfl)) (Zw (Zq (i:=5) Ya.nd rfl (by first | exact Or.inl rfl | exact Or.inr rfl)) Y8))) Zy) ⟨_,rfl,pl,rfl,⟨_,SqL.of (s1.at hts)⟩,Zba (xs:=ts.map V.ref) (fun i σ H'=>∃le,(∃o4 o5 o6,σ=[some (.ref pl),some (.int c),some (.str "abcdefghijklmnopqrstuvwxyz"),some (.ref le),o4,o5,o6,none,none,none])∧Same H H'∧Zs H' le (X1 (ps.take i))) ⟨l0,⟨none,none,none,rfl⟩,s1,[],e1,.nil⟩ ?_ ?_ ?_⟩
  ·rintro i σ H' _ ⟨_,_,sm,_⟩
   exact SqL.of (sm.at hts)
  ·rintro i v σ H2 hi ⟨le,⟨o4,o5,o6,rfl⟩,s2,us,hle,hus⟩
   rw [List.getElem?_map] at hi
   obtain ⟨t,ht,rfl⟩:=Option.map_eq_some_iff.mp hi
   obtain ⟨p,hp,rp⟩:=Paired.get hps ht
   have hil:i<ts.length:=(List.getElem?_eq_some_iff.mp ht).1
   have hbl:=Ze2 (ps.take i)
   rw [List.length_take] at hbl
   have hul:us.length=(X1 (ps.take i)).length:=Paired.length hus
   have nxt:X1 (ps.take (i+1))=X1 (ps.take i)++(if p.1∈[("plain" :Str), "gate", "stop"] then (Yc p.1).map (fun x=>((p.2,x):Zc)) else []):=by
    rw [List.take_add_one,hp];exact Zm1 _ _
   refine ⟨t,_,rfl,SqT.of (s2.at rp),rfl,_,_,rfl,_,_,rfl,rfl,?_⟩
   refine WSs.last (Yg (Zo (r:=Zgu K) (Zh5 hr) (pv 4) (Zl (Zb Ze (Zb Ze (Zb Ze Za)))) (by with_unfolding_all rfl)) Zy Z2) ⟨_,rfl,sz (by simp),fun lk H3 s3 n3 e3=>.inl ⟨lk,_,rfl,.inl (SqL.of e3),rfl,rfl,_,rfl,?_⟩⟩
   rw [if_neg Bool.false_ne_true,show inV (.str p.1) [.str "plain",.str "gate",.str "stop"]=decide (p.1∈[("plain" :Str), "gate", "stop"]) from Zdg p.1 ["plain", "gate", "stop"]]
   refine Yk (fun hc=>?_) (fun hc=>⟨le,⟨_,_,_,rfl⟩,s2.trans s3,?_⟩)
   ·have hc:=of_decide_eq_true hc
    rw [if_pos hc] at nxt
    refine WSs.last (Zn (i:=3) Ya.nd rfl (by first | exact Or.inl rfl | exact Or.inr rfl) (Zk Y3 (pv 3) (W2 (N':=["_law_end", "_law_name"]) rfl (Z9.std 1 [5] rfl (by decide +kernel) (by decide +kernel) rfl ⟨rfl,trivial⟩ rfl rfl ⟨⟨_,rfl,rfl,rfl⟩,trivial⟩) (Yx (Z5 (Za9 T) hr rfl T.m__law_ends T.d__law_ends.F.kp T.d__law_ends.b .nil Yn (Zb (pv 4) Za))) (fun _ _ _ _=>(Zq (i:=0) (by show (["_law_end", "_law_name"]:List Str).Nodup;decide +kernel) rfl (Or.inl (lookup_relabel_local rfl)) (Or.inr (lookup_relabel_local rfl)))) (fun _ _ _ _=>W9) (fun _ _ _ _=>(Zf (Zb (pv 1) (Zb (pv 0) Za))))))) ⟨_,rfl,_,rfl,p.1,rfl,fun lp H4 s4 n4 e4=>⟨lp,rfl,⟨_,SqL.of e4⟩,fun D hD=>?_⟩⟩
    have hel:=Zg1 p.1
    refine Zhy (xs:=Yc p.1) (x:=p.2) e4 (by omega) hD (fun H5 s5 f5=>?qq) ?aa ?bb
    case aa=>rfl
    case bb=>rfl
    case qq =>
     obtain ⟨vs,hv,hvs⟩:=f5
     have hvl:vs.length=(Yc p.1).length:=by rw [Paired.length hvs,List.length_map]
     have s35:=s3.trans (s4.trans s5)
     refine .inr (.inr ⟨le,D,_,_,rfl,rfl,s35.at hle,hv,by rw [List.length_map,List.length_map];exact sz (by omega),fun ln H6 s6 n6 e6=>⟨ln,⟨_,_,_,rfl⟩,s2.trans (s35.trans s6),?_⟩⟩)
     rw [nxt]
     exact ⟨us++vs,by rw [e6,List.map_append],Paired.append (Paired.mapP hus fun _ _ r=>(s35.trans s6).at r) (Paired.mapP hvs fun _ _ r=>s6.at r)⟩
   ·have hc:¬p.1∈[("plain" :Str), "gate", "stop"]:=fun z=>hc (decide_eq_true z)
    rw [nxt,if_neg hc,List.append_nil]
    exact Zs.mono s3 ⟨us,hle,hus⟩
  rintro σ H2 ⟨le,⟨o4,o5,o6,rfl⟩,s2,hE⟩
  rw [List.length_map,htl,List.take_length] at hE
  obtain ⟨us,hle,hus⟩:=hE
  have hbl:=Ze2 ps
  have hul:us.length=(X1 ps).length:=Paired.length hus
  obtain ⟨es,hes⟩:∃es,es=X1 ps:=⟨_,rfl⟩
  rw [←hes] at hus hul hne q hbl
  refine WSs.step (Zn (i:=7) Ya.nd rfl (by first | exact Or.inl rfl | exact Or.inr rfl) (Zl Za)) ⟨sz (by simp),fun lf H3 s3 n3 e3=>?_⟩
  refine WSs.step (Zae PassesOwn.never rfl (Zg4 rfl T.n_enumerate (Zb (pv 3) Za)) (Zax rfl (Zw (Zq (i:=8) Ya.nd rfl (by first | exact Or.inl rfl | exact Or.inr rfl)) (Zw (Zq (i:=6) Ya.nd rfl (by first | exact Or.inl rfl | exact Or.inr rfl)) Y8))) Zy) ⟨_,rfl,le,rfl,⟨_,SqL.of (s3.at hle)⟩,Zfh (xs:=us.map V.ref) (fun i σ H'=>(∃o5 o6 o8 o9,σ=[some (.ref pl),some (.int c),some (.str "abcdefghijklmnopqrstuvwxyz"),some (.ref le),o4,o5,o6,some (.ref lf),o8,o9])∧Same H2 H'∧∃sg,Wn H' lf sg∧Zcd es i sg) ⟨⟨_,_,none,none,rfl⟩,s3,[],⟨[],e3,.nil⟩,⟨List.nil_sublist _,(fun _ z=>nomatch z),List.nodup_nil,Nat.zero_le _⟩⟩ ?_ ?_ ?_⟩
  ·rintro i σ H' _ ⟨_,sm,_⟩
   exact SqL.of (sm.at hle)
  ·rintro i x' σ H4 hi ⟨⟨o5',o6',o8,o9,rfl⟩,s4,sg,hsg,ok⟩ p H5 s5 n5 e5
   rw [List.getElem?_map] at hi
   obtain ⟨te,hte,rfl⟩:=Option.map_eq_some_iff.mp hi
   obtain ⟨e,he,re⟩:=Paired.get hus hte
   have hil:i<us.length:=(List.getElem?_eq_some_iff.mp hte).1
   have hi600:i<600:=by omega
   refine ⟨p,_,rfl,SqT.of e5,rfl,_,_,rfl,_,_,rfl,rfl,?_⟩
   have re5:Zu H5 te e:=s5.at (s4.at re)
   obtain ⟨gs,hlf,hgs⟩:=hsg.mono s5
   have hgl:gs.length=sg.length:=Paired.length hgs
   have s25:=s4.trans s5
   refine WSs.step (Zn (i:=9) Ya.nd rfl (by first | exact Or.inl rfl | exact Or.inr rfl) (Z5 (Zaw T) hr rfl T.m__law_mixed T.d__law_mixed.F.kp T.d__law_mixed.b .nil Yn (Zb (pv 1) (Zb (pv 8) Za)))) ⟨_,rfl,_,rfl,c,_,rfl,?_⟩
   generalize Zee c ((i:Nat):Int)=dr
   have skip:∃sg,Wn H5 lf sg∧Zcd es (i+1) sg:=⟨sg,⟨gs,hlf,hgs⟩,ok.skip⟩
   refine WSs.last (Yg (PW.pt (Zbi (Zo Zgf (Zk Z6 (pv 9) Zd) (Zk Z6 (pv 1) Zd) (Zx _)) (Zaq (Zo Zed (Zp (r:=Xb K) Xf (by rfl) T.n_len PySem.boot_len (Zb (pv 7) Za)) Zd (Zx _))))) Zy Z2) ⟨_,rfl,_,_,rfl,rfl,(by show (0:Int)<8;decide),_,rfl,_,_,rfl,rfl,(by show (0:Int)<7;decide),_,_,rfl,rfl,_,rfl,Yk (fun _=>⟨_,rfl,.inl ⟨lf,_,rfl,.inl (SqL.of hlf),_,_,rfl,rfl,_,rfl,Yk (fun hl=>?_) (fun _=>⟨⟨_,_,_,_,rfl⟩,s25,skip⟩)⟩⟩) (fun _=>⟨⟨_,_,_,_,rfl⟩,s25,skip⟩)⟩
   have hl:sg.length<40:=by
    have:=of_decide_eq_true hl
    rw [List.length_map] at this
    omega
   have m0:=Int.emod_nonneg (dr / 8) (show (99:Int)≠0 by decide)
   have m1:=Int.emod_lt_of_pos (dr / 8) (show (0:Int)<99 by decide)
   obtain ⟨n,hn⟩:∃n:Nat,dr / 8%99=(n:Int):=⟨(dr / 8%99).toNat,by omega⟩
   have hn99:n<99:=by omega
   have hfl:=Zog n hn99
   refine WSs.step (Zn (i:=5) Ya.nd rfl (by first | exact Or.inl rfl | exact Or.inr rfl) (Zk Y3 Ze (Y4 Y7 (by rfl) T.n_str PyProof.Rows.boot_str (Zb (Zk Z6 (Zk Yh (pv 9) Zd) Zd) Za)))) ⟨_,rfl,_,_,rfl,rfl,⟨by decide,by decide⟩,_,_,rfl,rfl,(by show (0:Int)<99;decide),(n:Int),?_,Ztl n hn99,.inr (.inl ⟨_,_,rfl,rfl,sz (by show 1+_≤1000;omega),?_⟩)⟩
   ·show [V.int (dr / 8%99)]=[V.int (n:Int)]
    rw [hn]
   have hlen:(("s" :Str)++Str.ofString (toString (n:Int))).length≤3:=by rw [PySem.Str.length_append];show 1+_≤3;omega
   refine WSs.step (Zn (i:=5) Ya.nd rfl (by first | exact Or.inl rfl | exact Or.inr rfl) (Zk Y3 (Zk Y3 (pv 5) (Zt (r:=rIx K) Zm (pv 2) (Zk Yh (pv 8) Zd) (fun _ _=>rfl))) (Zt (r:=rIx K) Zm (pv 2) (Zk Z6 (pv 8) Zd) (fun _ _=>rfl)))) ⟨_,rfl,_,rfl,_,rfl,_,_,rfl,rfl,⟨by decide,by decide⟩,.inr (.inr ⟨_,_,Zfe.getD (i / 26) 0,rfl,rfl,sz (by rw [Zgx];decide),?_,.inr (.inl ⟨_,_,rfl,rfl,sz ?_,_,rfl,_,rfl,_,_,rfl,rfl,(by show (0:Int)<26;decide),.inr (.inr ⟨_,_,Zfe.getD (i%26) 0,rfl,rfl,sz (by rw [Zgx];decide),?_,.inr (.inl ⟨_,_,rfl,rfl,sz ?_,?_⟩)⟩)⟩)⟩)⟩
   ·rw [Zk2]
    have:=Zht (n:=26) (l:=Zfe) (i:=(i:Int) / 26) rfl (by omega) (by omega)
    rw [show ((i:Int) / 26).toNat=i / 26 by omega] at this
    exact this
   ·show _+1≤1000;omega
   ·rw [Zk2]
    have:=Zht (n:=26) (l:=Zfe) (i:=(i:Int)%26) rfl (by omega) (by omega)
    rw [show ((i:Int)%26).toNat=i%26 by omega] at this
    exact this
   ·rw [PySem.Str.length_append];show _+1+1≤1000;omega
   show WSs _ _ _ [some (.ref pl),some (.int c),some (.str "abcdefghijklmnopqrstuvwxyz"),some (.ref le),o4,some (.str (Zci n i)),some (.ref te),some (.ref lf),some (.int (i:Nat)),some (.int dr)] H5
   refine WSs.cut (fun σ H'=>∃nm,σ=[some (.ref pl),some (.int c),some (.str "abcdefghijklmnopqrstuvwxyz"),some (.ref le),o4,some (.str nm),some (.ref te),some (.ref lf),some (.int (i:Nat)),some (.int dr)]∧Same H5 H'∧(nm=e.1∨∃n,n<99∧nm=Zci n i)∧nm∉sg.map Prod.fst) ?_ ?_
   ·have keep:∀{H':Hp},Same H5 H'→∃nm,[some (V.ref pl),some (.int c),some (.str "abcdefghijklmnopqrstuvwxyz"),some (.ref le),o4,some (.str (Zci n i)),some (.ref te),some (.ref lf),some (.int (i:Nat)),some (.int dr)]=[some (.ref pl),some (.int c),some (.str "abcdefghijklmnopqrstuvwxyz"),some (.ref le),o4,some (.str nm),some (.ref te),some (.ref lf),some (.int (i:Nat)),some (.int dr)]∧Same H5 H'∧(nm=e.1∨∃n,n<99∧nm=Zci n i)∧nm∉sg.map Prod.fst:=fun s6=>⟨_,rfl,s6,.inr ⟨n,hn99,rfl⟩,ok.fresh hi600 hne hn99⟩
    refine WS.of (Yg (PW.pt (Zbi (Zo (r:=X9 K) (Wo hr) (Zk Z6 (Zk Yh (pv 1) Zd) Zd) Zd (Zx _)) (Zaq (Zo (r:=Zkw K) (Znu hr) (Zt (r:=rIx K) Zm (pv 6) Zd (fun _ _=>rfl)) (W2 (N':=["_law_row"]) rfl (Z9.std 1 [] rfl (by decide +kernel) (by decide +kernel) rfl trivial rfl rfl trivial) (Yx (pv 7)) (fun _ _ _ _=>(Zq (i:=0) (by show (["_law_row"]:List Str).Nodup;decide +kernel) rfl (Or.inl (lookup_relabel_local rfl)) (Or.inr (lookup_relabel_local rfl)))) (fun _ _ _ _=>W9) (fun _ _ _ _=>(Zt (r:=rIx K) Zm (pv 0) Zd (fun _ _=>rfl)))) (by with_unfolding_all rfl))))) Zy Z2) ⟨_,rfl,_,_,rfl,rfl,⟨by decide,by decide⟩,_,_,rfl,rfl,(by show (0:Int)<3;decide),.inl ⟨rfl,_,rfl,Yk (fun _=>?_) (fun _=>keep (Same.refl _))⟩⟩
    refine ⟨_,rfl,.inr (.inl ⟨te,_,_,.str e.1,rfl,rfl,SqT.of re5,rfl,_,rfl,lf,rfl,⟨_,SqL.of hlf⟩,fun D hD=>?_⟩)⟩
    refine Zno hlf hgs (by omega) hD (fun H6 s6 e6=>?qq) ?aa ?bb
    case aa=>rfl
    case bb=>rfl
    case qq =>
     refine .inl ⟨D,_,rfl,.inl (SqL.of e6),rfl,Zju _,_,rfl,?_⟩
     rw [if_pos rfl,Zdg]
     refine Yk (fun hc=>?_) (fun _=>keep s6)
     have hc:e.1∉sg.map Prod.fst:=fun z=>by rw [decide_eq_true z] at hc;exact absurd hc (by decide)
     exact WSs.last (Zn (i:=5) Ya.nd rfl (by first | exact Or.inl rfl | exact Or.inr rfl) (Zt (r:=rIx K) Zm (pv 6) Zd (fun _ _=>rfl))) ⟨_,rfl,.inr (.inl ⟨te,_,_,.str e.1,rfl,rfl,SqT.of (s6.at re5),rfl,e.1,rfl,s6,.inl rfl,hc⟩)⟩
   rintro σ H6 ⟨nm,rfl,s6,hnm,hnew⟩
   refine WSs.last (Xt (Zda PySem.F.plainAttrs_list PySem.F.slot_list_append PySem.F.type_list_append Xp (pv 7) (Zb (Zf (Zb (pv 5) (Zb (Zt (r:=rIx K) Zm (pv 6) Zd (fun _ _=>rfl)) (Zb (Zt (r:=rIx K) Zm (pv 6) Zd (fun _ _=>rfl)) Za)))) Za))) ⟨_,rfl,.inl ⟨rfl,_,SqL.of (s6.at hlf)⟩,_,rfl,_,rfl,.inr (.inl ⟨te,_,_,.str e.1,rfl,rfl,SqT.of (s6.at re5),rfl,_,rfl,.inr (.inl ⟨te,_,_,.str e.2,rfl,rfl,SqT.of (s6.at re5),rfl,sz (by simp),fun t H7 s7 n7 e7=>⟨lf,_,_,rfl,rfl,s7.at (s6.at hlf),by rw [List.length_map];exact Z4 (by omega),⟨_,_,_,_,rfl⟩,fun b o z=>?_,sg++[(nm,e.1,e.2)],⟨gs++[t],?_,?_⟩,ok.add he hnm hnew hl⟩⟩)⟩)⟩
   ·rw [Zi (Zh z n3)];exact s7.at (s6.at (s25.at z))
   ·rw [Zj,List.map_append];rfl
   ·have off:∀{b:Addr} {xs:List V},H7 b=some (.tup xs)→(upd H7 lf (.lst (gs.map V.ref++[V.ref t]))) b=some (.tup xs):=fun {b xs} z=>by
     rw [Zi fun y=>by rw [y,s7.at (s6.at hlf)] at z;cases z];exact z
    exact Paired.append (Paired.mapP hgs fun _ _ r=>off (s7.at (s6.at r))) (.cons (off e7) .nil)
  ·rintro σ H4 ⟨⟨o5',o6',o8,o9,rfl⟩,s4,sg,hsg,ok⟩
   refine WSs.last (Z8 (pv 7)) ⟨_,rfl,q lf H4 sg (s2.trans s4) (s2.free n3) hsg ?_⟩
   rw [List.length_map,hul] at ok
   exact ok
theorem Ze9(T:Tx K mg){k:Nat}(h:2≤k:=by decide):Yf P w K mg base CX0 k T.d__law_signals_by.f T.d__law_signals_by.fd ["_law_parts", "_law_cell"] (Zuk K):=(Zen T).mono h
def Zdq(n:Nat):List (Str×Str×Str):=[("go", "g", "a"),("back", "h", "a"),("end",Zad (n-1), "b")]
def Zqq:Sp:=fun vs H Q _=>∃c:Int,vs=[.int c] ∧
 ∀(t pl jl sl:Addr) (H':Hp) (n m:Nat),Same H H'→n∈[9,10,11,12,13,14]→1≤m→m≤3→H' t=some (.tup [.ref pl,.ref jl,.ref sl])→Zs H' pl (Zbp n)→Z1 H' jl (Zol n)→Wn H' sl ((Zdq n).take m)→H pl=none→H jl=none→H sl=none→Q (.ref t) H'
theorem Zva:∀k<20,(((k:Nat):Int).natAbs).log2<1920:=by decide +kernel
theorem Zuz:∀k<20,(Zb0 k).length≤2:=by decide +kernel
theorem Zms{l D:Addr}{xs:List Str}{H1:Hp}{Q:VK}{σ:St}(hl:H1 l=some (.lst (xs.map V.str)))(hn:xs.length≤100)(hD:H1 D=none) (q:∀H',Same H1 H'→Zs H' D (xs.map fun x=>(("plain" :Str),x))→Q (.ref D) H') {fr:St→St} (hfr:fr σ=[none]) {te:TE} (hte:te=Zrv (Zi7 (tC (.str "plain")) (Zi7 (Zi3 0) Zst))) :
  Zc9 (Itl K l) fr (Zga 0) Zrd te Q σ H1 D:=by
 refine Xv (xs:=xs.map V.str) (fun i ys H'=>(∃ts:List Addr,ys=ts.map V.ref∧Paired (Zu H') ts ((xs.take i).map fun x=>(("plain" :Str),x)))∧H' D=some (.lst ys)∧Same H1 H') ⟨⟨[],rfl,.nil⟩,Zj,Same.new hD⟩ ?_ ?_ ?_
 ·rintro i ys H' _ ⟨_,_,sm⟩
  exact SqL.of (sm.at hl)
 ·rintro k v ys H' hk ⟨⟨ts,rfl,hts⟩,hD',sm⟩
  rw [List.getElem?_map] at hk
  obtain ⟨y,hy,rfl⟩:=Option.map_eq_some_iff.mp hk
  have hlt:ts.length≤100:=by rw [Paired.length hts,List.length_map,List.length_take];omega
  unfold Zcb
  rw [hfr,hte]
  refine ⟨Wr.set rfl,_,rfl,sz (by simp),fun t H2 s2 n2 e2=>⟨s2.at hD',by rw [List.length_map];exact Z4 (by omega),⟨ts++[t],by rw [List.map_append];rfl,?_⟩,Zj,fun b o z=>?_⟩⟩
  ·rw [List.take_add_one,hy,List.map_append]
   have off:∀{b:Addr} {zs:List V},H2 b=some (.tup zs)→(upd H2 D (.lst (ts.map V.ref++[V.ref t]))) b=some (.tup zs):=fun {b zs} z=>by
    rw [Zi fun y=>by rw [y,s2.at hD'] at z;cases z];exact z
   exact Paired.append (Paired.mapP hts fun _ _ r=>off (s2.at r)) (.cons (off e2) .nil)
  ·rw [Zi (Zh z hD)];exact s2.at (sm.at z)
 ·rintro ys H6 ⟨⟨ts,rfl,hts⟩,hD6,s6⟩
  rw [List.length_map,List.take_length] at hts
  exact q H6 s6 ⟨ts,hD6,hts⟩
theorem Zr5(n:Nat):ixN (n+1) (-1)=some n:=by
 unfold ixN
 rw [if_neg (by decide)]
 simp
 constructor <;>omega
theorem Zq5{α:Type}(xs:List α)(x:α):atI (xs++[x]) (-1)=some x:=by
 unfold atI
 rw [List.length_append,List.length_singleton,Zr5]
 simp
theorem Zlf{n:Nat}(h:1≤n):atI (((List.range n).map Zad).map V.str) (-1)=some (.str (Zad (n-1))):=by
 obtain ⟨m,rfl⟩:∃m,n=m+1:=⟨n-1,by omega⟩
 rw [List.range_succ,List.map_append,List.map_append]
 exact Zq5 _ _
theorem Zqi{n k:Nat}(h:k<n):(((List.range n).map Zad).map V.str)[k]? =some (.str (Zad k)):=by
 rw [List.getElem?_map,List.getElem?_map,List.getElem?_range h]
 rfl
theorem Zxt:("p0" :Str)=Zad 0:=by decide +kernel
theorem Zk4(T:Tx K mg):Yf P w K mg base CX0 1 T.d__law_long.f T.d__law_long.fd ["_law_cell"] Zqq:=by
 refine T.d__law_long.F.okW Wz (fun vs H Q E h=>?_) (fun cdv A outer s H vs Q E hr h=>?_)
 ·obtain ⟨c,rfl,_⟩:=h
  rfl
 ·obtain ⟨c,rfl,q⟩:=h
  have k0:=Int.emod_nonneg c (show (6:Int)≠0 by decide)
  have k1:=Int.emod_lt_of_pos c (show (0:Int)<6 by decide)
  obtain ⟨n,hn⟩:∃n:Nat,9+c%6=(n:Int):=⟨(9+c%6).toNat,by omega⟩
  have hn9:n∈[9,10,11,12,13,14]:=by
   have:n=9∨n=10∨n=11∨n=12∨n=13∨n=14:=by omega
   simpa using this
  have hnb:9≤n∧n≤14:=by omega
  refine WSs.step (Xq (i:=2) (N':=["_law_k"]) Wz.nd rfl (Or.inl rfl) rfl (Z9.std 1 [] rfl (by decide +kernel) (by decide +kernel) rfl trivial rfl rfl trivial) (Zd4 rfl T.n_range (Zb (Zk Y3 Zd (Zk Z6 (pv 0) Zd)) Za)) (fun _ _ _ _=>(Zq (i:=0) (by show (["_law_k"]:List Str).Nodup;decide +kernel) rfl (Or.inl (lookup_relabel_local rfl)) (Or.inr (lookup_relabel_local rfl)))) (fun _ _ _ _=>W9) (fun _ _ _ _=>(Zk Y3 Ze (Y4 Y7 (by rfl) T.n_str PyProof.Rows.boot_str (Zb (pv 0) Za))))) ⟨_,rfl,_,_,rfl,rfl,(by show (0:Int)<6;decide),.inl ⟨_,_,rfl,rfl,(n:Int),?_,by omega,by omega,fun D hD=>?_⟩⟩
  ·show [V.int (9+c%6)]=[V.int (n:Int)]
   rw [hn]
  refine Zb1 (fun i ys H'=>ys=((List.range i).map Zad).map V.str∧H' D=some (.lst ys)∧Same H H') ⟨rfl,Zj,Same.new hD⟩ ?_ ?_
  ·rintro i ys H1 hi ⟨rfl,hD1,s1⟩
   have hi:i<n:=by omega
   unfold Zcb
   refine ⟨Wr.set rfl,_,rfl,(i:Int),?_,Zva i (by omega),.inr (.inl ⟨_,_,rfl,rfl,sz ?_,hD1,?_,?_,Zj,fun b o z=>?_⟩)⟩
   ·show [V.int (0+(i:Int))]=[V.int (i:Int)]
    rw [Int.zero_add]
   ·have:=Zuz i (by omega)
    show 1+(Zb0 i).length≤1000
    omega
   ·rw [List.length_map,List.length_map,List.length_range];exact Z4 (by omega)
   ·rw [List.range_succ,List.map_append,List.map_append];rfl
   ·rw [Zi (Zh z hD)];exact s1.at z
  ·rintro ys H1 ⟨rfl,hD1,s1⟩
   rw [Int.toNat_natCast] at hD1
   have hrl:(((List.range n).map Zad).map V.str).length=n:=by rw [List.length_map,List.length_map,List.length_range]
   refine WSs.step (Zn (i:=3) Wz.nd rfl (by first | exact Or.inl rfl | exact Or.inr rfl) (Zk Y3 (Zk Y3 (Zl (Zb (Zf (Zb Ze (Zb Ze Za))) Za)) (W2 (N':=["_law_name"]) rfl (Z9.std 1 [] rfl (by decide +kernel) (by decide +kernel) rfl trivial rfl rfl trivial) (Yx (pv 2)) (fun _ _ _ _=>(Zq (i:=0) (by show (["_law_name"]:List Str).Nodup;decide +kernel) rfl (Or.inl (lookup_relabel_local rfl)) (Or.inr (lookup_relabel_local rfl)))) (fun _ _ _ _=>W9) (fun _ _ _ _=>(Zf (Zb Ze (Zb (pv 0) Za)))))) (Zl (Zb (Zf (Zb Ze (Zb Ze Za))) Za)))) ⟨sz (by simp),fun t1 H2 s2 n2 e2=>⟨sz (by simp),fun l1 H3 s3 n3 e3=>⟨_,rfl,D,rfl,⟨_,SqL.of (s3.at (s2.at hD1))⟩,fun D2 hD2=>?_⟩⟩⟩
   refine Zms (xs:=(List.range n).map Zad) (s3.at (s2.at hD1)) (by rw [List.length_map,List.length_range];omega) hD2 (fun H4 s4 f4=>?qq) ?aa ?bb
   case aa=>rfl
   case bb=>rfl
   case qq =>
   obtain ⟨vs,hv,hvs⟩:=f4
   have hvl:vs.length=n:=by rw [Paired.length hvs,List.length_map,List.length_map,List.length_range]
   refine .inr (.inr ⟨l1,D2,_,_,rfl,rfl,s4.at e3,hv,by rw [List.length_map];exact sz (by simp;omega),fun l2 H5 s5 n5 e5=>⟨sz (by simp),fun t2 H6 s6 n6 e6=>⟨sz (by simp),fun l3 H7 s7 n7 e7=>.inr (.inr ⟨l2,l3,_,_,rfl,rfl,s7.at (s6.at e5),e7,by rw [List.length_append,List.length_map];exact sz (by simp;omega),fun pl H8 s8 n8 e8=>?_⟩)⟩⟩⟩)
   have s48:=s5.trans (s6.trans (s7.trans s8))
   have s28:=s3.trans (s4.trans s48)
   have s18:=s2.trans s28
   have hP:Zs H8 pl (Zbp n):=by
    refine ⟨[t1]++vs++[t2],by rw [e8,List.map_append,List.map_append];rfl,?_⟩
    refine Paired.append (Paired.append (.cons (s28.at e2) .nil) (Paired.mapP (by rw [List.map_map] at hvs;exact hvs) fun _ _ r=>s48.at r)) (.cons ((s7.trans s8).at e6) .nil)
   have hpl0:H pl=none:=s1.free (s2.free (s3.free (s4.free (s5.free (s6.free (s7.free n8))))))
   have hD8:=s18.at hD1
   have s08:=s1.trans s18
   clear s2 s3 s4 s5 s6 s7 s8 s48 s28 s18 n2 n3 n5 n6 n7 n8 e2 e3 e5 e6 e7 e8 hv hvs hD2 hD1 s1
   refine WSs.step (Zn (i:=4) Wz.nd rfl (by first | exact Or.inl rfl | exact Or.inr rfl) (Zl (Zb (Zf (Zb (Zf (Zb Ze (Zb Ze Za))) (Zb (Zf (Zb Ze (Zb Ze Za))) Za))) (Zb (Zf (Zb (Zf (Zb Ze (Zb Ze Za))) (Zb (Zf (Zb (Zt (r:=rIx K) Zm (pv 2) (Zn3 Zkn Zd) (fun _ _=>rfl)) (Zb Ze Za))) Za))) Za)))) ⟨sz (by simp),fun a1 H9 s9 n9 e9=>⟨sz (by simp),fun a2 H10 s10 n10 e10=>⟨sz (by simp),fun j1 H11 s11 n11 e11=>⟨sz (by simp),fun b1 H12 s12 n12 e12=>?_⟩⟩⟩⟩
   refine ⟨_,rfl,_,rfl,.inl ⟨D,_,_,.str (Zad (n-1)),rfl,rfl,SqL.of (s12.at (s11.at (s10.at (s9.at hD8)))),Zlf (by omega),sz (by simp),fun b2 H13 s13 n13 e13=>⟨sz (by simp),fun j2 H14 s14 n14 e14=>⟨sz (by simp),fun jl H15 s15 n15 e15=>?_⟩⟩⟩⟩
   have s1415:=s14.trans s15
   have s1215:=s13.trans s1415
   have s1115:=s12.trans s1215
   have s1015:=s11.trans s1115
   have s915:=s10.trans s1015
   have s815:=s9.trans s915
   have hjl8:H8 jl=none:=s9.free (s10.free (s11.free (s12.free (s13.free (s14.free n15)))))
   have hJ:Z1 H15 jl (([((("g" :Str),("a" :Str)),(Zad 0,("a" :Str))),((("h" :Str),("a" :Str)),(Zad (n-1),("b" :Str)))]:List (Zc×Zc))++(List.range 0).map fun k=>((Zad k,("b" :Str)),(Zad (k+1),("a" :Str)))):=by
    refine ⟨[j1,j2],e15,.cons ⟨a1,a2,s1115.at e11,s915.at e9,?_⟩ (.cons ⟨b1,b2,s15.at e14,s1215.at e12,s1415.at e13⟩ .nil)⟩
    have:=s1015.at e10
    rw [Zxt] at this
    exact this
   clear s9 s10 s11 s12 s13 s14 s15 s1415 s1215 s1115 s1015 s915 n9 n10 n11 n12 n13 n14 n15 e9 e10 e11 e12 e13 e14 e15
   refine WSs.step (Zae PassesOwn.never rfl (Zj1 rfl T.n_range (Zb Zd (Zb (Zp (r:=Xb K) Xf (by rfl) T.n_len PySem.boot_len (Zb (pv 2) Za)) Za))) (Zq (i:=1) Wz.nd rfl (by first | exact Or.inl rfl | exact Or.inr rfl)) Zy) ⟨_,rfl,.inl ⟨D,_,rfl,.inl (SqL.of (s815.at hD8)),1,(n:Int),?_,⟨by omega,by omega,by omega,by omega⟩,Zqc (lo:=1) (n:=((n:Int)-1).toNat) (fun i σ H'=>(∃o1,σ=[some (.int c),o1,some (.ref D),some (.ref pl),some (.ref jl),none])∧Same H8 H'∧Z1 H' jl (([((("g" :Str),("a" :Str)),(Zad 0,("a" :Str))),((("h" :Str),("a" :Str)),(Zad (n-1),("b" :Str)))]:List (Zc×Zc))++(List.range i).map fun k=>((Zad k,("b" :Str)),(Zad (k+1),("a" :Str))))) ⟨⟨_,rfl⟩,s815,hJ⟩ ?_ ?_⟩⟩
   ·rw [hrl]
   ·rintro i σ H16 hi ⟨⟨o1,rfl⟩,s16,us,hu,hus⟩
    have hi':i+1<n:=by omega
    have hul:us.length=2+i:=by rw [Paired.length hus,List.length_append,List.length_map,List.length_range];rfl
    have hat1:atI (((List.range n).map Zad).map V.str) (1+(i:Int)-1)=some (.str (Zad i)):=by
     rw [show (1:Int)+(i:Int)-1=((i:Nat):Int) by omega]
     exact Zr (Zqi (by omega))
    have hat2:atI (((List.range n).map Zad).map V.str) (1+(i:Int))=some (.str (Zad (i+1))):=by
     rw [show (1:Int)+(i:Int)=((i+1:Nat):Int) by omega]
     exact Zr (Zqi (by omega))
    refine WSs.last (Xt (Zda PySem.F.plainAttrs_list PySem.F.slot_list_append PySem.F.type_list_append Xp (pv 4) (Zb (Zf (Zb (Zf (Zb (Zt (r:=rIx K) Zm (pv 2) (Zk Zdj (pv 1) Zd) (fun _ _=>rfl)) (Zb Ze Za))) (Zb (Zf (Zb (Zt (r:=rIx K) Zm (pv 2) (pv 1) (fun _ _=>rfl)) (Zb Ze Za))) Za))) Za))) ⟨_,rfl,.inl ⟨rfl,_,SqL.of hu⟩,_,rfl,_,rfl,_,_,rfl,rfl,.inl ⟨D,_,_,_,rfl,rfl,SqL.of (s16.at hD8),hat1,sz (by simp),fun a1 H17 s17 n17 e17=>?_⟩⟩
    refine ⟨_,rfl,_,rfl,.inl ⟨D,_,_,_,rfl,rfl,SqL.of (s17.at (s16.at hD8)),hat2,sz (by simp),fun a2 H18 s18 n18 e18=>⟨sz (by simp),fun j H19 s19 n19 e19=>⟨jl,_,_,rfl,rfl,s19.at (s18.at (s17.at hu)),by rw [List.length_map];exact Z4 (by omega),⟨_,rfl⟩,fun b o z=>?_,us++[j],?_,?_⟩⟩⟩⟩
    ·rw [Zi (Zh z hjl8)];exact s19.at (s18.at (s17.at (s16.at z)))
    ·rw [Zj,List.map_append];rfl
    ·have off:∀{b:Addr} {xs:List V},H19 b=some (.tup xs)→(upd H19 jl (.lst (us.map V.ref++[V.ref j]))) b=some (.tup xs):=fun {b xs} z=>by
      rw [Zi fun y=>by rw [y,s19.at (s18.at (s17.at hu))] at z;cases z];exact z
     rw [List.range_succ,List.map_append,←List.append_assoc]
     exact Paired.append (Paired.mapP hus fun _ _ ⟨a,b,r1,r2,r3⟩=>⟨a,b,off (s19.at (s18.at (s17.at r1))),off (s19.at (s18.at (s17.at r2))),off (s19.at (s18.at (s17.at r3)))⟩) (.cons ⟨a1,a2,off e19,off (s19.at (s18.at e17)),off (s19.at e18)⟩ .nil)
   rintro σ H16 ⟨⟨o1,rfl⟩,s16,hJ⟩
   rw [show ((n:Int)-1).toNat=n-1 by omega] at hJ
   refine WSs.step (Zn (i:=5) Wz.nd rfl (by first | exact Or.inl rfl | exact Or.inr rfl) (Zl (Zb (Zf (Zb Ze (Zb Ze (Zb Ze Za)))) (Zb (Zf (Zb Ze (Zb Ze (Zb Ze Za)))) (Zb (Zf (Zb Ze (Zb (Zt (r:=rIx K) Zm (pv 2) (Zn3 Zkn Zd) (fun _ _=>rfl)) (Zb Ze Za)))) Za))))) ⟨sz (by simp),fun t1 H17 s17 n17 e17=>⟨sz (by simp),fun t2 H18 s18 n18 e18=>⟨_,rfl,_,rfl,.inl ⟨D,_,_,.str (Zad (n-1)),rfl,rfl,SqL.of (s18.at (s17.at (s16.at hD8))),Zlf (by omega),sz (by simp),fun t3 H19 s19 n19 e19=>⟨sz (by simp),fun s0 H20 s20 n20 e20=>?_⟩⟩⟩⟩⟩
   have m0:=Int.emod_nonneg (c / 6) (show (3:Int)≠0 by decide)
   have m1:=Int.emod_lt_of_pos (c / 6) (show (0:Int)<3 by decide)
   obtain ⟨m,hm⟩:∃m:Nat,1+c / 6%3=(m:Int):=⟨(1+c / 6%3).toNat,by omega⟩
   refine WSs.last (Z8 (Zf (Zb (pv 3) (Zb (pv 4) (Zb (Xy (r:=Ze8 K) Zf6 (pv 5) W4 (Wq (Zk Y3 Zd (Zk Z6 (Zk Yh (pv 0) Zd) Zd)))) Za))))) ⟨_,rfl,_,rfl,_,rfl,_,rfl,_,_,rfl,rfl,⟨by decide,by decide⟩,_,_,rfl,rfl,(by show (0:Int)<3;decide),.inl ⟨_,_,rfl,rfl,(m:Int),?_,.inr (.inl ⟨s0,_,rfl,SqL.of e20,fun sl H21 s21 n21 e21=>⟨sz (by simp),fun t H22 s22 n22 e22=>?_⟩⟩)⟩⟩
   ·show V.int (1+c / 6%3)=V.int (m:Int)
    rw [hm]
   have s2022:=s21.trans s22
   have s1622:=s17.trans (s18.trans (s19.trans (s20.trans s2022)))
   have s822:=s16.trans s1622
   refine q t pl jl sl H22 n m (s08.trans s822) hn9 (by omega) (by omega) e22 (hP.mono s822) (hJ.mono s1622) ?_ hpl0 (s08.free hjl8) (s08.free (s16.free (s17.free (s18.free (s19.free (s20.free n21))))))
   rw [Zf0] at e21
   have all:Paired (X5 H22) [t1,t2,t3] (Zdq n):=.cons ((s18.trans (s19.trans (s20.trans s2022))).at e17) (.cons ((s19.trans (s20.trans s2022)).at e18) (.cons ((s20.trans s2022).at e19) .nil))
   refine ⟨[t1,t2,t3].take m,by rw [s22.at e21,List.map_take];rfl,?_⟩
   have:m=1∨m=2∨m=3:=by omega
   rcases this with rfl|rfl|rfl
   ·cases all with
    | cons r _=>exact .cons r .nil
   ·cases all with
    | cons r1 t=>cases t with
     | cons r2 _=>exact .cons r1 (.cons r2 .nil)
   ·exact all
theorem Zl3(T:Tx K mg){k:Nat}(h:1≤k:=by decide):Yf P w K mg base CX0 k T.d__law_long.f T.d__law_long.fd ["_law_cell"] Zqq:=(Zk4 T).mono h
def Zfa(s:Str):Nat:=s.cps.toList.getLastD 0
theorem Zjn{x y:Str}(h:0<y.length):Zfa (x++y)=Zfa y:=by
 unfold Zfa
 rw [PySem.W.KT.app_list]
 have:y.cps.toList≠[]:=fun z=>by
  have:y.cps.toList.length=0:=by rw [z];rfl
  rw [Array.length_toList] at this
  exact absurd h (by show ¬0<y.cps.size;omega)
 obtain ⟨ys,b,e⟩:=List.eq_nil_or_concat y.cps.toList |>.resolve_left this
 rw [e]
 simp
theorem Zmb:∀k<100,Zfa (Zb0 k)<58:=by decide +kernel
theorem Zo3{kd:Str}{c:Int}{k:Nat}(h:k<100):Zfa (Ys kd c k)<58:=by
 have h1:=Zmb k h
 have h2:=Zfj k h
 unfold Ys
 split <;>rw [Zjn h2] <;>exact h1
theorem Zrz{j:Nat}(h:j<100):Zfa (W7 j)<58:=by
 unfold W7
 rw [Zjn (Zfj j h)]
 exact Zmb j h
theorem Zrp{n k:Nat}:97≤Zfa (Zci n k):=by
 unfold Zfa
 rw [Zd1]
 have:=Zm8 (k%26) (by omega)
 simp only [List.getLastD_concat]
 omega
theorem Zob{n k:Nat}:2≤(Zci n k).cps.toList.length:=by
 rw [Zd1,List.length_append,List.length_append]
 simp
theorem Zs3{s:Str}{n k:Nat} (h:s = "g" ∨s = "h" ∨Zfa s<58):s≠Zci n k:=fun z=>by
 rcases h with rfl|rfl|h
 ·have:=@Zob n k
  rw [←z] at this
  exact absurd this (by decide)
 ·have:=@Zob n k
  rw [←z] at this
  exact absurd this (by decide)
 ·have:=@Zrp n k
  rw [←z] at this
  omega
theorem Zq9{ps:List Zc}{e:Zc}(h:e∈X1 ps):∃p∈ps,e.1=p.2:=by
 unfold X1 at h
 obtain ⟨p,hp,he⟩:=List.mem_flatMap.mp h
 refine ⟨p,hp,?_⟩
 split at he
 ·obtain ⟨x,_,rfl⟩:=List.mem_map.mp he;rfl
 ·cases he
def nmY(s:Str):Prop:=s = "g" ∨s = "h" ∨Zld s 63∨∃j,j<90∧s=W7 j
theorem nmY.sig{s:Str}{n k:Nat}(h:nmY s):s≠Zci n k:=by
 refine Zs3 ?_
 rcases h with h|h|⟨kd,c,j,_,hj,rfl⟩|⟨j,hj,rfl⟩
 ·exact .inl h
 ·exact .inr (.inl h)
 ·exact .inr (.inr (Zo3 (by omega)))
 ·exact .inr (.inr (Zrz (by omega)))
def nmK(p:Zc):Prop:=p=((("gate" :Str),("g" :Str)):Zc)∨p=((("gate" :Str),("h" :Str)):Zc)∨Zld p.2 63∨∃j,j<90∧p.2=W7 j
theorem nmK.nm{p:Zc}(h:nmK p):nmY p.2:=by
 rcases h with rfl|rfl|h|h
 ·exact .inl rfl
 ·exact .inr (.inl rfl)
 ·exact .inr (.inr (.inl h))
 ·exact .inr (.inr (.inr h))
structure Zbw(ps:List Zc)(js:List (Zc×Zc))(sg:List (Str×Str×Str)):Prop where
 net:Net ps js []
 len:ps.length≤39
 name:∀p∈ps,nmK p
 sigs:(∃ps',ps'.Perm ps∧Zcd (X1 ps') (X1 ps').length sg)∨∃n m,n∈[9,10,11,12,13,14]∧ps=Zbp n∧sg=(Zdq n).take m
theorem Net.perm'{ps ps':List Zc}{js js':List (Zc×Zc)}(h:Net ps js [])(hp:ps'.Perm ps)(hj:js'.Perm js):Net ps' js' []:=by
 obtain ⟨a,b,c,d⟩:=h
 rw [List.append_nil] at a
 refine ⟨?_,(hp.map _).nodup_iff.mpr b,fun j hm=>c j (hj.mem_iff.mp hm),fun p hm=>d p (hp.mem_iff.mp hm)⟩
 rw [List.append_nil]
 exact ((hj.flatMap_right _).trans a).trans (hp.flatMap_right _).symm
theorem Zvw{k:Nat}(h:k<63):Zld (Zad k) 63:=by
 refine ⟨"plain",0,k,by decide +kernel,h,?_⟩
 unfold Ys Zad
 rw [if_pos (by decide)]
 rw [show (⟨#[("plain" :Str).cps.toList.getD 0 0]⟩:Str) = "p" by decide +kernel]
theorem Ztq{n:Nat}(hn:n≤14):∀p∈Zbp n,nmK p:=fun p hp=>by
 unfold Zbp at hp
 rcases List.mem_append.mp hp with z|z
 ·rcases List.mem_append.mp z with y|y
  ·rw [List.mem_singleton] at y;rw [y];exact .inl rfl
  ·obtain ⟨k,hk,rfl⟩:=List.mem_map.mp y
   rw [List.mem_range] at hk
   exact .inr (.inr (.inl (Zvw (by omega))))
 ·rw [List.mem_singleton] at z;rw [z];exact .inr (.inl rfl)
theorem Zqw{n:Nat}(hn:n≤14):(Zbp n).length≤39:=by
 unfold Zbp
 rw [List.length_append,List.length_append,List.length_map,List.length_range]
 simp
 omega
theorem Zw8{s:Str}{n m:Nat}(h:Zld s n)(l:n≤m):Zld s m:=let ⟨kd,c,k,a,b,e⟩:=h;⟨kd,c,k,a,by omega,e⟩
theorem Zwc{s:Str}{n:Nat}(h:nmD s n):Zld s n:=by
 obtain ⟨kd,hk,c,k,a,e⟩:=h
 refine ⟨kd,c,k,?_,a,e⟩
 have:∀kd∈Y6,96<kd.cps.toList.getD 0 0∧kd.cps.toList.getD 0 0<123:=by decide +kernel
 exact this kd hk
theorem Zrx{α β:Type}{R:α→β→Prop}{l1:List α}{l2:List β}(h:Paired R l1 l2):Paired R l1.reverse l2.reverse:=by
 induction h with
 | nil=>exact .nil
 | cons r _ ih=>rw [List.reverse_cons,List.reverse_cons];exact Paired.append ih (.cons r .nil)
theorem Zjt{α β:Type}{R:α→β→Prop}:∀(n:Nat) {l1:List α} {l2:List β},Paired R l1 l2→Paired R (l1.drop n) (l2.drop n)
 | 0,_,_,h=>h
 | _+1,_,_,.nil=>.nil
 | n+1,_,_,.cons _ t=>Zjt n t
theorem Zjo{α β:Type}{R:α→β→Prop}:∀(n:Nat) {l1:List α} {l2:List β},Paired R l1 l2→Paired R (l1.take n) (l2.take n)
 | 0,_,_,_=>.nil
 | _+1,_,_,.nil=>.nil
 | n+1,_,_,.cons r t=>.cons r (Zjo n t)
def Zq2(K:Frag):Sp:=fun vs H Q _=>∃(cl:Addr) (c:Int) (cs:List Int),vs=[.ref cl,.int c]∧SqL K H cl (cs.map V.int)∧(∀c∈cs,0≤c)∧cs.length≤63 ∧
 ∀(t pl jl sl:Addr) (H':Hp) (ps:List Zc) (js:List (Zc×Zc)) (sg:List (Str×Str×Str)),Same H H'→H' t=some (.tup [.ref pl,.ref jl,.ref sl])→Zs H' pl ps→Z1 H' jl js→Wn H' sl sg→Zbw ps js sg→Q (.ref t) H'
theorem Zgm(T:Tx K mg):Yf P w K mg base CX0 4 T.d__law_yard_by.f T.d__law_yard_by.fd ["_law_cells_here", "_law_cell"] (Zq2 K):=by
 refine T.d__law_yard_by.F.okW Xd (fun vs H Q E h=>?_) (fun cdv A outer s H vs Q E hr h=>?_)
 ·obtain ⟨cl,c,cs,rfl,_⟩:=h
  rfl
 ·obtain ⟨cl,c,cs,rfl,hS,hc0,hcl,q⟩:=h
  refine WSs.cut (fun σ H'=>σ=[some (.ref cl),some (.int c),none,none,none,none]∧H'=H) ?_ ?_
  ·refine WS.of (Yg (Zo (r:=X9 K) (Wo hr) (Zk Z6 (pv 1) Zd) Zd (Zx _)) Zy Z2) ⟨_,rfl,_,_,rfl,rfl,(by show (0:Int)<12;decide),.inl ⟨rfl,_,rfl,Yk (fun _=>?_) (fun _=>⟨rfl,rfl⟩)⟩⟩
   refine WSs.last (Z8 (Z5 (Zl3 T) hr rfl T.m__law_long T.d__law_long.F.kp T.d__law_long.b .nil Yn (Zb (Zk Yh (pv 1) Zd) Za))) ⟨_,rfl,_,_,rfl,rfl,⟨by decide,by decide⟩,_,rfl,fun t pl jl sl H' n m s1 hn h1 h3 e hP hJ hG _ _ _=>q t pl jl sl H' _ _ _ s1 e hP hJ hG ⟨Zqt hn,Zqw ?_,Ztq ?_,.inr ⟨n,m,hn,rfl,rfl⟩⟩⟩
   ·simp at hn;omega
   ·simp at hn;omega
  rintro σ H' ⟨rfl,hH'⟩
  rw [hH']
  refine WSs.step (Zn (i:=2) Xd.nd rfl (by first | exact Or.inl rfl | exact Or.inr rfl) (Z5 (Zmh T) hr rfl T.m__law_line T.d__law_line.F.kp T.d__law_line.b .nil Yn (Zb (pv 0) Za))) ⟨_,rfl,cl,cs,rfl,hS,hc0,fun t H1 pl jl ps js s1 e1 hP hJ n1 n2 net len nm=>?_⟩
  refine WSs.cut (fun σ H'=>∃t pl jl ps js,σ=[some (.ref cl),some (.int c),some (.ref t),none,none,none]∧Same H H'∧H' t=some (.tup [.ref pl,.ref jl])∧Zs H' pl ps∧Z1 H' jl js∧Net ps js []∧ps.length≤39∧∀p∈ps,nmK p) ?_ ?_
  ·refine WS.of (Yg (Zo (r:=X9 K) (Wo hr) (Zk Z6 (pv 1) Zd) Zd (Zx _)) Zy Z2) ⟨_,rfl,_,_,rfl,rfl,(by show (0:Int)<3;decide),.inl ⟨rfl,_,rfl,Yk (fun _=>?_) (fun _=>⟨t,pl,jl,ps,js,rfl,s1,e1,hP,hJ,net,by omega,fun p hp=>?_⟩)⟩⟩
   ·refine WSs.last (Zn (i:=2) Xd.nd rfl (by first | exact Or.inl rfl | exact Or.inr rfl) (Z5 (Zj7 T) hr rfl T.m__law_drawn T.d__law_drawn.F.kp T.d__law_drawn.b .nil Yn (Zb (pv 0) Za))) ⟨_,rfl,cl,cs,rfl,s1.seq hS,hc0,hcl,fun t H2 pl jl ps js _ s2 e2 hP hJ _ _ net len nm=>⟨t,pl,jl,ps,js,rfl,s1.trans s2,e2,hP,hJ,net,len,fun p hp=>?_⟩⟩
    rcases nm p hp with z|z
    ·exact .inr (.inr (.inl (Zwc z)))
    ·exact .inr (.inr (.inr z))
   ·rcases nm p hp with z|z|z
    ·exact .inl z
    ·exact .inr (.inl z)
    ·exact .inr (.inr (.inl (Zw8 z (by decide))))
  clear e1 hP hJ n1 n2 net len nm s1
  rintro σ H1 ⟨t,pl,jl,ps,js,rfl,s1,e1,hP,hJ,net,len,nm⟩
  refine WSs.step (Zej (pv 2) (Zax rfl (Zw (Zq (i:=3) Xd.nd rfl (by first | exact Or.inl rfl | exact Or.inr rfl)) (Zw (Zq (i:=4) Xd.nd rfl (by first | exact Or.inl rfl | exact Or.inr rfl)) Y8)))) ⟨_,rfl,t,_,rfl,SqT.of e1,rfl,_,_,rfl,_,_,rfl,rfl,?_⟩
  obtain ⟨us,hu,hus⟩:=id hP
  have hul:us.length=ps.length:=Paired.length hus
  obtain ⟨mx,hmx,hm1⟩:∃mx:Int,(if ((us.map V.ref).length:Int) >1 then ((us.map V.ref).length:Int) else 1)=mx∧0<mx:=by
   refine ⟨_,rfl,?_⟩
   split <;>omega
  have a0:=Int.emod_nonneg (c / 3) (show mx≠0 by omega)
  obtain ⟨at',hat⟩:∃k:Nat,c / 3%mx=(k:Int):=⟨(c / 3%mx).toNat,by omega⟩
  refine WSs.step (Zn (i:=5) Xd.nd rfl (by first | exact Or.inl rfl | exact Or.inr rfl) (Zk Z6 (Zk Yh (pv 1) Zd) (Zp (Zph rfl) (by rfl) T.n_max PyProof.Rows.boot_max (Zb Zd (Zb (Zp (r:=Xb K) Xf (by rfl) T.n_len PySem.boot_len (Zb (pv 3) Za)) Za))))) ⟨_,rfl,_,_,rfl,rfl,⟨by decide,by decide⟩,_,rfl,.inl ⟨pl,_,rfl,.inl (SqL.of hu),_,_,rfl,_,_,rfl,rfl,?_,?_⟩⟩
  ·show (0:Int)<(if ((us.map V.ref).length:Int) >1 then ((us.map V.ref).length:Int) else 1)
   rw [hmx];exact hm1
  show WSs _ _ _ [some (.ref cl),some (.int c),some (.ref t),some (.ref pl),some (.ref jl),some (.int (c / 3%(if ((us.map V.ref).length:Int) >1 then ((us.map V.ref).length:Int) else 1)))] H1
  rw [hmx,hat]
  refine WSs.cut (fun σ H'=>∃jl' js',σ=[some (.ref cl),some (.int c),some (.ref t),some (.ref pl),some (.ref jl'),some (.int (at':Int))]∧Same H1 H'∧Z1 H' jl' js'∧js'.Perm js) ?_ ?_
  ·obtain ⟨ws,hw,hws⟩:=id hJ
   refine WS.of (Yg (Zo (r:=X9 K) (Wo hr) (Zk Z6 (Zk Yh (pv 1) Zd) Zd) Zd (Zx _)) Zy Z2) ⟨_,rfl,_,_,rfl,rfl,⟨by decide,by decide⟩,_,_,rfl,rfl,(by show (0:Int)<2;decide),.inl ⟨rfl,_,rfl,Yk (fun _=>?_) (fun _=>⟨jl,js,rfl,Same.refl _,hJ,List.Perm.refl _⟩)⟩⟩
   refine WSs.last (Zn (i:=4) Xd.nd rfl (by first | exact Or.inl rfl | exact Or.inr rfl) (Zvs (ops:=fun l r=>[l,r]) (pv 4) (Wq (Zn3 Zkn Zd)) (fun _ _=>by with_unfolding_all rfl))) ⟨_,rfl,_,rfl,_,rfl,jl,_,rfl,rfl,SqL.of hw,fun jr H2 s2 n2 e2=>⟨jr,js.reverse,rfl,s2,⟨ws.reverse,by rw [e2,List.map_reverse],?_⟩,List.reverse_perm _⟩⟩
   exact Zrx (Paired.mapP hws fun _ _ r=>r.mono s2)
  rintro σ H2 ⟨jl',js',rfl,s2,hJ',hjp⟩
  refine WSs.last (Z8 (Zf (Zb (Zk Y3 (Xy (r:=Ze8 K) Zf6 (pv 3) (Wq (pv 5)) W4) (Xy (r:=Ze8 K) Zf6 (pv 3) W4 (Wq (pv 5)))) (Zb (pv 4) (Zb (Z5 (Ze9 T) hr rfl T.m__law_signals_by T.d__law_signals_by.F.kp T.d__law_signals_by.b .nil Yn (Zb (pv 3) (Zb (Zk Yh (pv 1) Zd) Za))) Za))))) ⟨_,rfl,_,rfl,_,rfl,.inr (.inl ⟨pl,_,rfl,SqL.of (s2.at hu),fun la H3 s3 n3 e3=>⟨_,rfl,_,rfl,_,rfl,.inr (.inl ⟨pl,_,rfl,SqL.of (s3.at (s2.at hu)),fun lb H4 s4 n4 e4=>.inr (.inr ⟨la,lb,_,_,rfl,rfl,s4.at e3,e4,?_,fun lc H5 s5 n5 e5=>?_⟩)⟩)⟩⟩)⟩
  ·rw [Zcw,Zf0,List.length_drop,List.length_take,List.length_map];exact sz (by omega)
  have s25:=s3.trans (s4.trans s5)
  have s15:=s2.trans s25
  refine ⟨_,rfl,_,rfl,_,rfl,_,_,rfl,rfl,⟨by decide,by decide⟩,pl,_,ps,rfl,hP.mono s15,by omega,fun n k e he _ _=>?_,fun sl H6 sg s6 n6 hG ok=>⟨sz (by simp),fun t' H7 s7 n7 e7=>?_⟩⟩
  ·obtain ⟨p,hp,e1⟩:=Zq9 he
   rw [e1]
   exact nmY.sig (nm p hp).nm
  rw [Zcw,Zf0,←List.map_drop,←List.map_take,←List.map_append] at e5
  have s57:=s6.trans s7
  have rot:(ps.drop at'++ps.take at').Perm ps:=by
   have:=List.perm_append_comm (l₁:=ps.drop at') (l₂:=ps.take at')
   rwa [List.take_append_drop] at this
  refine q t' lc jl' sl H7 (ps.drop at'++ps.take at') js' sg (s1.trans (s15.trans s57)) e7 ⟨us.drop at'++us.take at',s57.at e5,?_⟩ (hJ'.mono (s25.trans s57)) (hG.mono s7) ⟨Net.perm' net rot hjp,?_,fun p hp=>nm p (rot.mem_iff.mp hp),.inl ⟨ps,rot.symm,ok⟩⟩
  ·have:=Paired.mapP hus fun _ _ r=>Zu.mono (s15.trans s57) r
   exact Paired.append (Zjt _ this) (Zjo _ this)
  ·rw [rot.length_eq];exact len
theorem Zh2(T:Tx K mg){k:Nat}(h:4≤k:=by decide):Yf P w K mg base CX0 k T.d__law_yard_by.f T.d__law_yard_by.fd ["_law_cells_here", "_law_cell"] (Zq2 K):=(Zgm T).mono h
def Zaa(c:Nat):Bool:=decide (97≤c) && decide (c≤122)
def anC(c:Nat):Bool:=Zaa c || (decide (48≤c) && decide (c≤57))
def Zac(s:Str):Prop:=1≤s.length∧s.length≤6∧Zaa (s.cps.toList.headD 0)=true∧s.cps.toList.all anC=true
theorem Zj8:∀k<100,(Zb0 k).cps.toList.all anC=true:=by decide +kernel
theorem Zkp:∀i<26,Zaa (Zfe.getD i 0)=true:=by decide
theorem Zve{c:Nat}(h:Zaa c=true):anC c=true:=by unfold anC;rw [h];rfl
theorem Zb7{x y:Str}(hx:x.cps.toList.all anC=true)(hy:y.cps.toList.all anC=true):(x++y).cps.toList.all anC=true:=by
 rw [PySem.W.KT.app_list,List.all_append,hx,hy];rfl
theorem Zbb{x y:Str}(h:0<x.length):(x++y).cps.toList.headD 0=x.cps.toList.headD 0:=by
 rw [PySem.W.KT.app_list]
 cases e:x.cps.toList with
 | nil =>
  have:x.cps.size=0:=by rw [←Array.length_toList,e];rfl
  exact absurd h (by show ¬0<x.cps.size;omega)
 | cons a l=>rfl
theorem Zhl{c:Nat}(h:Zaa c=true):(⟨#[c]⟩:Str).cps.toList.all anC=true:=by
 show ([c]:List Nat).all anC=true
 simp [Zve h]
theorem Zsx{j:Nat}(h:j<100):Zac (W7 j):=by
 have h1:=Zbu j h
 have h2:=Zfj j h
 unfold W7
 refine ⟨?_,?_,?_,Zb7 (by decide +kernel) (Zj8 j h)⟩
 ·rw [PySem.Str.length_append];omega
 ·rw [PySem.Str.length_append,show ("e" :Str).length=1 by decide +kernel];omega
 ·rw [Zbb (by decide +kernel)];decide +kernel
theorem Zsl{n k:Nat}(hn:n<99)(hk:k<600):Zac (Zci n k):=by
 have h1:=Zog n hn
 have a1:=Zkp (k / 26) (by omega)
 have a2:=Zkp (k%26) (by omega)
 have hs:("s" :Str).length=1:=by decide +kernel
 have h0:0<(("s" :Str)++Str.ofString (toString (n:Int))).length:=by rw [PySem.Str.length_append,hs];omega
 have hf:(Str.ofString (toString (n:Int))).cps.toList.all anC=true:=Zj8 n (by omega)
 unfold Zci
 refine ⟨?_,?_,?_,Zb7 (Zb7 (Zb7 (by decide +kernel) hf) (Zhl a1)) (Zhl a2)⟩
 ·rw [PySem.Str.length_append,PySem.Str.length_append];omega
 ·rw [PySem.Str.length_append,PySem.Str.length_append,PySem.Str.length_append,hs]
  show 1+_+1+1≤6
  omega
 ·rw [Zbb (by rw [PySem.Str.length_append];omega),Zbb h0,Zbb (by rw [hs];decide)];decide +kernel
theorem Zx8:Zac "g" :=⟨by decide +kernel,by decide +kernel,by decide +kernel,by decide +kernel⟩
theorem Zx4:Zac "h" :=⟨by decide +kernel,by decide +kernel,by decide +kernel,by decide +kernel⟩
theorem Zfw{i:Int}(h0:0≤i)(h1:i<26):Zaa (Zcm i)=true:=Zkp i.toNat (by omega)
theorem Zvh:∀m<3,(Ze4 "0" m).cps.toList.all anC=true:=by decide +kernel
theorem Zoy{kd:Str}{c:Int}{k:Nat}(h0:96<kd.cps.toList.getD 0 0∧kd.cps.toList.getD 0 0<123)(hk:k<100):Zac (Ys kd c k):=by
 have l2:=Zbr (kind:=kd) (c:=c) hk
 refine ⟨by omega,Zpp hk,?_,?_⟩
 ·unfold Ys
  split
  ·rw [Zbb (by show 0<1;decide)]
   show Zaa (kd.cps.toList.getD 0 0)=true
   unfold Zaa
   simp only [Bool.and_eq_true,decide_eq_true_eq]
   omega
  ·have a0:=Int.emod_nonneg (c / 3) (show (26:Int)≠0 by decide)
   have a1:=Int.emod_lt_of_pos (c / 3) (show (0:Int)<26 by decide)
   rw [Zbb (by rw [PySem.Str.length_append,PySem.Str.length_append];show 0<1+1+_;omega),Zbb (by rw [PySem.Str.length_append];show 0<1+1;decide),Zbb (by show 0<1;decide)]
   exact Zfw a0 a1
 ·unfold Ys
  split
  ·refine Zb7 (Zhl ?_) (Zj8 k hk)
   unfold Zaa
   simp only [Bool.and_eq_true,decide_eq_true_eq]
   omega
  ·have a0:=Int.emod_nonneg (c / 3) (show (26:Int)≠0 by decide)
   have a1:=Int.emod_lt_of_pos (c / 3) (show (0:Int)<26 by decide)
   have b0:=Int.emod_nonneg (c / 78) (show (26:Int)≠0 by decide)
   have b1:=Int.emod_lt_of_pos (c / 78) (show (0:Int)<26 by decide)
   have c0:=Int.emod_nonneg (c / 2028) (show (3:Int)≠0 by decide)
   have c1:=Int.emod_lt_of_pos (c / 2028) (show (0:Int)<3 by decide)
   exact Zb7 (Zb7 (Zb7 (Zhl (Zfw a0 a1)) (Zhl (Zfw b0 b1))) (Zvh _ (by omega))) (Zj8 k hk)
theorem nmY.ok{s:Str}(h:nmY s):Zac s:=by
 rcases h with rfl|rfl|⟨kd,c,j,h0,hj,rfl⟩|⟨j,hj,rfl⟩
 ·exact Zx8
 ·exact Zx4
 ·exact Zoy h0 (by omega)
 ·exact Zsx (by omega)
theorem Zhd{ps:List Zc}{e:Zc}(h:e∈X1 ps):∃p∈ps,e.1=p.2∧p.1∈[("plain" :Str), "gate", "stop"]∧e.2∈Yc p.1:=by
 unfold X1 at h
 obtain ⟨p,hp,he⟩:=List.mem_flatMap.mp h
 by_cases z:p.1∈[("plain" :Str), "gate", "stop"]
 ·rw [if_pos z] at he
  obtain ⟨x,hx,rfl⟩:=List.mem_map.mp he
  exact ⟨p,hp,rfl,z,hx⟩
 ·rw [if_neg z] at he;cases he
theorem Ztg(k:Str):(Yc k).Nodup:=by
 unfold Yc
 split
 ·decide
 ·split
  ·decide
  ·split <;>decide
theorem Zns:∀{ps:List Zc},(ps.map Prod.snd).Nodup→(X1 ps).Nodup
 | [],_=>List.nodup_nil
 | p ::ps,h=>by
  rw [List.map_cons,List.nodup_cons] at h
  have ih:=Zns h.2
  show ((if p.1∈[("plain" :Str), "gate", "stop"] then (Yc p.1).map (fun x=>((p.2,x):Zc)) else [])++X1 ps).Nodup
  refine List.nodup_append.mpr ⟨?_,ih,fun a ha b hb e=>?_⟩
  ·split
   ·exact List.Pairwise.map _ (fun a b h z=>h (Prod.mk.inj z).2) (Ztg p.1)
   ·exact List.nodup_nil
  ·subst e
   obtain ⟨p',hp',e1,_⟩:=Zhd hb
   split at ha
   ·obtain ⟨x,_,rfl⟩:=List.mem_map.mp ha
    exact h.1 (List.mem_map.mpr ⟨p',hp',e1.symm⟩)
   ·cases ha
structure Zbe(ps:List Zc)(sg:List (Str×Str×Str)):Prop where
 name:∀q∈sg,Zac q.1
 nd:(sg.map Prod.fst).Nodup
 one:(sg.map Prod.snd).Nodup
 at_:∀q∈sg,∃p∈ps,p.2=q.2.1∧p.1∈[("plain" :Str), "gate", "stop"]∧q.2.2∈Yc p.1
 len:sg.length≤40
theorem Zcd.sigs{ps:List Zc}{sg:List (Str×Str×Str)}(h:Zcd (X1 ps) (X1 ps).length sg)(nd:(ps.map Prod.snd).Nodup)(nm:∀p∈ps,nmY p.2)(hl:ps.length≤45):Zbe ps sg:=by
 have sub:=h.at_
 rw [List.take_length] at sub
 have hb:=Ze2 ps
 have mem:∀q∈sg,((q.2.1,q.2.2):Zc)∈X1 ps:=fun q hq=>sub.subset (List.mem_map.mpr ⟨q,hq,rfl⟩)
 refine ⟨fun q hq=>?_,h.nd,List.Nodup.sublist sub (Zns nd),fun q hq=>?_,h.len⟩
 ·rcases h.name q hq with z|⟨n,k,a,b,c⟩
  ·obtain ⟨p,hp,e,_⟩:=Zhd (mem q hq)
   rw [z,show q.2.1=p.2 from e]
   exact nmY.ok (nm p hp)
  ·rw [c];exact Zsl a (by omega)
 ·obtain ⟨p,hp,e,k,m⟩:=Zhd (mem q hq)
  exact ⟨p,hp,e.symm,k,m⟩
theorem Zbe.perm{ps ps':List Zc}{sg:List (Str×Str×Str)}(h:Zbe ps' sg)(hp:ps'.Perm ps):Zbe ps sg :=
 ⟨h.name,h.nd,h.one,fun q hq=>let ⟨p,a,b⟩:=h.at_ q hq;⟨p,hp.mem_iff.mp a,b⟩,h.len⟩
theorem Zpe{n:Nat}(m:Nat)(hn:n∈[9,10,11,12,13,14]):Zbe (Zbp n) ((Zdq n).take m):=by
 have h1:9≤n∧n≤14:=by simp at hn;omega
 have nd:∀n∈[9,10,11,12,13,14],((Zdq n).map Prod.snd).Nodup:=by decide +kernel
 have sub:=List.take_sublist m (Zdq n)
 have row:∀q∈Zdq n,Zac q.1∧∃p∈Zbp n,p.2=q.2.1∧p.1∈[("plain" :Str), "gate", "stop"]∧q.2.2∈Yc p.1:=by
  intro q hq
  unfold Zdq at hq
  simp only [List.mem_cons,List.mem_nil_iff,or_false] at hq
  rcases hq with rfl|rfl|rfl
  ·exact ⟨⟨by decide +kernel,by decide +kernel,by decide +kernel,by decide +kernel⟩,("gate", "g"),by unfold Zbp;simp,rfl,by decide,by decide⟩
  ·exact ⟨⟨by decide +kernel,by decide +kernel,by decide +kernel,by decide +kernel⟩,("gate", "h"),by unfold Zbp;simp,rfl,by decide,by decide⟩
  ·have e1:Zac "end" :=⟨by decide +kernel,by decide +kernel,by decide +kernel,by decide +kernel⟩
   have e2:("plain" :Str)∈[("plain" :Str), "gate", "stop"]:=by decide
   have e3:("b" :Str)∈Yc "plain" :=by decide
   exact ⟨e1,("plain",Zad (n-1)),by unfold Zbp;exact List.mem_append_left _ (List.mem_append_right _ (List.mem_map.mpr ⟨n-1,List.mem_range.mpr (by omega),rfl⟩)),rfl,e2,e3⟩
 have nf:((Zdq n).map Prod.fst).Nodup:=by
  show ([("go" :Str), "back", "end"]:List Str).Nodup
  decide +kernel
 refine ⟨fun q hq=>(row q (sub.subset hq)).1,List.Nodup.sublist (sub.map _) nf,List.Nodup.sublist (sub.map _) (nd n hn),fun q hq=>(row q (sub.subset hq)).2,?_⟩
 have:=sub.length_le
 exact Nat.le_trans this (by show 3≤40;decide)
theorem Zbw.sigsV{ps:List Zc}{js:List (Zc×Zc)}{sg:List (Str×Str×Str)}(h:Zbw ps js sg):Zbe ps sg:=by
 rcases h.sigs with ⟨ps',hp,ok⟩|⟨n,m,hn,rfl,rfl⟩
 ·exact (ok.sigs ((hp.map _).nodup_iff.mpr h.net.nd) (fun p hm=>(h.name p (hp.mem_iff.mp hm)).nm) (by rw [hp.length_eq];have:=h.len;omega)).perm hp
 ·exact Zpe m hn
def Zc7(K:Frag):Sp:=fun vs H Q _=>∃(x C dx:Addr) (nm:Str),vs=[.ref x,.str nm]∧H x=some (.ins C dx [])∧Cls K C∧X6 K C "name" ∧Q .non (upd H x (.ins C dx [("name",.str nm)]))
theorem Zfy(T:Tx K mg):Yf P w K mg base CX0 1 T.d_Part___init__.f T.d_Part___init__.fd ["self", "name"] (Zc7 K):=by
 refine T.d_Part___init__.F.okW Zf2 (fun vs H Q E h=>?_) (fun cdv A outer s H vs Q E hr h=>?_)
 ·obtain ⟨x,C,dx,nm,rfl,_⟩:=h
  rfl
 ·obtain ⟨x,C,dx,nm,rfl,hx,c,n1,q⟩:=h
  exact WSs.last (Zid (pv 0) (pv 1) rfl) ⟨_,rfl,_,rfl,x,C,dx,[],rfl,hx,c,n1,by simp,q⟩
theorem Xm(T:Tx K mg){k:Nat}(h:1≤k:=by decide):Yf P w K mg base CX0 k T.d_Part___init__.f T.d_Part___init__.fd ["self", "name"] (Zc7 K):=(Zfy T).mono h
def Zeu(H:Hp)(C x:Addr)(nm:Str):Prop:=∃dx,H x=some (.ins C dx [("name",.str nm)])
def mrP(C:Addr):List V→Hp→VK→Prop:=fun vs H Q=>∃nm:Str,vs=[.str nm]∧∀x H',Same H H'→H x=none→Zeu H' C x nm→Q (.ref x) H'
theorem mkP{C:Addr}(c:Cls K C) (n:X6 K C "name"):∀vs H Q,mrP C vs H Q→∀x dx,H x=none→H dx=none→dx≠x→Zc7 K (.ref x ::(vs++[])) (upd (upd H dx (.own x)) x (.ins C dx [])) (fun v H2=>v=.non∧Q (.ref x) H2) E0:=by
 rintro vs H Q ⟨nm,rfl,q⟩ x dx h1 h2 ne
 refine ⟨x,C,dx,nm,rfl,Zj,c,n,rfl,q x _ (fun b o e=>?_) h1 ⟨dx,Zj⟩⟩
 rw [Zi (Zh e h1),Zi (Zh e h1),Zi (Zh e h2)]
 exact e
abbrev Zn9(T:Tx K mg):List V→Hp→VK→Prop:=mrP T.CPart
theorem Zs8(T:Tx K mg):∀vs H Q,Zn9 T vs H Q→∀x dx,H x=none→H dx=none→dx≠x→Zc7 K (.ref x ::(vs++[])) (upd (upd H dx (.own x)) x (.ins T.CPart dx [])) (fun v H2=>v=.non∧Q (.ref x) H2) E0:=mkP T.clPart T.nPart_name
abbrev Zl9(T:Tx K mg):List V→Hp→VK→Prop:=mrP T.CPlain
theorem Zrs(T:Tx K mg):∀vs H Q,Zl9 T vs H Q→∀x dx,H x=none→H dx=none→dx≠x→Zc7 K (.ref x ::(vs++[])) (upd (upd H dx (.own x)) x (.ins T.CPlain dx [])) (fun v H2=>v=.non∧Q (.ref x) H2) E0:=mkP T.clPlain T.nPlain_name
abbrev Zof(T:Tx K mg):List V→Hp→VK→Prop:=mrP T.CStop
theorem Zsr(T:Tx K mg):∀vs H Q,Zof T vs H Q→∀x dx,H x=none→H dx=none→dx≠x→Zc7 K (.ref x ::(vs++[])) (upd (upd H dx (.own x)) x (.ins T.CStop dx [])) (fun v H2=>v=.non∧Q (.ref x) H2) E0:=mkP T.clStop T.nStop_name
abbrev Zn2(T:Tx K mg):List V→Hp→VK→Prop:=mrP T.CGate
theorem Ztc(T:Tx K mg):∀vs H Q,Zn2 T vs H Q→∀x dx,H x=none→H dx=none→dx≠x→Zc7 K (.ref x ::(vs++[])) (upd (upd H dx (.own x)) x (.ins T.CGate dx [])) (fun v H2=>v=.non∧Q (.ref x) H2) E0:=mkP T.clGate T.nGate_name
abbrev Zjr(T:Tx K mg):List V→Hp→VK→Prop:=mrP T.CPoints
theorem Zpc(T:Tx K mg):∀vs H Q,Zjr T vs H Q→∀x dx,H x=none→H dx=none→dx≠x→Zc7 K (.ref x ::(vs++[])) (upd (upd H dx (.own x)) x (.ins T.CPoints dx [])) (fun v H2=>v=.non∧Q (.ref x) H2) E0:=mkP T.clPoints T.nPoints_name
abbrev Zlx(T:Tx K mg):List V→Hp→VK→Prop:=mrP T.CCross
theorem Zsb(T:Tx K mg):∀vs H Q,Zlx T vs H Q→∀x dx,H x=none→H dx=none→dx≠x→Zc7 K (.ref x ::(vs++[])) (upd (upd H dx (.own x)) x (.ins T.CCross dx [])) (fun v H2=>v=.non∧Q (.ref x) H2) E0:=mkP T.clCross T.nCross_name
def Zcf(T:Tx K mg)(k:Str)(C:Addr):Prop:=(k = "points" ∧C=T.CPoints)∨(k = "cross" ∧C=T.CCross)∨(k = "gate" ∧C=T.CGate)∨(k = "stop" ∧C=T.CStop)∨(k = "plain" ∧(C=T.CPart∨C=T.CPlain))
def Zrc(T:Tx K mg):Sp:=fun vs H Q _=>∃k nm:Str,vs=[.str k,.str nm]∧k∈Y6∧nm.length≤100∧∀(x C:Addr) (H':Hp),Same H H'→H x=none→Zcf T k C→Zeu H' C x nm→Q (.ref x) H'
theorem Zks(T:Tx K mg):Yf P w K mg base CX0 3 T.d__law_part.f T.d__law_part.fd ["_law_kind", "_law_name"] (Zrc T):=by
 refine T.d__law_part.F.okW Zki (fun vs H Q E h=>?_) (fun cdv A outer s H vs Q E hr h=>?_)
 ·obtain ⟨k,nm,rfl,_⟩:=h
  rfl
 ·obtain ⟨k,nm,rfl,hk,hl,q⟩:=h
  refine WSs.cut (fun σ H'=>σ=[some (.str k),some (.str nm)]∧H'=H∧k ≠ "points") ?_ ?_
  ·refine WS.of (Yg (Zo (r:=X9 K) (Wo hr) (pv 0) Ze (Zx _)) Zy Z2) ⟨_,rfl,.inl ⟨rfl,_,rfl,Yk (fun hc=>?_) (fun hc=>⟨rfl,rfl,fun z=>hc (by rw [z];simp)⟩)⟩⟩
   have hc:k = "points" :=V.str.inj (of_decide_eq_true hc)
   exact WSs.last (Z8 (Zap (Zjr T) T.mkPoints (Xm T) hr rfl T.mPoints T.d_Part___init__.b .nil Yn (Zpc T) (Zb (pv 1) Za))) ⟨_,rfl,nm,rfl,fun x H' s1 n1 o=>q x _ H' s1 n1 (.inl ⟨hc,rfl⟩) o⟩
  rintro σ H1 ⟨rfl,hH1,nk0⟩
  rw [hH1]
  refine WSs.cut (fun σ H'=>σ=[some (.str k),some (.str nm)]∧H'=H∧k ≠ "cross") ?_ ?_
  ·refine WS.of (Yg (Zo (r:=X9 K) (Wo hr) (pv 0) Ze (Zx _)) Zy Z2) ⟨_,rfl,.inl ⟨rfl,_,rfl,Yk (fun hc=>?_) (fun hc=>⟨rfl,rfl,fun z=>hc (by rw [z];simp)⟩)⟩⟩
   have hc:k = "cross" :=V.str.inj (of_decide_eq_true hc)
   exact WSs.last (Z8 (Zap (Zlx T) T.mkCross (Xm T) hr rfl T.mCross T.d_Part___init__.b .nil Yn (Zsb T) (Zb (pv 1) Za))) ⟨_,rfl,nm,rfl,fun x H' s1 n1 o=>q x _ H' s1 n1 (.inr (.inl ⟨hc,rfl⟩)) o⟩
  rintro σ H2 ⟨rfl,hH2,nk1⟩
  rw [hH2]
  refine WSs.cut (fun σ H'=>σ=[some (.str k),some (.str nm)]∧H'=H∧k ≠ "gate") ?_ ?_
  ·refine WS.of (Yg (Zo (r:=X9 K) (Wo hr) (pv 0) Ze (Zx _)) Zy Z2) ⟨_,rfl,.inl ⟨rfl,_,rfl,Yk (fun hc=>?_) (fun hc=>⟨rfl,rfl,fun z=>hc (by rw [z];simp)⟩)⟩⟩
   have hc:k = "gate" :=V.str.inj (of_decide_eq_true hc)
   exact WSs.last (Z8 (Zap (Zn2 T) T.mkGate (Xm T) hr rfl T.mGate T.d_Part___init__.b .nil Yn (Ztc T) (Zb (pv 1) Za))) ⟨_,rfl,nm,rfl,fun x H' s1 n1 o=>q x _ H' s1 n1 (.inr (.inr (.inl ⟨hc,rfl⟩))) o⟩
  rintro σ H3 ⟨rfl,hH3,nk2⟩
  rw [hH3]
  refine WSs.cut (fun σ H'=>σ=[some (.str k),some (.str nm)]∧H'=H∧k ≠ "stop") ?_ ?_
  ·refine WS.of (Yg (Zo (r:=X9 K) (Wo hr) (pv 0) Ze (Zx _)) Zy Z2) ⟨_,rfl,.inl ⟨rfl,_,rfl,Yk (fun hc=>?_) (fun hc=>⟨rfl,rfl,fun z=>hc (by rw [z];simp)⟩)⟩⟩
   have hc:k = "stop" :=V.str.inj (of_decide_eq_true hc)
   exact WSs.last (Z8 (Zap (Zof T) T.mkStop (Xm T) hr rfl T.mStop T.d_Part___init__.b .nil Yn (Zsr T) (Zb (pv 1) Za))) ⟨_,rfl,nm,rfl,fun x H' s1 n1 o=>q x _ H' s1 n1 (.inr (.inr (.inr (.inl ⟨hc,rfl⟩)))) o⟩
  rintro σ H4 ⟨rfl,hH4,nk3⟩
  rw [hH4]
  have hp:k = "plain" :=by
   unfold Y6 at hk
   simp only [List.mem_cons,List.mem_nil_iff,or_false] at hk
   rcases hk with z|z|z|z|z
   ·exact z
   ·exact absurd z nk0
   ·exact absurd z nk1
   ·exact absurd z nk2
   ·exact absurd z nk3
  refine WSs.cut (fun σ H'=>σ=[some (.str k),some (.str nm)]∧Same H H') ?_ ?_
  ·refine WS.of (Yg (Zo (r:=Zgu K) (Zh5 hr) (Xy (r:=Ze8 K) Zf6 (pv 1) (Wq (Zn3 Zkn Zd)) W4) (Zl (Zb Ze (Zb Ze Za))) (by with_unfolding_all rfl)) Zy Z2) ⟨_,rfl,_,rfl,_,rfl,.inr (.inr ⟨nm,rfl,sz (by omega),sz (by simp),fun l H5 s5 n5 e5=>.inl ⟨l,_,rfl,.inl (SqL.of e5),rfl,rfl,_,rfl,Yk (fun _=>?_) (fun _=>⟨rfl,s5⟩)⟩⟩)⟩
   exact WSs.last (Z8 (Zap (Zn9 T) T.mkPart (Xm T) hr rfl T.mPart T.d_Part___init__.b .nil Yn (Zs8 T) (Zb (pv 1) Za))) ⟨_,rfl,nm,rfl,fun x H' s1 n1 o=>q x _ H' (s5.trans s1) (s5.free n1) (.inr (.inr (.inr (.inr ⟨hp,.inl rfl⟩)))) o⟩
  rintro σ H5 ⟨rfl,s5⟩
  exact WSs.last (Z8 (Zap (Zl9 T) T.mkPlain (Xm T) hr rfl T.mPlain T.d_Part___init__.b .nil Yn (Zrs T) (Zb (pv 1) Za))) ⟨_,rfl,nm,rfl,fun x H' s1 n1 o=>q x _ H' (s5.trans s1) (s5.free n1) (.inr (.inr (.inr (.inr ⟨hp,.inr rfl⟩)))) o⟩
theorem Zdk(T:Tx K mg){k:Nat}(h:3≤k:=by decide):Yf P w K mg base CX0 k T.d__law_part.f T.d__law_part.fd ["_law_kind", "_law_name"] (Zrc T):=(Zks T).mono h
section
variable {α β κ:Type} [DecidableEq κ] {f:α→κ} {R R':α→β→V→Prop} {kvs:List (κ×V)} {qs:List (α×β)}
def DP(f:α→κ)(R:α→β→V→Prop)(kvs:List (κ×V))(qs:List (α×β)):Prop:=Paired (fun (kv:κ×V) (q:α×β)=>kv.1=f q.1∧R q.1 q.2 kv.2) kvs qs
theorem DP.none(h:DP f R kvs qs)(inj:∀a b,f a=f b→a=b){a:α}(n:a∉qs.map Prod.fst):Y1 kvs (f a)=none:=by
 unfold DP at h
 induction h with
 | nil=>rfl
 | cons r t ih =>
  rw [List.map_cons,List.mem_cons,not_or] at n
  rw [Zdp (fun z=>n.1 (inj _ _ (r.1.symm.trans z)).symm)]
  exact ih n.2
theorem DP.get(h:DP f R kvs qs)(inj:∀a b,f a=f b→a=b)(nd:(qs.map Prod.fst).Nodup){a:α}{b:β}(m:(a,b)∈qs):∃v,Y1 kvs (f a)=some v∧R a b v:=by
 unfold DP at h
 induction h with
 | nil=>cases m
 | @cons kv q _ _ r t ih =>
  rw [List.map_cons,List.nodup_cons] at nd
  rcases List.mem_cons.mp m with z|z
  ·rw [←z] at r
   exact ⟨_,Zfk r.1,r.2⟩
  ·have:a≠q.1:=fun e=>nd.1 (by rw [←e];exact List.mem_map.mpr ⟨_,z,rfl⟩)
   rw [Zdp (fun e=>this (inj _ _ (r.1.symm.trans e)).symm)]
   exact ih nd.2 z
theorem DP.put(h:DP f R kvs qs){a:α}{b:β}{v:V}(n:Y1 kvs (f a)=Option.none)(r:R a b v):DP f R (Zb6 kvs (f a) v) (qs++[(a,b)]):=by
 rw [Zqp v n]
 exact Paired.snoc h ⟨rfl,r⟩
theorem DP.len(h:DP f R kvs qs):kvs.length=qs.length:=Paired.length h
theorem DP.mapR(h:DP f R kvs qs)(m:∀a b v,R a b v→R' a b v):DP f R' kvs qs:=Paired.mapP h fun _ _ z=>⟨z.1,m _ _ _ z.2⟩
end
def Yp(e:Zc):List Key:=[.inr e.1,.inr e.2]
theorem Zab(a b:Zc)(h:Yp a=Yp b):a=b:=by
 obtain ⟨a1,a2⟩:=a
 obtain ⟨b1,b2⟩:=b
 unfold Yp at h
 simp only [List.cons.injEq,Sum.inr.injEq,and_true] at h
 rw [h.1,h.2]
def Zcl(s:Str):Key:=.inr s
theorem Ze5(a b:Str)(h:Zcl a=Zcl b):a=b:=Sum.inr.inj h
def qP(ps:List Zc):List (Str×Str):=ps.map fun p=>(p.2,p.1)
def qA(ps:List Zc):List (Zc×Str):=ps.flatMap fun p=>(Yc p.1).map fun e=>((p.2,e),p.1)
def qJ(js:List (Zc×Zc)):List (Zc×Zc):=js.flatMap fun j=>[(j.1,j.2),(j.2,j.1)]
def qS(sg:List (Str×Str×Str)):List (Str×Zc):=sg.map fun q=>(q.1,(q.2.1,q.2.2))
def qO(sg:List (Str×Str×Str)):List (Zc×Str):=sg.map fun q=>((q.2.1,q.2.2),q.1)
theorem Zmp(ps:List Zc):(qP ps).map Prod.fst=ps.map Prod.snd:=by unfold qP;rw [List.map_map];rfl
theorem Zhn(ps:List Zc):(qA ps).map Prod.fst=Ye ps:=by
 unfold qA Ye
 rw [List.map_flatMap]
 simp only [List.map_map]
 rfl
theorem Zav(js:List (Zc×Zc)):(qJ js).map Prod.fst=Yr js:=by
 unfold qJ Yr
 rw [List.map_flatMap]
 rfl
theorem Zmt(sg:List (Str×Str×Str)):(qS sg).map Prod.fst=sg.map Prod.fst:=by unfold qS;rw [List.map_map];rfl
theorem Zuo(sg:List (Str×Str×Str)):(qO sg).map Prod.fst=sg.map Prod.snd:=by unfold qO;rw [List.map_map];rfl
def RP(T:Tx K mg)(H:Hp):Str→Str→V→Prop:=fun nm k v=>∃x C,v=.ref x∧Zcf T k C∧Zeu H C x nm
def RA(T:Tx K mg)(H:Hp):Zc→Str→V→Prop:=fun e k v=>∃x C,v=.ref x∧Zcf T k C∧Zeu H C x e.1
def RJ(H:Hp):Zc→Zc→V→Prop:=fun _ e v=>∃t,v=.ref t∧Zu H t e
def RS(H:Hp):Str→Zc→V→Prop:=fun _ e v=>∃t,v=.ref t∧Zu H t e
def RO:Zc→Str→V→Prop:=fun _ s v=>v=.str s
theorem Zeu.mono{H H':Hp}{C x:Addr}{nm:Str}(e:Same H H')(h:Zeu H C x nm):Zeu H' C x nm:=let ⟨dx,z⟩:=h;⟨dx,e.at z⟩
theorem RP.mono{T:Tx K mg}{H H':Hp}(e:Same H H')(a b:Str)(v:V)(h:RP T H a b v):RP T H' a b v:=let ⟨x,C,h1,h2,h3⟩:=h;⟨x,C,h1,h2,h3.mono e⟩
theorem RJ.mono{H H':Hp}(e:Same H H')(a b:Zc)(v:V)(h:RJ H a b v):RJ H' a b v:=let ⟨t,h1,h2⟩:=h;⟨t,h1,h2.mono e⟩
theorem RS.mono{H H':Hp}(e:Same H H')(a:Str)(b:Zc)(v:V)(h:RS H a b v):RS H' a b v:=let ⟨t,h1,h2⟩:=h;⟨t,h1,h2.mono e⟩
theorem Zg2{H:Hp}{t:Addr}{e:Zc}(h:Zu H t e):H t=some (.tup ((Yp e).map kV)):=h
abbrev Zqn:Str := "abcdefghijklmnopqrstuvwxyz"
abbrev Zu9:Str := "0123456789"
theorem Ztm:∀c,c<128→(!(Builtin.Str.occurrences Zqn ⟨#[c]⟩ 0 Zqn.length 1).isEmpty)=Zaa c:=by decide +kernel
theorem Zxp:∀c,c<128→(!(Builtin.Str.occurrences (Zqn++Zu9) ⟨#[c]⟩ 0 (Zqn++Zu9).length 1).isEmpty)=anC c:=by decide +kernel
theorem Zpo:Zqn.length+Zu9.length≤sizeLine:=by rw [sizeLine_eq];decide +kernel
theorem Zxk{c:Nat}(h:anC c=true):c<128:=by
 unfold anC Zaa at h
 simp at h
 omega
def Xe(x:Str):Bool:=(decide (1≤x.length) && decide (x.length≤6)) && (Zaa (x.cps.toList.headD 0) && x.cps.toList.all anC)
theorem Zac.b{x:Str}(h:Zac x):Xe x=true:=by
 obtain ⟨h1,h2,h3,h4⟩:=h
 unfold Xe
 rw [decide_eq_true h1,decide_eq_true h2,h3,h4]
 rfl
theorem Zac.low{x:Str}(h:Zac x):∀c∈x.cps.toList,c<128:=fun c hc=>Zxk (List.all_eq_true.mp h.2.2.2 c hc)
def Zwy(K:Frag)(H:Hp)(v:V)(b:Bool):Prop:=(∃x:Str,v=.str x∧(∀c∈x.cps.toList,c<128)∧x.length≤100∧Xe x=b)∨(b=false∧∃t,Zcz K H v t∧kitOne K t (.type "str")=some false)
def Zlj(K:Frag):Sp:=fun vs H Q _=>∃(v:V) (b:Bool),vs=[v]∧Zwy K H v b∧∀H',Same H H'→Q (.bl b) H'
theorem Zm5(T:Tx K mg):Yf P w K mg base CX0 1 T.d_is_name.f T.d_is_name.fd ["thing"] (Zlj K):=by
 refine T.d_is_name.F.okW Znm (fun vs H Q E h=>?_) (fun cdv A outer s H vs Q E hr h=>?_)
 ·obtain ⟨x,b,rfl,_⟩:=h
  rfl
 ·obtain ⟨v,b,rfl,hA,q⟩:=h
  rcases hA with ⟨x,rfl,hasc,hlen,hb⟩|⟨rfl,t,ty,k⟩
  ·have hx:x.cps.toList.length=x.length:=Array.length_toList
   refine WSs.step (Yg (Zdh (Zcg (Zp (r:=Zp8 K) Zcv (by rfl) T.n_isinstance PyProof.Rows.boot_isinstance (Zb (pv 0) (Zb (Zd0 (v:=.ty "str") (by rfl) T.n_str PyProof.Rows.boot_str rfl) Za))))) Zy Z2) ⟨_,rfl,_,_,true,_,rfl,Zcz.str x,.inl ⟨_,rfl,T.kSS⟩,_,rfl,Yk (fun z=>absurd z (by decide)) (fun _=>?_)⟩
   refine WSs.step (Yg (PW.pt (Zro (Zo (r:=X9 K) (Wo hr) (pv 0) Ze (Zx _)) (Znb (Zo Zgf (Zp (r:=Xb K) Xf (by rfl) T.n_len PySem.boot_len (Zb (pv 0) Za)) (Zfo (by rfl) T.c_LONGEST_NAME) (Zx _))))) Zy Z2) ⟨_,rfl,.inl ⟨rfl,_,rfl,Yk (fun z=>?_) (fun z0=>⟨_,rfl,.inr (.inl ⟨x,rfl,sz (by omega),_,_,rfl,rfl,_,rfl,Yk (fun z=>?_) (fun z1=>?_)⟩)⟩)⟩⟩
   ·have e:x=("" :Str):=V.str.inj (of_decide_eq_true z)
    have:b=false:=by rw [←hb,e];decide +kernel
    rw [this] at q
    exact WSs.last (Z8 Zhb) (q H (Same.refl _))
   ·have z:(6:Int)<(x.length:Int):=of_decide_eq_true z
    have:b=false:=by
     rw [←hb]
     unfold Xe
     rw [decide_eq_false (show ¬x.length≤6 by omega),Bool.and_false]
     rfl
    rw [this] at q
    exact WSs.last (Z8 Zhb) (q H (Same.refl _))
   have h6:¬(6:Int)<(x.length:Int):=fun z=>z1 (decide_eq_true z)
   have hne:x.cps.toList≠[]:=fun z=>z0 (decide_eq_true (by
    have:x=("" :Str):=PyProof.Rows.ext_toList (z.trans (by decide +kernel))
    rw [this]))
   obtain ⟨c,cs,hcs⟩:∃c cs,x.cps.toList=c ::cs:=by
    cases e:x.cps.toList with
    | nil=>exact absurd e hne
    | cons c cs=>exact ⟨c,cs,rfl⟩
   have hl1:1≤x.length:=by rw [←hx,hcs,List.length_cons];omega
   refine WSs.last (Z8 (Zf9 (Zb9 (r:=Zgu K) (Zh5 hr) (Zt (r:=rIx K) Zm (pv 0) Zd (fun _ _=>rfl)) (Zg5 (by rfl) T.c_LETTERS) (by with_unfolding_all rfl)) (Zko (Zp (r:=Zwl K) (Zqa rfl) (by rfl) T.n_all PyProof.Rows.boot_all (Zb (W2 (N':=["sign"]) rfl (Z9.std 1 [] rfl (by decide +kernel) (by decide +kernel) rfl trivial rfl rfl trivial) (Zun (pv 0)) (fun _ _ _ _=>(Zq (i:=0) (by show (["sign"]:List Str).Nodup;decide +kernel) rfl (Or.inl (lookup_relabel_local rfl)) (Or.inr (lookup_relabel_local rfl)))) (fun _ _ _ _=>W9) (fun _ _ _ _=>(Zb9 (r:=Zgu K) (Zh5 hr) (pv 0) (Zk Y3 (Zg5 (by rfl) T.c_LETTERS) (Zg5 (by rfl) T.c_FIGURES)) (by with_unfolding_all rfl)))) Za))))) ⟨_,rfl,.inr (.inr ⟨x,0,c,rfl,rfl,sz (by omega),by rw [hcs];exact Zr (j:=0) rfl,.inr (.inr (.inl ⟨_,_,rfl,rfl,_,rfl,?_⟩))⟩)⟩
   rw [Ztm c (hasc c (by rw [hcs];exact List.mem_cons_self))]
   have hb2:b=(Zaa c && x.cps.toList.all anC):=by
    rw [←hb]
    unfold Xe
    rw [decide_eq_true hl1,decide_eq_true (show x.length≤6 by omega),hcs]
    rfl
   cases hL:Zaa c with
   | false =>
    refine Zxg ?_
    rw [hb2,hL] at q
    exact q H (Same.refl _)
   | true =>
    rw [hL,Bool.true_and] at hb2
    refine Znp ⟨_,rfl,x,rfl,?_,fun D hD=>?_⟩
    ·rw [Array.all_eq_true']
     exact fun c hc=>decide_eq_true (hasc c (Array.mem_toList_iff.mpr hc))
    refine Zrl (fun i ys H'=>ys=(x.cps.toList.take i).map (fun c=>V.bl (anC c))∧H' D=some (.lst ys)∧Same H H') ⟨rfl,Zj,fun b' o e=>by rw [Zi (Zh e hD)];exact e⟩ ?_ ?_
    ·rintro i c' ys H' hi ⟨rfl,hD',sm⟩
     have hi':x.cps.toList[i]? =some c':=by simpa using hi
     have hc':c'<128:=hasc c' (List.mem_of_getElem? hi')
     refine ⟨Wr.set rfl,_,rfl,.inr (.inl ⟨_,_,rfl,rfl,Zpo,.inr (.inr (.inl ⟨_,_,rfl,rfl,hD',?_,?_⟩))⟩)⟩
     ·rw [List.length_map,List.length_take,sizeLine_eq];omega
     ·rw [Zxp c' hc']
      refine ⟨?_,Zj,fun b' o e=>?_⟩
      ·rw [List.take_add_one,hi']
       simp
      ·rw [Zi (Zh e hD)]
       exact sm b' o e
    ·rintro ys H' ⟨rfl,hD',sm⟩
     refine ⟨D,(x.cps.toList.map anC),rfl,?_,?_⟩
     ·have e:(List.map anC x.cps.toList).map V.bl=List.map (fun c=>V.bl (anC c)) (List.take x.cps.size x.cps.toList):=by
       rw [List.map_map,List.take_of_length_le (by simp)]
       rfl
      rw [e]
      exact SqL.of hD'
     ·have e:(List.map anC x.cps.toList).all id=b:=by rw [List.all_map,hb2];rfl
      rw [e]
      exact q H' sm
  ·refine WSs.step (Yg (Zdh (Zcg (Zp (r:=Zp8 K) Zcv (by rfl) T.n_isinstance PyProof.Rows.boot_isinstance (Zb (pv 0) (Zb (Zd0 (v:=.ty "str") (by rfl) T.n_str PyProof.Rows.boot_str rfl) Za))))) Zy Z2) ⟨_,rfl,_,_,false,t,rfl,ty,.inl ⟨_,rfl,k⟩,_,rfl,Yk (fun _=>?_) (fun z=>absurd rfl z)⟩
   exact WSs.last (Z8 Zhb) (q H (Same.refl _))
theorem Zo5(T:Tx K mg){k:Nat}(h:1≤k:=by decide):Yf P w K mg base CX0 k T.d_is_name.f T.d_is_name.fd ["thing"] (Zlj K):=(Zm5 T).mono h
def Zes(k:Str):Bool:=decide (k∈[("plain" :Str), "gate", "stop"])
def spL(xs:List V):Sp:=fun vs H Q _=>∃v,vs=[v]∧∀p H',Same H H'→H p=none→H' p=some (.lst xs)→Q (.ref p) H'
def spB(b:Bool):Sp:=fun vs H Q _=>∃v,vs=[v]∧Q (.bl b) H
theorem Zfi(T:Tx K mg):Yf P w K mg base CX0 1 T.d_Part_ends.f T.d_Part_ends.fd ["self"] (spL ((["a", "b"]:List Str).map V.str)):=by
 refine T.d_Part_ends.F.okW Zkl (fun vs H Q E h=>?_) (fun cdv A outer s H vs Q E hr h=>?_)
 ·obtain ⟨v,rfl,_⟩:=h
  rfl
 ·obtain ⟨v,rfl,k⟩:=h
  exact WSs.last (Z8 (Zl (Zb Ze (Zb Ze Za)))) ⟨sz (by simp),k⟩
theorem Za7(T:Tx K mg):Yf P w K mg base CX0 1 T.d_Part_bears.f T.d_Part_bears.fd ["self"] (spB true):=by
 refine T.d_Part_bears.F.okW Zin (fun vs H Q E h=>?_) (fun cdv A outer s H vs Q E hr h=>?_)
 ·obtain ⟨v,rfl,_⟩:=h
  rfl
 ·obtain ⟨v,rfl,k⟩:=h
  exact WSs.last (Z8 Zhb) k
theorem Zfc(T:Tx K mg):Yf P w K mg base CX0 1 T.d_Stop_ends.f T.d_Stop_ends.fd ["self"] (spL ((["a"]:List Str).map V.str)):=by
 refine T.d_Stop_ends.F.okW Zk6 (fun vs H Q E h=>?_) (fun cdv A outer s H vs Q E hr h=>?_)
 ·obtain ⟨v,rfl,_⟩:=h
  rfl
 ·obtain ⟨v,rfl,k⟩:=h
  exact WSs.last (Z8 (Zl (Zb Ze Za))) ⟨sz (by simp),k⟩
theorem Zg6(T:Tx K mg):Yf P w K mg base CX0 1 T.d_Points_ends.f T.d_Points_ends.fd ["self"] (spL ((["stem", "left", "right"]:List Str).map V.str)):=by
 refine T.d_Points_ends.F.okW Zh1 (fun vs H Q E h=>?_) (fun cdv A outer s H vs Q E hr h=>?_)
 ·obtain ⟨v,rfl,_⟩:=h
  rfl
 ·obtain ⟨v,rfl,k⟩:=h
  exact WSs.last (Z8 (Zl (Zb Ze (Zb Ze (Zb Ze Za))))) ⟨sz (by simp),k⟩
theorem Zgj(T:Tx K mg):Yf P w K mg base CX0 1 T.d_Points_bears.f T.d_Points_bears.fd ["self"] (spB false):=by
 refine T.d_Points_bears.F.okW Zgp (fun vs H Q E h=>?_) (fun cdv A outer s H vs Q E hr h=>?_)
 ·obtain ⟨v,rfl,_⟩:=h
  rfl
 ·obtain ⟨v,rfl,k⟩:=h
  exact WSs.last (Z8 Zhb) k
theorem Zit(T:Tx K mg):Yf P w K mg base CX0 1 T.d_Cross_ends.f T.d_Cross_ends.fd ["self"] (spL ((["a", "b", "c", "d"]:List Str).map V.str)):=by
 refine T.d_Cross_ends.F.okW Zir (fun vs H Q E h=>?_) (fun cdv A outer s H vs Q E hr h=>?_)
 ·obtain ⟨v,rfl,_⟩:=h
  rfl
 ·obtain ⟨v,rfl,k⟩:=h
  exact WSs.last (Z8 (Zl (Zb Ze (Zb Ze (Zb Ze (Zb Ze Za)))))) ⟨sz (by simp),k⟩
theorem Zia(T:Tx K mg):Yf P w K mg base CX0 1 T.d_Cross_bears.f T.d_Cross_bears.fd ["self"] (spB false):=by
 refine T.d_Cross_bears.F.okW Zh0 (fun vs H Q E h=>?_) (fun cdv A outer s H vs Q E hr h=>?_)
 ·obtain ⟨v,rfl,_⟩:=h
  rfl
 ·obtain ⟨v,rfl,k⟩:=h
  exact WSs.last (Z8 Zhb) k
theorem Zcf.ends{T:Tx K mg}{k:Str}{C:Addr}(h:Zcf T k C):∃f fd,Zdd K C "ends" f∧Zb4 K fd ["self"] []∧∀(P:Program) (w:World) (base:Heap) (j:Nat),1≤j→Yf P w K mg base CX0 j f fd ["self"] (spL ((Yc k).map V.str)):=by
 rcases h with ⟨rfl,rfl⟩|⟨rfl,rfl⟩|⟨rfl,rfl⟩|⟨rfl,rfl⟩|⟨rfl,rfl|rfl⟩
 ·exact ⟨_,_,T.mtPoints_ends,T.d_Points_ends.b,fun P w base j hj=>(Zg6 T).mono hj⟩
 ·exact ⟨_,_,T.mtCross_ends,T.d_Cross_ends.b,fun P w base j hj=>(Zit T).mono hj⟩
 ·exact ⟨_,_,T.mtGate_ends,T.d_Stop_ends.b,fun P w base j hj=>(Zfc T).mono hj⟩
 ·exact ⟨_,_,T.mtStop_ends,T.d_Stop_ends.b,fun P w base j hj=>(Zfc T).mono hj⟩
 ·exact ⟨_,_,T.mtPart_ends,T.d_Part_ends.b,fun P w base j hj=>(Zfi T).mono hj⟩
 ·exact ⟨_,_,T.mtPlain_ends,T.d_Part_ends.b,fun P w base j hj=>(Zfi T).mono hj⟩
theorem Zcf.bears{T:Tx K mg}{k:Str}{C:Addr}(h:Zcf T k C):∃f fd,Zdd K C "bears" f∧Zb4 K fd ["self"] []∧∀(P:Program) (w:World) (base:Heap) (j:Nat),1≤j→Yf P w K mg base CX0 j f fd ["self"] (spB (Zes k)):=by
 rcases h with ⟨rfl,rfl⟩|⟨rfl,rfl⟩|⟨rfl,rfl⟩|⟨rfl,rfl⟩|⟨rfl,rfl|rfl⟩
 ·exact ⟨_,_,T.mtPoints_bears,T.d_Points_bears.b,fun P w base j hj=>(Zgj T).mono hj⟩
 ·exact ⟨_,_,T.mtCross_bears,T.d_Cross_bears.b,fun P w base j hj=>(Zia T).mono hj⟩
 ·exact ⟨_,_,T.mtGate_bears,T.d_Part_bears.b,fun P w base j hj=>(Za7 T).mono hj⟩
 ·exact ⟨_,_,T.mtStop_bears,T.d_Part_bears.b,fun P w base j hj=>(Za7 T).mono hj⟩
 ·exact ⟨_,_,T.mtPart_bears,T.d_Part_bears.b,fun P w base j hj=>(Za7 T).mono hj⟩
 ·exact ⟨_,_,T.mtPlain_bears,T.d_Part_bears.b,fun P w base j hj=>(Za7 T).mono hj⟩
theorem Zcf.cls{T:Tx K mg}{k:Str}{C:Addr}(h:Zcf T k C):Cls K C∧X6 K C "name" ∧True:=by
 rcases h with ⟨rfl,rfl⟩|⟨rfl,rfl⟩|⟨rfl,rfl⟩|⟨rfl,rfl⟩|⟨rfl,rfl|rfl⟩
 ·exact ⟨T.clPoints,T.nPoints_name,trivial⟩
 ·exact ⟨T.clCross,T.nCross_name,trivial⟩
 ·exact ⟨T.clGate,T.nGate_name,trivial⟩
 ·exact ⟨T.clStop,T.nStop_name,trivial⟩
 ·exact ⟨T.clPart,T.nPart_name,trivial⟩
 ·exact ⟨T.clPlain,T.nPlain_name,trivial⟩
theorem _root_.L2.Same.upd0{H H':Hp}{d:Addr}{o:HO}(s:Same H H')(n:H d=none):Same H (upd H' d o):=fun b u e=>by rw [Zi (Zh e n)];exact s.at e
def PO(T:Tx K mg)(H:Hp)(x:Addr)(p:Zc):Prop:=∃C,Zcf T p.1 C∧Zeu H C x p.2
theorem PO.mono{T:Tx K mg}{H H':Hp}{x:Addr}{p:Zc}(e:Same H H')(h:PO T H x p):PO T H' x p:=let ⟨C,h1,h2⟩:=h;⟨C,h1,h2.mono e⟩
theorem _root_.L2.FunD.okX{P:Program}{w:World}{K:Frag}{mg:Str→Option Value}{base:Heap}{x qual:Str}{st:Stmt}{dV:Value}{f:Addr}{fd:FuncData}{N ps:List Str}{k:Nat}{sp:Sp}(F:FunD K x qual st dV f fd)(S:Z3 N ps (Zg st))(len:∀vs H Q E,sp vs H Q E→vs.length=ps.length)
  (hbody:∀(cdv:Value) (A:Around) (outer:List Env) (s:Shared) (H:Hp) (vs:List V) (Q:VK) (E:XK),W8 k (A.deeper (PyProof.Rows.envOfC qual (Zg st) s.heap.objs.size f cdv))→sp vs H Q E →
   WSs (Zck (CXF P w) P w K mg base N qual (Zg st) f cdv A outer s H E) (Zv st) { nx:=fun _ H'=>Q .non H',rt:=Q } (start N vs) H):Yf P w K mg base (CXF P w) (k+1) f fd ps sp:=by
 obtain ⟨oc,od,kV,doc,pm,an,cdv,ct,osl,rfl,lk,hcd⟩:=F.ex
 exact Zr3 lk hcd S len fun A outer s H vs Q E hr hsp=>⟨_,Zy,hbody cdv A outer s H vs Q E hr hsp⟩
def Za2(s:Str):Prop:=(∀c∈s.cps.toList,c<128)∧s.length≤100
def Znw(T:Tx K mg):Sp:=fun vs H Q E=>∃(s:Str) (d:Addr) (kvs:List (Key×V)),vs=[.str s,.ref d]∧Za2 s∧H d=some (.dK kvs)∧(Xe s=true→Y1 kvs (Zcl s)=none→∀H',Same H H'→Q .non H')∧(¬(Xe s=true∧Y1 kvs (Zcl s)=none)→∀H',Same H H'→E (.ref T.CBadName) none H')
theorem Zhj(T:Tx K mg):Yf P w K mg base (CXF P w) 2 T.d_refuse_name.f T.d_refuse_name.fd ["name", "known"] (Znw T):=by
 refine T.d_refuse_name.F.okX Zh4 (fun vs H Q E h=>?_) (fun cdv A outer s H vs Q E hr h=>?_)
 ·obtain ⟨x,d,kvs,rfl,_⟩:=h
  rfl
 ·obtain ⟨x,d,kvs,rfl,hx,hd,q,qE⟩:=h
  refine WSs.step (Yg (Zdh (Zcg (Z5 (Zo5 T) hr rfl T.m_is_name T.d_is_name.F.kp T.d_is_name.b .nil Yn (Zb (pv 0) Za)))) Zy Z2) ⟨_,rfl,_,Xe x,rfl,.inl ⟨x,rfl,hx.1,hx.2,rfl⟩,fun H1 s1=>⟨_,rfl,Yk (fun z=>?_) (fun z=>?_)⟩⟩
  ·exact WSs.last (Wu T.x_BadName PySem.F.excBase_ValueError rfl (Zb Ze Za)) ⟨sz (by simp),qE (fun y=>by rw [y.1] at z;exact absurd z (by decide)) H1 s1⟩
  have z:Xe x=true:=by simpa using z
  refine WSs.last (Yg (Zo (r:=Zgu K) (Zh5 hr) (pv 0) (pv 1) (by with_unfolding_all rfl)) Zy Z2) ⟨_,rfl,_,rfl,.inr (.inl ⟨d,_,rfl,Zc4.k (k:=Zcl x) (s1.at hd),_,rfl,Yk (fun y=>?_) (fun y=>?_)⟩)⟩
  ·exact WSs.last (Wu T.x_BadName PySem.F.excBase_ValueError rfl (Zb Ze Za)) ⟨sz (by simp),qE (fun n=>by rw [n.2] at y;exact absurd y (by decide)) H1 s1⟩
  ·exact q z (by simpa using y) H1 s1
theorem Zec(T:Tx K mg){k:Nat}(h:2≤k:=by decide):Yf P w K mg base (CXF P w) k T.d_refuse_name.f T.d_refuse_name.fd ["name", "known"] (Znw T):=(Zhj T).mono h
def Zdr(ps:List Zc):Prop:=(∀p∈ps,Xe p.2=true)∧(ps.map Prod.snd).Nodup
theorem Yz{α:Type}{l:List α}{a:α}:(l++[a]).Nodup↔l.Nodup∧a∉l:=by
 rw [List.nodup_append]
 constructor
 ·rintro ⟨h1,_,h3⟩
  exact ⟨h1,fun z=>h3 a z a List.mem_cons_self rfl⟩
 ·rintro ⟨h1,h2⟩
  refine ⟨h1,by simp,fun x hx y hy e=>?_⟩
  rw [List.mem_singleton] at hy
  rw [e,hy] at hx
  exact h2 hx
def Zuf(T:Tx K mg):Sp:=fun vs H Q E=>∃(l:Addr) (xs:List Addr) (ps:List Zc),vs=[.ref l]∧H l=some (.lst (xs.map V.ref))∧Paired (PO T H) xs ps∧(∀p∈ps,Za2 p.2)∧ps.length≤100 ∧
 (Zdr ps→∀(d:Addr) (kvs:List (Key×V)) (H':Hp),Same H H'→H d=none→H' d=some (.dK kvs)→DP Zcl (RP T H) kvs (qP ps)→Q (.ref d) H')∧(¬Zdr ps→∀H',Same H H'→E (.ref T.CBadName) none H')
theorem Zf3(T:Tx K mg):Yf P w K mg base (CXF P w) 3 T.d_parts_by_name.f T.d_parts_by_name.fd ["parts"] (Zuf T):=by
 refine T.d_parts_by_name.F.okX Za3 (fun vs H Q E h=>?_) (fun cdv A outer s H vs Q E hr h=>?_)
 ·obtain ⟨l,xs,ps,rfl,_⟩:=h
  rfl
 ·obtain ⟨l,xs,ps,rfl,hl,hx,asc,len,q,qE⟩:=h
  have hxl:=Paired.length hx
  refine WSs.step (Zn (i:=1) Za3.nd rfl (by first | exact Or.inl rfl | exact Or.inr rfl) Zjd) fun d H1 s1 n1 e1=>?_
  refine WSs.step (Zae PassesOwn.leaving rfl (Yx (pv 0)) (Zq (i:=2) Za3.nd rfl (by first | exact Or.inl rfl | exact Or.inr rfl)) Zy) ⟨_,rfl,l,rfl,⟨_,SqL.of (s1.at hl)⟩,Zba (K:=K) (xs:=xs.map V.ref) (fun i σ H'=>(∃o,σ=[some (.ref l),some (.ref d),o])∧Same H H'∧Zdr (ps.take i)∧∃kvs,H' d=some (.dK kvs)∧DP Zcl (RP T H) kvs (qP (ps.take i))) ⟨⟨none,rfl⟩,s1,⟨fun _ z=>(nomatch z),.nil⟩,[],e1,.nil⟩ ?_ ?_ ?_⟩
  ·rintro i σ H' _ ⟨_,s2,_⟩
   exact SqL.of (s2.at hl)
  ·rintro i v σ H2 hi ⟨⟨o,rfl⟩,s2,gd,kvs,hd,hD⟩
   rw [List.getElem?_map] at hi
   obtain ⟨x,hxi,rfl⟩:=Option.map_eq_some_iff.mp hi
   obtain ⟨p,hp,C,hC,dx,hO⟩:=Paired.get hx hxi
   have hm:p∈ps:=List.mem_of_getElem? hp
   have hkl:kvs.length≤100:=by
    have:=hD.len
    unfold qP at this
    rw [List.length_map,List.length_take] at this
    omega
   refine WSs.step (Xt (Z5 (Zec T) hr rfl T.m_refuse_name T.d_refuse_name.F.kp T.d_refuse_name.b .nil Zbv (Zb (Zhi (pv 2) rfl) (Zb (pv 1) Za)))) ⟨_,rfl,x,C,dx,_,_,rfl,s2.at hO,hC.cls.1,hC.cls.2.1,rfl,_,rfl,p.2,d,kvs,rfl,asc p hm,hd,fun nb hn H3 s3=>?_,fun no H3 s3=>qE (fun g=>no ⟨g.1 p hm,hD.none Ze5 (by
    rw [Zmp,List.map_take]
    exact Zgy g.2 (by rw [List.getElem?_map,hp];rfl))⟩) H3 (s2.trans s3)⟩
   have s13:=s2.trans s3
   refine WSs.last (Zcy (Zdb hr) (pv 1) (Zhi (pv 2) rfl) (pv 2) rfl) ⟨_,rfl,_,rfl,_,rfl,x,C,dx,_,_,rfl,s13.at hO,hC.cls.1,hC.cls.2.1,rfl,d,_,rfl,Zfv.k (k:=Zcl p.2) (s3.at hd) (Z4 (by omega)),⟨_,rfl⟩,s13.upd0 n1,?_,_,Zj,?_⟩
   ·rw [List.take_add_one,hp]
    refine ⟨fun p' hp'=>?_,?_⟩
    ·rcases List.mem_append.mp hp' with z|z
     ·exact gd.1 p' z
     ·have z:p'∈[p]:=z
      rw [List.mem_singleton.mp z];exact nb
    ·rw [List.map_append]
     refine Yz.mpr ⟨gd.2,fun z=>?_⟩
     rw [←Zmp] at z
     obtain ⟨⟨a,b⟩,hq,e⟩:=List.mem_map.mp z
     obtain ⟨v,hv,_⟩:=hD.get Ze5 (by rw [Zmp];exact gd.2) hq
     rw [show a=p.2 from e,hn] at hv
     cases hv
   have:qP (ps.take (i+1))=qP (ps.take i)++[(p.2,p.1)]:=by
    unfold qP
    rw [List.take_add_one,hp,List.map_append]
    rfl
   rw [this]
   exact hD.put hn ⟨x,C,rfl,hC,dx,hO⟩
  ·rintro σ H2 ⟨⟨o,rfl⟩,s2,gd,kvs,hd,hD⟩
   rw [List.length_map,hxl,List.take_length] at hD gd
   exact WSs.last (Z8 (pv 1)) ⟨_,rfl,q gd d kvs H2 s2 n1 hd hD⟩
theorem Zgn(T:Tx K mg){k:Nat}(h:3≤k:=by decide):Yf P w K mg base (CXF P w) k T.d_parts_by_name.f T.d_parts_by_name.fd ["parts"] (Zuf T):=(Zf3 T).mono h
theorem _root_.L2.Same.frz{H H1:Hp}{d:Addr}{u:HO}(s:Same H H1):Same (upd H d u) (upd H1 d u):=fun b o e=>by
 by_cases z:b=d
 ·rw [z,Zj] at e ⊢;exact e
 ·rw [Zi z] at e ⊢;exact s.at e
def Zt5(T:Tx K mg):Sp:=fun vs H Q _=>∃(d:Addr) (kvs:List (Key×V)) (ps:List Zc),vs=[.ref d]∧H d=some (.dK kvs)∧DP Zcl (RP T H) kvs (qP ps)∧(ps.map Prod.snd).Nodup∧ps.length≤100 ∧
 ∀(a:Addr) (ka:List (List Key×V)) (H':Hp),Same H H'→H a=none→H' a=some (.dT ka)→DP Yp (RA T H) ka (qA ps)→Q (.ref a) H'
theorem Zsc(ps:List Zc):(qA ps).length≤4 * ps.length:=by
 induction ps with
 | nil=>decide
 | cons p ps ih =>
  have:=Zg1 p.1
  have e:qA (p ::ps)=(Yc p.1).map (fun e=>((p.2,e),p.1))++qA ps:=rfl
  rw [e,List.length_append,List.length_map,List.length_cons]
  omega
theorem Zoa{ps:List Zc}{i:Nat}{p:Zc}(h:ps[i]? =some p):qA (ps.take (i+1))=qA (ps.take i)++(Yc p.1).map fun e=>((p.2,e),p.1):=by
 unfold qA
 rw [List.take_add_one,h,List.flatMap_append]
 simp
theorem Zfz(T:Tx K mg):Yf P w K mg base CX0 2 T.d_ends_to_parts.f T.d_ends_to_parts.fd ["part_of"] (Zt5 T):=by
 refine T.d_ends_to_parts.F.okW X0 (fun vs H Q E h=>?_) (fun cdv A outer s H vs Q E hr h=>?_)
 ·obtain ⟨d,kvs,ps,rfl,_⟩:=h
  rfl
 ·obtain ⟨d,kvs,ps,rfl,hd,hD,nd,len,q⟩:=h
  have hkl:kvs.length=ps.length:=by have:=hD.len;unfold qP at this;rw [List.length_map] at this;exact this
  refine WSs.step (Zn (i:=1) X0.nd rfl (by first | exact Or.inl rfl | exact Or.inr rfl) Zf4) fun a H1 s1 n1 e1=>?_
  have had:a≠d:=fun z=>by rw [z,hd] at n1;cases n1
  refine WSs.step (Zta (Zae PassesOwn.never rfl (Zic (pv 0)) (Zax rfl (Zw (Zq (i:=2) X0.nd rfl (by first | exact Or.inl rfl | exact Or.inr rfl)) (Zw (Zq (i:=3) X0.nd rfl (by first | exact Or.inl rfl | exact Or.inr rfl)) Y8))) Zy)) ⟨_,rfl,d,_,rfl,s1.at hd,fun o nf=>Zo4 (fun i σ H'=>(∃o2 o3 o4,σ=[some (.ref d),some (.ref a),o2,o3,o4])∧Same (upd H d (.frz o (.dK kvs))) H'∧∃ka,H' a=some (.dT ka)∧DP Yp (RA T H) ka (qA (ps.take i))) ⟨⟨none,none,none,rfl⟩,s1.frz,[],by rw [Zi had];exact e1,.nil⟩ ?_ ?_ ?_⟩
  ·rintro i σ H' _ ⟨_,s2,_⟩
   exact s2.at Zj
  ·rintro i kv σ H2 hi ⟨⟨o2,o3,o4,rfl⟩,s2,ka,ha,hA⟩ tp H3 s3 n3 e3
   obtain ⟨⟨nm,kd⟩,hq,hk,x,C,hv,hC,dx,hO⟩:=Paired.get hD hi
   have hp:ps[i]? =some (kd,nm):=by
    unfold qP at hq
    rw [List.getElem?_map] at hq
    obtain ⟨⟨p1,p2⟩,hp,e⟩:=Option.map_eq_some_iff.mp hq
    rw [hp]
    simp only [Prod.mk.injEq] at e
    rw [e.1,e.2]
   have hil:=(List.getElem?_eq_some_iff.mp hp).1
   have hxd:x≠d:=fun z=>by rw [z,hd] at hO;cases hO
   have hOF:upd H d (.frz o (.dK kvs)) x=some (.ins C dx [("name",.str nm)]):=by rw [Zi hxd];exact hO
   obtain ⟨f1,d1,m1,b1,g1⟩:=hC.ends
   have hk:kv.1=Sum.inr nm:=hk
   rw [hk,hv] at e3
   have hFa:upd H d (.frz o (.dK kvs)) a=none:=by rw [Zi had];exact n1
   refine ⟨tp,_,rfl,SqT.of e3,rfl,_,_,rfl,_,_,rfl,rfl,?_⟩
   have s23:=s2.trans s3
   refine WSs.last (Zae PassesOwn.never rfl (Yx Zxm) (Zq (i:=4) X0.nd rfl (by first | exact Or.inl rfl | exact Or.inr rfl)) Zy) (WE.of (Ze0 (pv 3) hC.cls.1 m1 (g1 _ _ _ 1 (by decide)) hr b1 .nil Yn) ⟨_,rfl,x,dx,_,rfl,s23.at hOF,rfl,_,rfl,fun p H4 s4 n4 e4=>⟨p,rfl,⟨_,SqL.of e4⟩,Zba (K:=K) (xs:=(Yc kd).map V.str) (fun j σ H'=>(∃o4,σ=[some (.ref d),some (.ref a),some (.str nm),some (.ref x),o4])∧Same (upd H d (.frz o (.dK kvs))) H'∧H' p=some (.lst ((Yc kd).map V.str))∧∃ka,H' a=some (.dT ka)∧DP Yp (RA T H) ka (qA (ps.take i)++((Yc kd).take j).map fun e=>((nm,e),kd))) ⟨⟨_,rfl⟩,s23.trans s4,e4,ka,s4.at (s3.at ha),by rw [List.take_zero,List.map_nil,List.append_nil];exact hA⟩ ?_ ?_ ?_⟩⟩)
   ·rintro j σ H' _ ⟨_,_,z,_⟩
    exact SqL.of z
   ·rintro j v σ H5 hj ⟨⟨o4,rfl⟩,s5,hp5,ka5,ha5,hA5⟩
    rw [List.getElem?_map] at hj
    obtain ⟨e,he,rfl⟩:=Option.map_eq_some_iff.mp hj
    have hlen5:ka5.length≤500:=by
     have h1:=hA5.len
     have h2:=Zsc (ps.take i)
     have h3:=Zg1 kd
     rw [List.length_append,List.length_map,List.length_take] at h1
     rw [List.length_take] at h2
     omega
    have hnew:Y1 ka5 (Yp (nm,e))=none:=hA5.none Zab (by
     have h1:(Ye (ps.take (i+1))).Nodup:=Za1 (by rw [List.map_take];exact nd.sublist (List.take_sublist _ _))
     rw [←Zhn,Zoa hp,List.map_append] at h1
     rw [List.map_append]
     have ed:Yc kd=(Yc kd).take j++(e ::(Yc kd).drop (j+1)):=by rw [←Zlo he,List.take_append_drop]
     rw [show ((kd,nm):Zc).1=kd from rfl,ed,List.map_append,List.map_append,List.map_cons,List.map_cons,←List.append_assoc,List.nodup_append] at h1
     intro m
     exact h1.2.2 _ m _ List.mem_cons_self rfl)
    refine WSs.last (Zcy (Zdb hr) (pv 1) (Zf (Zb (pv 2) (Zb (pv 4) Za))) (pv 3) rfl) ⟨_,rfl,_,rfl,_,rfl,_,rfl,sz (by simp),fun t H6 s6 n6 e6=>⟨a,_,rfl,Zfv.t (k:=Yp (nm,e)) (s6.at ha5) e6 (Z4 (by omega)),⟨_,rfl⟩,(s5.trans s6).upd0 hFa,?_,_,Zj,?_⟩⟩
    ·rw [Zi (Zuj hp5 ha5 (fun z=>nomatch z))]
     exact s6.at hp5
    ·have:((Yc kd).take (j+1)).map (fun e=>((nm,e),kd))=((Yc kd).take j).map (fun e=>((nm,e),kd))++[((nm,e),kd)]:=by
      rw [List.take_add_one,he,List.map_append]
      rfl
     rw [this,←List.append_assoc]
     exact hA5.put hnew ⟨x,C,rfl,hC,dx,hO⟩
   ·rintro σ H5 ⟨⟨o4,rfl⟩,s5,hp5,ka5,ha5,hA5⟩
    rw [List.length_map,List.take_length] at hA5
    refine ⟨⟨_,_,_,rfl⟩,s5,ka5,ha5,?_⟩
    rw [Zoa hp]
    exact hA5
  ·rintro σ H2 ⟨⟨o2,o3,o4,rfl⟩,s2,ka,ha,hA⟩
   rw [hkl,List.take_length] at hA
   refine ⟨d,o,_,s2.at Zj,nf,WSs.last (Z8 (pv 1)) ⟨_,rfl,q a ka _ (s2.thaw hd) n1 ?_ hA⟩⟩
   rw [Zi had]
   exact ha
theorem Zgs(T:Tx K mg){k:Nat}(h:2≤k:=by decide):Yf P w K mg base CX0 k T.d_ends_to_parts.f T.d_ends_to_parts.fd ["part_of"] (Zt5 T):=(Zfz T).mono h
def Zsa:Sp:=fun vs H Q _=>∃(t:Addr) (u v:V),vs=[.ref t]∧H t=some (.tup [u,v])∧Q (.bl true) H
theorem Znf(T:Tx K mg):Yf P w K mg base CX0 1 T.d_is_pair.f T.d_is_pair.fd ["thing"] Zsa:=by
 refine T.d_is_pair.F.okW Zmw (fun vs H Q E h=>?_) (fun cdv A outer s H vs Q E hr h=>?_)
 ·obtain ⟨t,u,v,rfl,_⟩:=h
  rfl
 ·obtain ⟨t,u,v,rfl,ht,q⟩:=h
  exact WSs.last (Z8 (Zf9 (Zp (r:=Zp8 K) Zcv (by rfl) T.n_isinstance PyProof.Rows.boot_isinstance (Zb (pv 0) (Zb (Zd0 (v:=.ty "tuple") (by rfl) T.n_tuple PyProof.Rows.boot_tuple rfl) Za))) (Zko (Zb9 (r:=X9 K) (Wo hr) (Zp (r:=Xb K) Xf (by rfl) T.n_len PySem.boot_len (Zb (pv 0) Za)) Zd (Zx _))))) ⟨_,rfl,_,_,true,_,rfl,Zcz.tup ht,.inl ⟨_,rfl,T.kTT⟩,_,rfl,Znp ⟨_,rfl,.inl ⟨t,_,rfl,.inr (SqT.of ht),.inl ⟨rfl,q⟩⟩⟩⟩
theorem Zi8(T:Tx K mg){k:Nat}(h:1≤k:=by decide):Yf P w K mg base CX0 k T.d_is_pair.f T.d_is_pair.fd ["thing"] Zsa:=(Znf T).mono h
def Zxo:Sp:=fun vs H Q _=>∃(t d:Addr) (e:Zc) (kvs:List (List Key×V)),vs=[.ref t,.ref d]∧Zu H t e∧H d=some (.dT kvs)∧Q (.bl (Y1 kvs (Yp e)).isSome) H
theorem Zlq(T:Tx K mg):Yf P w K mg base CX0 2 T.d_is_known.f T.d_is_known.fd ["end", "ends"] Zxo:=by
 refine T.d_is_known.F.okW Zli (fun vs H Q E h=>?_) (fun cdv A outer s H vs Q E hr h=>?_)
 ·obtain ⟨t,d,e,kvs,rfl,_⟩:=h
  rfl
 ·obtain ⟨t,d,e,kvs,rfl,ht,hd,q⟩:=h
  exact WSs.last (Z8 (Zf9 (Z5 (Zi8 T) hr rfl T.m_is_pair T.d_is_pair.F.kp T.d_is_pair.b .nil Yn (Zb (pv 0) Za)) (Zf9 (Zp (r:=Zp8 K) Zcv (by rfl) T.n_isinstance PyProof.Rows.boot_isinstance (Zb (Zt (r:=rIx K) Zm (pv 0) Zd (fun _ _=>rfl)) (Zb (Zd0 (v:=.ty "str") (by rfl) T.n_str PyProof.Rows.boot_str rfl) Za))) (Zf9 (Zp (r:=Zp8 K) Zcv (by rfl) T.n_isinstance PyProof.Rows.boot_isinstance (Zb (Zt (r:=rIx K) Zm (pv 0) Zd (fun _ _=>rfl)) (Zb (Zd0 (v:=.ty "str") (by rfl) T.n_str PyProof.Rows.boot_str rfl) Za))) (Zko (Zb9 (r:=Zgu K) (Zh5 hr) (pv 0) (pv 1) (by with_unfolding_all rfl))))))) ⟨_,rfl,t,_,_,rfl,ht,_,rfl,Znp ⟨_,rfl,.inr (.inl ⟨t,_,0,_,rfl,rfl,SqT.of ht,Zr (j:=0) rfl,_,_,true,_,rfl,Zcz.str _,.inl ⟨_,rfl,T.kSS⟩,_,rfl,Znp ⟨_,rfl,.inr (.inl ⟨t,_,1,_,rfl,rfl,SqT.of ht,Zr (j:=1) rfl,_,_,true,_,rfl,Zcz.str _,.inl ⟨_,rfl,T.kSS⟩,_,rfl,Znp ⟨_,rfl,_,rfl,.inr (.inl ⟨d,_,rfl,Zc4.t (k:=Yp e) hd ht,q⟩)⟩⟩)⟩⟩)⟩⟩
theorem Zei(T:Tx K mg){k:Nat}(h:2≤k:=by decide):Yf P w K mg base CX0 k T.d_is_known.f T.d_is_known.fd ["end", "ends"] Zxo:=(Zlq T).mono h
def Zm9(ka kd:List (List Key×V))(e1 e2:Zc):Prop:=((Y1 ka (Yp e1)).isSome=true∧Y1 kd (Yp e1)=none)∧((Y1 ka (Yp e2)).isSome=true∧Y1 kd (Yp e2)=none)∧e1.1≠e2.1
def Zwg(T:Tx K mg):Sp:=fun vs H Q E=>∃(t pa d a b:Addr) (e1 e2:Zc) (ka kd:List (List Key×V)),vs=[.ref t,.ref pa,.ref d]∧H t=some (.tup [.ref a,.ref b])∧Zu H a e1∧Zu H b e2∧H pa=some (.dT ka)∧H d=some (.dT kd) ∧
 (Zm9 ka kd e1 e2→Q .non H)∧(¬Zm9 ka kd e1 e2→E (.ref T.CBadEnd) none H)
theorem Zih(T:Tx K mg):Yf P w K mg base (CXF P w) 3 T.d_refuse_join.f T.d_refuse_join.fd ["join", "part_at", "joined"] (Zwg T):=by
 refine T.d_refuse_join.F.okX Zdm (fun vs H Q E h=>?_) (fun cdv A outer s H vs Q E hr h=>?_)
 ·obtain ⟨t,pa,d,a,b,e1,e2,ka,kd,rfl,_⟩:=h
  rfl
 ·obtain ⟨t,pa,d,a,b,e1,e2,ka,kd,rfl,ht,ha,hb,hpa,hd,q,qE⟩:=h
  refine WSs.step (Yg (Zdh (Zcg (Z5 (Zi8 T) hr rfl T.m_is_pair T.d_is_pair.F.kp T.d_is_pair.b .nil Yn (Zb (pv 0) Za)))) Zy Z2) ⟨_,rfl,t,_,_,rfl,ht,_,rfl,Yk (fun z=>absurd z (by decide)) (fun _=>?_)⟩
  refine WSs.step (Zae PassesOwn.leaving rfl (Zuy (pv 0)) (Zq (i:=3) Zdm.nd rfl (by first | exact Or.inl rfl | exact Or.inr rfl)) Zy) ⟨_,rfl,t,rfl,⟨_,SqT.of ht⟩,Ztu (K:=K) (xs:=[.ref a,.ref b]) (fun i σ H'=>(∃o,σ=[some (.ref t),some (.ref pa),some (.ref d),o])∧H'=H∧(1≤i→(Y1 ka (Yp e1)).isSome=true∧Y1 kd (Yp e1)=none)∧(2≤i→(Y1 ka (Yp e2)).isSome=true∧Y1 kd (Yp e2)=none)) ⟨⟨none,rfl⟩,rfl,fun z=>absurd z (by decide),fun z=>absurd z (by decide)⟩ ?_ ?_ ?_⟩
  ·rintro i σ H' _ ⟨_,rfl,_⟩
   exact SqT.of ht
  ·rintro i v σ H' hi ⟨⟨o,rfl⟩,hH,g1,g2⟩
   rw [hH]
   obtain ⟨x,e,rfl,hx,bad,fine⟩:∃x e,v=V.ref x∧Zu H x e∧(¬((Y1 ka (Yp e)).isSome=true∧Y1 kd (Yp e)=none)→¬Zm9 ka kd e1 e2)∧((Y1 ka (Yp e)).isSome=true∧Y1 kd (Yp e)=none→(1≤i+1→(Y1 ka (Yp e1)).isSome=true∧Y1 kd (Yp e1)=none)∧(2≤i+1→(Y1 ka (Yp e2)).isSome=true∧Y1 kd (Yp e2)=none)):=by
    match i,hi with
    | 0,hi=>cases hi;exact ⟨a,e1,rfl,ha,fun z g=>z g.1,fun z=>⟨fun _=>z,fun y=>absurd y (by decide)⟩⟩
    | 1,hi=>cases hi;exact ⟨b,e2,rfl,hb,fun z g=>z g.2.1,fun z=>⟨fun _=>g1 (by decide),fun _=>z⟩⟩
   refine WSs.step (Yg (Zdh (Zcg (Z5 (Zei T) hr rfl T.m_is_known T.d_is_known.F.kp T.d_is_known.b .nil Yn (Zb (pv 3) (Zb (pv 1) Za))))) Zy Z2) ⟨_,rfl,_,rfl,x,pa,e,ka,rfl,hx,hpa,_,rfl,Yk (fun z=>?_) (fun z=>?_)⟩
   ·exact WSs.last (Wu T.x_BadEnd PySem.F.excBase_ValueError rfl (Zb Ze Za)) ⟨sz (by simp),qE (bad fun y=>by rw [y.1] at z;exact absurd z (by decide))⟩
   refine WSs.last (Yg (Zo (r:=Zgu K) (Zh5 hr) (pv 3) (pv 2) (by with_unfolding_all rfl)) Zy Z2) ⟨_,rfl,_,rfl,.inr (.inl ⟨d,_,rfl,Zc4.t (k:=Yp e) hd hx,_,rfl,Yk (fun z=>?_) (fun y=>⟨⟨_,rfl⟩,rfl,fine ⟨Option.isSome_iff_ne_none.mpr (by simpa using z),by simpa using y⟩⟩)⟩)⟩
   exact WSs.last (Wu T.x_BadEnd PySem.F.excBase_ValueError rfl (Zb Ze Za)) ⟨sz (by simp),qE (bad fun y=>by rw [y.2] at z;exact absurd z (by decide))⟩
  ·rintro σ H' ⟨⟨o,rfl⟩,hH,g1,g2⟩
   rw [hH]
   refine WSs.last (Yg (Zo (r:=X9 K) (Wo hr) (Zt (r:=rIx K) Zm (Zt (r:=rIx K) Zm (pv 0) Zd (fun _ _=>rfl)) Zd (fun _ _=>rfl)) (Zt (r:=rIx K) Zm (Zt (r:=rIx K) Zm (pv 0) Zd (fun _ _=>rfl)) Zd (fun _ _=>rfl)) (Zx _)) Zy Z2) ⟨_,rfl,.inr (.inl ⟨t,_,0,_,rfl,rfl,SqT.of ht,Zr (j:=0) rfl,.inr (.inl ⟨a,_,0,_,rfl,rfl,SqT.of ha,Zr (j:=0) rfl,_,rfl,.inr (.inl ⟨t,_,1,_,rfl,rfl,SqT.of ht,Zr (j:=1) rfl,.inr (.inl ⟨b,_,0,_,rfl,rfl,SqT.of hb,Zr (j:=0) rfl,.inl ⟨rfl,_,rfl,Yk (fun z=>?_) (fun z=>q ⟨g1 (by show 1≤2;decide),g2 (by show 2≤2;decide),fun y=>z (decide_eq_true (by rw [y]))⟩)⟩⟩)⟩)⟩)⟩)⟩
   exact WSs.last (Wu T.x_BadEnd PySem.F.excBase_ValueError rfl (Zb Ze Za)) ⟨sz (by simp),qE fun g=>g.2.2 (V.str.inj (of_decide_eq_true z))⟩
theorem Zio(T:Tx K mg){k:Nat}(h:3≤k:=by decide):Yf P w K mg base (CXF P w) k T.d_refuse_join.f T.d_refuse_join.fd ["join", "part_at", "joined"] (Zwg T):=(Zih T).mono h
def Zbm(es:List Zc)(js:List (Zc×Zc)):Prop:=(∀e∈Yr js,e∈es)∧(Yr js).Nodup∧(∀j∈js,j.1.1≠j.2.1)∧es.length≤(Yr js).length
def Zxl(T:Tx K mg):Sp:=fun vs H Q E=>∃(jl pa:Addr) (js:List (Zc×Zc)) (ka:List (List Key×V)) (es:List Zc),vs=[.ref jl,.ref pa]∧Z1 H jl js∧H pa=some (.dT ka)∧(∀e,(Y1 ka (Yp e)).isSome=true↔e∈es)∧ka.length=es.length∧js.length≤300 ∧
 (Zbm es js→∀(d:Addr) (kj:List (List Key×V)) (H':Hp),Same H H'→H d=none→H' d=some (.dT kj)→DP Yp (RJ H) kj (qJ js)→Q (.ref d) H')∧(¬Zbm es js→∀H',Same H H'→E (.ref T.CBadEnd) none H')
theorem Zj9{js:List (Zc×Zc)}{i:Nat}{j:Zc×Zc}(h:js[i]? =some j):qJ (js.take (i+1))=qJ (js.take i)++[(j.1,j.2)]++[(j.2,j.1)]:=by
 unfold qJ
 rw [List.take_add_one,h,List.flatMap_append]
 simp
theorem Zhu(js:List (Zc×Zc)):(qJ js).length=2 * js.length:=by
 induction js with
 | nil=>rfl
 | cons j js ih =>
  have e:qJ (j ::js)=[(j.1,j.2),(j.2,j.1)]++qJ js:=rfl
  rw [e,List.length_append,ih]
  simp only [List.length_cons,List.length_nil]
  omega
theorem Zep{js:List (Zc×Zc)}{i:Nat}{j:Zc×Zc}(h:js[i]? =some j):Yr (js.take (i+1))=Yr (js.take i)++[j.1]++[j.2]:=by
 rw [←Zav,Zj9 h,List.map_append,List.map_append,Zav]
 rfl
theorem Zjg{js:List (Zc×Zc)}(i:Nat):(Yr (js.take i)).Sublist (Yr js):=by
 have:Yr js=Yr (js.take i)++Yr (js.drop i):=by rw [←Wf,List.take_append_drop]
 rw [this]
 exact List.sublist_append_left _ _
theorem Zg9(T:Tx K mg):Yf P w K mg base (CXF P w) 4 T.d_joined_ends.f T.d_joined_ends.fd ["joins", "part_at"] (Zxl T):=by
 refine T.d_joined_ends.F.okX Zbx (fun vs H Q E h=>?_) (fun cdv A outer s H vs Q E hr h=>?_)
 ·obtain ⟨jl,pa,js,ka,es,rfl,_⟩:=h
  rfl
 ·obtain ⟨jl,pa,js,ka,es,rfl,hJ,hpa,hk,hkl,len,q,qE⟩:=h
  obtain ⟨ts,hl,hts⟩:=hJ
  have htl:=Paired.length hts
  refine WSs.step (Zn (i:=2) Zbx.nd rfl (by first | exact Or.inl rfl | exact Or.inr rfl) Zf4) fun d H1 s1 n1 e1=>?_
  refine WSs.step (Zae PassesOwn.leaving rfl (Yx (pv 0)) (Zq (i:=3) Zbx.nd rfl (by first | exact Or.inl rfl | exact Or.inr rfl)) Zy) ⟨_,rfl,jl,rfl,⟨_,SqL.of (s1.at hl)⟩,Zba (K:=K) (xs:=ts.map V.ref) (fun i σ H'=>(∃o,σ=[some (.ref jl),some (.ref pa),some (.ref d),o])∧Same H H'∧((∀e∈Yr (js.take i),e∈es)∧(Yr (js.take i)).Nodup∧∀j∈js.take i,j.1.1≠j.2.1)∧∃kj,H' d=some (.dT kj)∧DP Yp (RJ H) kj (qJ (js.take i))) ⟨⟨none,rfl⟩,s1,⟨fun _ z=>(nomatch z),.nil,fun _ z=>nomatch z⟩,[],e1,.nil⟩ ?_ ?_ ?_⟩
  ·rintro i σ H' _ ⟨_,s2,_⟩
   exact SqL.of (s2.at hl)
  ·rintro i v σ H2 hi ⟨⟨o,rfl⟩,s2,⟨gd1,gd2,gd3⟩,kj,hd,hD⟩
   rw [List.getElem?_map] at hi
   obtain ⟨t,hti,rfl⟩:=Option.map_eq_some_iff.mp hi
   obtain ⟨j,hj,a,b,ht,ha,hb⟩:=Paired.get hts hti
   have hm:j∈js:=List.mem_of_getElem? hj
   have hil:=(List.getElem?_eq_some_iff.mp hj).1
   have hlen:kj.length≤600:=by
    have h1:=hD.len
    rw [Zhu,List.length_take] at h1
    omega
   have free:∀{e:Zc},e∉Yr (js.take i)→Y1 kj (Yp e)=none:=fun h=>hD.none Zab (by rw [Zav];exact h)
   refine WSs.step (Xt (Z5 (Zio T) hr rfl T.m_refuse_join T.d_refuse_join.F.kp T.d_refuse_join.b .nil Zbv (Zb (pv 3) (Zb (pv 1) (Zb (pv 2) Za))))) ⟨_,rfl,_,rfl,_,rfl,t,pa,d,a,b,j.1,j.2,ka,kj,rfl,s2.at ht,ha.mono s2,hb.mono s2,s2.at hpa,hd,fun ⟨⟨k1,f1⟩,⟨k2,f2⟩,ap⟩=>?_,fun no=>qE (fun ⟨z1,z2,z3,_⟩=>no ?_) H2 s2⟩
   rotate_left
   ·have hnd:=z2.sublist (Zjg (i+1))
    rw [Zep hj] at hnd
    have m1:j.1∈Yr js:=List.mem_flatMap.mpr ⟨j,hm,by simp⟩
    have m2:j.2∈Yr js:=List.mem_flatMap.mpr ⟨j,hm,by simp⟩
    obtain ⟨hnd1,hn2⟩:=Yz.mp hnd
    obtain ⟨_,hn1⟩:=Yz.mp hnd1
    exact ⟨⟨(hk _).mpr (z1 _ m1),free hn1⟩,⟨(hk _).mpr (z1 _ m2),free fun y=>hn2 (List.mem_append_left _ y)⟩,z3 j hm⟩
   have notin:∀{e:Zc},Y1 kj (Yp e)=none→e∉Yr (js.take i):=fun {e} h m=>by
    rw [←Zav] at m
    obtain ⟨⟨u,w'⟩,hq,e'⟩:=List.mem_map.mp m
    obtain ⟨v,hv,_⟩:=hD.get Zab (by rw [Zav];exact gd2) hq
    rw [show u=e from e',h] at hv
    cases hv
   have nd1:=notin f1
   have nd2:j.2∉Yr (js.take i)++[j.1]:=fun z=>by
    rcases List.mem_append.mp z with z|z
    ·exact notin f2 z
    ·exact ap (by rw [List.mem_singleton.mp z])
   have hD1:DP Yp (RJ H) (Zb6 kj (Yp j.1) (.ref b)) (qJ (js.take i)++[(j.1,j.2)]):=hD.put f1 ⟨b,rfl,hb⟩
   have hl1:=Zb8 kj (Yp j.1) (.ref b)
   have v3:Y1 (Zb6 kj (Yp j.1) (.ref b)) (Yp j.2)=none:=hD1.none Zab (by rw [List.map_append,Zav];exact nd2)
   refine WSs.step (Zcy (Zdb hr) (pv 2) (Zt (r:=rIx K) Zm (pv 3) Zd (fun _ _=>rfl)) (Zt (r:=rIx K) Zm (pv 3) Zd (fun _ _=>rfl)) rfl) ⟨_,rfl,.inr (.inl ⟨t,_,1,_,rfl,rfl,SqT.of (s2.at ht),Zr (j:=1) rfl,_,rfl,_,rfl,.inr (.inl ⟨t,_,0,_,rfl,rfl,SqT.of (s2.at ht),Zr (j:=0) rfl,d,_,rfl,Zfv.t (k:=Yp j.1) hd (Zg2 (ha.mono s2)) (Z4 (by omega)),?_⟩)⟩)⟩
   have s3:Same H (upd H2 d (.dT (Zb6 kj (Yp j.1) (.ref b)))):=s2.upd0 n1
   refine WSs.last (Zcy (Zdb hr) (pv 2) (Zt (r:=rIx K) Zm (pv 3) Zd (fun _ _=>rfl)) (Zt (r:=rIx K) Zm (pv 3) Zd (fun _ _=>rfl)) rfl) ⟨_,rfl,.inr (.inl ⟨t,_,0,_,rfl,rfl,SqT.of (s3.at ht),Zr (j:=0) rfl,_,rfl,_,rfl,.inr (.inl ⟨t,_,1,_,rfl,rfl,SqT.of (s3.at ht),Zr (j:=1) rfl,d,_,rfl,Zfv.t (k:=Yp j.2) Zj (Zg2 (hb.mono s3)) (Z4 (by omega)),⟨_,rfl⟩,s3.upd0 n1,?_,_,Zj,?_⟩)⟩)⟩
   ·rw [Zep hj]
    refine ⟨fun e he=>?_,Yz.mpr ⟨Yz.mpr ⟨gd2,nd1⟩,nd2⟩,fun j' hj'=>?_⟩
    ·rcases List.mem_append.mp he with he|he
     ·rcases List.mem_append.mp he with he|he
      ·exact gd1 e he
      ·rw [List.mem_singleton.mp he];exact (hk _).mp k1
     ·rw [List.mem_singleton.mp he];exact (hk _).mp k2
    ·rw [List.take_add_one,hj] at hj'
     rcases List.mem_append.mp hj' with z|z
     ·exact gd3 j' z
     ·have z:j'∈[j]:=z
      rw [List.mem_singleton.mp z];exact ap
   rw [Zj9 hj]
   exact hD1.put v3 ⟨a,rfl,ha⟩
  ·rintro σ H2 ⟨⟨o,rfl⟩,s2,gd,kj,hd,hD⟩
   rw [List.length_map,htl,List.take_length] at hD gd
   have hlj:kj.length=(Yr js).length:=by
    have h1:=hD.len
    rw [h1,←Zav,List.length_map]
   refine WSs.step (Yg (Zo Zed (Zp (r:=Zqf) Zi5 (by rfl) T.n_len PySem.boot_len (Zb (pv 2) Za)) (Zp (r:=Zqf) Zi5 (by rfl) T.n_len PySem.boot_len (Zb (pv 1) Za)) (Zx _)) Zy Z2) ⟨_,rfl,d,kj,rfl,hd,_,rfl,pa,ka,rfl,s2.at hpa,_,_,rfl,rfl,_,rfl,Yk (fun z=>?_) (fun z=>?_)⟩
   ·have z:(kj.length:Int)<(ka.length:Int):=of_decide_eq_true z
    exact WSs.last (Wu T.x_BadEnd PySem.F.excBase_ValueError rfl (Zb Ze Za)) ⟨sz (by simp),qE (fun g=>by have:=g.2.2.2;omega) H2 s2⟩
   have z:¬(kj.length:Int)<(ka.length:Int):=fun y=>z (decide_eq_true y)
   exact WSs.last (Z8 (pv 2)) ⟨_,rfl,q ⟨gd.1,gd.2.1,gd.2.2,by omega⟩ d kj H2 s2 n1 hd hD⟩
theorem Ziv(T:Tx K mg){k:Nat}(h:4≤k:=by decide):Yf P w K mg base (CXF P w) k T.d_joined_ends.f T.d_joined_ends.fd ["joins", "part_at"] (Zxl T):=(Zg9 T).mono h
def Zwk(T:Tx K mg):Sp:=fun vs H Q E=>∃(t pa l:Addr) (e:Zc) (kn:Option Bool) (ka:List (List Key×V)) (us:List Addr) (es:List Zc),vs=[.ref t,.ref pa,.ref l]∧Zu H t e∧H pa=some (.dT ka) ∧
 ((kn=none∧Y1 ka (Yp e)=none)∨∃x C k nm,Y1 ka (Yp e)=some (.ref x)∧Zcf T k C∧Zeu H C x nm∧kn=some (Zes k)) ∧
 H l=some (.lst (us.map V.ref))∧Paired (Zu H) us es∧(kn=some true→e∉es→Q .non H)∧(¬(kn=some true∧e∉es)→E (.ref T.CBadEnd) none H)
theorem Zk0{a b:Zc}(h:trP a=trP b):a=b:=by
 obtain ⟨a1,a2⟩:=a
 obtain ⟨b1,b2⟩:=b
 unfold trP at h
 simp only [Tr.tup.injEq,List.cons.injEq,Tr.str.injEq,and_true] at h
 rw [h.1,h.2]
theorem Zig(T:Tx K mg):Yf P w K mg base (CXF P w) 3 T.d_refuse_post.f T.d_refuse_post.fd ["end", "part_at", "ends_with_signals"] (Zwk T):=by
 refine T.d_refuse_post.F.okX Zii (fun vs H Q E h=>?_) (fun cdv A outer s H vs Q E hr h=>?_)
 ·obtain ⟨t,pa,l,e,kn,ka,us,es,rfl,_⟩:=h
  rfl
 ·obtain ⟨t,pa,l,e,kn,ka,us,es,rfl,ht,hpa,hk,hl,hu,q,qE⟩:=h
  rcases hk with ⟨rfl,hv⟩|⟨x,C,k,nm,hv,hC,⟨dx,hO⟩,rfl⟩
  ·refine WSs.step (Yg (Zdh (Zcg (Z5 (Zei T) hr rfl T.m_is_known T.d_is_known.F.kp T.d_is_known.b .nil Yn (Zb (pv 0) (Zb (pv 1) Za))))) Zy Z2) ⟨_,rfl,_,rfl,t,pa,e,ka,rfl,ht,hpa,_,rfl,Yk (fun _=>?_) (fun z=>?_)⟩
   ·exact WSs.last (Wu T.x_BadEnd PySem.F.excBase_ValueError rfl (Zb Ze Za)) ⟨sz (by simp),qE fun z=>(nomatch z.1)⟩
   ·rw [hv] at z
    exact absurd rfl z
  obtain ⟨f1,d1,m1,b1,g1⟩:=hC.bears
  refine WSs.step (Yg (Zdh (Zcg (Z5 (Zei T) hr rfl T.m_is_known T.d_is_known.F.kp T.d_is_known.b .nil Yn (Zb (pv 0) (Zb (pv 1) Za))))) Zy Z2) ⟨_,rfl,_,rfl,t,pa,e,ka,rfl,ht,hpa,_,rfl,Yk (fun z=>?_) (fun _=>?_)⟩
  ·rw [hv] at z
   exact absurd z (by simp)
  refine WSs.step (Yg (Zdh (Zcg Zxm)) Zy Z2) (WE.of (Ze0 (Zke (Zdb hr) (pv 1) (pv 0) (fun _ _=>rfl)) hC.cls.1 m1 (g1 _ _ _ 2 (by decide)) hr b1 .nil Yn) ⟨_,rfl,_,rfl,pa,_,rfl,by rw [←hv];exact Zc4.t (k:=Yp e) hpa ht,x,dx,_,rfl,hO,rfl,_,rfl,_,rfl,Yk (fun z=>?_) (fun z=>?_)⟩)
  ·exact WSs.last (Wu T.x_BadEnd PySem.F.excBase_ValueError rfl (Zb Ze Za)) ⟨sz (by simp),qE fun y=>by rw [Option.some.inj y.1] at z;exact absurd z (by decide)⟩
  have hb:Zes k=true:=by simpa using z
  refine WSs.last (Yg (Zo (r:=Zgu K) (Zh5 hr) (pv 0) (pv 2) (by with_unfolding_all rfl)) Zy Z2) ⟨_,rfl,_,rfl,.inr (.inr (.inr ⟨l,1,trP e,es.map trP,us,rfl,SqL.of hl,by decide,Im.tup (n:=0) (SqT.of ht) (.cons (.str _) (.cons (.str _) .nil)),Zdu hu,_,rfl,Yk (fun z=>?_) (fun z=>q (by rw [hb]) fun y=>z (decide_eq_true (List.mem_map.mpr ⟨e,y,rfl⟩)))⟩))⟩
  refine WSs.last (Wu T.x_BadEnd PySem.F.excBase_ValueError rfl (Zb Ze Za)) ⟨sz (by simp),qE fun y=>?_⟩
  have z:trP e∈es.map trP:=of_decide_eq_true z
  obtain ⟨e',he',h'⟩:=List.mem_map.mp z
  rw [Zk0 h'] at he'
  exact y.2 he'
theorem Ziy(T:Tx K mg){k:Nat}(h:3≤k:=by decide):Yf P w K mg base (CXF P w) k T.d_refuse_post.f T.d_refuse_post.fd ["end", "part_at", "ends_with_signals"] (Zwk T):=(Zig T).mono h
theorem Zu.offD{H:Hp}{c t:Addr}{o:HO}{xs:List (Key×V)}{q:Zc}(h:Zu H t q)(hc:H c=some (.dK xs)):Zu (upd H c o) t q:=by
 unfold Zu at h ⊢
 exact (Zi fun z=>by rw [z,hc] at h;cases h).trans h
abbrev G3:=Str×Str×Str
def Zcp(ps:List Zc)(e:Zc):Prop:=∃p∈ps,p.2=e.1∧e.2∈Yc p.1∧Zes p.1=true
instance (ps:List Zc) (e:Zc):Decidable (Zcp ps e):=inferInstanceAs (Decidable (∃p∈ps,p.2=e.1∧e.2∈Yc p.1∧Zes p.1=true))
def Zc8(ps:List Zc):List G3→List G3→Option Bool
 | _,[]=>none
 | done,g ::r=>if Xe g.1=true∧g.1∉done.map Prod.fst then (if Zcp ps g.2∧g.2∉done.map Prod.snd then Zc8 ps (done++[g]) r else some false) else some true
structure Zby(ps:List Zc)(sg:List G3):Prop where
 name:∀g∈sg,Xe g.1=true
 nd:(sg.map Prod.fst).Nodup
 one:(sg.map Prod.snd).Nodup
 at_:∀g∈sg,Zcp ps g.2
theorem Zby.snoc{ps:List Zc}{sg:List G3}{g:G3}(h:Zby ps sg)(h1:Xe g.1=true)(h2:g.1∉sg.map Prod.fst)(h3:Zcp ps g.2)(h4:g.2∉sg.map Prod.snd):Zby ps (sg++[g]):=by
 refine ⟨fun x hx=>?_,?_,?_,fun x hx=>?_⟩
 ·rcases List.mem_append.mp hx with z|z
  ·exact h.name x z
  ·rw [List.mem_singleton.mp z];exact h1
 ·rw [List.map_append];exact Yz.mpr ⟨h.nd,h2⟩
 ·rw [List.map_append];exact Yz.mpr ⟨h.one,h4⟩
 ·rcases List.mem_append.mp hx with z|z
  ·exact h.at_ x z
  ·rw [List.mem_singleton.mp z];exact h3
theorem Zc0{ps:List Zc}:∀{good done rest:List G3},Zby ps (done++good)→Zc8 ps done (good++rest)=Zc8 ps (done++good) rest
 | [],done,rest,_=>by rw [List.append_nil];rfl
 | g ::good,done,rest,h=>by
  have e:done++g ::good=(done++[g])++good:=by simp
  have hm:g∈done++g ::good:=List.mem_append_right _ List.mem_cons_self
  have n1:=h.nd
  have n2:=h.one
  rw [e,List.map_append] at n1 n2
  have n1':=(List.nodup_append.mp n1).1
  have n2':=(List.nodup_append.mp n2).1
  rw [List.map_append] at n1' n2'
  show (if Xe g.1=true∧g.1∉done.map Prod.fst then (if Zcp ps g.2∧g.2∉done.map Prod.snd then Zc8 ps (done++[g]) (good++rest) else some false) else some true)=_
  rw [if_pos ⟨h.name g hm,(Yz.mp n1').2⟩,if_pos ⟨h.at_ g hm,(Yz.mp n2').2⟩,e]
  exact Zc0 (by rw [←e];exact h)
def Zwv(T:Tx K mg):Sp:=fun vs H Q E=>∃(sl pa:Addr) (ts:List Addr) (ps:List Zc) (sg:List G3) (ka:List (List Key×V)),vs=[.ref sl,.ref pa]∧H sl=some (.lst (ts.map V.ref))∧Paired (X5 H) ts sg∧H pa=some (.dT ka)∧(∀g∈sg,Za2 g.1)∧sg.length≤100∧(ps.map Prod.snd).Nodup ∧
 (∀e:Zc,(e∉Ye ps∧Y1 ka (Yp e)=none)∨∃p∈ps,p.2=e.1∧e.2∈Yc p.1∧∃x C,Y1 ka (Yp e)=some (.ref x)∧Zcf T p.1 C∧Zeu H C x p.2) ∧
 (Zby ps sg→∀(d:Addr) (ks:List (Key×V)) (H':Hp),Same H H'→H d=none→H' d=some (.dK ks)→DP Zcl (RS H') ks (qS sg)→Q (.ref d) H')∧(∀b,Zc8 ps [] sg=some b→∀H',Same H H'→E (.ref (if b then T.CBadName else T.CBadEnd)) none H')
theorem Ztd{H:Hp}{ks:List (Key×V)}{qs:List (Str×Zc)}(h:DP Zcl (RS H) ks qs):∃us:List Addr,ks.map (fun kv=>kv.2)=us.map V.ref∧Paired (Zu H) us (qs.map Prod.snd):=by
 unfold DP at h
 induction h with
 | nil=>exact ⟨[],rfl,.nil⟩
 | cons r _ ih =>
  obtain ⟨us,h1,h2⟩:=ih
  obtain ⟨_,t,hv,ht⟩:=r
  exact ⟨t ::us,by rw [List.map_cons,List.map_cons,h1,hv],.cons ht h2⟩
theorem Zv3(sg:List G3):(qS sg).map Prod.snd=sg.map Prod.snd:=by unfold qS;rw [List.map_map];rfl
theorem Zly{ps:List Zc}(nd:(ps.map Prod.snd).Nodup){p p':Zc}(h:p∈ps)(h':p'∈ps)(e:p.2=p'.2):p=p':=by
 induction ps with
 | nil=>cases h
 | cons a l ih =>
  rw [List.map_cons,List.nodup_cons] at nd
  rcases List.mem_cons.mp h with y|y <;>rcases List.mem_cons.mp h' with y'|y'
  ·rw [y,y']
  ·exact absurd (List.mem_map.mpr ⟨p',y',by rw [←e,y]⟩) nd.1
  ·exact absurd (List.mem_map.mpr ⟨p,y,by rw [e,y']⟩) nd.1
  ·exact ih nd.2 y y'
theorem Zll(T:Tx K mg):Yf P w K mg base (CXF P w) 4 T.d_posts_of.f T.d_posts_of.fd ["signals", "part_at"] (Zwv T):=by
 refine T.d_posts_of.F.okX Zbf (fun vs H Q E h=>?_) (fun cdv A outer s H vs Q E hr h=>?_)
 ·obtain ⟨sl,pa,ts,ps,sg,ka,rfl,_⟩:=h
  rfl
 ·obtain ⟨sl,pa,ts,ps,sg,ka,rfl,hl,hts,hpa,asc,len,ndp,hk,q,qE⟩:=h
  have htl:=Paired.length hts
  refine WSs.step (Zn (i:=2) Zbf.nd rfl (by first | exact Or.inl rfl | exact Or.inr rfl) Zjd) fun d H1 s1 n1 e1=>?_
  refine WSs.step (Zae PassesOwn.leaving rfl (Yx (pv 0)) (Zq (i:=3) Zbf.nd rfl (by first | exact Or.inl rfl | exact Or.inr rfl)) Zy) ⟨_,rfl,sl,rfl,⟨_,SqL.of (s1.at hl)⟩,Zba (K:=K) (xs:=ts.map V.ref) (fun i σ H'=>(∃o3 o4 o5,σ=[some (.ref sl),some (.ref pa),some (.ref d),o3,o4,o5])∧Same H H'∧Zby ps (sg.take i)∧∃ks,H' d=some (.dK ks)∧DP Zcl (RS H') ks (qS (sg.take i))) ⟨⟨none,none,none,rfl⟩,s1,⟨fun _ z=>(nomatch z),.nil,.nil,fun _ z=>nomatch z⟩,[],e1,.nil⟩ ?_ ?_ ?_⟩
  ·rintro i σ H' _ ⟨_,s2,_⟩
   exact SqL.of (s2.at hl)
  ·rintro i v σ H2 hi ⟨⟨o3,o4,o5,rfl⟩,s2,gd,ks,hd,hD⟩
   rw [List.getElem?_map] at hi
   obtain ⟨t,hti,rfl⟩:=Option.map_eq_some_iff.mp hi
   obtain ⟨⟨nm,pn,en⟩,hg,ht⟩:=Paired.get hts hti
   have ht:H t=some (.tup [.str nm,.str pn,.str en]):=ht
   have hm:((nm,pn,en):Str×Str×Str)∈sg:=List.mem_of_getElem? hg
   have hil:=(List.getElem?_eq_some_iff.mp hg).1
   have split:sg=sg.take i++(nm,pn,en) ::sg.drop (i+1):=by
    conv=>lhs;rw [←List.take_append_drop i sg,List.drop_eq_getElem_cons hil]
    rw [(List.getElem?_eq_some_iff.mp hg).2]
   have pk:Zc8 ps [] sg=Zc8 ps (sg.take i) ((nm,pn,en) ::sg.drop (i+1)):=by
    conv=>lhs;rw [split]
    exact Zc0 (done:=[]) gd
   have hlen:ks.length≤100:=by
    have h1:=hD.len
    unfold qS at h1
    rw [List.length_map,List.length_take] at h1
    omega
   have inK:nm∉(sg.take i).map Prod.fst↔Y1 ks (Zcl nm)=none:=by
    constructor
    ·exact fun z=>hD.none Ze5 (by rw [Zmt];exact z)
    ·intro z m
     rw [←Zmt] at m
     obtain ⟨⟨u,w'⟩,hq,e'⟩:=List.mem_map.mp m
     obtain ⟨v,hv,_⟩:=hD.get Ze5 (by rw [Zmt];exact gd.nd) hq
     rw [show u=nm from e',z] at hv
     cases hv
   refine WSs.step (Zn (i:=4) Zbf.nd rfl (by first | exact Or.inl rfl | exact Or.inr rfl) (Zt (r:=rIx K) Zm (pv 3) Zd (fun _ _=>rfl))) ⟨_,rfl,.inr (.inl ⟨t,_,0,_,rfl,rfl,SqT.of (s2.at ht),Zr (j:=0) rfl,?_⟩)⟩
   refine WSs.step (Zn (i:=5) Zbf.nd rfl (by first | exact Or.inl rfl | exact Or.inr rfl) (Xy (r:=Ze8 K) Zf6 (pv 3) (Wq Zd) W4)) ⟨_,rfl,_,rfl,.inl ⟨t,_,rfl,SqT.of (s2.at ht),(show ¬(HT.sIx 3 0 (some 1)=0∧HT.sIx 3 3 none=3) by decide),fun te H3 s3 n3 e3=>?_⟩⟩
   have s13:=s2.trans s3
   have hte:Zu H3 te (pn,en):=e3
   refine WSs.step (Xt (Z5 (Zec T) hr rfl T.m_refuse_name T.d_refuse_name.F.kp T.d_refuse_name.b .nil Zbv (Zb (pv 4) (Zb (pv 2) Za)))) ⟨_,rfl,_,rfl,nm,d,ks,rfl,asc _ hm,s3.at hd,fun nb hn H4 s4=>?_,fun no H4 s4=>qE true ?_ H4 (s13.trans s4)⟩
   rotate_left
   ·rw [pk]
    exact if_neg fun z=>no ⟨z.1,inK.mp z.2⟩
   have s14:=s13.trans s4
   have hD4:DP Zcl (RS H4) ks (qS (sg.take i)):=hD.mapR fun _ _ _ z=>RS.mono (s3.trans s4) _ _ _ z
   obtain ⟨us,hus,hup⟩:=Ztd hD4
   rw [Zv3] at hup
   obtain ⟨kn,hkn,hbe⟩:∃kn:Option Bool,((kn=none∧Y1 ka (Yp (pn,en))=none)∨∃x C k nm,Y1 ka (Yp (pn,en))=some (.ref x)∧Zcf T k C∧Zeu H C x nm∧kn=some (Zes k))∧(kn=some true↔Zcp ps (pn,en)):=by
    rcases hk (pn,en) with ⟨z1,z2⟩|⟨p,hp,z1,z2,x,C,z3,z4,z5⟩
    ·exact ⟨none,.inl ⟨rfl,z2⟩,fun z=>(nomatch z),fun ⟨p,hp,y1,y2,_⟩=>absurd (List.mem_flatMap.mpr ⟨p,hp,List.mem_map.mpr ⟨en,y2,by rw [y1]⟩⟩) z1⟩
    ·refine ⟨_,.inr ⟨x,C,p.1,p.2,z3,z4,z5,rfl⟩,fun z=>⟨p,hp,z1,z2,Option.some.inj z⟩,fun ⟨p',hp',y1,y2,y3⟩=>?_⟩
     rw [Zly ndp hp hp' (z1.trans y1.symm),y3]
   refine WSs.step (Xt (Z5 (Ziy T) hr rfl T.m_refuse_post T.d_refuse_post.F.kp T.d_refuse_post.b .nil Zbv (Zb (pv 5) (Zb (pv 1) (Zb (Zln rfl (by rfl) T.n_list (pv 2)) Za))))) ⟨_,rfl,_,rfl,_,rfl,d,ks,rfl,.inl (s4.at (s3.at hd)),fun l H5 s5 n5 e5=>⟨te,pa,l,(pn,en),kn,ka,us,_,rfl,(hte.mono s4).mono s5,(s14.trans s5).at hpa,hkn.imp id (fun ⟨x,C,k,nm,y1,y2,y3,y4⟩=>⟨x,C,k,nm,y1,y2,y3.mono (s14.trans s5),y4⟩),by rw [←hus];exact e5,Paired.mapP hup fun _ _ r=>r.mono s5,fun y1 y2=>?_,fun no=>qE false ?_ H5 (s14.trans s5)⟩⟩
   rotate_left
   ·rw [pk]
    show (if Xe nm=true∧nm∉(sg.take i).map Prod.fst then (if Zcp ps (pn,en)∧((pn,en):Zc)∉(sg.take i).map Prod.snd then _ else some false) else some true)=some false
    rw [if_pos ⟨nb,inK.mpr hn⟩,if_neg fun z=>no ⟨hbe.mpr z.1,z.2⟩]
   have s15:=s14.trans s5
   have hd5:H5 d=some (.dK ks):=s5.at (s4.at (s3.at hd))
   refine WSs.last (Zcy (Zdb hr) (pv 2) (pv 4) (pv 5) rfl) ⟨_,rfl,_,rfl,_,rfl,d,_,rfl,Zfv.k (k:=Zcl nm) hd5 (Z4 (by omega)),⟨_,_,_,rfl⟩,s15.upd0 n1,?_,_,Zj,?_⟩
   ·rw [List.take_add_one,hg]
    exact gd.snoc nb (inK.mpr hn) (hbe.mp y1) y2
   have:qS (sg.take (i+1))=qS (sg.take i)++[(nm,(pn,en))]:=by
    unfold qS
    rw [List.take_add_one,hg,List.map_append]
    rfl
   rw [this]
   have hD6:DP Zcl (RS (upd H5 d (.dK (Zb6 ks (Zcl nm) (.ref te))))) ks (qS (sg.take i)):=hD4.mapR fun _ _ _ ⟨u,z1,z2⟩=>⟨u,z1,(z2.mono s5).offD hd5⟩
   exact hD6.put hn ⟨te,rfl,((hte.mono s4).mono s5).offD hd5⟩
  ·rintro σ H2 ⟨⟨o3,o4,o5,rfl⟩,s2,gd,ks,hd,hD⟩
   rw [List.length_map,htl,List.take_length] at hD gd
   exact WSs.last (Z8 (pv 2)) ⟨_,rfl,q gd d ks H2 s2 n1 hd hD⟩
theorem Zm3(T:Tx K mg){k:Nat}(h:4≤k:=by decide):Yf P w K mg base (CXF P w) k T.d_posts_of.f T.d_posts_of.fd ["signals", "part_at"] (Zwv T):=(Zll T).mono h
structure Za8(T:Tx K mg)(H:Hp)(x:Addr)(ps:List Zc)(js:List (Zc×Zc))(sg:List (Str×Str×Str)):Prop where
 ex:∃(dx po jo so si:Addr) (kp ks:List (Key×V)) (kj ko:List (List Key×V)),H x=some (.ins T.CTracks dx [("part_of",.ref po),("joined",.ref jo),("post_of",.ref so),("signal_on",.ref si)]) ∧
  H po=some (.dK kp)∧DP Zcl (RP T H) kp (qP ps)∧H jo=some (.dT kj)∧DP Yp (RJ H) kj (qJ js)∧H so=some (.dK ks)∧DP Zcl (RS H) ks (qS sg)∧H si=some (.dT ko)∧DP Yp RO ko (qO sg)
theorem Za8.mono{T:Tx K mg}{H H':Hp}{x:Addr}{ps:List Zc}{js:List (Zc×Zc)}{sg:List (Str×Str×Str)}(e:Same H H')(h:Za8 T H x ps js sg):Za8 T H' x ps js sg:=by
 obtain ⟨dx,po,jo,so,si,kp,ks,kj,ko,h1,h2,h3,h4,h5,h6,h7,h8,h9⟩:=h.ex
 exact ⟨dx,po,jo,so,si,kp,ks,kj,ko,e.at h1,e.at h2,h3.mapR (RP.mono e),e.at h4,h5.mapR (RJ.mono e),e.at h6,h7.mapR (RS.mono e),e.at h8,h9⟩
def del(H:Hp)(x:Addr):Hp:=fun b=>if b=x then none else H b
theorem Zdt{H:Hp}{x:Addr}:del H x x=none:=if_pos rfl
theorem Zaf{H:Hp}{x b:Addr}{o:HO}(h:H b=some o)(n:b≠x):del H x b=some o:=(if_neg n).trans h
theorem Zag{H:Hp}{x:Addr}{o:HO}:Same (del H x) (upd H x o):=fun b u e=>by
 unfold del at e
 by_cases z:b=x
 ·rw [if_pos z] at e;cases e
 ·rw [if_neg z] at e;rw [Zi z];exact e
theorem Zct{G H:Hp}{x:Addr}(s:Same G H)(n:G x=none):Same G (del H x):=fun b u e=>Zaf (s.at e) (Zh e n)
structure Zjp(ps:List Zc)(js:List (Zc×Zc))(sg:List (Str×Str×Str)):Prop where
 net:Net ps js []
 len:ps.length≤40
 name:∀p∈ps,Zac p.2
 sigs:Zbe ps sg
theorem Zg8(ps:List Zc):(Ye ps).length≤4 * ps.length:=by rw [←Zhn,List.length_map];exact Zsc ps
theorem _root_.YM.Net.flat{ps:List Zc}{js:List (Zc×Zc)}(h:Net ps js []):(Yr js).Perm (Ye ps):=by
 have:=h.perm
 rw [List.append_nil] at this
 exact this
theorem _root_.YM.Net.jlen{ps:List Zc}{js:List (Zc×Zc)}(h:Net ps js [])(l:ps.length≤40):js.length≤300:=by
 have h1:=h.flat.length_eq
 have h2:=Zg8 ps
 rw [←Zav,List.length_map,Zhu] at h1
 omega
theorem Zv1{ps:List Zc}{p:Zc}{e:Str}(hp:p∈ps)(he:e∈Yc p.1):((p.2,e),p.1)∈qA ps:=List.mem_flatMap.mpr ⟨p,hp,List.mem_map.mpr ⟨e,he,rfl⟩⟩
theorem Zmf{H:Hp}{x:Addr}:Same (del H x) H:=fun b u e=>by
 unfold del at e
 by_cases z:b=x
 ·rw [if_pos z] at e;cases e
 ·rw [if_neg z] at e;exact e
def clR(T:Tx K mg):Nat→Addr
 | 0=>T.CTooMany
 | 1=>T.CBadName
 | _=>T.CBadEnd
def Zlg(ps:List Zc)(sg:List G3):Prop:=40<ps.length∨40<sg.length
def Rf(ps:List Zc)(js:List (Zc×Zc))(sg:List G3):Nat→Prop
 | 0=>Zlg ps sg
 | 1=>¬Zlg ps sg∧(¬Zdr ps∨(Zdr ps∧Zbm (Ye ps) js∧Zc8 ps [] sg=some true))
 | 2=>¬Zlg ps sg∧Zdr ps∧(¬Zbm (Ye ps) js∨(Zbm (Ye ps) js∧Zc8 ps [] sg=some false))
 | _=>False
structure Zjl(ps:List Zc)(js:List (Zc×Zc))(sg:List G3):Prop where
 few:¬Zlg ps sg
 n:Zdr ps
 j:Zbm (Ye ps) js
 p:Zby ps sg
def Zq3(T:Tx K mg):Sp:=fun vs H Q E=>∃(G:Hp) (x dx pl jl:Addr) (sv:V) (xs:List Addr) (ps:List Zc) (js:List (Zc×Zc)) (sg:List G3),vs=[.ref x,.ref pl,.ref jl,sv]∧G x=none∧Same G H∧H x=some (.ins T.CTracks dx []) ∧
 G pl=some (.lst (xs.map V.ref))∧Paired (PO T G) xs ps∧Z1 G jl js∧((sv=.non∧sg=[])∨∃sl,sv=.ref sl∧Wn G sl sg)∧(∀p∈ps,Za2 p.2)∧(∀g∈sg,Za2 g.1)∧ps.length≤100∧js.length≤300∧sg.length≤100 ∧
 (Zjl ps js sg→∀H',Same G H'→Za8 T H' x ps js sg→Q .non H')∧∀c,Rf ps js sg c→∀H',Same G H'→E (.ref (clR T c)) none H'
theorem Zeg(T:Tx K mg):Yf P w K mg base (CXF P w) 5 T.d_Tracks___init__.f T.d_Tracks___init__.fd ["self", "parts", "joins", "signals"] (Zq3 T):=by
 refine T.d_Tracks___init__.F.okX X7 (fun vs H Q E h=>?_) (fun cdv A outer s H vs Q E hr h=>?_)
 ·obtain ⟨G,x,dx,pl,jl,sv,xs,ps,js,sg,rfl,_⟩:=h
  rfl
 ·obtain ⟨G₀,x,dx,pl,jl,sv,xs,ps,js,sg,rfl,hGx,s0,hx,hpl,hxs,hjl,hsv,ascP,ascG,plen,jlen,slen,q,qE⟩:=h
  refine WSs.cut (fun σ' H'=>∃sl,σ'=[some (.ref x),some (.ref pl),some (.ref jl),some sv,some (.ref sl),none]∧Same H H'∧Wn H' sl sg) ?_ ?_
  ·rcases hsv with ⟨rfl,rfl⟩|⟨sl,rfl,hsl⟩
   ·exact WS.of (Zn (i:=4) X7.nd rfl (by first | exact Or.inl rfl | exact Or.inr rfl) (Zma (Zo Zq8 (pv 3) Zr1 (Zx _)) (Zl Za) (pv 3))) ⟨_,rfl,rfl,_,rfl,Znp ⟨sz (by simp),fun sl H1 s1 n1 e1=>⟨sl,rfl,s1,[],e1,.nil⟩⟩⟩
   ·exact WS.of (Zn (i:=4) X7.nd rfl (by first | exact Or.inl rfl | exact Or.inr rfl) (Zma (Zo Zq8 (pv 3) Zr1 (Zx _)) (Zl Za) (pv 3))) ⟨_,rfl,rfl,_,rfl,Zxg ⟨_,rfl,sl,rfl,Same.refl _,hsl.mono s0⟩⟩
  rintro σ' H0 ⟨sl,rfl,s01,⟨ts,hsl0,hts0⟩⟩
  have hx0:=s01.at hx
  have sG:Same G₀ (del H0 x):=Zct (s0.trans s01) hGx
  have hsl:del H0 x sl=some (.lst (ts.map V.ref)):=Zaf hsl0 fun z=>by rw [z,hx0] at hsl0;cases hsl0
  have hts:Paired (X5 (del H0 x)) ts sg:=Paired.mapP hts0 fun b g r=>Zaf r fun z=>by rw [z] at r;exact nomatch hx0.symm.trans r
  have hGx:del H0 x x=none:=Zdt
  have s0:Same (del H0 x) H0:=Zmf
  have hpl:=sG.at hpl
  have hxs:Paired (PO T (del H0 x)) xs ps:=Paired.mapP hxs fun _ _ r=>r.mono sG
  have hjl:=hjl.mono sG
  have q:Zjl ps js sg→∀H',Same (del H0 x) H'→Za8 T H' x ps js sg→Q .non H':=fun g H' s' t=>q g H' (sG.trans s') t
  have qE:∀c,Rf ps js sg c→∀H',Same (del H0 x) H'→E (.ref (clR T c)) none H':=fun c r H' s'=>qE c r H' (sG.trans s')
  have hx:=hx0
  clear hx0 hsl0 hts0 s01
  generalize hG:del H0 x=G at *
  have hxl:=Paired.length hxs
  have htl:=Paired.length hts
  refine WSs.step (Yg (PW.pt (Zro (Zo Zgf (Zp (r:=Xb K) Xf (by rfl) T.n_len PySem.boot_len (Zb (pv 1) Za)) (Zfo (by rfl) T.c_MOST_PARTS) (Zx _)) (Znb (Zo Zgf (Zp (r:=Xb K) Xf (by rfl) T.n_len PySem.boot_len (Zb (pv 4) Za)) (Zfo (by rfl) T.c_MOST_SIGNALS) (Zx _))))) Zy Z2) ⟨_,rfl,.inl ⟨pl,_,rfl,.inl (SqL.of (s0.at hpl)),_,_,rfl,rfl,_,rfl,Yk (fun z=>?_) (fun z1=>⟨_,rfl,.inl ⟨sl,_,rfl,.inl (SqL.of (s0.at hsl)),_,_,rfl,rfl,_,rfl,Yk (fun z=>?_) (fun z2=>?_)⟩⟩)⟩⟩
  ·have z:=of_decide_eq_true z
   rw [List.length_map] at z
   exact WSs.last (Wu T.x_TooMany PySem.F.excBase_ValueError rfl (Zb Ze Za)) ⟨sz (by simp),qE 0 (.inl (by omega)) H0 s0⟩
  ·have z:=of_decide_eq_true z
   rw [List.length_map] at z
   exact WSs.last (Wu T.x_TooMany PySem.F.excBase_ValueError rfl (Zb Ze Za)) ⟨sz (by simp),qE 0 (.inr (by omega)) H0 s0⟩
  have few:¬Zlg ps sg:=by
   rintro (y|y)
   ·exact z1 (decide_eq_true (by rw [List.length_map];omega))
   ·exact z2 (decide_eq_true (by rw [List.length_map];omega))
  refine WSs.step (Zid (pv 0) (Z5 (Zgn T) hr rfl T.m_parts_by_name T.d_parts_by_name.F.kp T.d_parts_by_name.b .nil Zbv (Zb (pv 1) Za)) rfl) ⟨_,rfl,pl,xs,ps,rfl,s0.at hpl,Paired.mapP hxs fun _ _ r=>r.mono s0,ascP,by omega,fun gN po kp H1 s1 m1 e1 dp=>⟨_,rfl,x,_,dx,_,rfl,s1.at hx,T.clTracks,T.nTracks_part_of,by simp,?_⟩,fun bad H1 s1=>qE 1 ⟨few,.inl bad⟩ H1 (s0.trans s1)⟩
  have hpx:po≠x:=fun z=>by rw [z,hx] at m1;cases m1
  have g1:Same G (del H1 x):=Zct (s0.trans s1) hGx
  have dp1:DP Zcl (RP T (del H1 x)) kp (qP ps):=dp.mapR fun a b v ⟨y,C,z1,z2,dy,z3⟩=>⟨y,C,z1,z2,dy,Zaf (s1.at z3) fun z=>by rw [z,hx] at z3;cases z3⟩
  have ep1:del H1 x po=some (.dK kp):=Zaf e1 hpx
  refine WSs.step (Zn (i:=5) X7.nd rfl (by first | exact Or.inl rfl | exact Or.inr rfl) (Z5 (Zgs T) hr rfl T.m_ends_to_parts T.d_ends_to_parts.F.kp T.d_ends_to_parts.b .nil Yn (Zb (Zhi (pv 0) rfl) Za))) ⟨_,rfl,x,_,dx,_,_,rfl,Zj,T.clTracks,T.nTracks_part_of,rfl,po,kp,ps,rfl,Zag.at ep1,dp1.mapR (RP.mono Zag),gN.2,by omega,fun pa ka H2 s2 m2 e2 da=>?_⟩
  have hx2:=s2.at Zj
  have ep2:Same G H2:=(g1.trans Zag).trans s2
  have and':((qA ps).map Prod.fst).Nodup:=by rw [Zhn];exact Za1 gN.2
  have kaq:∀p∈ps,∀e∈Yc p.1,∃v,Y1 ka (Yp (p.2,e))=some v∧RA T _ (p.2,e) p.1 v:=fun p hp e he=>da.get Zab and' (Zv1 hp he)
  have kan:∀e,e∉Ye ps→Y1 ka (Yp e)=none:=fun e he=>da.none Zab (by rw [Zhn];exact he)
  have known:∀e,(Y1 ka (Yp e)).isSome=true↔e∈Ye ps:=fun e=>by
   constructor
   ·intro z
    refine Decidable.byContradiction fun n=>?_
    rw [kan e n] at z
    cases z
   ·intro z
    obtain ⟨p,hp,hm⟩:=List.mem_flatMap.mp z
    obtain ⟨e',he',rfl⟩:=List.mem_map.mp hm
    obtain ⟨v,hv,_⟩:=kaq p hp e' he'
    rw [hv];rfl
  refine WSs.step (Zid (pv 0) (Z5 (Ziv T) hr rfl T.m_joined_ends T.d_joined_ends.F.kp T.d_joined_ends.b .nil Zbv (Zb (pv 2) (Zb (pv 5) Za))) rfl) ⟨_,rfl,_,rfl,jl,pa,js,ka,Ye ps,rfl,hjl.mono ep2,e2,known,by rw [←Zhn,List.length_map];exact da.len,jlen,fun gJ jo kj H3 s3 m3 e3 dj=>⟨_,rfl,x,_,dx,_,rfl,s3.at hx2,T.clTracks,T.nTracks_joined,(by show 1<1000;decide),?_⟩,fun bad H3 s3=>qE 2 ⟨few,gN,.inl bad⟩ H3 (ep2.trans s3)⟩
  have hjx:jo≠x:=fun z=>by rw [z,hx2] at m3;cases m3
  have s13:Same (del H1 x) (del H3 x):=Zct ((Zag.trans s2).trans s3) Zdt
  have ej3:del H3 x jo=some (.dT kj):=Zaf e3 hjx
  have hpax:pa≠x:=fun z=>by rw [z,hx2] at e2;cases e2
  have epa:del H3 x pa=some (.dT ka):=Zaf (s3.at e2) hpax
  have dj3:DP Yp (RJ (del H3 x)) kj (qJ js):=dj.mapR fun a b v ⟨u,z1,z2⟩=>⟨u,z1,Zaf (s3.at z2) fun z=>by rw [z] at z2;exact nomatch hx2.symm.trans z2⟩
  have g3:Same G (del H3 x):=g1.trans s13
  refine WSs.step (Zid (pv 0) (Z5 (Zm3 T) hr rfl T.m_posts_of T.d_posts_of.F.kp T.d_posts_of.b .nil Zbv (Zb (pv 4) (Zb (pv 5) Za))) rfl) ⟨_,rfl,_,rfl,sl,pa,ts,ps,sg,ka,rfl,Zag.at (g3.at hsl),Paired.mapP hts fun _ _ r=>(g3.trans Zag).at r,Zag.at epa,ascG,by omega,gN.2,fun e=>?_,fun gP so ks H4 s4 m4 e4 ds=>⟨_,rfl,x,_,dx,_,rfl,s4.at Zj,T.clTracks,T.nTracks_post_of,(by show 2<1000;decide),?_⟩,fun b hb H4 s4=>?_⟩
  ·by_cases he:e∈Ye ps
   ·obtain ⟨p,hp,hm⟩:=List.mem_flatMap.mp he
    obtain ⟨e',he',rfl⟩:=List.mem_map.mp hm
    obtain ⟨v,hv,y,C,rfl,hC,dy,hO⟩:=kaq p hp e' he'
    refine .inr ⟨p,hp,rfl,he',y,C,hv,hC,dy,?_⟩
    have hyx:y≠x:=fun z=>by rw [z,Zj] at hO;cases hO
    rw [Zi hyx]
    exact s3.at (s2.at hO)
   ·exact .inl ⟨he,kan e he⟩
  rotate_left
  ·have sb:Same G H4:=(g3.trans Zag).trans s4
   cases b with
   | true=>exact qE 1 ⟨few,.inr ⟨gN,gJ,hb⟩⟩ H4 sb
   | false=>exact qE 2 ⟨few,gN,.inr ⟨gJ,hb⟩⟩ H4 sb
  have hsx:so≠x:=fun z=>by rw [z,Zj] at m4;cases m4
  have hx4:=s4.at (Zj (H:=H3) (a:=x))
  have s34:Same (del H3 x) (del H4 x):=Zct (Zag.trans s4) Zdt
  have es4:del H4 x so=some (.dK ks):=Zaf e4 hsx
  have ds4:DP Zcl (RS (del H4 x)) ks (qS sg):=ds.mapR fun a b v ⟨u,z1,z2⟩=>⟨u,z1,Zaf z2 fun z=>by rw [z] at z2;exact nomatch hx4.symm.trans z2⟩
  refine WSs.last (Zid (pv 0) (Y4 (r:=Zq1) (Zm4 rfl hr.units) (by rfl) T.n_dict PyProof.Rows.boot_dict (Zb (Zoo (W2 (N':=["name", "end"]) rfl (Z9.std 2 [] rfl (by decide +kernel) (by decide +kernel) rfl trivial rfl rfl trivial) (Zic (Zhi (pv 0) rfl)) (fun _ _ _ _=>(Zcx (K:=K) (n:=2) rfl rfl (Zw (Zq (i:=0) (by show (["name", "end"]:List Str).Nodup;decide +kernel) rfl (Or.inl (lookup_relabel_local rfl)) (Or.inr (lookup_relabel_local rfl))) (Zw (Zq (i:=1) (by show (["name", "end"]:List Str).Nodup;decide +kernel) rfl (Or.inl (lookup_relabel_local rfl)) (Or.inr (lookup_relabel_local rfl))) Y8)))) (fun _ _ _ _=>W9) (fun _ _ _ _=>(Zf (Zb (pv 1) (Zb (pv 0) Za)))))) Za)) rfl) ⟨_,rfl,x,_,dx,_,_,rfl,Zj,T.clTracks,T.nTracks_post_of,rfl,so,ks,rfl,Zag.at es4,fun o nf D hD=>Zie (fun i ys H'=>Same (upd (upd H4 x (.ins T.CTracks dx [("part_of",.ref po),("joined",.ref jo),("post_of",.ref so)])) so (.frz o (.dK ks))) H'∧H' D=some (.lst ys)∧∃tps:List Addr,ys=tps.map V.ref∧Paired (fun t (q:List Key×V)=>∃a,H' t=some (.tup [.ref a,q.2])∧H' a=some (.tup (q.1.map kV))) tps ((qO (sg.take i)).map fun q=>(Yp q.1,V.str q.2))) ⟨Same.new hD,Zj,[],rfl,.nil⟩ ?_ ?_ ?_⟩
  ·rintro i ys H' _ ⟨z,_⟩
   exact z.at Zj
  ·rintro i kv ys H5 hi ⟨s5,hD5,tps,rfl,htp⟩ tp H6 s6 n6 e6
   obtain ⟨⟨nm,e⟩,hq,hk,t,hv,ht⟩:=Paired.get ds4 hi
   have hk:kv.1=Sum.inr nm:=hk
   rw [hk,hv] at e6
   have hg:sg[i]? =some (nm,e.1,e.2):=by
    unfold qS at hq
    rw [List.getElem?_map] at hq
    obtain ⟨⟨g1,g2,g3⟩,hg,e'⟩:=Option.map_eq_some_iff.mp hq
    rw [hg]
    simp only [Prod.mk.injEq] at e'
    rw [←e'.1,←e'.2]
   have hil:=(List.getElem?_eq_some_iff.mp hg).1
   have hto:t≠so:=fun z=>by rw [z] at ht;exact nomatch es4.symm.trans ht
   have htF:upd (upd H4 x (.ins T.CTracks dx [("part_of",.ref po),("joined",.ref jo),("post_of",.ref so)])) so (.frz o (.dK ks)) t=some (.tup ((Yp e).map kV)):=by
    rw [Zi hto]
    exact Zag.at ht
   have htl':tps.length≤100:=by
    have:=Paired.length htp
    unfold qO at this
    rw [List.length_map,List.length_map,List.length_take] at this
    omega
   refine ⟨tp,_,rfl,SqT.of e6,rfl,_,_,rfl,_,_,rfl,rfl,(Wr.set rfl).trans (Wr.set rfl),_,rfl,_,rfl,sz (by simp),fun t' H7 s7 n7 e7=>⟨s7.at (s6.at hD5),by rw [List.length_map];exact Z4 (by omega),?_,Zj,tps++[t'],by rw [List.map_append];rfl,?_⟩⟩
   ·intro c u z
    rw [Zi (Zh z hD)]
    exact s7.at (s6.at (s5.at z))
   ·have hD7:=s7.at (s6.at hD5)
    have off:∀{c:Addr} {xs:List V} {u:HO},H7 c=some (.tup xs)→upd H7 D u c=some (.tup xs):=fun {c xs u} z=>(Zi fun y=>by rw [y,hD7] at z;cases z).trans z
    have:(qO (sg.take (i+1))).map (fun q=>(Yp q.1,V.str q.2))=(qO (sg.take i)).map (fun q=>(Yp q.1,V.str q.2))++[(Yp e,V.str nm)]:=by
     unfold qO
     rw [List.take_add_one,hg,List.map_append,List.map_append]
     rfl
    rw [this]
    exact Paired.snoc (Paired.mapP htp fun _ _ ⟨a,z1,z2⟩=>⟨a,off (s7.at (s6.at z1)),off (s7.at (s6.at z2))⟩) ⟨t,off e7,off (s7.at (s6.at (s5.at htF)))⟩
  ·rintro ys H5 ⟨s5,hD5,tps,rfl,htp⟩
   have hks:ks.length=sg.length:=by
    have:=ds4.len
    unfold qS at this
    rw [List.length_map] at this
    exact this
   rw [hks,List.take_length] at htp
   have hso5:=s5.at Zj
   have off:∀{c:Addr} {xs:List V} {u:HO},H5 c=some (.tup xs)→upd H5 so u c=some (.tup xs):=fun {c xs u} z=>(Zi fun y=>by rw [y,hso5] at z;cases z).trans z
   have sT:Same (upd H4 x (.ins T.CTracks dx [("part_of",.ref po),("joined",.ref jo),("post_of",.ref so)])) (upd H5 so (.dK ks)):=s5.thaw (Zag.at es4)
   refine ⟨so,o,_,hso5,nf,D,tps,_,rfl,?_,Paired.mapP htp fun _ _ ⟨a,z1,z2⟩=>⟨a,off z1,off z2⟩,?_,fun si H8 s8 n8 e8=>⟨_,rfl,x,_,dx,_,rfl,s8.at (sT.at Zj),T.clTracks,T.nTracks_signal_on,(by show 3<1000;decide),?_⟩⟩
   ·rw [Zi fun y=>by rw [y,hso5] at hD5;cases hD5]
    exact hD5
   ·rw [List.map_map]
    have e1:(qO sg).map (Prod.fst ∘ fun q=>(Yp q.1,V.str q.2))=((qO sg).map Prod.fst).map Yp:=by rw [List.map_map];rfl
    rw [e1,Zuo]
    exact gP.one.map Yp fun a b ne z=>ne (Zab a b z)
   have hix:si≠x:=fun z=>by rw [z,sT.at Zj] at n8;cases n8
   have s48:Same (del H4 x) (del H8 x):=Zct ((Zag.trans sT).trans s8) Zdt
   have ei8:del H8 x si=some (.dT ((qO sg).map fun q=>(Yp q.1,V.str q.2))):=Zaf e8 hix
   have f4:Same (del H4 x) (upd H8 x (.ins T.CTracks dx [("part_of",.ref po),("joined",.ref jo),("post_of",.ref so),("signal_on",.ref si)])):=s48.trans Zag
   have f3:=s34.trans f4
   have f1:=s13.trans f3
   refine q ⟨few,gN,gJ,gP⟩ _ (g1.trans f1) ⟨dx,po,jo,so,si,kp,ks,kj,_,Zj,f1.at ep1,dp1.mapR (RP.mono f1),f3.at ej3,dj3.mapR (RJ.mono f3),f4.at es4,ds4.mapR (RS.mono f4),Zag.at ei8,?_⟩
   have all:∀l:List (Zc×Str),DP Yp RO (l.map fun q=>(Yp q.1,V.str q.2)) l:=fun l=>by
    induction l with
    | nil=>exact .nil
    | cons p l ih=>exact .cons ⟨rfl,rfl⟩ ih
   exact all _
theorem Zay(T:Tx K mg){k:Nat}(h:5≤k:=by decide):Yf P w K mg base (CXF P w) k T.d_Tracks___init__.f T.d_Tracks___init__.fd ["self", "parts", "joins", "signals"] (Zq3 T):=(Zeg T).mono h
def mrT(T:Tx K mg)(E:XK)(vs:List V)(sv:V)(H:Hp)(Q:VK):Prop:=∃(pl jl:Addr) (xs:List Addr) (ps:List Zc) (js:List (Zc×Zc)) (sg:List G3),vs=[.ref pl,.ref jl]∧H pl=some (.lst (xs.map V.ref))∧Paired (PO T H) xs ps∧Z1 H jl js∧((sv=.non∧sg=[])∨∃sl,sv=.ref sl∧Wn H sl sg)∧(∀p∈ps,Za2 p.2)∧(∀g∈sg,Za2 g.1)∧ps.length≤100∧js.length≤300∧sg.length≤100 ∧
 (Zjl ps js sg→∀x H',Same H H'→H x=none→Za8 T H' x ps js sg→Q (.ref x) H')∧∀c,Rf ps js sg c→∀H',Same H H'→E (.ref (clR T c)) none H'
def Zfn(T:Tx K mg)(E:XK):List V→Hp→VK→Prop:=fun vs H Q=>∃us sv,vs=us++[sv]∧mrT T E us sv H Q
def Zh3(T:Tx K mg)(E:XK):List V→Hp→VK→Prop:=fun vs H Q=>mrT T E vs .non H Q
theorem mkT(T:Tx K mg)(E:XK){vs:List V}{sv:V}{H:Hp}{Q:VK}(h:mrT T E vs sv H Q){x dx:Addr}(hx:H x=none)(hdx:H dx=none):Zq3 T (.ref x ::(vs++[sv])) (upd (upd H dx (.own x)) x (.ins T.CTracks dx [])) (fun v H2=>v=.non∧Q (.ref x) H2) E:=by
 obtain ⟨pl,jl,xs,ps,js,sg,rfl,h1,h2,h3,h4,h5,h6,h7,h8,h9,q,qE⟩:=h
 refine ⟨H,x,dx,pl,jl,sv,xs,ps,js,sg,rfl,hx,fun b o e=>?_,Zj,h1,h2,h3,h4,h5,h6,h7,h8,h9,fun g H' s t=>⟨rfl,q g x H' s hx t⟩,qE⟩
 rw [Zi (Zh e hx),Zi (Zh e hdx)]
 exact e
theorem Zj4(T:Tx K mg)(E:XK):∀vs H Q,Zfn T E vs H Q→∀x dx,H x=none→H dx=none→dx≠x→Zq3 T (.ref x ::(vs++[])) (upd (upd H dx (.own x)) x (.ins T.CTracks dx [])) (fun v H2=>v=.non∧Q (.ref x) H2) E:=by
 rintro vs H Q ⟨us,sv,rfl,h⟩ x dx hx hdx ne
 rw [List.append_nil]
 exact mkT T E h hx hdx
theorem Znr(T:Tx K mg)(E:XK):∀vs H Q,Zh3 T E vs H Q→∀x dx,H x=none→H dx=none→dx≠x→Zq3 T (.ref x ::(vs++[.non])) (upd (upd H dx (.own x)) x (.ins T.CTracks dx [])) (fun v H2=>v=.non∧Q (.ref x) H2) E:=fun vs H Q h x dx hx hdx ne=>mkT T E h hx hdx
theorem Zby.none{ps:List Zc}{sg:List G3}(h:Zby ps sg):Zc8 ps [] sg=none:=by
 have:=Zc0 (done:=[]) (good:=sg) (rest:=[]) h
 rw [List.append_nil] at this
 exact this
theorem Zjl.no{ps:List Zc}{js:List (Zc×Zc)}{sg:List G3}(h:Zjl ps js sg):∀c,¬Rf ps js sg c
 | 0,z=>h.few z
 | 1,z=>by
  rcases z.2 with y|⟨_,_,y⟩
  ·exact y h.n
  ·rw [h.p.none] at y;cases y
 | 2,z=>by
  rcases z.2.2 with y|⟨_,y⟩
  ·exact y h.j
  ·rw [h.p.none] at y;cases y
 | _+3,z=>z
theorem Zjp.good{ps:List Zc}{js:List (Zc×Zc)}{sg:List G3}(h:Zjp ps js sg):Zjl ps js sg:=by
 have hl:=h.len
 have hs:=h.sigs.len
 refine ⟨by rintro (z|z) <;>omega,⟨fun p hp=>(h.name p hp).b,h.net.nd⟩,⟨fun e he=>h.net.flat.mem_iff.mp he,h.net.flat.nodup_iff.mpr (Za1 h.net.nd),h.net.apart,by rw [h.net.flat.length_eq];exact Nat.le_refl _⟩,⟨fun g hg=>(h.sigs.name g hg).b,h.sigs.nd,h.sigs.one,fun g hg=>?_⟩⟩
 obtain ⟨p,hp,h1,h2,h3⟩:=h.sigs.at_ g hg
 exact ⟨p,hp,h1,h3,decide_eq_true h2⟩
def Zel(H:Hp)(a:Addr):G3:=match H a with
 | some (.tup [.str x,.str y,.str z])=>(x,y,z)
 | _=>("", "", "")
theorem X5.trip{H:Hp}{a:Addr}{g:G3}(h:X5 H a g):Zel H a=g:=by
 unfold Zel
 rw [show H a=_ from h]
theorem Zwf{H:Hp}{ts:List Addr}{sg:List G3}(h:Paired (X5 H) ts sg):sg=ts.map (Zel H):=by
 induction h with
 | nil=>rfl
 | cons r t ih=>rw [List.map_cons,←ih,r.trip]
def Zhg(l:List G3):Prop:=(l.map Prod.fst).Pairwise fun x y=>¬y.cps.toList<x.cps.toList
theorem Zjx{H:Hp}{p:Addr}{ts:List Addr}{sg:List G3}{Q:VK}(hp:H p=some (.lst (ts.map V.ref)))(h:Paired (X5 H) ts sg)(nd:(sg.map Prod.fst).Nodup)(len:sg.length≤40)
  (q:∀(ts':List Addr) (sg':List G3),sg'.Perm sg→Zhg sg'→Paired (X5 H) ts' sg'→New H (.lst (ts'.map V.ref)) Q):Zlc K [.ref p] H Q:=by
 have hl:=Paired.length h
 have e:=Zwf h
 have mem:∀a∈ts,∃g,X5 H a g:=fun a ha=>by
  obtain ⟨i,hi⟩:=List.getElem?_of_mem ha
  obtain ⟨g,_,hg⟩:=Paired.get h hi
  exact ⟨g,hg⟩
 refine ⟨p,ts,fun a=>(Zel H a).1,rfl,SqL.of hp,fun a ha=>?_,?_,by omega,fun as' hperm hpw=>?_⟩
 ·obtain ⟨g,hg⟩:=mem a ha
  show ∃rest,H a=some (.tup (.str (Zel H a).1 ::rest))
  rw [hg.trip]
  exact ⟨_,hg⟩
 ·rw [e,List.map_map] at nd
  exact nd
 ·refine q as' (as'.map (Zel H)) ?_ ?_ ?_
  ·rw [e];exact hperm.map _
  ·unfold Zhg
   rw [List.map_map]
   exact hpw
  ·have:∀l:List Addr,(∀a∈l,a∈ts)→Paired (X5 H) l (l.map (Zel H)):=fun l hl=>by
    induction l with
    | nil=>exact .nil
    | cons a l ih =>
     obtain ⟨g,hg⟩:=mem a (hl a List.mem_cons_self)
     exact .cons (by rw [hg.trip];exact hg) (ih fun b hb=>hl b (List.mem_cons_of_mem _ hb))
   exact this as' fun a ha=>hperm.mem_iff.mp ha
theorem Zpf{l l' sg:List G3}(h:Zhg l)(h':Zhg l')(p:l.Perm sg)(p':l'.Perm sg)(nd:(sg.map Prod.fst).Nodup):l=l':=by
 have pw:∀{l:List G3},Zhg l→l.Pairwise fun a b=>¬b.1.cps.toList<a.1.cps.toList:=fun {l} h=>by
  unfold Zhg at h
  rw [List.pairwise_map] at h
  exact h
 refine (p.trans p'.symm).eq_of_pairwise (fun a b ha hb h1 h2=>?_) (pw h) (pw h')
 have e:a.1.cps.toList=b.1.cps.toList:=List.le_antisymm (by exact h1) (by exact h2)
 have e1:a.1=b.1:=PyProof.Rows.ext_toList e
 have hb':b∈l:=(p.trans p'.symm).mem_iff.mpr hb
 have nd':(l.map Prod.fst).Nodup:=(p.map _).nodup_iff.mpr nd
 have inj:∀(l:List G3),(l.map Prod.fst).Nodup→∀a∈l,∀b∈l,a.1=b.1→a=b:=fun l=>by
  induction l with
  | nil=>intro _ a ha;cases ha
  | cons c l ih =>
   intro nd a ha b hb e
   rw [List.map_cons,List.nodup_cons] at nd
   rcases List.mem_cons.mp ha with rfl|ya <;>rcases List.mem_cons.mp hb with rfl|yb
   ·rfl
   ·exact absurd (List.mem_map.mpr ⟨b,yb,e.symm⟩) nd.1
   ·exact absurd (List.mem_map.mpr ⟨a,ya,e⟩) nd.1
   ·exact ih nd.2 a ya b yb e
 exact inj l nd' a ha b hb' e1
def Zjq(T:Tx K mg):Sp:=fun vs H Q _=>∃(x:Addr) (ps:List Zc) (js:List (Zc×Zc)) (sg:List G3),vs=[.ref x]∧Za8 T H x ps js sg∧Zjp ps js sg∧∀(sg':List G3) (l:Addr) (H':Hp),sg'.Perm sg→Zhg sg'→Same H H'→H l=none→Wn H' l sg'→Q (.ref l) H'
theorem Zey(T:Tx K mg):Yf P w K mg base CX0 1 T.d_Tracks_signals.f T.d_Tracks_signals.fd ["self"] (Zjq T):=by
 refine T.d_Tracks_signals.F.okW Zfb (fun vs H Q E h=>?_) (fun cdv A outer s H vs Q E hr h=>?_)
 ·obtain ⟨x,ps,js,sg,rfl,_⟩:=h
  rfl
 ·obtain ⟨x,ps,js,sg,rfl,tr,yv,q⟩:=h
  obtain ⟨dx,po,jo,so,si,kp,ks,kj,ko,h1,_,_,_,_,h6,h7,_⟩:=tr.ex
  have hks:ks.length=sg.length:=by
   have:=h7.len
   unfold qS at this
   rw [List.length_map] at this
   exact this
  have slen:=yv.sigs.len
  refine WSs.last (Z8 (Zp (r:=Zlc K) Zib (by rfl) T.n_sorted PyProof.Rows.boot_sorted (Zb (Zoo (W2 (N':=["name", "end"]) rfl (Z9.std 2 [] rfl (by decide +kernel) (by decide +kernel) rfl trivial rfl rfl trivial) (Zic (Zhi (pv 0) rfl)) (fun _ _ _ _=>(Zcx (K:=K) (n:=2) rfl rfl (Zw (Zq (i:=0) (by show (["name", "end"]:List Str).Nodup;decide +kernel) rfl (Or.inl (lookup_relabel_local rfl)) (Or.inr (lookup_relabel_local rfl))) (Zw (Zq (i:=1) (by show (["name", "end"]:List Str).Nodup;decide +kernel) rfl (Or.inl (lookup_relabel_local rfl)) (Or.inr (lookup_relabel_local rfl))) Y8)))) (fun _ _ _ _=>W9) (fun _ _ _ _=>(Zf (Zb (pv 0) (Zb (Zt (r:=rIx K) Zm (pv 1) Zd (fun _ _=>rfl)) (Zb (Zt (r:=rIx K) Zm (pv 1) Zd (fun _ _=>rfl)) Za))))))) Za))) ⟨_,rfl,x,_,dx,_,_,rfl,h1,T.clTracks,T.nTracks_post_of,rfl,so,ks,rfl,h6,fun o nf D hD=>Zie (fun i ys H'=>Same (upd H so (.frz o (.dK ks))) H'∧H' D=some (.lst ys)∧∃ts:List Addr,ys=ts.map V.ref∧Paired (X5 H') ts (sg.take i)) ⟨Same.new hD,Zj,[],rfl,.nil⟩ ?_ ?_ ?_⟩
  ·rintro i ys H' _ ⟨z,_⟩
   exact z.at Zj
  ·rintro i kv ys H2 hi ⟨s2,hD2,ts,rfl,hts⟩ tp H3 s3 n3 e3
   obtain ⟨⟨nm,e⟩,hq,hk,t,hv,ht⟩:=Paired.get h7 hi
   have hk:kv.1=Sum.inr nm:=hk
   rw [hk,hv] at e3
   have hg:sg[i]? =some (nm,e.1,e.2):=by
    unfold qS at hq
    rw [List.getElem?_map] at hq
    obtain ⟨⟨g1,g2,g3⟩,hg,e'⟩:=Option.map_eq_some_iff.mp hq
    rw [hg]
    simp only [Prod.mk.injEq] at e'
    rw [←e'.1,←e'.2]
   have hil:=(List.getElem?_eq_some_iff.mp hg).1
   have hto:t≠so:=fun z=>by rw [z] at ht;exact nomatch h6.symm.trans ht
   have htF:upd H so (.frz o (.dK ks)) t=some (.tup [.str e.1,.str e.2]):=by
    rw [Zi hto]
    exact ht
   have htl:ts.length≤100:=by
    have:=Paired.length hts
    rw [List.length_take] at this
    omega
   have ht3:=SqT.of (K:=K) (s3.at (s2.at htF))
   refine ⟨tp,_,rfl,SqT.of e3,rfl,_,_,rfl,_,_,rfl,rfl,(Wr.set rfl).trans (Wr.set rfl),_,rfl,_,rfl,.inr (.inl ⟨t,_,0,_,rfl,rfl,ht3,Zr (j:=0) rfl,_,rfl,.inr (.inl ⟨t,_,1,_,rfl,rfl,ht3,Zr (j:=1) rfl,sz (by simp),fun t' H4 s4 n4 e4=>⟨s4.at (s3.at hD2),by rw [List.length_map];exact Z4 (by omega),?_,Zj,ts++[t'],by rw [List.map_append];rfl,?_⟩⟩)⟩)⟩
   ·intro c u z
    rw [Zi (Zh z hD)]
    exact s4.at (s3.at (s2.at z))
   ·have hD4:=s4.at (s3.at hD2)
    have off:∀{c:Addr} {xs:List V} {u:HO},H4 c=some (.tup xs)→upd H4 D u c=some (.tup xs):=fun {c xs u} z=>(Zi fun y=>by rw [y,hD4] at z;cases z).trans z
    rw [List.take_add_one,hg]
    exact Paired.snoc (Paired.mapP hts fun _ _ z=>off (s4.at (s3.at z))) (off e4)
  ·rintro ys H2 ⟨s2,hD2,ts,rfl,hts⟩
   rw [hks,List.take_length] at hts
   have hso2:=s2.at Zj
   have off:∀{c:Addr} {xs:List V} {u:HO},H2 c=some (.tup xs)→upd H2 so u c=some (.tup xs):=fun {c xs u} z=>(Zi fun y=>by rw [y,hso2] at z;cases z).trans z
   have sT:Same H (upd H2 so (.dK ks)):=s2.thaw h6
   have hDn:H D=none:=by
    by_cases z:D=so
    ·rw [z,Zj] at hD;cases hD
    ·rw [Zi z] at hD;exact hD
   refine ⟨so,o,_,hso2,nf,?_⟩
   refine Zjx (ts:=ts) (sg:=sg) ?_ (Paired.mapP hts fun _ _ z=>off z) yv.sigs.nd slen fun ts' sg' hp hb hts' l H3 s3 n3 e3=>?_
   ·rw [Zi fun y=>by rw [y,hso2] at hD2;cases hD2]
    exact hD2
   ·exact q sg' l H3 hp hb (sT.trans s3) (sT.free n3) ⟨ts',e3,Paired.mapP hts' fun _ _ z=>s3.at z⟩
theorem Zcn(T:Tx K mg){k:Nat}(h:1≤k:=by decide):Yf P w K mg base CX0 k T.d_Tracks_signals.f T.d_Tracks_signals.fd ["self"] (Zjq T):=(Zey T).mono h
theorem Zeu.offL{H:Hp}{c x C:Addr}{o:HO}{xs:List V}{nm:Str}(h:Zeu H C x nm)(hc:H c=some (.lst xs)):Zeu (upd H c o) C x nm:=by
 obtain ⟨dx,h⟩:=h
 exact ⟨dx,(Zi fun z=>by rw [z,hc] at h;cases h).trans h⟩
def Zar(H:Hp)(t:Addr)(ps:List Zc)(js:List (Zc×Zc))(sg:List (Str×Str×Str)):Prop:=∃pl jl sl,H t=some (.tup [.ref pl,.ref jl,.ref sl])∧Zs H pl ps∧Z1 H jl js∧Wn H sl sg
theorem Zar.mono{H H':Hp}{t:Addr}{ps:List Zc}{js:List (Zc×Zc)}{sg:List (Str×Str×Str)}(e:Same H H')(h:Zar H t ps js sg):Zar H' t ps js sg:=let ⟨pl,jl,sl,h1,h2,h3,h4⟩:=h;⟨pl,jl,sl,e.at h1,h2.mono e,h3.mono e,h4.mono e⟩
theorem Zjf{X:Cx}:Zbj (CXF X.prog X.w) X E0:=fun _ _ _ _ _ _ _ ⟨_,_,_,_,_,_,_,_,_,_,h⟩=>h.elim
theorem _root_.L2.FnOkH.mono{P:Program}{w:World}{K:Frag}{mg:Str→Option Value}{base:Heap}{CX:CXT}{j k:Nat}{f:Addr}{fd:FuncData}{ps:List Str}{sp:Sp}(F:FnOkH P w K mg base CX j f fd ps sp)(h:j≤k):FnOkH P w K mg base CX k f fd ps sp:=⟨F.len,fun A outer s H args us vs Q E hr=>F.run A outer s H args us vs Q E (hr.mono h)⟩
theorem Zac.asc{s:Str}(h:Zac s):Za2 s:=⟨h.low,by have:=h.2.1;omega⟩
theorem Zem{T:Tx K mg}{l D:Addr}{ts:List Addr}{ps:List Zc}{H1:Hp}{Q:VK}{σ:St}{fr:St→St}{g:TG}{te:TE}(hl:H1 l=some (.lst (ts.map V.ref)))(hts:Paired (Zu H1) ts ps)(hn:ps.length≤100)(hD:H1 D=none)
  (q:∀xs H',Same H1 H'→H' D=some (.lst (xs.map V.ref))→Paired (PO T H') xs ps→Q (.ref D) H') (hfr:fr σ=[none,none])
  (hg:∀u (p:Zc) H' N,Zu H' u p→N [some (.str p.1),some (.str p.2)] H'→g (.ref u) [none,none] H' N)
  (hte:∀p H' N,p∈ps→(∀(x C:Addr) (H2:Hp),Same H' H2→H' x=none→Zcf T p.1 C→Zeu H2 C x p.2→N (.ref x) H2)→te [some (.str p.1),some (.str p.2)] H' N):Zc9 (Itl K l) fr g Zrd te Q σ H1 D:=by
 have htl:=Paired.length hts
 refine Xv (K:=K) (xs:=ts.map V.ref) (fun i ys H'=>(∃xs:List Addr,ys=xs.map V.ref∧Paired (PO T H') xs (ps.take i))∧H' D=some (.lst ys)∧Same H1 H') ⟨⟨[],rfl,.nil⟩,Zj,Same.new hD⟩ ?_ ?_ ?_
 ·rintro i ys H' _ ⟨_,_,sm⟩
  exact SqL.of (sm.at hl)
 ·rintro i v ys H' hi ⟨⟨xs,rfl,hxs⟩,hD1,s1⟩
  rw [List.getElem?_map] at hi
  obtain ⟨u,hu,rfl⟩:=Option.map_eq_some_iff.mp hi
  obtain ⟨p,hp,hpu⟩:=Paired.get hts hu
  have hm:p∈ps:=List.mem_of_getElem? hp
  have hxl:xs.length≤100:=by
   have:=Paired.length hxs
   rw [List.length_take] at this
   omega
  unfold Zcb
  rw [hfr]
  refine hg u p H' _ (hpu.mono s1) ⟨(Wr.set (i:=0) rfl).trans (Wr.set (i:=1) rfl),hte p H' _ hm fun x C H2 s2 n2 hC hO=>⟨s2.at hD1,by rw [List.length_map];exact Z4 (by omega),⟨xs++[x],by rw [List.map_append];rfl,?_⟩,Zj,fun b o z=>?_⟩⟩
  ·rw [List.take_add_one,hp]
   exact Paired.append (Paired.mapP hxs fun _ _ ⟨C,z1,z2⟩=>⟨C,z1,(z2.mono s2).offL (s2.at hD1)⟩) (.cons ⟨C,hC,hO.offL (s2.at hD1)⟩ .nil)
  ·rw [Zi (Zh z hD)];exact s2.at (s1.at z)
 ·rintro ys H2 ⟨⟨xs,rfl,hxs⟩,hD1,s1⟩
  rw [List.length_map,htl,List.take_length] at hxs
  exact q xs H2 s1 hD1 hxs
def Zui(T:Tx K mg):Sp:=fun vs H Q _=>∃(t:Addr) (ps:List Zc) (js:List (Zc×Zc)) (sg:List (Str×Str×Str)),vs=[.ref t]∧Zar H t ps js sg∧Zjp ps js sg∧∀x H',Same H H'→H x=none→Za8 T H' x ps js sg→Q (.ref x) H'
theorem Zha(T:Tx K mg):Yf P w K mg base CX0 7 T.d__law_tracks.f T.d__law_tracks.fd ["_law_yard"] (Zui T):=by
 refine T.d__law_tracks.F.okW Zhf (fun vs H Q E h=>?_) (fun cdv A outer s H vs Q E hr h=>?_)
 ·obtain ⟨t,ps,js,sg,rfl,_⟩:=h
  rfl
 ·obtain ⟨t,ps,js,sg,rfl,⟨pl,jl,sl,ht,⟨ts,hpl,hts⟩,hjl,hsl⟩,yv,q⟩:=h
  have ylen:=yv.len
  have slen:=yv.sigs.len
  refine WSs.last (Z8 (Zap (Zfn T _) T.mkTracks (Zay T) hr rfl T.mTracks T.d_Tracks___init__.b .nil Zjf (Zj4 T _) (Zb (W2 (N':=["_law_kind", "_law_name"]) rfl (Z9.std 2 [] rfl (by decide +kernel) (by decide +kernel) rfl trivial rfl rfl trivial) (Yx (Zt (r:=rIx K) Zm (pv 0) Zd (fun _ _=>rfl))) (fun _ _ _ _=>(Zcx (K:=K) (n:=2) rfl rfl (Zw (Zq (i:=0) (by show (["_law_kind", "_law_name"]:List Str).Nodup;decide +kernel) rfl (Or.inl (lookup_relabel_local rfl)) (Or.inr (lookup_relabel_local rfl))) (Zw (Zq (i:=1) (by show (["_law_kind", "_law_name"]:List Str).Nodup;decide +kernel) rfl (Or.inl (lookup_relabel_local rfl)) (Or.inr (lookup_relabel_local rfl))) Y8)))) (fun _ _ _ _=>W9) (fun _ _ _ _=>(Z5 (Zdk T) hr rfl T.m__law_part T.d__law_part.F.kp T.d__law_part.b .nil Yn (Zb (pv 0) (Zb (pv 1) Za))))) (Zb (Zt (r:=rIx K) Zm (pv 0) Zd (fun _ _=>rfl)) (Zb (Zt (r:=rIx K) Zm (pv 0) Zd (fun _ _=>rfl)) Za))))) ⟨_,rfl,.inr (.inl ⟨t,_,0,_,rfl,rfl,SqT.of ht,Zr (j:=0) rfl,pl,rfl,⟨_,SqL.of hpl⟩,fun D hD=>Zem (K:=K) (T:=T) hpl hts (by omega) hD (fun xs H1 s1 hD1 hxs=>?m1) ?m2 ?m3 ?m4⟩)⟩
  case m2=>rfl
  case m3=>exact fun u p H' N h n=>⟨u,_,rfl,SqT.of h,rfl,_,_,rfl,_,_,rfl,rfl,n⟩
  case m4=>exact fun p H' N hm k=>⟨_,rfl,_,rfl,p.1,p.2,rfl,yv.net.kind p hm,(yv.name p hm).asc.2,k⟩
  exact ⟨_,rfl,.inr (.inl ⟨t,_,1,_,rfl,rfl,SqT.of (s1.at ht),Zr (j:=1) rfl,_,rfl,.inr (.inl ⟨t,_,2,_,rfl,rfl,SqT.of (s1.at ht),Zr (j:=2) rfl,[.ref D,.ref jl],.ref sl,rfl,D,jl,xs,ps,js,sg,rfl,hD1,hxs,hjl.mono s1,.inr ⟨sl,rfl,hsl.mono s1⟩,fun p hp=>(yv.name p hp).asc,fun g hg=>(yv.sigs.name g hg).asc,by omega,yv.net.jlen ylen,by omega,fun _ x H2 s2 n2 tr=>q x H2 (s1.trans s2) (s1.free n2) tr,fun c r=>absurd r (yv.good.no c)⟩)⟩)⟩
theorem Zik(T:Tx K mg){k:Nat}(h:7≤k:=by decide):Yf P w K mg base CX0 k T.d__law_tracks.f T.d__law_tracks.fd ["_law_yard"] (Zui T):=(Zha T).mono h
theorem Rf.one{ps:List Zc}{js:List (Zc×Zc)}{sg:List G3}:∀{c c':Nat},Rf ps js sg c→Rf ps js sg c'→c=c'
 | 0,0,_,_=>rfl
 | 0,1,h,h'=>absurd h h'.1
 | 0,2,h,h'=>absurd h h'.1
 | 1,0,h,h'=>absurd h' h.1
 | 1,1,_,_=>rfl
 | 1,2,h,h'=>by
  rcases h.2 with y|⟨_,y1,y2⟩
  ·exact absurd h'.2.1 y
  ·rcases h'.2.2 with z|⟨_,z⟩
   ·exact absurd y1 z
   ·rw [y2] at z;cases z
 | 2,0,h,h'=>absurd h' h.1
 | 2,1,h,h'=>by
  rcases h'.2 with y|⟨_,y1,y2⟩
  ·exact absurd h.2.1 y
  ·rcases h.2.2 with z|⟨_,z⟩
   ·exact absurd y1 z
   ·rw [y2] at z;cases z
 | 2,2,_,_=>rfl
 | _+3,_,h,_=>h.elim
 | 0,_+3,_,h=>h.elim
 | 1,_+3,_,h=>h.elim
 | 2,_+3,_,h=>h.elim
theorem Rf.lt{ps:List Zc}{js:List (Zc×Zc)}{sg:List G3}:∀{c:Nat},Rf ps js sg c→c<3
 | 0,_=>by decide
 | 1,_=>by decide
 | 2,_=>by decide
 | _+3,h=>h.elim
def b11(c i:Nat):Bool:=decide (i=if c=0 then 2 else if c=1 then 0 else 1)
structure K11(T:Tx K mg)(C:Addr)(b:Nat→Bool):Prop where
 g:XG K C
 i0:kitOne K (.ref C) (.ref T.CBadName)=some (b 0)
 i1:kitOne K (.ref C) (.ref T.CBadEnd)=some (b 1)
 i2:kitOne K (.ref C) (.ref T.CTooMany)=some (b 2)
 i3:kitOne K (.ref C) (.ref T.CBadWay)=some (b 3)
 i4:kitOne K (.ref C) (.ref T.CHeld)=some (b 4)
 i5:kitOne K (.ref C) (.ref T.CSeen)=some (b 5)
 i6:kitOne K (.ref C) (.ref T.CStiff)=some (b 6)
 i7:kitOne K (.ref C) (.ref T.CNoTrain)=some (b 7)
 i8:kitOne K (.ref C) (.ref T.CNoTurn)=some (b 8)
 i9:kitOne K (.ref C) (.ref T.COneFault)=some (b 9)
 i10:kitOne K (.ref C) (.ref T.CBadText)=some (b 10)
 v:kitOne K (.ref C) (.type "ValueError")=some true
theorem k11(T:Tx K mg):∀c,c<3→K11 T (clR T c) (b11 c)∧PySem.W.kitCls K (.ref (clR T c)) (.ref T.CYardError)=some true
 | 0,_=>⟨⟨T.g_TooMany,T.kyT0,T.kyT1,T.kyT2,T.kyT3,T.kyT4,T.kyT5,T.kyT6,T.kyT7,T.kyT8,T.kyT9,T.kyT10,T.vyT⟩,T.cyT⟩
 | 1,_=>⟨⟨T.g_BadName,T.keB0,T.keB1,T.keB2,T.keB3,T.keB4,T.keB5,T.keB6,T.keB7,T.keB8,T.keB9,T.keB10,T.veB⟩,T.ceB⟩
 | 2,_=>⟨⟨T.g_BadEnd,T.kdB0,T.kdB1,T.kdB2,T.kdB3,T.kdB4,T.kdB5,T.kdB6,T.kdB7,T.kdB8,T.kdB9,T.kdB10,T.vdB⟩,T.cdB⟩
 | _+3,h=>absurd h (by omega)
def Zn7(T:Tx K mg):Sp:=fun vs H Q _=>∃(e:Addr) (c:Nat),vs=[.ref e]∧c<3∧H e=some (Zc1 e (clR T c) none)∧∀H',Same H H'→Q (.bl true) H'
theorem Zi2(T:Tx K mg):FnOkH P w K mg base CX0 1 T.d__law_alone.f T.d__law_alone.fd ["_law_e"] (Zn7 T):=by
 refine T.d__law_alone.F.okH Za6 (fun vs H Q E h=>?_) (fun cdv A outer s H vs Q E hr h=>?_)
 ·obtain ⟨e,c,rfl,_⟩:=h
  rfl
 ·obtain ⟨e,c,rfl,hc,he,q⟩:=h
  have k:=(k11 T c hc).1
  refine WSs.step (Zn (i:=1) Za6.nd rfl (by first | exact Or.inl rfl | exact Or.inr rfl) (Zl (Zb (Zp (r:=Zbn K) Y5 (by rfl) T.n_isinstance PyProof.Rows.boot_isinstance (Zb (pv 0) (Zb (Xu (v:=.ref T.CBadName) (by rfl) T.mBadName rfl) Za))) (Zb (Zp (r:=Zbn K) Y5 (by rfl) T.n_isinstance PyProof.Rows.boot_isinstance (Zb (pv 0) (Zb (Xu (v:=.ref T.CBadEnd) (by rfl) T.mBadEnd rfl) Za))) (Zb (Zp (r:=Zbn K) Y5 (by rfl) T.n_isinstance PyProof.Rows.boot_isinstance (Zb (pv 0) (Zb (Xu (v:=.ref T.CTooMany) (by rfl) T.mTooMany rfl) Za))) (Zb (Zp (r:=Zbn K) Y5 (by rfl) T.n_isinstance PyProof.Rows.boot_isinstance (Zb (pv 0) (Zb (Xu (v:=.ref T.CBadWay) (by rfl) T.mBadWay rfl) Za))) Za)))))) ⟨_,rfl,e,_,_,_,rfl,he,k.g,.inr ⟨_,rfl,k.i0⟩,_,rfl,e,_,_,_,rfl,he,k.g,.inr ⟨_,rfl,k.i1⟩,_,rfl,e,_,_,_,rfl,he,k.g,.inr ⟨_,rfl,k.i2⟩,_,rfl,e,_,_,_,rfl,he,k.g,.inr ⟨_,rfl,k.i3⟩,sz (by simp),fun l1 H1 s1 n1 e1=>?_⟩
  have he1:=s1.at he
  refine WSs.step (Zn (i:=1) Za6.nd rfl (by first | exact Or.inl rfl | exact Or.inr rfl) (Zk Y3 (pv 1) (Zl (Zb (Zp (r:=Zbn K) Y5 (by rfl) T.n_isinstance PyProof.Rows.boot_isinstance (Zb (pv 0) (Zb (Xu (v:=.ref T.CHeld) (by rfl) T.mHeld rfl) Za))) (Zb (Zp (r:=Zbn K) Y5 (by rfl) T.n_isinstance PyProof.Rows.boot_isinstance (Zb (pv 0) (Zb (Xu (v:=.ref T.CSeen) (by rfl) T.mSeen rfl) Za))) (Zb (Zp (r:=Zbn K) Y5 (by rfl) T.n_isinstance PyProof.Rows.boot_isinstance (Zb (pv 0) (Zb (Xu (v:=.ref T.CStiff) (by rfl) T.mStiff rfl) Za))) (Zb (Zp (r:=Zbn K) Y5 (by rfl) T.n_isinstance PyProof.Rows.boot_isinstance (Zb (pv 0) (Zb (Xu (v:=.ref T.CNoTrain) (by rfl) T.mNoTrain rfl) Za))) Za))))))) ⟨_,rfl,_,rfl,e,_,_,_,rfl,he1,k.g,.inr ⟨_,rfl,k.i4⟩,_,rfl,e,_,_,_,rfl,he1,k.g,.inr ⟨_,rfl,k.i5⟩,_,rfl,e,_,_,_,rfl,he1,k.g,.inr ⟨_,rfl,k.i6⟩,_,rfl,e,_,_,_,rfl,he1,k.g,.inr ⟨_,rfl,k.i7⟩,sz (by simp),fun l2 H2 s2 n2 e2=>.inr (.inr ⟨l1,l2,_,_,rfl,rfl,s2.at e1,e2,sz (by simp),fun l3 H3 s3 n3 e3=>?_⟩)⟩
  have he3:=s3.at (s2.at he1)
  refine WSs.step (Zn (i:=1) Za6.nd rfl (by first | exact Or.inl rfl | exact Or.inr rfl) (Zk Y3 (pv 1) (Zl (Zb (Zp (r:=Zbn K) Y5 (by rfl) T.n_isinstance PyProof.Rows.boot_isinstance (Zb (pv 0) (Zb (Xu (v:=.ref T.CNoTurn) (by rfl) T.mNoTurn rfl) Za))) (Zb (Zp (r:=Zbn K) Y5 (by rfl) T.n_isinstance PyProof.Rows.boot_isinstance (Zb (pv 0) (Zb (Xu (v:=.ref T.COneFault) (by rfl) T.mOneFault rfl) Za))) (Zb (Zp (r:=Zbn K) Y5 (by rfl) T.n_isinstance PyProof.Rows.boot_isinstance (Zb (pv 0) (Zb (Xu (v:=.ref T.CBadText) (by rfl) T.mBadText rfl) Za))) Za)))))) ⟨_,rfl,_,rfl,e,_,_,_,rfl,he3,k.g,.inr ⟨_,rfl,k.i8⟩,_,rfl,e,_,_,_,rfl,he3,k.g,.inr ⟨_,rfl,k.i9⟩,_,rfl,e,_,_,_,rfl,he3,k.g,.inr ⟨_,rfl,k.i10⟩,sz (by simp),fun l4 H4 s4 n4 e4=>.inr (.inr ⟨l3,l4,_,_,rfl,rfl,s4.at e3,e4,sz (by simp),fun l5 H5 s5 n5 e5=>?_⟩)⟩
  have he5:=s5.at (s4.at he3)
  have sA:=s1.trans (s2.trans (s3.trans (s4.trans s5)))
  have cnt:∀c,c<3→[b11 c 0,b11 c 1,b11 c 2,b11 c 3,b11 c 4,b11 c 5,b11 c 6,b11 c 7,b11 c 8,b11 c 9,b11 c 10].countP (fun x=>x ==true)=1:=by decide
  refine WSs.last (Z8 (Zf9 (Zb9 Zuc (Zda PySem.F.plainAttrs_list PySem.F.slot_list_count PySem.F.type_list_count Zpr (pv 1) (Zb Zhb Za)) Zd (Zx _)) (Zko (Zp (r:=Zbn K) Y5 (by rfl) T.n_isinstance PyProof.Rows.boot_isinstance (Zb (pv 0) (Zb (Zd0 (v:=.ty "ValueError") (by rfl) T.n_ValueError Zgw rfl) Za)))))) ⟨_,rfl,.inl ⟨rfl,_,SqL.of e5⟩,l5,[b11 c 0,b11 c 1,b11 c 2,b11 c 3,b11 c 4,b11 c 5,b11 c 6,b11 c 7,b11 c 8,b11 c 9,b11 c 10],true,rfl,rfl,e5,?_⟩
  rw [cnt c hc]
  exact ⟨rfl,_,rfl,Znp ⟨_,rfl,e,_,_,_,rfl,he5,k.g,.inl ⟨_,rfl,k.v⟩,q H5 sA⟩⟩
theorem Ziq(T:Tx K mg){k:Nat}(h:1≤k:=by decide):FnOkH P w K mg base CX0 k T.d__law_alone.f T.d__law_alone.fd ["_law_e"] (Zn7 T):=(Zi2 T).mono h
def Zj5(T:Tx K mg):Sp:=fun vs H Q _=>∃(pl jl sl:Addr) (ps:List Zc) (js:List (Zc×Zc)) (sg:List G3) (c:Nat),vs=[.ref pl,.ref jl,.ref sl]∧Zs H pl ps∧Z1 H jl js∧Wn H sl sg∧(∀p∈ps,p.1∈Y6∧Za2 p.2)∧(∀g∈sg,Za2 g.1)∧ps.length≤100∧js.length≤300∧sg.length≤100∧Rf ps js sg c ∧
 ∀l H',Same H H'→H' l=some (.lst [.int (c:Nat)])→Q (.ref l) H'
theorem Zgk(T:Tx K mg):Yf P w K mg base CX0 7 T.d__law_refusal.f T.d__law_refusal.fd ["_law_parts", "_law_joins", "_law_signals"] (Zj5 T):=by
 refine T.d__law_refusal.F.okW Zbg (fun vs H Q E h=>?_) (fun cdv A outer s H vs Q E hr h=>?_)
 ·obtain ⟨pl,jl,sl,ps,js,sg,c,rfl,_⟩:=h
  rfl
 ·obtain ⟨pl,jl,sl,ps,js,sg,c,rfl,⟨ts,hpl,hts⟩,hjl,hsl,hk,hg,l1,l2,l3,hc,q⟩:=h
  have kc:=k11 T c hc.lt
  refine WSs.cut (fun _ _=>False) (WS.tryAsC (x := "YardError") (n := "_law_e") (B:=T.CYardError) (i:=3) (Ex:=fun cls dx H'=>cls=.ref (clR T c)∧dx=none∧Same H H') (R:=fun C dx H'=>C=clR T c∧dx=none∧Same H H') T.mYardError (Zmu T.kYB rfl) rfl Zbg.nd rfl rfl rfl rfl rfl rfl rfl rfl ?_ ?_ ?_) (fun _ _ h=>h.elim)
  ·rintro cls dx H' ⟨rfl,h2,h3⟩
   exact ⟨_,rfl,kc.2,rfl,h2,h3⟩
  ·intro pn xe hp
   refine WSs.last (Xt (Zap (Zfn T _) T.mkTracks (Zay T) hr rfl T.mTracks T.d_Tracks___init__.b .nil hp (Zj4 T _) (Zb (W2 (N':=["_law_kind", "_law_name"]) rfl (Z9.std 2 [] rfl (by decide +kernel) (by decide +kernel) rfl trivial rfl rfl trivial) (Yx (pv 0)) (fun _ _ _ _=>(Zcx (K:=K) (n:=2) rfl rfl (Zw (Zq (i:=0) (by show (["_law_kind", "_law_name"]:List Str).Nodup;decide +kernel) rfl (Or.inl (lookup_relabel_local rfl)) (Or.inr (lookup_relabel_local rfl))) (Zw (Zq (i:=1) (by show (["_law_kind", "_law_name"]:List Str).Nodup;decide +kernel) rfl (Or.inl (lookup_relabel_local rfl)) (Or.inr (lookup_relabel_local rfl))) Y8)))) (fun _ _ _ _=>W9) (fun _ _ _ _=>(Z5 (Zdk T) hr rfl T.m__law_part T.d__law_part.F.kp T.d__law_part.b .nil Yn (Zb (pv 0) (Zb (pv 1) Za))))) (Zb (pv 1) (Zb (pv 2) Za))))) ⟨_,rfl,pl,rfl,⟨_,SqL.of hpl⟩,fun D hD=>Zem (K:=K) (T:=T) hpl hts l1 hD (fun xs H1 s1 hD1 hxs=>?m1) ?m2 ?m3 ?m4⟩
   case m2=>rfl
   case m3=>exact fun u p H' N h n=>⟨u,_,rfl,SqT.of h,rfl,_,_,rfl,_,_,rfl,rfl,n⟩
   case m4=>exact fun p H' N hm k=>⟨_,rfl,_,rfl,p.1,p.2,rfl,(hk p hm).1,(hk p hm).2.2,k⟩
   exact ⟨_,rfl,_,rfl,[.ref D,.ref jl],.ref sl,rfl,D,jl,xs,ps,js,sg,rfl,hD1,hxs,hjl.mono s1,.inr ⟨sl,rfl,hsl.mono s1⟩,fun p hp=>(hk p hp).2,hg,l1,l2,l3,fun g=>absurd hc (g.no c),fun c' r H' s'=>⟨by rw [Rf.one r hc],rfl,s1.trans s'⟩⟩
  ·rintro ea C dx σ' H1 hl ⟨rfl,rfl,s1⟩ hn
   obtain ⟨o0,o1,o2,o3,o4,rfl⟩:∃o0 o1 o2 o3 o4,σ'=[o0,o1,o2,o3,o4]:=by
    match σ',hl with
    | [o0,o1,o2,o3,o4],_=>exact ⟨o0,o1,o2,o3,o4,rfl⟩
   have he:(upd H1 ea (Zc1 ea (clR T c) none)) ea=some (Zc1 ea (clR T c) none):=Zj
   have s2:Same H (upd H1 ea (Zc1 ea (clR T c) none)):=s1.trans (Same.new hn)
   generalize upd H1 ea (Zc1 ea (clR T c) none)=H2 at he s2
   refine WSs.step (Zn (i:=4) Zbg.nd rfl (by first | exact Or.inl rfl | exact Or.inr rfl) (Zl (Zb (Zp (r:=Zbn K) Y5 (by rfl) T.n_isinstance PyProof.Rows.boot_isinstance (Zb (pv 3) (Zb (Xu (v:=.ref T.CTooMany) (by rfl) T.mTooMany rfl) Za))) (Zb (Zp (r:=Zbn K) Y5 (by rfl) T.n_isinstance PyProof.Rows.boot_isinstance (Zb (pv 3) (Zb (Xu (v:=.ref T.CBadName) (by rfl) T.mBadName rfl) Za))) (Zb (Zp (r:=Zbn K) Y5 (by rfl) T.n_isinstance PyProof.Rows.boot_isinstance (Zb (pv 3) (Zb (Xu (v:=.ref T.CBadEnd) (by rfl) T.mBadEnd rfl) Za))) Za))))) ⟨_,rfl,ea,_,_,_,rfl,he,kc.1.g,.inr ⟨_,rfl,kc.1.i2⟩,_,rfl,ea,_,_,_,rfl,he,kc.1.g,.inr ⟨_,rfl,kc.1.i0⟩,_,rfl,ea,_,_,_,rfl,he,kc.1.g,.inr ⟨_,rfl,kc.1.i1⟩,sz (by simp),fun l H3 s3 n3 e3=>?_⟩
   have he3:=s3.at he
   have at3:∀c,c<3→∀i,i<3→[b11 c 2,b11 c 0,b11 c 1][i]? =some (decide (i=c)):=by decide
   have fil:∀c,c<3→(List.range 3).filter (fun j=>decide (j=c))=[c]:=by decide
   refine WSs.last (Z8 (Zql (ea:=ea) (N':=["_law_k", "_law_kinds", "_law_e"]) rfl (Z9.std 1 [4,3] rfl (by decide +kernel) (by decide +kernel) rfl ⟨rfl,rfl,trivial⟩ rfl rfl ⟨⟨_,rfl,rfl,rfl⟩,⟨_,rfl,rfl,rfl⟩,trivial⟩) (Zmv (ea:=ea) rfl T.n_range (Zb Zd Za)) (fun _ _ _ _=>(Zq (i:=0) (by show (["_law_k", "_law_kinds", "_law_e"]:List Str).Nodup;decide +kernel) rfl (Or.inl (lookup_relabel_local rfl)) (Or.inr (lookup_relabel_local rfl)))) (fun _ _ _ _=>(Zdx (PW.pt (Zbi (Zcg (Zt (r:=rIx K) Zm (pv 1) (pv 0) (fun _ _=>rfl))) (Zaq (Zcg (Zsf (Ziq T) (hr.h _) rfl T.m__law_alone T.d__law_alone.F.kp T.d__law_alone.b .nil Yn (Zb (pv 2) Za)))))))) (fun _ _ _ _=>(pv 0)))) ⟨3,rfl,by decide,by decide,fun D hD=>Zmc (lo:=0) (n:=3) (fun i ys H'=>ys=((List.range i).filter (fun j=>decide (j=c))).map (fun j=>V.int ((j:Nat):Int))∧H' D=some (.lst ys)∧Same H3 H') ⟨rfl,Zj,Same.new hD⟩ ?_ ?_⟩
   ·rintro i ys H4 hi ⟨rfl,hD4,s4⟩
    have hat:atI ([b11 c 2,b11 c 0,b11 c 1].map V.bl) ((0:Int)+(i:Nat))=some (.bl (decide (i=c))):=by
     rw [Int.zero_add]
     exact Zr (by rw [List.getElem?_map,at3 c hc.lt i hi];rfl)
    refine ⟨Wr.set rfl,_,rfl,_,rfl,.inl ⟨l,_,_,_,rfl,rfl,SqL.of (s4.at e3),hat,_,rfl,Yk (fun z=>?_) (fun z=>?_)⟩⟩
    ·have z:i=c:=of_decide_eq_true z
     refine ⟨_,rfl,ea,c,rfl,hc.lt,s4.at he3,fun H5 s5=>⟨_,rfl,⟨_,rfl,s5.at hD4,?_,?_,Zj,fun b o y=>?_⟩⟩⟩
     ·rw [List.length_map]
      refine Z4 ?_
      have:=List.length_filter_le (fun j=>decide (j=c)) (List.range i)
      rw [List.length_range] at this
      omega
     ·rw [List.range_succ,List.filter_append,List.map_append,List.filter_cons_of_pos (by simpa using z),Int.zero_add]
      rfl
     ·rw [Zi (Zh y hD)];exact s5.at (s4.at y)
    ·have z:¬i=c:=fun y=>z (decide_eq_true y)
     refine ⟨?_,hD4,s4⟩
     rw [List.range_succ,List.filter_append,List.filter_cons_of_neg (by simpa using z)]
     simp
   ·rintro ys H4 ⟨rfl,hD4,s4⟩
    rw [fil c hc.lt] at hD4
    exact ⟨⟨_,_,s4.at he3⟩,q D H4 (s2.trans (s3.trans s4)) hD4⟩
theorem Zdy(T:Tx K mg){k:Nat}(h:7≤k:=by decide):Yf P w K mg base CX0 k T.d__law_refusal.f T.d__law_refusal.fd ["_law_parts", "_law_joins", "_law_signals"] (Zj5 T):=(Zgk T).mono h
def thr(s:Str):Nat:=s.cps.toList.getD 2 0
theorem Zf8{a b:List Nat}(ha:a.length≤2)(hb:∀c∈b,Zaa c=false):Zaa ((a++b).getD 2 0)=false:=by
 rw [List.getD_eq_getElem?_getD,List.getElem?_append_right ha]
 cases e:b[2-a.length]? with
 | none=>rfl
 | some c=>exact hb c (List.mem_of_getElem? e)
theorem Zk8:∀k<100,∀c∈(Zb0 k).cps.toList,Zaa c=false:=by decide +kernel
theorem Ztt:∀m<3,∀c∈(Ze4 "0" m).cps.toList,Zaa c=false:=by decide +kernel
theorem nmK.thr_{p:Zc}(h:nmK p):Zaa (thr p.2)=false:=by
 rcases h with rfl|rfl|⟨kd,c,k,_,hk,e⟩|⟨j,hj,e⟩
 ·decide +kernel
 ·decide +kernel
 ·rw [e]
  unfold Ys thr
  split
  ·rw [PySem.W.KT.app_list]
   exact Zf8 (by show 1≤2;decide) (Zk8 k (by omega))
  ·have c0:=Int.emod_nonneg (c / 2028) (show (3:Int)≠0 by decide)
   have c1:=Int.emod_lt_of_pos (c / 2028) (show (0:Int)<3 by decide)
   rw [PySem.W.KT.app_list,PySem.W.KT.app_list,List.append_assoc]
   refine Zf8 (by rw [PySem.W.KT.app_list];show 2≤2;decide) fun d hd=>?_
   rcases List.mem_append.mp hd with z|z
   ·exact Ztt _ (by omega) d z
   ·exact Zk8 k (by omega) d z
 ·rw [e]
  unfold W7 thr
  rw [PySem.W.KT.app_list]
  exact Zf8 (by decide +kernel) (Zk8 j (by omega))
def Zam(k:Nat):Str := "stop" ++ Zb0 k
def Zcr(k:Nat):Str := "sign" ++ Zb0 k
theorem Xe.v{x:Str}(h:Xe x=true):Zac x:=by
 unfold Xe at h
 simp only [Bool.and_eq_true,decide_eq_true_eq] at h
 exact ⟨h.1.1,h.1.2,h.2.1,h.2.2⟩
theorem Zco:∀k<100,Xe (Zam k)=true∧Zaa (thr (Zam k))=true∧Ze6 (Zam k)=k∧Zam k∉[("none" :Str), "more", "plain0", "plain1", "plain2"]:=by decide +kernel
theorem Ze7:∀k<100,Xe (Zcr k)=true∧Zaa (thr (Zcr k))=true∧Ze6 (Zcr k)=k∧Zaa ((Zcr k).cps.toList.getD 1 0)=true∧Zcr k∉[("wrong" :Str), "go", "back", "end"]:=by decide +kernel
theorem Zj3{j k:Nat}(hj:j<100)(hk:k<100)(h:Zam j=Zam k):j=k:=by
 rw [←(Zco j hj).2.2.1,←(Zco k hk).2.2.1,h]
theorem Zp9{j k:Nat}(hj:j<100)(hk:k<100)(h:Zcr j=Zcr k):j=k:=by
 rw [←(Ze7 j hj).2.2.1,←(Ze7 k hk).2.2.1,h]
theorem Zrm{n k:Nat}(hn:n<99):Zaa ((Zci n k).cps.toList.getD 1 0)=false:=by
 rw [Zd1,PySem.W.KT.app_list]
 have hf:∀n<99,Zaa ((Str.ofString (toString ((n:Nat):Int))).cps.toList.getD 0 0)=false∧0<(Str.ofString (toString ((n:Nat):Int))).cps.toList.length:=by decide +kernel
 obtain ⟨h1,h2⟩:=hf n hn
 have hs:("s" :Str).cps.toList.length=1:=by decide +kernel
 rw [List.getD_eq_getElem?_getD] at h1 ⊢
 rw [List.append_assoc,List.append_assoc,List.getElem?_append_right (by rw [hs];exact Nat.le_refl 1),hs,List.getElem?_append_left (by exact h2)]
 exact h1
structure Zbo(ps:List Zc)(js:List (Zc×Zc)):Prop where
 net:Net ps js []
 len:ps.length≤40
 name:∀p∈ps,Zac p.2
 far:∀p∈ps,p.2 ≠ "none" ∧p.2 ≠ "more"
structure Zme(ps:List Zc)(sg:List G3):Prop where
 sigs:Zbe ps sg
 far:∀g∈sg,g.1 ≠ "wrong"
def nmF(n:Nat)(s:Str):Prop:=Zac s∧(Zaa (thr s)=false∨s∈[("plain0" :Str), "plain1", "plain2"]∨∃k,10≤k∧k<n∧s=Zam k)
theorem nmF.far{n:Nat}{s:Str}(hn:n≤100)(h:nmF n s):s ≠ "none" ∧s ≠ "more" :=by
 rcases h.2 with h|h|⟨k,_,hk,rfl⟩
 ·constructor <;>(rintro rfl;revert h;decide +kernel)
 ·constructor <;>(rintro rfl;revert h;decide +kernel)
 ·have:=(Zco k (by omega)).2.2.2
  constructor <;>(intro z;rw [z] at this;revert this;decide +kernel)
theorem Net.union{ps qs:List Zc}{js ks:List (Zc×Zc)}(h:Net ps js [])(h':Net qs ks [])(d:∀p∈ps,∀q∈qs,p.2≠q.2):Net (ps++qs) (js++ks) []:=by
 refine ⟨?_,?_,fun j hj=>?_,fun p hp=>?_⟩
 ·rw [Wf,Zc5,List.append_nil]
  exact List.Perm.append h.flat h'.flat
 ·rw [List.map_append,List.nodup_append]
  refine ⟨h.nd,h'.nd,fun a ha b hb e=>?_⟩
  obtain ⟨p,hp,rfl⟩:=List.mem_map.mp ha
  obtain ⟨q,hq,rfl⟩:=List.mem_map.mp hb
  exact d p hp q hq e
 ·rcases List.mem_append.mp hj with z|z
  ·exact h.apart j z
  ·exact h'.apart j z
 ·rcases List.mem_append.mp hp with z|z
  ·exact h.kind p z
  ·exact h'.kind p z
def Zf1:List Zc:=[("plain", "plain0"),("stop", "plain1"),("gate", "plain2")]
def Zk7:List (Zc×Zc):=[(("plain0", "a"),("plain1", "a")),(("plain2", "a"),("plain0", "b"))]
theorem Zox:Net Zf1 Zk7 []:=by
 have hp:(Yr Zk7).Perm (Ye Zf1):=by decide +kernel
 refine ⟨by rw [List.append_nil];exact hp,by decide +kernel,by decide +kernel,by decide +kernel⟩
def Zl7(k:Nat):List Zc:=[("stop",Zam k),("stop",Zam (k+1))]
def Zvo(k:Nat):List (Zc×Zc):=[((Zam k, "a"),(Zam (k+1), "a"))]
theorem Ztp{k:Nat}(hk:k+1<100):Net (Zl7 k) (Zvo k) []:=by
 have ne:Zam k≠Zam (k+1):=fun z=>by have:=Zj3 (by omega) hk z;omega
 refine ⟨?_,?_,?_,?_⟩
 ·exact List.Perm.refl _
 ·show [Zam k,Zam (k+1)].Nodup
  simp [ne]
 ·intro j hj
  rw [List.mem_singleton.mp hj]
  exact ne
 ·intro p hp
  unfold Zl7 at hp
  simp only [List.mem_cons,List.mem_nil_iff,or_false] at hp
  rcases hp with rfl|rfl <;>(show ("stop" :Str)∈Y6;decide)
structure Zcs(n:Nat)(ps:List Zc)(js:List (Zc×Zc)):Prop where
 net:Net ps js []
 name:∀p∈ps,nmF n p.2
theorem Zcs.two{n:Nat}{ps:List Zc}{js:List (Zc×Zc)}(h:Zcs n ps js)(h1:10≤n)(hn:n+2≤100):Zcs (n+2) (ps++Zl7 n) (js++Zvo n):=by
 refine ⟨Net.union h.net (Ztp (by omega)) fun p hp q hq e=>?_,fun p hp=>?_⟩
 ·have hq':q.2=Zam n∨q.2=Zam (n+1):=by
   unfold Zl7 at hq
   simp only [List.mem_cons,List.mem_nil_iff,or_false] at hq
   rcases hq with rfl|rfl
   ·exact .inl rfl
   ·exact .inr rfl
  obtain ⟨j,hj,hj2,ej⟩:∃j,n≤j∧j<100∧q.2=Zam j:=by
   rcases hq' with z|z
   ·exact ⟨n,Nat.le_refl _,by omega,z⟩
   ·exact ⟨n+1,by omega,by omega,z⟩
  have ok:=Zco j hj2
  rcases (h.name p hp).2 with z|z|⟨k,_,hk,z⟩
  ·rw [e,ej,ok.2.1] at z;cases z
  ·rw [e,ej] at z
   refine ok.2.2.2 ?_
   simp only [List.mem_cons,List.mem_nil_iff,or_false] at z ⊢
   rcases z with z|z|z <;>simp [z]
  ·rw [e,ej] at z
   have:=Zj3 hj2 (by omega) z
   omega
 ·rcases List.mem_append.mp hp with z|z
  ·obtain ⟨a,b⟩:=h.name p z
   refine ⟨a,?_⟩
   rcases b with b|b|⟨k,b1,b2,b3⟩
   ·exact .inl b
   ·exact .inr (.inl b)
   ·exact .inr (.inr ⟨k,b1,by omega,b3⟩)
  ·unfold Zl7 at z
   simp only [List.mem_cons,List.mem_nil_iff,or_false] at z
   rcases z with rfl|rfl
   ·exact ⟨Xe.v (Zco n (by omega)).1,.inr (.inr ⟨n,h1,by omega,rfl⟩)⟩
   ·exact ⟨Xe.v (Zco (n+1) (by omega)).1,.inr (.inr ⟨n+1,by omega,by omega,rfl⟩)⟩
theorem Zcs.three{ps:List Zc}{js:List (Zc×Zc)}(h:Net ps js [])(nm:∀p∈ps,Zac p.2∧Zaa (thr p.2)=false){n:Nat}:Zcs n (ps++Zf1) (js++Zk7):=by
 have t3:∀q∈Zf1,Zaa (thr q.2)=true∧Xe q.2=true∧q.2∈[("plain0" :Str), "plain1", "plain2"]:=by decide +kernel
 refine ⟨Net.union h Zox fun p hp q hq e=>?_,fun p hp=>?_⟩
 ·have:=(nm p hp).2
  rw [e,(t3 q hq).1] at this
  cases this
 ·rcases List.mem_append.mp hp with z|z
  ·exact ⟨(nm p z).1,.inl (nm p z).2⟩
  ·exact ⟨Xe.v (t3 p z).2.1,.inr (.inl (t3 p z).2.2)⟩
theorem Zcs.bas{n:Nat}{ps:List Zc}{js:List (Zc×Zc)}(h:Zcs n ps js)(hn:n≤100)(hl:ps.length≤40):Zbo ps js:=⟨h.net,hl,fun p hp=>(h.name p hp).1,fun p hp=>(h.name p hp).far hn⟩
theorem Zbw.names{ps:List Zc}{js:List (Zc×Zc)}{sg:List G3}(h:Zbw ps js sg):∀p∈ps,Zac p.2∧Zaa (thr p.2)=false:=fun p hp=>⟨(h.name p hp).nm.ok,(h.name p hp).thr_⟩
theorem Zbw.baseP{ps:List Zc}{js:List (Zc×Zc)}{sg:List G3}(h:Zbw ps js sg):Zbo ps js :=
 Zcs.bas (n:=0) ⟨h.net,fun p hp=>⟨(h.names p hp).1,.inl (h.names p hp).2⟩⟩ (by decide) (by have:=h.len;omega)
structure Zbl(ps:List Zc)(sg:List G3):Prop where
 sigs:Zbe ps sg
 name:∀g∈sg,g.1 ≠ "wrong" ∧∀k,10+sg.length≤k→k<100→g.1≠Zcr k
theorem Zp0{ps:List Zc}{js:List (Zc×Zc)}{sg:List G3}(h:Zbw ps js sg){q:G3}(hq:q∈sg):q.1∈ps.map Prod.snd∨(∃n k,n<99∧q.1=Zci n k)∨q.1∈[("go" :Str), "back", "end"]:=by
 have at_:=h.sigsV.at_ q hq
 rcases h.sigs with ⟨ps',hp,ok⟩|⟨n,m,hn,_,e⟩
 ·rcases ok.name q hq with z|⟨n,k,hn,_,c⟩
  ·obtain ⟨p,hm,e,_⟩:=at_
   exact .inl (by rw [z,←e];exact List.mem_map.mpr ⟨p,hm,rfl⟩)
  ·exact .inr (.inl ⟨n,k,hn,c⟩)
 ·rw [e] at hq
  have:q.1∈(Zdq n).map Prod.fst:=List.mem_map.mpr ⟨q,(List.take_sublist m (Zdq n)).subset hq,rfl⟩
  exact .inr (.inr this)
theorem Zbw.fillS{ps:List Zc}{js:List (Zc×Zc)}{sg:List G3}(h:Zbw ps js sg):Zbl ps sg:=by
 have wr:Zaa (thr "wrong")=true∧Zaa (("wrong" :Str).cps.toList.getD 1 0)=true∧("wrong" :Str)∉[("go" :Str), "back", "end"]:=by decide +kernel
 have key:∀g∈sg,∀x:Str,Zaa (thr x)=true→Zaa (x.cps.toList.getD 1 0)=true→x∉[("go" :Str), "back", "end"]→g.1≠x:=fun g hg x h1 h2 h3 e=>by
  rcases Zp0 h hg with z|⟨n,k,hn,z⟩|z
  ·obtain ⟨p,hp,e'⟩:=List.mem_map.mp z
   have:=(h.names p hp).2
   rw [e',e,h1] at this
   cases this
  ·have:=Zrm (k:=k) hn
   rw [←z,e,h2] at this
   cases this
  ·rw [e] at z
   exact h3 z
 refine ⟨h.sigsV,fun g hg=>⟨key g hg _ wr.1 wr.2.1 wr.2.2,fun k _ hk=>?_⟩⟩
 obtain ⟨_,a,_,b,c⟩:=Ze7 k hk
 exact key g hg _ a b fun z=>c (List.mem_cons_of_mem _ z)
theorem Zbl.bas{ps:List Zc}{sg:List G3}(h:Zbl ps sg):Zme ps sg:=⟨h.sigs,fun g hg=>(h.name g hg).1⟩
theorem Zbl.add{ps:List Zc}{sg:List G3}{p:Zc}(h:Zbl ps sg)(hl:sg.length<40)(hp:p∈ps) (hk:p.1∈[("plain" :Str), "gate", "stop"]) (he:((p.2,("a" :Str)):Zc)∉sg.map Prod.snd):Zbl ps (sg++[((Zcr (10+sg.length),p.2, "a"):G3)]):=by
 have ok:=Ze7 (10+sg.length) (by omega)
 have ea:∀k∈[("plain" :Str), "gate", "stop"],("a" :Str)∈Yc k:=by decide +kernel
 refine ⟨⟨fun g hg=>?_,?_,?_,fun g hg=>?_,?_⟩,fun g hg=>?_⟩
 ·rcases List.mem_append.mp hg with z|z
  ·exact h.sigs.name g z
  ·rw [List.mem_singleton.mp z];exact Xe.v ok.1
 ·rw [List.map_append]
  refine Yz.mpr ⟨h.sigs.nd,fun z=>?_⟩
  obtain ⟨g,hg,e⟩:=List.mem_map.mp z
  exact (h.name g hg).2 _ (Nat.le_refl _) (by omega) e
 ·rw [List.map_append]
  exact Yz.mpr ⟨h.sigs.one,he⟩
 ·rcases List.mem_append.mp hg with z|z
  ·exact h.sigs.at_ g z
  ·rw [List.mem_singleton.mp z]
   exact ⟨p,hp,rfl,hk,ea _ hk⟩
 ·rw [List.length_append];show sg.length+1≤40;omega
 ·rw [List.length_append]
  rcases List.mem_append.mp hg with z|z
  ·exact ⟨(h.name g z).1,fun k h1 h2=>(h.name g z).2 k (by have:[(Zcr (10+sg.length),p.2,("a" :Str))].length=1:=rfl;omega) h2⟩
  ·rw [List.mem_singleton.mp z]
   refine ⟨fun e=>ok.2.2.2.2 (by rw [show Zcr (10+sg.length) = "wrong" from e];simp),fun k h1 h2 e=>?_⟩
   have:=Zp9 (by omega) h2 e
   have:[(Zcr (10+sg.length),p.2,("a" :Str))].length=1:=rfl
   omega
theorem Zbe.more{ps qs:List Zc}{sg:List G3}(h:Zbe ps sg):Zbe (ps++qs) sg:=⟨h.name,h.nd,h.one,fun g hg=>let ⟨p,a,b⟩:=h.at_ g hg;⟨p,List.mem_append_left _ a,b⟩,h.len⟩
theorem Zbl.more{ps qs:List Zc}{sg:List G3}(h:Zbl ps sg):Zbl (ps++qs) sg:=⟨h.sigs.more,h.name⟩
def Zle:Sp:=fun vs H Q _=>∃(t:Addr) (ps:List Zc) (js:List (Zc×Zc)) (sg:List G3),vs=[.ref t]∧Zar H t ps js sg∧Zbw ps js sg ∧
 ∀(t':Addr) (H':Hp) (ps':List Zc) (js':List (Zc×Zc)) (sg':List G3),Same H H'→Zar H' t' ps' js' sg'→Zbo ps' js'→Zbl ps' sg'→39≤ps'.length→Q (.ref t') H'
theorem Zd5(n:Nat):(10:Int)+(n:Int)=((10+n:Nat):Int):=by omega
theorem Zet(n:Nat):(11:Int)+(n:Int)=((10+n+1:Nat):Int):=by omega
theorem Zhw(T:Tx K mg):Yf P w K mg base CX0 1 T.d__law_filled.f T.d__law_filled.fd ["_law_yard"] Zle:=by
 refine T.d__law_filled.F.okW Yq (fun vs H Q E h=>?_) (fun cdv A outer s H vs Q E hr h=>?_)
 ·obtain ⟨t,ps,js,sg,rfl,_⟩:=h
  rfl
 ·obtain ⟨t,ps,js,sg,rfl,⟨pl,jl,sl,ht,⟨ts,hpl,hts⟩,⟨us,hjl,hus⟩,⟨gs,hsl,hgs⟩⟩,yo,q⟩:=h
  have hlen:=yo.len
  refine WSs.step (Zn (i:=1) Yq.nd rfl (by first | exact Or.inl rfl | exact Or.inr rfl) (Y4 (r:=Zoi K) Zek (by rfl) T.n_list PyProof.Rows.boot_list (Zb (Zt (r:=rIx K) Zm (pv 0) Zd (fun _ _=>rfl)) Za))) ⟨_,rfl,.inr (.inl ⟨t,_,0,_,rfl,rfl,SqT.of ht,Zr (j:=0) rfl,pl,_,rfl,.inl (SqL.of hpl),fun p1 H1 s1 n1 e1=>?_⟩)⟩
  refine WSs.step (Zn (i:=2) Yq.nd rfl (by first | exact Or.inl rfl | exact Or.inr rfl) (Y4 (r:=Zoi K) Zek (by rfl) T.n_list PyProof.Rows.boot_list (Zb (Zt (r:=rIx K) Zm (pv 0) Zd (fun _ _=>rfl)) Za))) ⟨_,rfl,.inr (.inl ⟨t,_,1,_,rfl,rfl,SqT.of (s1.at ht),Zr (j:=1) rfl,jl,_,rfl,.inl (SqL.of (s1.at hjl)),fun j1 H2 s2 n2 e2=>?_⟩)⟩
  refine WSs.step (Zn (i:=3) Yq.nd rfl (by first | exact Or.inl rfl | exact Or.inr rfl) (Y4 (r:=Zoi K) Zek (by rfl) T.n_list PyProof.Rows.boot_list (Zb (Zt (r:=rIx K) Zm (pv 0) Zd (fun _ _=>rfl)) Za))) ⟨_,rfl,.inr (.inl ⟨t,_,2,_,rfl,rfl,SqT.of ((s1.trans s2).at ht),Zr (j:=2) rfl,sl,_,rfl,.inl (SqL.of ((s1.trans s2).at hsl)),fun g1 H3 s3 n3 e3=>?_⟩)⟩
  have s03:=s1.trans (s2.trans s3)
  have n0g:H g1=none:=(s1.trans s2).free n3
  have hts3:Paired (Zu H3) ts ps:=Paired.mapP hts fun _ _ r=>r.mono s03
  have hus3:Paired (Y2 H3) us js:=Paired.mapP hus fun _ _ r=>r.mono s03
  have hgs3:Paired (X5 H3) gs sg:=Paired.mapP hgs fun _ _ r=>s03.at r
  have hp3:=s3.at (s2.at e1)
  have hj3:=s3.at e2
  have htl:=Paired.length hts
  have hul:=Paired.length hus
  have hgl:=Paired.length hgs
  have jlen:=yo.net.jlen (by omega)
  refine WSs.cut (fun σ' H'=>∃p2 j2 ps2 js2,σ'=[some (.ref t),some (.ref p2),some (.ref j2),some (.ref g1),none,none,none,none]∧(p2≠g1∧j2≠g1)∧Same H3 H'∧Zs H' p2 ps2∧Z1 H' j2 js2∧Zcs (10+ps2.length) ps2 js2∧Zbl ps2 sg∧ps2.length≤40∧(ps2.length%2=0∨39≤ps2.length)) ?_ ?_
  ·have other:ps.length%2=0∨38≤ps.length→∃p2 j2 ps2 js2,[some (V.ref t),some (.ref p1),some (.ref j1),some (.ref g1),none,none,none,none]=[some (V.ref t),some (.ref p2),some (.ref j2),some (.ref g1),none,none,none,none]∧(p2≠g1∧j2≠g1)∧Same H3 H3∧Zs H3 p2 ps2∧Z1 H3 j2 js2∧Zcs (10+ps2.length) ps2 js2∧Zbl ps2 sg∧ps2.length≤40∧(ps2.length%2=0∨39≤ps2.length):=fun z =>
    ⟨p1,j1,ps,js,rfl,⟨Zh (s2.at e1) n3,Zh e2 n3⟩,Same.refl _,⟨ts,hp3,hts3⟩,⟨us,hj3,hus3⟩,⟨yo.net,fun p hp=>⟨(yo.names p hp).1,.inl (yo.names p hp).2⟩⟩,yo.fillS,by omega,by omega⟩
   refine WS.of (Yg (PW.pt (Zbi (Zo (r:=X9 K) (Wo hr) (Zk Z6 (Zp (r:=Xb K) Xf (by rfl) T.n_len PySem.boot_len (Zb (pv 1) Za)) Zd) Zd (Zx _)) (Zaq (Zo Zed (Zp (r:=Xb K) Xf (by rfl) T.n_len PySem.boot_len (Zb (pv 1) Za)) Zd (Zx _))))) Zy Z2) ⟨_,rfl,.inl ⟨p1,_,rfl,.inl (SqL.of hp3),_,_,rfl,rfl,(by show (0:Int)<2;decide),.inl ⟨rfl,_,rfl,Yk (fun z1=>⟨_,rfl,.inl ⟨p1,_,rfl,.inl (SqL.of hp3),_,_,rfl,rfl,_,rfl,Yk (fun z2=>?_) (fun z2=>other (.inr ?_))⟩⟩) (fun z1=>other (.inl ?_))⟩⟩⟩
   ·have z1:(((ts.map V.ref).length:Nat):Int)%2=1:=V.int.inj (of_decide_eq_true z1)
    have z2:(((ts.map V.ref).length:Nat):Int)<38:=of_decide_eq_true z2
    rw [List.length_map,htl] at z1 z2
    refine WSs.step (Zn (i:=1) Yq.nd rfl (by first | exact Or.inl rfl | exact Or.inr rfl) (Zk Y3 (pv 1) (Zl (Zb (Zf (Zb Ze (Zb Ze Za))) (Zb (Zf (Zb Ze (Zb Ze Za))) (Zb (Zf (Zb Ze (Zb Ze Za))) Za)))))) ⟨_,rfl,sz (by simp),fun a1 H4 s4 n4 e4=>⟨sz (by simp),fun a2 H5 s5 n5 e5=>⟨sz (by simp),fun a3 H6 s6 n6 e6=>⟨sz (by simp),fun al H7 s7 n7 e7=>.inr (.inr ⟨p1,al,_,_,rfl,rfl,(s4.trans (s5.trans (s6.trans s7))).at hp3,e7,sz (by rw [List.length_map];show ts.length+3≤1000;omega),fun p2 H8 s8 n8 e8=>?_⟩)⟩⟩⟩⟩
    have s38:=s4.trans (s5.trans (s6.trans (s7.trans s8)))
    have P8:Zs H8 p2 (ps++Zf1):=Zs.app (us:=[a1,a2,a3]) (Paired.mapP hts3 fun _ _ r=>r.mono s38) (.cons ((s5.trans (s6.trans (s7.trans s8))).at e4) (.cons ((s6.trans (s7.trans s8)).at e5) (.cons ((s7.trans s8).at e6) .nil))) e8
    refine WSs.last (Zn (i:=2) Yq.nd rfl (by first | exact Or.inl rfl | exact Or.inr rfl) (Zk Y3 (pv 2) (Zl (Zb (Zf (Zb (Zf (Zb Ze (Zb Ze Za))) (Zb (Zf (Zb Ze (Zb Ze Za))) Za))) (Zb (Zf (Zb (Zf (Zb Ze (Zb Ze Za))) (Zb (Zf (Zb Ze (Zb Ze Za))) Za))) Za))))) ⟨_,rfl,sz (by simp),fun b1 H9 s9 n9 e9=>⟨sz (by simp),fun b2 H10 s10 n10 e10=>⟨sz (by simp),fun b3 H11 s11 n11 e11=>⟨sz (by simp),fun b4 H12 s12 n12 e12=>⟨sz (by simp),fun b5 H13 s13 n13 e13=>⟨sz (by simp),fun b6 H14 s14 n14 e14=>⟨sz (by simp),fun bl H15 s15 n15 e15=>.inr (.inr ⟨j1,bl,_,_,rfl,rfl,(s38.trans (s9.trans (s10.trans (s11.trans (s12.trans (s13.trans (s14.trans s15))))))).at hj3,e15,sz (by rw [List.length_map];show us.length+2≤1000;omega),fun j2 H16 s16 n16 e16=>?_⟩)⟩⟩⟩⟩⟩⟩⟩
    have s816:=s9.trans (s10.trans (s11.trans (s12.trans (s13.trans (s14.trans (s15.trans s16))))))
    have s1416:=s15.trans s16
    have s1316:=s14.trans s1416
    have s1216:=s13.trans s1316
    have s1116:=s12.trans s1216
    have s1016:=s11.trans s1116
    refine ⟨p2,j2,ps++Zf1,js++Zk7,rfl,⟨(Zh ((s4.trans (s5.trans (s6.trans s7))).at e3) n8).symm,(Zh ((s38.trans (s9.trans (s10.trans (s11.trans (s12.trans (s13.trans (s14.trans s15))))))).at e3) n16).symm⟩,s38.trans s816,P8.mono s816,Z1.app (us:=[b3,b6]) (Paired.mapP hus3 fun _ _ r=>r.mono (s38.trans s816)) (.cons ⟨b1,b2,s1116.at e11,(s10.trans s1016).at e9,s1016.at e10⟩ (.cons ⟨b4,b5,s1416.at e14,s1216.at e12,s1316.at e13⟩ .nil)) e16,Zcs.three yo.net yo.names,yo.fillS.more,?_,?_⟩
    ·rw [List.length_append];show ps.length+3≤40;omega
    ·rw [List.length_append];show (ps.length+3)%2=0∨39≤ps.length+3;omega
   ·have z2:¬(((ts.map V.ref).length:Nat):Int)<38:=fun y=>z2 (decide_eq_true y)
    rw [List.length_map,htl] at z2
    omega
   ·have z1:¬(((ts.map V.ref).length:Nat):Int)%2=1:=fun y=>z1 (decide_eq_true (congrArg V.int y))
    rw [List.length_map,htl] at z1
    omega
  rintro σ H4 ⟨p2,j2,ps2,js2,rfl,ne4,s4,P4,J4,fp4,fs4,len4,par4⟩
  refine WSs.step (Zq4 PassesOwn.never (Zo Zed (Zp (r:=Xb K) Xf (by rfl) T.n_len PySem.boot_len (Zb (pv 1) Za)) Zd (Zx _)) Zy) ⟨fun m σ H'=>∃p3 j3 ps3 js3 o4,σ=[some (.ref t),some (.ref p3),some (.ref j3),some (.ref g1),o4,none,none,none]∧(p3≠g1∧j3≠g1)∧Same H3 H'∧Zs H' p3 ps3∧Z1 H' j3 js3∧Zcs (10+ps3.length) ps3 js3∧Zbl ps3 sg∧ps3.length≤40∧(ps3.length%2=0∨39≤ps3.length)∧m=40-ps3.length,⟨_,p2,j2,ps2,js2,none,rfl,ne4,s4,P4,J4,fp4,fs4,len4,par4,rfl⟩,?_⟩
  rintro m σ H5 ⟨p3,j3,ps3,js3,o4,rfl,ne5,s5,⟨ts3,hp5,hts5⟩,⟨us3,hj5,hus5⟩,fp5,fs5,len5,par5,rfl⟩
  have hl3:=Paired.length hts5
  have hu3:=Paired.length hus5
  have jl3:=fp5.net.jlen len5
  refine ⟨_,rfl,.inl ⟨p3,_,rfl,.inl (SqL.of hp5),_,_,rfl,rfl,_,rfl,Yk (fun z=>?_) (fun z=>?_)⟩⟩
  ·have z:(((ts3.map V.ref).length:Nat):Int)<39:=of_decide_eq_true z
   rw [List.length_map,hl3] at z
   refine ⟨fun σ H'=>∃p3' j3' ps3' js3' o4,σ=[some (.ref t),some (.ref p3'),some (.ref j3'),some (.ref g1),o4,none,none,none]∧(p3'≠g1∧j3'≠g1)∧Same H3 H'∧Zs H' p3' ps3'∧Z1 H' j3' js3'∧Zcs (10+ps3'.length) ps3' js3'∧Zbl ps3' sg∧ps3'.length≤40∧(ps3'.length%2=0∨39≤ps3'.length)∧40-ps3'.length<40-ps3.length,fun σ' H' ⟨a,b,c,d,o,h1,h0,h2,h3,h4,h5,h6,h7,h8,h9⟩=>⟨_,h9,a,b,c,d,o,h1,h0,h2,h3,h4,h5,h6,h7,h8,rfl⟩,?_⟩
   have hL:(ts3.map V.ref).length=ps3.length:=by rw [List.length_map,hl3]
   have fl:∀k,k<100→("stop" :Str).length+(Zb0 k).length≤1000:=fun k hk=>by
    have:=Zbu k hk
    rw [show ("stop" :Str).length=4 by decide +kernel];omega
   refine WSs.step (Zn (i:=4) Yq.nd rfl (by first | exact Or.inl rfl | exact Or.inr rfl) (Zl (Zb (Zk Y3 Ze (Y4 Y7 (by rfl) T.n_str PyProof.Rows.boot_str (Zb (Zk Y3 Zd (Zp (r:=Xb K) Xf (by rfl) T.n_len PySem.boot_len (Zb (pv 1) Za))) Za))) (Zb (Zk Y3 Ze (Y4 Y7 (by rfl) T.n_str PyProof.Rows.boot_str (Zb (Zk Y3 Zd (Zp (r:=Xb K) Xf (by rfl) T.n_len PySem.boot_len (Zb (pv 1) Za))) Za))) Za)))) ⟨_,rfl,.inl ⟨p3,_,rfl,.inl (SqL.of hp5),.inl ⟨10,_,rfl,rfl,_,rfl,?_,.inr (.inl ⟨_,_,rfl,rfl,?_,_,rfl,.inl ⟨p3,_,rfl,.inl (SqL.of hp5),.inl ⟨11,_,rfl,rfl,_,rfl,?_,.inr (.inl ⟨_,_,rfl,rfl,?_,sz (by simp),fun nl H6 s6 n6 e6=>?_⟩)⟩⟩⟩)⟩⟩⟩
   ·rw [hL,Zd5];exact Zce (by omega)
   ·rw [hL,Zd5];exact sz (fl _ (by omega))
   ·rw [hL,Zet];exact Zce (by omega)
   ·rw [hL,Zet];exact sz (fl _ (by omega))
   rw [hL,Zd5,Zet] at e6
   have e6:H6 nl=some (.lst [.str (Zam (10+ps3.length)),.str (Zam (10+ps3.length+1))]):=e6
   refine WSs.step (Zn (i:=1) Yq.nd rfl (by first | exact Or.inl rfl | exact Or.inr rfl) (Zk Y3 (pv 1) (Zl (Zb (Zf (Zb Ze (Zb (Zt (r:=rIx K) Zm (pv 4) Zd (fun _ _=>rfl)) Za))) (Zb (Zf (Zb Ze (Zb (Zt (r:=rIx K) Zm (pv 4) Zd (fun _ _=>rfl)) Za))) Za))))) ⟨_,rfl,_,rfl,.inl ⟨nl,_,0,_,rfl,rfl,SqL.of e6,Zr (j:=0) rfl,sz (by simp),fun a1 H7 s7 n7 e7=>⟨_,rfl,.inl ⟨nl,_,1,_,rfl,rfl,SqL.of (s7.at e6),Zr (j:=1) rfl,sz (by simp),fun a2 H8 s8 n8 e8=>⟨sz (by simp),fun al H9 s9 n9 e9=>.inr (.inr ⟨p3,al,_,_,rfl,rfl,(s6.trans (s7.trans (s8.trans s9))).at hp5,e9,sz (by rw [List.length_map];show ts3.length+2≤1000;omega),fun p4 H10 s10 n10 e10=>?_⟩)⟩⟩⟩⟩⟩
   have s510:=s6.trans (s7.trans (s8.trans (s9.trans s10)))
   have s610:=s7.trans (s8.trans (s9.trans s10))
   have P10:Zs H10 p4 (ps3++Zl7 (10+ps3.length)):=Zs.app (us:=[a1,a2]) (Paired.mapP hts5 fun _ _ r=>r.mono s510) (.cons ((s8.trans (s9.trans s10)).at e7) (.cons ((s9.trans s10).at e8) .nil)) e10
   refine WSs.last (Zn (i:=2) Yq.nd rfl (by first | exact Or.inl rfl | exact Or.inr rfl) (Zk Y3 (pv 2) (Zl (Zb (Zf (Zb (Zf (Zb (Zt (r:=rIx K) Zm (pv 4) Zd (fun _ _=>rfl)) (Zb Ze Za))) (Zb (Zf (Zb (Zt (r:=rIx K) Zm (pv 4) Zd (fun _ _=>rfl)) (Zb Ze Za))) Za))) Za)))) ⟨_,rfl,_,rfl,.inl ⟨nl,_,0,_,rfl,rfl,SqL.of (s610.at e6),Zr (j:=0) rfl,sz (by simp),fun b1 H11 s11 n11 e11=>⟨_,rfl,.inl ⟨nl,_,1,_,rfl,rfl,SqL.of (s11.at (s610.at e6)),Zr (j:=1) rfl,sz (by simp),fun b2 H12 s12 n12 e12=>⟨sz (by simp),fun b3 H13 s13 n13 e13=>⟨sz (by simp),fun bl H14 s14 n14 e14=>.inr (.inr ⟨j3,bl,_,_,rfl,rfl,(s510.trans (s11.trans (s12.trans (s13.trans s14)))).at hj5,e14,sz (by rw [List.length_map];show us3.length+1≤1000;omega),fun j4 H15 s15 n15 e15=>?_⟩)⟩⟩⟩⟩⟩⟩
   have s1015:=s11.trans (s12.trans (s13.trans (s14.trans s15)))
   have tl:(ps3++Zl7 (10+ps3.length)).length=ps3.length+2:=by rw [List.length_append];rfl
   refine ⟨p4,j4,ps3++Zl7 (10+ps3.length),js3++Zvo (10+ps3.length),_,rfl,⟨(Zh ((s5.trans (s6.trans (s7.trans (s8.trans s9)))).at e3) n10).symm,(Zh ((s5.trans (s510.trans (s11.trans (s12.trans (s13.trans s14))))).at e3) n15).symm⟩,s5.trans (s510.trans s1015),P10.mono s1015,Z1.app (us:=[b3]) (Paired.mapP hus5 fun _ _ r=>r.mono (s510.trans s1015)) (.cons ⟨b1,b2,(s14.trans s15).at e13,(s12.trans (s13.trans (s14.trans s15))).at e11,(s13.trans (s14.trans s15)).at e12⟩ .nil) e15,?_,fs5.more,?_,?_,?_⟩
   ·rw [tl]
    exact fp5.two (by omega) (by omega)
   ·rw [tl];omega
   ·rw [tl];omega
   ·rw [tl];omega
  ·have z:¬(((ts3.map V.ref).length:Nat):Int)<39:=fun y=>z (decide_eq_true y)
   rw [List.length_map,hl3] at z
   have hg5:=s5.at e3
   have hgs5:Paired (X5 H5) gs sg:=Paired.mapP hgs3 fun _ _ r=>s5.at r
   refine WSs.step (Xq (i:=5) (N':=["_law_row"]) Yq.nd rfl (Or.inl rfl) rfl (Z9.std 1 [] rfl (by decide +kernel) (by decide +kernel) rfl trivial rfl rfl trivial) (Yx (pv 3)) (fun _ _ _ _=>(Zq (i:=0) (by show (["_law_row"]:List Str).Nodup;decide +kernel) rfl (Or.inl (lookup_relabel_local rfl)) (Or.inr (lookup_relabel_local rfl)))) (fun _ _ _ _=>W9) (fun _ _ _ _=>(Zf (Zb (Zt (r:=rIx K) Zm (pv 0) Zd (fun _ _=>rfl)) (Zb (Zt (r:=rIx K) Zm (pv 0) Zd (fun _ _=>rfl)) Za))))) ⟨_,rfl,g1,rfl,⟨_,SqL.of hg5⟩,fun D hD=>Xv (K:=K) (xs:=gs.map V.ref) (fun i ys H'=>(∃vs:List Addr,ys=vs.map V.ref∧Paired (Zu H') vs ((sg.take i).map Prod.snd))∧H' D=some (.lst ys)∧Same H5 H') ⟨⟨[],rfl,.nil⟩,Zj,Same.new hD⟩ ?_ ?_ ?_⟩
   ·rintro i ys H' _ ⟨_,_,sm⟩
    exact SqL.of (sm.at hg5)
   ·rintro i v ys H6 hi ⟨⟨vs,rfl,hvs⟩,hD6,s6⟩
    rw [List.getElem?_map] at hi
    obtain ⟨u,hu,rfl⟩:=Option.map_eq_some_iff.mp hi
    obtain ⟨g,hg,hgu⟩:=Paired.get hgs5 hu
    have hvl:vs.length≤100:=by
     have:=Paired.length hvs
     rw [List.length_map,List.length_take] at this
     have:=fs5.sigs.len
     omega
    have hu6:H6 u=some (.tup [.str g.1,.str g.2.1,.str g.2.2]):=s6.at hgu
    refine ⟨Wr.set rfl,_,rfl,.inr (.inl ⟨u,_,1,_,rfl,rfl,SqT.of hu6,Zr (j:=1) rfl,_,rfl,.inr (.inl ⟨u,_,2,_,rfl,rfl,SqT.of hu6,Zr (j:=2) rfl,sz (by simp),fun t1 H7 s7 n7 e7=>⟨s7.at hD6,by rw [List.length_map];exact Z4 (by omega),⟨vs++[t1],by rw [List.map_append];rfl,?_⟩,Zj,fun b o y=>?_⟩⟩)⟩)⟩
    ·rw [List.take_add_one,hg,List.map_append]
     have hD7:=s7.at hD6
     have off:∀{c:Addr} {xs:List V} {o:HO},H7 c=some (.tup xs)→upd H7 D o c=some (.tup xs):=fun {c xs o} z=>(Zi fun y=>by rw [y,hD7] at z;cases z).trans z
     exact Paired.snoc (Paired.mapP hvs fun _ _ r=>off (s7.at r)) (off e7)
    ·rw [Zi (Zh y hD)];exact s7.at (s6.at y)
   rintro ys H6 ⟨⟨vs,rfl,hvs⟩,hD6,s6⟩
   rw [List.length_map,hgl,List.take_length] at hvs
   have neD:D≠g1:=(Zh hg5 hD).symm
   have sN:Same (del H6 g1) H6:=Zmf
   have hp6:del H6 g1 p3=some (.lst (ts3.map V.ref)):=Zaf (s6.at hp5) ne5.1
   have hj6:del H6 g1 j3=some (.lst (us3.map V.ref)):=Zaf (s6.at hj5) ne5.2
   have hg6:=s6.at hg5
   have offT:∀{c:Addr} {xs:List V},H6 c=some (.tup xs)→del H6 g1 c=some (.tup xs):=fun {c xs} z=>Zaf z fun y=>by rw [y,hg6] at z;cases z
   have hts6:Paired (Zu (del H6 g1)) ts3 ps3:=Paired.mapP hts5 fun _ _ r=>offT (s6.at r)
   have hus6:Paired (Y2 (del H6 g1)) us3 js3:=Paired.mapP hus5 fun _ _ ⟨a,b,r1,r2,r3⟩=>⟨a,b,offT (s6.at r1),offT (s6.at r2),offT (s6.at r3)⟩
   have hD6':del H6 g1 D=some (.lst (vs.map V.ref)):=Zaf hD6 neD
   have hvs6:Paired (Zu (del H6 g1)) vs (sg.map Prod.snd):=Paired.mapP hvs fun _ _ r=>offT r
   have s06:Same H (del H6 g1):=Zct (s03.trans (s5.trans s6)) n0g
   refine WSs.step (Zae PassesOwn.never rfl (Yx (pv 1)) (Zax rfl (Zw (Zq (i:=6) Yq.nd rfl (by first | exact Or.inl rfl | exact Or.inr rfl)) (Zw (Zq (i:=7) Yq.nd rfl (by first | exact Or.inl rfl | exact Or.inr rfl)) Y8))) Zy) ⟨_,rfl,p3,rfl,⟨_,SqL.of (s6.at hp5)⟩,Zba (K:=K) (xs:=ts3.map V.ref) (fun i σ H'=>(∃o6 o7,σ=[some (.ref t),some (.ref p3),some (.ref j3),some (.ref g1),o4,some (.ref D),o6,o7])∧Same (del H6 g1) H'∧∃gs' sg',H' g1=some (.lst (gs'.map V.ref))∧Paired (X5 H') gs' sg'∧Zbl ps3 sg'∧∀g∈sg',g.2∈sg.map Prod.snd∨∃j p,j<i∧ps3[j]? =some p∧p.2=g.2.1) ⟨⟨none,none,rfl⟩,sN,gs,sg,hg6,Paired.mapP hgs5 fun _ _ r=>s6.at r,fs5,fun g hg=>.inl (List.mem_map.mpr ⟨g,hg,rfl⟩)⟩ ?_ ?_ ?_⟩
   ·rintro i σ H' _ ⟨_,s7,_⟩
    exact SqL.of (s7.at hp6)
   ·rintro i v σ H7 hi ⟨⟨o6,o7,rfl⟩,s7,gs',sg',hg7,hgs7,fs7,at7⟩
    rw [List.getElem?_map] at hi
    obtain ⟨u,hu,rfl⟩:=Option.map_eq_some_iff.mp hi
    obtain ⟨⟨k,nm⟩,hp,hpu⟩:=Paired.get hts6 hu
    have hpu:del H6 g1 u=some (.tup [.str k,.str nm]):=hpu
    have hgl7:=Paired.length hgs7
    have sl7:=fs7.sigs.len
    have stay:∀{H8:Hp},Same H7 H8→(∃o6 o7,[some (.ref t),some (.ref p3),some (.ref j3),some (.ref g1),o4,some (.ref D),some (.str k),some (.str nm)]=[some (V.ref t),some (.ref p3),some (.ref j3),some (.ref g1),o4,some (.ref D),o6,o7])∧Same (del H6 g1) H8∧∃gs' sg',H8 g1=some (.lst (gs'.map V.ref))∧Paired (X5 H8) gs' sg'∧Zbl ps3 sg'∧∀g∈sg',g.2∈sg.map Prod.snd∨∃j p,j<i+1∧ps3[j]? =some p∧p.2=g.2.1:=fun {H8} s8 =>
     ⟨⟨_,_,rfl⟩,s7.trans s8,gs',sg',s8.at hg7,Paired.mapP hgs7 fun _ _ r=>s8.at r,fs7,fun g hg=>(at7 g hg).imp id fun ⟨j,p,h1,h2,h3⟩=>⟨j,p,by omega,h2,h3⟩⟩
    refine ⟨u,_,rfl,SqT.of (s7.at hpu),rfl,_,_,rfl,_,_,rfl,rfl,?_⟩
    refine WSs.last (Yg (PW.pt (Zbi (Zo (r:=Zgu K) (Zh5 hr) (pv 6) (Zl (Zb Ze (Zb Ze (Zb Ze Za)))) (by with_unfolding_all rfl)) (Zbi (Zo (r:=Zkw K) (Znu hr) (Zf (Zb (pv 7) (Zb Ze Za))) (pv 5) (by with_unfolding_all rfl)) (Zaq (Zo Zed (Zp (r:=Xb K) Xf (by rfl) T.n_len PySem.boot_len (Zb (pv 3) Za)) Zd (Zx _)))))) Zy Z2) ⟨_,rfl,sz (by simp),fun kl H8 s8 n8 e8=>.inl ⟨kl,_,rfl,.inl (SqL.of e8),rfl,rfl,_,rfl,Yk (fun z1=>⟨_,rfl,sz (by simp),fun tp H9 s9 n9 e9=>⟨_,rfl,.inr (.inr ⟨D,1,trP (nm, "a"),_,vs,rfl,SqL.of ((s7.trans (s8.trans s9)).at hD6'),by decide,Im.tup (n:=0) (SqT.of e9) (.cons (.str _) (.cons (.str _) .nil)),Zdu (Paired.mapP hvs6 fun _ _ r=>(s7.trans (s8.trans s9)).at r),_,rfl,Yk (fun z2=>⟨_,rfl,.inl ⟨g1,_,rfl,.inl (SqL.of ((s8.trans s9).at hg7)),_,_,rfl,rfl,_,rfl,Yk (fun z3=>?_) (fun _=>stay (s8.trans s9))⟩⟩) (fun _=>stay (s8.trans s9))⟩)⟩⟩) (fun _=>stay s8)⟩⟩
    have z1:inV (V.str k) ((["plain", "stop", "gate"]:List Str).map V.str)=true:=z1
    rw [Zdg] at z1
    have z1:k∈[("plain" :Str), "gate", "stop"]:=by
     have z1:=of_decide_eq_true z1
     simp only [List.mem_cons,List.mem_nil_iff,or_false] at z1 ⊢
     rcases z1 with z|z|z <;>simp [z]
    have z2:((nm,("a" :Str)):Zc)∉sg.map Prod.snd:=fun y=>by
     rw [if_pos rfl,decide_eq_true (List.mem_map.mpr ⟨_,y,rfl⟩)] at z2
     exact absurd z2 (by decide)
    have z3:(((gs'.map V.ref).length:Nat):Int)<40:=of_decide_eq_true z3
    rw [List.length_map,hgl7] at z3
    have s79:=s8.trans s9
    have hl9:(gs'.map V.ref).length=sg'.length:=by rw [List.length_map,hgl7]
    refine WSs.last (Xt (Zda PySem.F.plainAttrs_list PySem.F.slot_list_append PySem.F.type_list_append Xp (pv 3) (Zb (Zf (Zb (Zk Y3 Ze (Y4 Y7 (by rfl) T.n_str PyProof.Rows.boot_str (Zb (Zk Y3 Zd (Zp (r:=Xb K) Xf (by rfl) T.n_len PySem.boot_len (Zb (pv 3) Za))) Za))) (Zb (pv 7) (Zb Ze Za)))) Za))) ⟨_,rfl,.inl ⟨rfl,_,SqL.of (s79.at hg7)⟩,_,rfl,.inl ⟨g1,_,rfl,.inl (SqL.of (s79.at hg7)),.inl ⟨10,_,rfl,rfl,_,rfl,?_,.inr (.inl ⟨_,_,rfl,rfl,?_,_,rfl,sz (by simp),fun ng H10 s10 n10 e10=>⟨g1,_,_,rfl,rfl,s10.at (s79.at hg7),by rw [hl9];exact Z4 (by omega),?_⟩⟩)⟩⟩⟩
    ·rw [hl9,Zd5];exact Zce (by omega)
    ·rw [hl9,Zd5]
     have:=Zbu (10+sg'.length) (by omega)
     refine sz ?_
     rw [show ("sign" :Str).length=4 by decide +kernel]
     show 4+(Zb0 (10+sg'.length)).length≤1000
     omega
    rw [hl9,Zd5] at e10
    have e10:X5 H10 ng (Zcr (10+sg'.length),nm, "a"):=e10
    have hg10:=s10.at (s79.at hg7)
    have s710:=s79.trans s10
    have off:∀{c:Addr} {xs:List V} {o:HO},H10 c=some (.tup xs)→upd H10 g1 o c=some (.tup xs):=fun {c xs o} z=>(Zi fun y=>by rw [y,hg10] at z;cases z).trans z
    refine ⟨⟨_,_,rfl⟩,(s7.trans s710).upd0 Zdt,gs'++[ng],_,by rw [Zj,List.map_append];rfl,Paired.snoc (Paired.mapP hgs7 fun _ _ r=>off (s710.at r)) (off e10),fs7.add (p:=(k,nm)) (by omega) (List.mem_of_getElem? hp) z1 fun y=>?_,fun g hg=>?_⟩
    ·obtain ⟨g,hg,e⟩:=List.mem_map.mp y
     rcases at7 g hg with h|⟨j,p,h1,h2,h3⟩
     ·rw [e] at h;exact z2 h
     ·rw [e] at h3
      have nd:=Zgy fp5.net.nd (i:=i) (a:=nm) (by rw [List.getElem?_map,hp];rfl)
      refine nd ?_
      rw [←show p.2=nm from h3,←List.map_take]
      exact List.mem_map.mpr ⟨p,List.mem_of_getElem? (by rw [List.getElem?_take_of_lt h1];exact h2),rfl⟩
    ·rcases List.mem_append.mp hg with h|h
     ·exact (at7 g h).imp id fun ⟨j,p,h1,h2,h3⟩=>⟨j,p,by omega,h2,h3⟩
     ·rw [List.mem_singleton.mp h]
      exact .inr ⟨i,(k,nm),by omega,hp,rfl⟩
   rintro σ H7 ⟨⟨o6,o7,rfl⟩,s7,gs',sg',hg7,hgs7,fs7,_⟩
   refine WSs.last (Z8 (Zf (Zb (pv 1) (Zb (pv 2) (Zb (pv 3) Za))))) ⟨_,rfl,_,rfl,_,rfl,sz (by simp),fun t' H8 s8 n8 e8=>?_⟩
   have s78:=s7.trans s8
   exact q t' H8 ps3 js3 sg' (s06.trans s78) ⟨p3,j3,g1,e8,⟨ts3,s78.at hp6,Paired.mapP hts6 fun _ _ r=>s78.at r⟩,⟨us3,s78.at hj6,Paired.mapP hus6 fun _ _ r=>r.mono s78⟩,⟨gs',s8.at hg7,Paired.mapP hgs7 fun _ _ r=>s8.at r⟩⟩ (fp5.bas (by omega) len5) fs7 (by omega)
theorem Zi0(T:Tx K mg){k:Nat}(h:1≤k:=by decide):Yf P w K mg base CX0 k T.d__law_filled.f T.d__law_filled.fd ["_law_yard"] Zle:=(Zhw T).mono h
theorem Zgh{α β:Type}{R:α→β→Prop}{l₁:List α}{l₂:List β}(h:Paired R l₁ l₂)(n:Nat):Paired R (l₁.take n) (l₂.take n):=by
 induction h generalizing n with
 | nil=>rw [List.take_nil,List.take_nil];exact .nil
 | cons r _ ih =>
  cases n with
  | zero=>exact .nil
  | succ n=>exact .cons r (ih n)
theorem Zfr(k:Str):∃x r,Yc k=x ::r:=by
 unfold Yc
 split
 ·exact ⟨_,_,rfl⟩
 ·split
  ·exact ⟨_,_,rfl⟩
  ·split <;>exact ⟨_,_,rfl⟩
def trG(g:G3):Tr:=.tup [.str g.1,.str g.2.1,.str g.2.2]
theorem Zkb{H:Hp}{ts:List Addr}{sg:List G3}(h:Paired (X5 H) ts sg):Paired (Im K H 1) (sg.map trG) (ts.map V.ref):=by
 induction h with
 | nil=>exact .nil
 | cons r _ ih=>exact .cons (Im.tup (n:=0) (SqT.of r) (.cons (.str _) (.cons (.str _) (.cons (.str _) .nil)))) ih
theorem Zne{α:Type}{f:α→Tr}{l:List α}(z:(if true=true then !decide (Tr.lst (l.map f)=Tr.lst []) else decide (Tr.lst (l.map f)=Tr.lst []))=true):l≠[]:=fun y=>by
 rw [y,if_pos rfl,decide_eq_true (show Tr.lst (([]:List α).map f)=Tr.lst [] from rfl)] at z
 exact absurd z (by decide)
theorem Zo0{xs:List Addr}(hne:xs≠[])(a:Int):∃(j:Nat) (x:Addr),xs[j]? =some x∧(0:Int)<(((xs.map V.ref).length:Nat):Int)∧atI (xs.map V.ref) (a%(((xs.map V.ref).length:Nat):Int))=some (.ref x):=by
 have hl:0<(xs.map V.ref).length:=by rw [List.length_map];exact List.length_pos_iff.mpr hne
 obtain ⟨k,hk,hk2⟩:=Zbq (a:=a) (n:=(xs.map V.ref).length) hl
 have hk3:k<xs.length:=by rw [List.length_map] at hk2;exact hk2
 refine ⟨k,xs[k],List.getElem?_eq_getElem hk3,by omega,?_⟩
 rw [hk]
 exact Zr (by rw [List.getElem?_map,List.getElem?_eq_getElem hk3];rfl)
theorem Zbo.goodN{ps:List Zc}{js:List (Zc×Zc)}(h:Zbo ps js):Zdr ps:=⟨fun p hp=>(h.name p hp).b,h.net.nd⟩
theorem Zbo.goodJ{ps:List Zc}{js:List (Zc×Zc)}(h:Zbo ps js):Zbm (Ye ps) js:=⟨fun e he=>h.net.flat.mem_iff.mp he,h.net.flat.nodup_iff.mpr (Za1 h.net.nd),h.net.apart,by rw [h.net.flat.length_eq];exact Nat.le_refl _⟩
theorem Zbe.goodP{ps:List Zc}{sg:List G3}(h:Zbe ps sg):Zby ps sg:=⟨fun g hg=>(h.name g hg).b,h.nd,h.one,fun g hg=>let ⟨p,hp,h1,h2,h3⟩:=h.at_ g hg;⟨p,hp,h1,h3,decide_eq_true h2⟩⟩
theorem Zby.sub{ps:List Zc}{sg sg':List G3}(h:Zby ps sg)(s:sg'.Sublist sg):Zby ps sg':=⟨fun g hg=>h.name g (s.subset hg),h.nd.sublist (s.map _),h.one.sublist (s.map _),fun g hg=>h.at_ g (s.subset hg)⟩
def Zgc(ps:List Zc)(good:List G3)(g:G3)(k:Nat):Prop:=(k=1∧¬(Xe g.1=true∧g.1∉good.map Prod.fst))∨(k=2∧(Xe g.1=true∧g.1∉good.map Prod.fst)∧¬(Zcp ps g.2∧g.2∉good.map Prod.snd))
theorem Zgc.rf{ps:List Zc}{js:List (Zc×Zc)}{good rest:List G3}{g:G3}{k:Nat}(b:Zbo ps js)(h:Zby ps good)(hl:(good++g ::rest).length≤40)(f:Zgc ps good g k):Rf ps js (good++g ::rest) k:=by
 have few:¬Zlg ps (good++g ::rest):=by
  rintro (z|z)
  ·have:=b.len;omega
  ·omega
 have pk:Zc8 ps [] (good++g ::rest)=Zc8 ps good (g ::rest):=Zc0 (done:=[]) h
 rcases f with ⟨rfl,f⟩|⟨rfl,f1,f2⟩
 ·refine ⟨few,.inr ⟨b.goodN,b.goodJ,?_⟩⟩
  rw [pk]
  exact if_neg f
 ·refine ⟨few,b.goodN,.inr ⟨b.goodJ,?_⟩⟩
  rw [pk]
  show (if _ then (if _ then _ else some false) else _)=some false
  rw [if_pos f1,if_neg f2]
theorem Zpu{ps:List Zc}{e:Zc}(h:∀p∈ps,p.2≠e.1):¬Zcp ps e:=fun ⟨p,hp,z,_⟩=>h p hp z
theorem Zpi{ps:List Zc}{e p:Zc}(nd:(ps.map Prod.snd).Nodup)(hp:p∈ps) (hk:p.1∈[("points" :Str), "cross"]) (he:e.1=p.2):¬Zcp ps e:=fun ⟨p',hp',z1,_,z3⟩=>by
 have:p'=p:=Zly nd hp' hp (z1.trans he)
 rw [this] at z3
 have no:∀k∈[("points" :Str), "cross"],Zes k≠true:=by decide +kernel
 exact no _ hk z3
theorem Zxc{ps:List Zc}{nm:Str}(hk:∀p∈ps,p.1∈Y6):¬Zcp ps (nm, "e"):=fun ⟨p,hp,_,z2,_⟩=>by
 have no:∀k∈Y6,("e" :Str)∉Yc k:=by decide +kernel
 exact no _ (hk p hp) z2
def Zwr:Sp:=fun vs H Q _=>∃(t:Addr) (c:Int) (ps:List Zc) (js:List (Zc×Zc)) (sg:List G3),vs=[.ref t,.int c]∧Zar H t ps js sg∧Zbo ps js∧Zme ps sg∧ps≠[] ∧
 ∀(r y l:Addr) (H':Hp) (sg':List G3) (k:Nat),Same H H'→H' r=some (.tup [.ref y,.ref l])→Zar H' y ps js sg'→H' l=some (.lst [.int (k:Nat)])→Rf ps js sg' k→(∀g∈sg',Za2 g.1)→sg'.length≤40→Q (.ref r) H'
theorem Zbd:Za2 "wrong" ∧Xe "wrong" =true∧Za2 "S" ∧Xe "S" =false:=by
 refine ⟨⟨by decide +kernel,by decide +kernel⟩,by decide +kernel,⟨by decide +kernel,by decide +kernel⟩,by decide +kernel⟩
def Zu3:List Str:=["S", "", "9s", "longest", "a b"]
theorem Zts:∀x∈Zu3,((∀c∈x.cps.toList,c<128)∧x.length≤100)∧Xe x=false∧x ≠ "wrong" :=by decide +kernel
def Zug(ps:List Zc)(good:List G3)(e:Zc):Prop:=¬(Zcp ps e∧e∉good.map Prod.snd)
def Zud(good:List G3)(nm:Str):Prop:=Za2 nm∧(nm = "wrong" ∨(nm ≠ "wrong" ∧¬(Xe nm=true∧nm∉good.map Prod.fst)))
theorem Zdn(T:Tx K mg):Yf P w K mg base CX0 2 T.d__law_wrong_signal.f T.d__law_wrong_signal.fd ["_law_yard", "_law_cell"] Zwr:=by
 refine T.d__law_wrong_signal.F.okW Z0 (fun vs H Q E h=>?_) (fun cdv A outer s H vs Q E hr h=>?_)
 ·obtain ⟨t,c,ps,js,sg,rfl,_⟩:=h
  rfl
 ·obtain ⟨t,c,ps,js,sg,rfl,⟨pl,jl,sl,ht,⟨ts,hpl,hts⟩,hJ,⟨gs,hsl,hgs⟩⟩,bp,bs,pne,q⟩:=h
  have plen:=bp.len
  have htl:=Paired.length hts
  refine WSs.step (Zej (pv 0) (Zax rfl (Zw (Zq (i:=2) Z0.nd rfl (by first | exact Or.inl rfl | exact Or.inr rfl)) (Zw (Zq (i:=3) Z0.nd rfl (by first | exact Or.inl rfl | exact Or.inr rfl)) (Zw (Zq (i:=4) Z0.nd rfl (by first | exact Or.inl rfl | exact Or.inr rfl)) Y8))))) ⟨_,rfl,t,_,rfl,SqT.of ht,rfl,_,_,rfl,_,_,rfl,_,_,rfl,rfl,?_⟩
  refine WSs.step (Zn (i:=4) Z0.nd rfl (by first | exact Or.inl rfl | exact Or.inr rfl) (Xy (r:=Ze8 K) Zf6 (pv 4) W4 (Wq Zd))) ⟨_,rfl,_,rfl,.inr (.inl ⟨sl,_,rfl,SqL.of hsl,fun s1 H1 z1 n1 e1=>?_⟩)⟩
  have e1:H1 s1=some (.lst ((gs.take 39).map V.ref)):=by
   have:=Zf0 (gs.map V.ref) 39
   rw [show ((39:Nat):Int)=39 from rfl] at this
   rw [this,←List.map_take] at e1
   exact e1
  have good:Zby ps (sg.take 39):=bs.sigs.goodP.sub (List.take_sublist _ _)
  have hgs1:Paired (X5 H1) (gs.take 39) (sg.take 39):=Paired.mapP (Zgh hgs 39) fun _ _ r=>z1.at r
  have gl:(sg.take 39).length≤39:=by rw [List.length_take];omega
  have gasc:∀g∈sg.take 39,Za2 g.1:=fun g hg=>(bs.sigs.name g (List.mem_of_mem_take hg)).asc
  have wnew:("wrong" :Str)∉(sg.take 39).map Prod.fst:=fun z=>by
   obtain ⟨g,hg,e⟩:=List.mem_map.mp z
   exact bs.far g (List.mem_of_mem_take hg) e
  have none_no:¬Zcp ps (("none", "a"):Zc):=Zpu fun p hp=>(bp.far p hp).1
  generalize hgd:sg.take 39=gd at good hgs1 gl gasc wnew
  generalize hgt:gs.take 39=gt at e1 hgs1
  have hgtl:=Paired.length hgs1
  clear hgd hgt hgs hsl bs
  have hpl1:=z1.at hpl
  have hts1:Paired (Zu H1) ts ps:=Paired.mapP hts fun _ _ r=>r.mono z1
  have hJ1:=hJ.mono z1
  refine WSs.cut (fun σ' H'=>σ'=[some (.ref t),some (.int c),some (.ref pl),some (.ref jl),some (.ref s1),none,none,none,none]∧H'=H1) ?_ ?_
  ·refine WS.of (Yg (Zo Zgf (Zk Z6 (pv 1) Zd) Zd (Zx _)) Zy Z2) ⟨_,rfl,_,_,rfl,rfl,(by show (0:Int)<8;decide),_,_,rfl,rfl,_,rfl,Yk (fun z=>?_) (fun _=>⟨rfl,rfl⟩)⟩
   have z:(5:Int)<c%8:=of_decide_eq_true z
   have c8:=Int.emod_lt_of_pos c (show (0:Int)<8 by decide)
   refine WSs.step (Zn (i:=5) Z0.nd rfl (by first | exact Or.inl rfl | exact Or.inr rfl) (Zl (Zb (Zf (Zb Ze (Zb Ze (Zb Ze Za)))) (Zb (Zf (Zb Ze (Zb Ze (Zb Ze Za)))) Za)))) ⟨sz (by simp),fun a1 H2 s2 n2 e2=>⟨sz (by simp),fun a2 H3 s3 n3 e3=>⟨sz (by simp),fun tl H4 s4 n4 e4=>?_⟩⟩⟩
   have A1:X5 H4 a1 ("wrong", "none", "a"):=(s3.trans s4).at e2
   have A2:X5 H4 a2 ("S", "none", "a"):=s4.at e3
   have s14:=s2.trans (s3.trans s4)
   have n1t:H1 tl=none:=(s2.trans s3).free n4
   refine WSs.cut (fun σ' H'=>∃(ws:List Addr) (wg:List G3) (k:Nat),σ'=[some (.ref t),some (.int c),some (.ref pl),some (.ref jl),some (.ref s1),some (.ref tl),none,none,none]∧Same H1 H'∧H' tl=some (.lst (ws.map V.ref))∧Paired (X5 H') ws wg∧wg.length=2∧(∀g∈wg,Za2 g.1)∧(13:Int)-c%8-5=(k:Nat)∧∃g r,wg=g ::r∧∀gd',gd'.Sublist gd→Zgc ps gd' g k) ?_ ?_
   ·have f1:∀gd':List G3,gd'.Sublist gd→Zgc ps gd' ("wrong", "none", "a") 2:=fun gd' sb=>.inr ⟨rfl,⟨Zbd.2.1,fun y=>wnew ((sb.map _).subset y)⟩,fun y=>none_no y.1⟩
    have f2:∀gd':List G3,gd'.Sublist gd→Zgc ps gd' ("S", "none", "a") 1:=fun gd' sb=>.inl ⟨rfl,fun y=>by have:=y.1;rw [Zbd.2.2.2] at this;cases this⟩
    refine WS.of (Yg (Zo (r:=X9 K) (Wo hr) (Zk Z6 (pv 1) Zd) Zd (Zx _)) Zy Z2) ⟨_,rfl,_,_,rfl,rfl,(by show (0:Int)<8;decide),.inl ⟨rfl,_,rfl,Yk (fun z7=>?_) (fun z7=>?_)⟩⟩
    ·have z7:c%8=7:=V.int.inj (of_decide_eq_true z7)
     refine WSs.last (Xt (Zvx PySem.F.plainAttrs_list PySem.F.slot_list_reverse PySem.F.type_list_reverse Znn (pv 5))) ⟨_,rfl,.inl ⟨rfl,_,SqL.of e4⟩,tl,_,rfl,rfl,e4,?_⟩
     have off:∀{b:Addr} {xs:List V} {o:HO},H4 b=some (.tup xs)→upd H4 tl o b=some (.tup xs):=fun {b xs o} z=>(Zi fun y=>by rw [y,e4] at z;cases z).trans z
     refine ⟨[a2,a1],[("S", "none", "a"),("wrong", "none", "a")],1,rfl,s14.upd0 n1t,Zj,.cons (off A2) (.cons (off A1) .nil),rfl,?_,by omega,_,_,rfl,f2⟩
     intro g hg
     simp only [List.mem_cons,List.mem_nil_iff,or_false] at hg
     rcases hg with rfl|rfl
     ·exact Zbd.2.2.1
     ·exact Zbd.1
    ·have z7:¬c%8=7:=fun y=>z7 (decide_eq_true (congrArg V.int y))
     refine ⟨[a1,a2],[("wrong", "none", "a"),("S", "none", "a")],2,rfl,s14,e4,.cons A1 (.cons A2 .nil),rfl,?_,by omega,_,_,rfl,f1⟩
     intro g hg
     simp only [List.mem_cons,List.mem_nil_iff,or_false] at hg
     rcases hg with rfl|rfl
     ·exact Zbd.1
     ·exact Zbd.2.2.1
   rintro σ H5 ⟨ws,wg,k,rfl,s5,e5,hws,wl,wasc,hk,g0,gr,rfl,flt⟩
   have hwl:=Paired.length hws
   refine WSs.last (Z8 (Zf (Zb (Zf (Zb (pv 2) (Zb (pv 3) (Zb (Zk Y3 (Xy (r:=Ze8 K) Zf6 (pv 4) W4 (Wq Zd)) (pv 5)) Za)))) (Zb (Zl (Zb (Zk Zdj (Zk Zdj Zd (Zk Z6 (pv 1) Zd)) Zd) Za)) Za)))) ⟨_,rfl,_,rfl,_,rfl,_,rfl,.inr (.inl ⟨s1,_,rfl,SqL.of (s5.at e1),fun s2' H6 s6 n6 e6=>⟨_,rfl,.inr (.inr ⟨s2',tl,_,_,rfl,rfl,e6,s6.at e5,?_,fun s3' H7 s7 n7 e7=>⟨sz (by simp),fun y H8 s8 n8 e8=>⟨_,rfl,_,_,rfl,rfl,(by show (0:Int)<8;decide),13,_,rfl,rfl,_,5,rfl,rfl,sz (by simp),fun l H9 s9 n9 e9=>⟨sz (by simp),fun r H10 s10 n10 e10=>?_⟩⟩⟩⟩)⟩⟩)⟩
   ·have:=Zcc (gt.map V.ref) none (some 38)
    rw [List.length_map] at this ⊢
    exact sz (by omega)
   have c38:=Zf0 (gt.map V.ref) 38
   rw [show ((38:Nat):Int)=38 from rfl] at c38
   rw [c38,←List.map_take,←List.map_append] at e7
   have s57:=s6.trans s7
   have s510:=s57.trans (s8.trans (s9.trans s10))
   have e9:H9 l=some (.lst [.int ((k:Nat):Int)]):=by rw [←hk];exact e9
   have hlen:(gd.take 38++g0 ::gr).length≤40:=by rw [List.length_append,List.length_take,wl];omega
   refine q r y l H10 (gd.take 38++g0 ::gr) k (z1.trans (s5.trans s510)) e10 ⟨pl,jl,s3',(s9.trans s10).at e8,⟨ts,(s5.trans s510).at hpl1,Paired.mapP hts1 fun _ _ r=>r.mono (s5.trans s510)⟩,hJ1.mono (s5.trans s510),⟨gt.take 38++ws,(s8.trans (s9.trans s10)).at e7,Paired.append (Paired.mapP (Zgh hgs1 38) fun _ _ r=>(s5.trans s510).at r) (Paired.mapP hws fun _ _ r=>s510.at r)⟩⟩ (s10.at e9) (Zgc.rf bp (good.sub (List.take_sublist _ _)) hlen (flt _ (List.take_sublist _ _))) (fun g hg=>?_) hlen
   rcases List.mem_append.mp hg with y|y
   ·exact gasc g (List.mem_of_mem_take y)
   ·exact wasc g y
  rintro σ H2 ⟨rfl,hH⟩
  rw [hH]
  clear hH H2
  refine WSs.step (Xq (i:=7) (N':=["_law_kind", "_law_name"]) Z0.nd rfl (Or.inl rfl) rfl (Z9.std 2 [] rfl (by decide +kernel) (by decide +kernel) rfl trivial rfl rfl trivial) (Yx (pv 2)) (fun _ _ _ _=>(Zcx (K:=K) (n:=2) rfl rfl (Zw (Zq (i:=0) (by show (["_law_kind", "_law_name"]:List Str).Nodup;decide +kernel) rfl (Or.inl (lookup_relabel_local rfl)) (Or.inr (lookup_relabel_local rfl))) (Zw (Zq (i:=1) (by show (["_law_kind", "_law_name"]:List Str).Nodup;decide +kernel) rfl (Or.inl (lookup_relabel_local rfl)) (Or.inr (lookup_relabel_local rfl))) Y8)))) (fun _ _ _ _=>(Zdx (Zo (r:=Zgu K) (Zh5 hr) (pv 0) (Zl (Zb Ze (Zb Ze Za))) (by with_unfolding_all rfl)))) (fun _ _ _ _=>(Zf (Zb (pv 1) (Zb (Zt (r:=rIx K) Zm (Z5 (Za9 T) hr rfl T.m__law_ends T.d__law_ends.F.kp T.d__law_ends.b .nil Yn (Zb (pv 0) Za)) Zd (fun _ _=>rfl)) Za))))) ⟨_,rfl,pl,rfl,⟨_,SqL.of hpl1⟩,fun D hD=>Xv (K:=K) (xs:=ts.map V.ref) (fun i ys H'=>(∃(vs:List Addr) (es:List Zc),ys=vs.map V.ref∧Paired (Zu H') vs es∧(∀e∈es,∃p∈ps,p.1∈[("points" :Str), "cross"]∧e.1=p.2)∧es.length≤i)∧H' D=some (.lst ys)∧Same H1 H') ⟨⟨[],[],rfl,.nil,fun _ z=>(nomatch z),Nat.le_refl _⟩,Zj,Same.new hD⟩ ?_ ?_ ?_⟩
  ·rintro i ys H' _ ⟨_,_,sm⟩
   exact SqL.of (sm.at hpl1)
  ·rintro i v ys H2 hi ⟨⟨vs,es,rfl,hvs,hes,hel⟩,hD2,s2⟩
   have hil:=(List.getElem?_eq_some_iff.mp hi).1
   rw [List.length_map] at hil
   rw [List.getElem?_map] at hi
   obtain ⟨u,hu,rfl⟩:=Option.map_eq_some_iff.mp hi
   obtain ⟨⟨k,nm⟩,hp,hpu⟩:=Paired.get hts1 hu
   have hpu:H1 u=some (.tup [.str k,.str nm]):=hpu
   have hvl:=Paired.length hvs
   obtain ⟨x,rr,hx⟩:=Zfr k
   refine ⟨u,_,rfl,SqT.of (s2.at hpu),rfl,_,_,rfl,_,_,rfl,rfl,(Wr.set rfl).trans (Wr.set rfl),_,rfl,sz (by simp),fun kl H3 s3 n3 e3=>.inl ⟨kl,_,rfl,.inl (SqL.of e3),rfl,rfl,_,rfl,Yk (fun z=>?_) (fun _=>⟨⟨vs,es,rfl,Paired.mapP hvs fun _ _ r=>r.mono s3,hes,by omega⟩,s3.at hD2,s2.trans s3⟩)⟩⟩
   have z:inV (V.str k) ((["points", "cross"]:List Str).map V.str)=true:=z
   rw [Zdg] at z
   have z:=of_decide_eq_true z
   refine ⟨_,rfl,_,rfl,k,rfl,fun le H4 s4 n4 e4=>.inl ⟨le,_,0,_,rfl,rfl,SqL.of e4,by rw [hx];exact Zr (j:=0) rfl,sz (by simp),fun t1 H5 s5 n5 e5=>⟨(s3.trans (s4.trans s5)).at hD2,by rw [List.length_map];exact Z4 (by omega),⟨vs++[t1],es++[(nm,x)],by rw [List.map_append];rfl,?_,?_,?_⟩,Zj,fun b o y=>?_⟩⟩⟩
   ·have hD5:=(s3.trans (s4.trans s5)).at hD2
    have off:∀{c:Addr} {xs:List V} {o:HO},H5 c=some (.tup xs)→upd H5 D o c=some (.tup xs):=fun {c xs o} z=>(Zi fun y=>by rw [y,hD5] at z;cases z).trans z
    exact Paired.snoc (Paired.mapP hvs fun _ _ r=>off ((s3.trans (s4.trans s5)).at r)) (off e5)
   ·intro e he
    rcases List.mem_append.mp he with y|y
    ·exact hes e y
    ·rw [List.mem_singleton.mp y]
     exact ⟨(k,nm),List.mem_of_getElem? hp,z,rfl⟩
   ·rw [List.length_append];show es.length+1≤i+1;omega
   ·rw [Zi (Zh y hD)];exact (s3.trans (s4.trans s5)).at (s2.at y)
  rintro ys H2 ⟨⟨vs,es,rfl,hvs,hes,hel⟩,hD2,s2⟩
  have hvl:=Paired.length hvs
  refine WSs.step (Zn (i:=8) Z0.nd rfl (by first | exact Or.inl rfl | exact Or.inr rfl) (Zf (Zb Ze (Zb Ze Za)))) ⟨sz (by simp),fun a0 H3 s3 n3 e3=>?_⟩
  have s13:=s2.trans s3
  have e13:=s13.at e1
  have hgs3:Paired (X5 H3) gt gd:=Paired.mapP hgs1 fun _ _ r=>s13.at r
  have hvs3:Paired (Zu H3) vs es:=Paired.mapP hvs fun _ _ r=>r.mono s3
  refine WSs.cut (fun σ' H'=>∃(a:Addr) (e:Zc),σ'=[some (.ref t),some (.int c),some (.ref pl),some (.ref jl),some (.ref s1),none,none,some (.ref D),some (.ref a)]∧Same H3 H'∧Zu H' a e∧Zug ps gd e) ?_ ?_
  ·have stay:∀{H4:Hp},Same H3 H4→∃(a:Addr) (e:Zc),[some (V.ref t),some (.int c),some (.ref pl),some (.ref jl),some (.ref s1),none,none,some (.ref D),some (.ref a0)]=[some (V.ref t),some (.int c),some (.ref pl),some (.ref jl),some (.ref s1),none,none,some (.ref D),some (.ref a)]∧Same H3 H4∧Zu H4 a e∧Zug ps gd e:=fun {H4} s4=>⟨a0,("none", "a"),rfl,s4,s4.at e3,fun y=>none_no y.1⟩
   refine (fun (elif:∀H4,Same H3 H4→_)=>WS.of (Yg (PW.pt (Zbi (Zo (r:=Zgu K) (Zh5 hr) (Zk Z6 (pv 1) Zd) (Zl (Zb Zd (Zb Zd Za))) (by with_unfolding_all rfl)) (Zaq (Zo (r:=Zfm K) (Zgv hr) (pv 7) (Zl Za) (Zx _))))) Zy Zy) ⟨_,rfl,_,_,rfl,rfl,(by show (0:Int)<8;decide),sz (by simp),fun kl H4 s4 n4 e4=>.inl ⟨kl,_,rfl,.inl (SqL.of e4),rfl,rfl,_,rfl,Yk (fun z=>⟨_,rfl,sz (by simp),fun el H5 s5 n5 e5=>.inr (.inl ⟨2,.lst (es.map trP),.lst [],by decide,.inr ⟨_,_,rfl,rfl⟩,Im.lst (SqL.of ((s3.trans (s4.trans s5)).at hD2)) (Zdu (Paired.mapP hvs3 fun _ _ r=>(s4.trans s5).at r)),Im.lst (n:=1) (SqL.of e5) .nil,_,rfl,Yk (fun z2=>?_) (fun _=>elif H5 (s4.trans s5))⟩)⟩) (fun _=>elif H4 s4)⟩⟩) (fun H4 s4=>?_)
   ·have hne:es≠[]:=Zne z2
    have hvn:vs≠[]:=fun y=>by rw [y] at hvl;exact hne (List.length_eq_zero_iff.mp hvl.symm)
    obtain ⟨j,x,hj,hpos,hat⟩:=Zo0 hvn (c / 8)
    obtain ⟨e,he,hx⟩:=Paired.get hvs3 hj
    have hD5:=(s3.trans (s4.trans s5)).at hD2
    refine WSs.last (Zn (i:=8) Z0.nd rfl (by first | exact Or.inl rfl | exact Or.inr rfl) (Zt (r:=rIx K) Zm (pv 7) (Zk Z6 (Zk Yh (pv 1) Zd) (Zp (r:=Xb K) Xf (by rfl) T.n_len PySem.boot_len (Zb (pv 7) Za))) (fun _ _=>rfl))) ⟨_,rfl,_,rfl,_,_,rfl,rfl,⟨by decide,by decide⟩,_,rfl,.inl ⟨D,_,rfl,.inl (SqL.of hD5),_,_,rfl,rfl,hpos,.inl ⟨D,_,_,_,rfl,rfl,SqL.of hD5,hat,x,e,rfl,s4.trans s5,(s4.trans s5).at hx,?_⟩⟩⟩
    obtain ⟨p,hp,h1,h2⟩:=hes e (List.mem_of_getElem? he)
    exact fun y=>Zpi bp.net.nd hp h1 h2 y.1
   refine (fun (els:∀H5,Same H3 H5→_)=>WSs.last (Yg (PW.pt (Zbi (Zo (r:=X9 K) (Wo hr) (Zk Z6 (pv 1) Zd) Zd (Zx _)) (Zaq (Zo (r:=Zfm K) (Zgv hr) (pv 4) (Zl Za) (Zx _))))) Zy Zy) ⟨_,rfl,_,_,rfl,rfl,(by show (0:Int)<8;decide),.inl ⟨rfl,_,rfl,Yk (fun z=>⟨_,rfl,sz (by simp),fun el H5 s5 n5 e5=>.inr (.inl ⟨2,.lst (gd.map trG),.lst [],by decide,.inr ⟨_,_,rfl,rfl⟩,Im.lst (SqL.of ((s4.trans s5).at e13)) (Zkb (Paired.mapP hgs3 fun _ _ r=>(s4.trans s5).at r)),Im.lst (n:=1) (SqL.of e5) .nil,_,rfl,Yk (fun z2=>?_) (fun _=>els H5 (s4.trans s5))⟩)⟩) (fun _=>els H4 s4)⟩⟩) (fun H5 s5=>?_)
   ·have hne:gd≠[]:=Zne z2
    have hvn:gt≠[]:=fun y=>by rw [y] at hgtl;exact hne (List.length_eq_zero_iff.mp hgtl.symm)
    obtain ⟨j,x,hj,hpos,hat⟩:=Zo0 hvn (c / 8)
    obtain ⟨⟨g1,g2,g3⟩,hg,hx⟩:=Paired.get hgs3 hj
    have hx:H3 x=some (.tup [.str g1,.str g2,.str g3]):=hx
    have e15:=(s4.trans s5).at e13
    refine WSs.last (Zn (i:=8) Z0.nd rfl (by first | exact Or.inl rfl | exact Or.inr rfl) (Xy (r:=Ze8 K) Zf6 (Zt (r:=rIx K) Zm (pv 4) (Zk Z6 (Zk Yh (pv 1) Zd) (Zp (r:=Xb K) Xf (by rfl) T.n_len PySem.boot_len (Zb (pv 4) Za))) (fun _ _=>rfl)) (Wq Zd) W4)) ⟨_,rfl,_,rfl,_,_,rfl,rfl,⟨by decide,by decide⟩,_,rfl,.inl ⟨s1,_,rfl,.inl (SqL.of e15),_,_,rfl,rfl,hpos,.inl ⟨s1,_,_,_,rfl,rfl,SqL.of e15,hat,_,rfl,.inl ⟨x,_,rfl,SqT.of ((s4.trans s5).at hx),(show ¬(HT.sIx 3 0 (some 1)=0∧HT.sIx 3 3 none=3) by decide),fun a H6 s6 n6 e6=>⟨a,(g2,g3),rfl,s4.trans (s5.trans s6),e6,fun y=>y.2 (List.mem_map.mpr ⟨_,List.mem_of_getElem? hg,rfl⟩)⟩⟩⟩⟩⟩
   refine WSs.last (Yg (Zo (r:=X9 K) (Wo hr) (Zk Z6 (pv 1) Zd) Zd (Zx _)) Zy Z2) ⟨_,rfl,_,_,rfl,rfl,(by show (0:Int)<8;decide),.inl ⟨rfl,_,rfl,Yk (fun z=>?_) (fun _=>stay s5)⟩⟩
   have tne:ts≠[]:=fun y=>by rw [y] at htl;exact pne (List.length_eq_zero_iff.mp htl.symm)
   obtain ⟨j,x,hj,hpos,hat⟩:=Zo0 tne (c / 8)
   obtain ⟨⟨k,nm⟩,hp,hx⟩:=Paired.get hts1 hj
   have hx:H1 x=some (.tup [.str k,.str nm]):=hx
   have hp5:=(s13.trans s5).at hpl1
   exact WSs.last (Zn (i:=8) Z0.nd rfl (by first | exact Or.inl rfl | exact Or.inr rfl) (Zf (Zb (Zt (r:=rIx K) Zm (Zt (r:=rIx K) Zm (pv 2) (Zk Z6 (Zk Yh (pv 1) Zd) (Zp (r:=Xb K) Xf (by rfl) T.n_len PySem.boot_len (Zb (pv 2) Za))) (fun _ _=>rfl)) Zd (fun _ _=>rfl)) (Zb Ze Za)))) ⟨_,rfl,_,rfl,_,_,rfl,rfl,⟨by decide,by decide⟩,_,rfl,.inl ⟨pl,_,rfl,.inl (SqL.of hp5),_,_,rfl,rfl,hpos,.inl ⟨pl,_,_,_,rfl,rfl,SqL.of hp5,hat,.inr (.inl ⟨x,_,1,_,rfl,rfl,SqT.of ((s13.trans s5).at hx),Zr (j:=1) rfl,sz (by simp),fun a H6 s6 n6 e6=>⟨a,(nm, "e"),rfl,s5.trans s6,e6,fun y=>Zxc bp.net.kind y.1⟩⟩)⟩⟩⟩
  rintro σ H4 ⟨a,e,rfl,s4,ha,bad⟩
  refine WSs.step (Zn (i:=6) Z0.nd rfl (by first | exact Or.inl rfl | exact Or.inr rfl) Ze) ?_
  have s14:=s13.trans s4
  have e14:=s14.at e1
  have hgs4:Paired (X5 H4) gt gd:=Paired.mapP hgs1 fun _ _ r=>s14.at r
  refine WSs.cut (fun σ' H'=>∃nm:Str,σ'=[some (.ref t),some (.int c),some (.ref pl),some (.ref jl),some (.ref s1),none,some (.str nm),some (.ref D),some (.ref a)]∧Same H4 H'∧Zud gd nm) ?_ ?_
  ·have stay:∀{H5:Hp},Same H4 H5→∃nm:Str,[some (V.ref t),some (.int c),some (.ref pl),some (.ref jl),some (.ref s1),none,some (.str "wrong"),some (.ref D),some (.ref a)]=[some (V.ref t),some (.int c),some (.ref pl),some (.ref jl),some (.ref s1),none,some (.str nm),some (.ref D),some (.ref a)]∧Same H4 H5∧Zud gd nm:=fun {H5} s5=>⟨"wrong",rfl,s5,Zbd.1,.inl rfl⟩
   refine WS.of (Yg (Zo (r:=X9 K) (Wo hr) (Zk Z6 (pv 1) Zd) Zd (Zx _)) Zy Zy) ⟨_,rfl,_,_,rfl,rfl,(by show (0:Int)<8;decide),.inl ⟨rfl,_,rfl,Yk (fun z=>?_) (fun _=>?_)⟩⟩
   ·obtain ⟨j,hj,hj5⟩:=Zbq (a:=c / 8) (n:=5) (by decide)
    obtain ⟨on,hon⟩:∃on,Zu3[j]? =some on:=⟨_,List.getElem?_eq_getElem (by show j<5;exact hj5)⟩
    have ok:=Zts on (List.mem_of_getElem? hon)
    refine WSs.last (Zn (i:=6) Z0.nd rfl (by first | exact Or.inl rfl | exact Or.inr rfl) (Zt (r:=rIx K) Zm (Zl (Zb Ze (Zb Ze (Zb Ze (Zb Ze (Zb Ze Za)))))) (Zk Z6 (Zk Yh (pv 1) Zd) Zd) (fun _ _=>rfl))) ⟨sz (by simp),fun ol H5 s5 n5 e5=>⟨_,rfl,_,_,rfl,rfl,⟨by decide,by decide⟩,_,_,rfl,rfl,(by show (0:Int)<5;decide),.inl ⟨ol,_,_,.str on,rfl,rfl,SqL.of e5,?_,on,rfl,s5,ok.1,.inr ⟨ok.2.2,fun y=>by have:=y.1;rw [ok.2.1] at this;cases this⟩⟩⟩⟩
    rw [show c / 8%5=(j:Int) from hj]
    exact Zr (xs:=Zu3.map V.str) (by rw [List.getElem?_map,hon];rfl)
   ·refine WSs.last (Yg (PW.pt (Zbi (Zo (r:=X9 K) (Wo hr) (Zk Z6 (pv 1) Zd) Zd (Zx _)) (Zaq (Zo (r:=Zfm K) (Zgv hr) (pv 4) (Zl Za) (Zx _))))) Zy Z2) ⟨_,rfl,_,_,rfl,rfl,(by show (0:Int)<8;decide),.inl ⟨rfl,_,rfl,Yk (fun z=>⟨_,rfl,sz (by simp),fun el H5 s5 n5 e5=>.inr (.inl ⟨2,.lst (gd.map trG),.lst [],by decide,.inr ⟨_,_,rfl,rfl⟩,Im.lst (SqL.of (s5.at e14)) (Zkb (Paired.mapP hgs4 fun _ _ r=>s5.at r)),Im.lst (n:=1) (SqL.of e5) .nil,_,rfl,Yk (fun z2=>?_) (fun _=>stay s5)⟩)⟩) (fun _=>stay (Same.refl _))⟩⟩
    have hne:gd≠[]:=Zne z2
    have hvn:gt≠[]:=fun y=>by rw [y] at hgtl;exact hne (List.length_eq_zero_iff.mp hgtl.symm)
    obtain ⟨j,x,hj,hpos,hat⟩:=Zo0 hvn (c / 8)
    obtain ⟨⟨g1,g2,g3⟩,hg,hx⟩:=Paired.get hgs4 hj
    have hx:H4 x=some (.tup [.str g1,.str g2,.str g3]):=hx
    have e15:=s5.at e14
    have hin:g1∈gd.map Prod.fst:=List.mem_map.mpr ⟨_,List.mem_of_getElem? hg,rfl⟩
    exact WSs.last (Zn (i:=6) Z0.nd rfl (by first | exact Or.inl rfl | exact Or.inr rfl) (Zt (r:=rIx K) Zm (Zt (r:=rIx K) Zm (pv 4) (Zk Z6 (Zk Yh (pv 1) Zd) (Zp (r:=Xb K) Xf (by rfl) T.n_len PySem.boot_len (Zb (pv 4) Za))) (fun _ _=>rfl)) Zd (fun _ _=>rfl))) ⟨_,rfl,_,rfl,_,_,rfl,rfl,⟨by decide,by decide⟩,_,rfl,.inl ⟨s1,_,rfl,.inl (SqL.of e15),_,_,rfl,rfl,hpos,.inl ⟨s1,_,_,_,rfl,rfl,SqL.of e15,hat,.inr (.inl ⟨x,_,0,_,rfl,rfl,SqT.of (s5.at hx),Zr (j:=0) rfl,g1,rfl,s5,gasc _ (List.mem_of_getElem? hg),.inr ⟨fun y=>wnew (y ▸ hin),fun y=>y.2 hin⟩⟩)⟩⟩⟩
  rintro σ H5 ⟨nm,rfl,s5,nasc,bnm⟩
  have s15:=s14.trans s5
  have ha5:H5 a=some (.tup [.str e.1,.str e.2]):=ha.mono s5
  obtain ⟨k,hk,flt⟩:∃k:Nat,(k=if nm = "wrong" then 2 else 1)∧Zgc ps gd (nm,e) k:=by
   rcases bnm with rfl|⟨h1,h2⟩
   ·exact ⟨2,rfl,.inr ⟨rfl,⟨Zbd.2.1,wnew⟩,bad⟩⟩
   ·exact ⟨1,by rw [if_neg h1],.inl ⟨rfl,h2⟩⟩
  refine WSs.last (Z8 (Zf (Zb (Zf (Zb (pv 2) (Zb (pv 3) (Zb (Zk Y3 (pv 4) (Zl (Zb (Zf (Zb (pv 6) (Zb (Zt (r:=rIx K) Zm (pv 8) Zd (fun _ _=>rfl)) (Zb (Zt (r:=rIx K) Zm (pv 8) Zd (fun _ _=>rfl)) Za)))) Za))) Za)))) (Zb (Zt (r:=rIx K) Zm (Zl (Zb (Zl (Zb Zd Za)) (Zb (Zl (Zb Zd Za)) Za))) (Y4 Zpm (by rfl) T.n_int PyProof.Rows.boot_int (Zb (Zb9 (r:=Zfm K) (Zgv hr) (pv 6) Ze (Zx _)) Za)) (fun _ _=>rfl)) Za)))) ⟨_,rfl,_,rfl,_,rfl,_,rfl,_,rfl,.inr (.inl ⟨a,_,0,_,rfl,rfl,SqT.of ha5,Zr (j:=0) rfl,_,rfl,.inr (.inl ⟨a,_,1,_,rfl,rfl,SqT.of ha5,Zr (j:=1) rfl,sz (by simp),fun ng H6 s6 n6 e6=>⟨sz (by simp),fun nl H7 s7 n7 e7=>.inr (.inr ⟨s1,nl,_,_,rfl,rfl,(s15.trans (s6.trans s7)).at e1,e7,sz (by rw [List.length_map];show gt.length+1≤1000;omega),fun s2' H8 s8 n8 e8=>⟨sz (by simp),fun y H9 s9 n9 e9=>⟨sz (by simp),fun k2 H10 s10 n10 e10=>⟨sz (by simp),fun k1 H11 s11 n11 e11=>⟨sz (by simp),fun kl H12 s12 n12 e12=>⟨_,rfl,.inl ⟨rfl,.inr ⟨_,rfl,.inl ⟨kl,_,_,.ref (if nm = "wrong" then k2 else k1),rfl,rfl,SqL.of e12,?_,sz (by simp),fun r H13 s13' n13 e13'=>?_⟩⟩⟩⟩⟩⟩⟩⟩⟩)⟩⟩)⟩)⟩
  ·by_cases hw:nm = "wrong"
   ·rw [hw,if_pos rfl]
    rfl
   ·rw [if_neg hw,decide_eq_false (show ¬V.str nm=V.str "wrong" from fun y=>hw (V.str.inj y))]
    rfl
  have s68:=s6.trans (s7.trans s8)
  have s813:=s9.trans (s10.trans (s11.trans (s12.trans s13')))
  have s113:=s15.trans (s68.trans s813)
  have e8:H8 s2'=some (.lst ((gt++[ng]).map V.ref)):=by rw [List.map_append];exact e8
  have hlen:(gd++[((nm,e):G3)]).length≤40:=by rw [List.length_append];show gd.length+1≤40;omega
  refine q r y (if nm = "wrong" then k2 else k1) H13 (gd++[(nm,e)]) k (z1.trans s113) e13' ⟨pl,jl,s2',(s10.trans (s11.trans (s12.trans s13'))).at e9,⟨ts,s113.at hpl1,Paired.mapP hts1 fun _ _ r=>r.mono s113⟩,hJ1.mono s113,⟨gt++[ng],s813.at e8,Paired.snoc (Paired.mapP hgs1 fun _ _ r=>s113.at r) ((s7.trans (s8.trans s813)).at e6)⟩⟩ ?_ (Zgc.rf bp good hlen flt) (fun g hg=>?_) hlen
  ·rw [hk]
   split
   ·exact (s11.trans (s12.trans s13')).at e10
   ·exact (s12.trans s13').at e11
  ·rcases List.mem_append.mp hg with h|h
   ·exact gasc g h
   ·rw [List.mem_singleton.mp h];exact nasc
theorem Zd7(T:Tx K mg){k:Nat}(h:2≤k:=by decide):Yf P w K mg base CX0 k T.d__law_wrong_signal.f T.d__law_wrong_signal.fd ["_law_yard", "_law_cell"] Zwr:=(Zdn T).mono h
def Zkq(K:Frag):R2:=fun x y H Q=>∃(p:Addr) (n:Nat) (t:Tr) (ts:List Tr) (as:List Addr),y=.ref p∧SqT K H p (as.map V.ref)∧n≤60∧Im K H n t x∧Paired (Im K H n) ts (as.map V.ref)∧∀b,Q (.bl b) H
theorem Zjs{X:Cx}(hu:X.A.units+64<cLine):OpR X (compareOp .NotIn) (Zkq X.K):=by
 intro pins s σ H x y v u Q I rx ry h
 obtain ⟨p,n,t,ts,as,rfl,hq,hn,hx,hp,q⟩:=h
 cases ry
 obtain ⟨its,r,pl,hz⟩:=I.tuple hq
 exact PySem.SeqAt.notIn_tupleAt (Zhr X.K H n t) (show s.heap.IsTuple p its.toArray from pl) (fun w hw=>Zfl I (by rw [Wd];omega) hx rx hp r w (by simpa using hw)) ⟨.bl _,H,I,rfl,q _⟩
theorem _root_.YM.Net.j80{ps:List Zc}{js:List (Zc×Zc)}(h:Net ps js [])(l:ps.length≤40):js.length≤80:=by
 have h1:=h.flat.length_eq
 have h2:=Zg8 ps
 rw [←Zav,List.length_map,Zhu] at h1
 omega
theorem Zu1{es:List Zc}{js:List (Zc×Zc)}{e:Zc}(h:¬(Yr js).Nodup):¬Zbm es js:=fun g=>h g.2.1
theorem apJ{es:List Zc}{js:List (Zc×Zc)}{j:Zc×Zc}(hj:j∈js)(h:j.1.1=j.2.1):¬Zbm es js:=fun g=>g.2.2.1 j hj h
theorem Zkh{α:Type}{l r:List α}{a:α}(h:a∈l)(h':a∈r):¬(l++r).Nodup:=fun z=>(List.nodup_append.mp z).2.2 a h a h' rfl
theorem Zbz{js:List (Zc×Zc)}{j:Zc×Zc}(h:j∈js):j.1∈Yr js∧j.2∈Yr js:=⟨List.mem_flatMap.mpr ⟨j,h,by simp⟩,List.mem_flatMap.mpr ⟨j,h,by simp⟩⟩
def Zhp(H:Hp)(t:Addr)(p:Zc):Prop:=∃le,H t=some (.tup [.str p.2,.ref le])∧H le=some (.lst ((Yc p.1).map V.str))
def trW(p:Zc):Tr:=.tup [.str p.2,.lst ((Yc p.1).map Tr.str)]
theorem Zso{H:Hp}{ts:List Addr}{ps:List Zc}(h:Paired (Zhp H) ts ps):Paired (Im K H 2) (ps.map trW) (ts.map V.ref):=by
 induction h with
 | nil=>exact .nil
 | cons r _ ih =>
  obtain ⟨le,h1,h2⟩:=r
  exact .cons (Im.tup (n:=1) (SqT.of h1) (.cons (.str _) (.cons (Im.lst (n:=0) (SqL.of h2) (Paired.strs _)) .nil))) ih
theorem Zhp.mono{H H':Hp}{t:Addr}{p:Zc}(e:Same H H')(h:Zhp H t p):Zhp H' t p:=let ⟨le,h1,h2⟩:=h;⟨le,e.at h1,e.at h2⟩
theorem Zqs{k:Str}(h:1<(Yc k).length):∃x y r,Yc k=x ::y ::r:=by
 match e:Yc k with
 | []=>rw [e] at h;exact absurd h (by decide)
 | [_]=>rw [e] at h;simp at h
 | x ::y ::r=>exact ⟨x,y,r,rfl⟩
def Zl8:Sp:=fun vs H Q _=>∃(pl jl:Addr) (c:Int) (ps:List Zc) (js:List (Zc×Zc)),vs=[.ref pl,.ref jl,.int c]∧Zs H pl ps∧Z1 H jl js∧Net ps js []∧ps.length≤40∧js≠[] ∧
 ∀(l:Addr) (H':Hp) (js':List (Zc×Zc)),Same H H'→Z1 H' l js'→¬Zbm (Ye ps) js'→js'.length≤200→Q (.ref l) H'
theorem Zh7(T:Tx K mg):Yf P w K mg base CX0 2 T.d__law_within.f T.d__law_within.fd ["_law_parts", "_law_joins", "_law_cell"] Zl8:=by
 refine T.d__law_within.F.okW Yw (fun vs H Q E h=>?_) (fun cdv A outer s H vs Q E hr h=>?_)
 ·obtain ⟨pl,jl,c,ps,js,rfl,_⟩:=h
  rfl
 ·obtain ⟨pl,jl,c,ps,js,rfl,⟨ts,hpl,hts⟩,⟨us,hjl,hus⟩,net,plen,jne,q⟩:=h
  have j80:=net.j80 plen
  have htl:=Paired.length hts
  have hul:=Paired.length hus
  refine WSs.step (Xq (i:=4) (N':=["_law_kind", "_law_name"]) Yw.nd rfl (Or.inl rfl) rfl (Z9.std 2 [] rfl (by decide +kernel) (by decide +kernel) rfl trivial rfl rfl trivial) (Yx (pv 0)) (fun _ _ _ _=>(Zcx (K:=K) (n:=2) rfl rfl (Zw (Zq (i:=0) (by show (["_law_kind", "_law_name"]:List Str).Nodup;decide +kernel) rfl (Or.inl (lookup_relabel_local rfl)) (Or.inr (lookup_relabel_local rfl))) (Zw (Zq (i:=1) (by show (["_law_kind", "_law_name"]:List Str).Nodup;decide +kernel) rfl (Or.inl (lookup_relabel_local rfl)) (Or.inr (lookup_relabel_local rfl))) Y8)))) (fun _ _ _ _=>(Zdx (Zo Zgf (Zp (r:=Xb K) Xf (by rfl) T.n_len PySem.boot_len (Zb (Z5 (Za9 T) hr rfl T.m__law_ends T.d__law_ends.F.kp T.d__law_ends.b .nil Yn (Zb (pv 0) Za)) Za)) Zd (Zx _)))) (fun _ _ _ _=>(Zf (Zb (pv 1) (Zb (Z5 (Za9 T) hr rfl T.m__law_ends T.d__law_ends.F.kp T.d__law_ends.b .nil Yn (Zb (pv 0) Za)) Za))))) ⟨_,rfl,pl,rfl,⟨_,SqL.of hpl⟩,fun D hD=>Xv (K:=K) (xs:=ts.map V.ref) (fun i ys H'=>(∃(vs:List Addr) (qs:List Zc),ys=vs.map V.ref∧Paired (Zhp H') vs qs∧(∀p∈qs,p∈ps∧1<(Yc p.1).length)∧qs.length≤i)∧H' D=some (.lst ys)∧Same H H') ⟨⟨[],[],rfl,.nil,fun _ z=>(nomatch z),Nat.le_refl _⟩,Zj,Same.new hD⟩ ?_ ?_ ?_⟩
  ·rintro i ys H' _ ⟨_,_,sm⟩
   exact SqL.of (sm.at hpl)
  ·rintro i v ys H2 hi ⟨⟨vs,qs,rfl,hvs,hqs,hel⟩,hD2,s2⟩
   have hil:=(List.getElem?_eq_some_iff.mp hi).1
   rw [List.length_map] at hil
   rw [List.getElem?_map] at hi
   obtain ⟨u,hu,rfl⟩:=Option.map_eq_some_iff.mp hi
   obtain ⟨⟨k,nm⟩,hp,hpu⟩:=Paired.get hts hu
   have hpu:H u=some (.tup [.str k,.str nm]):=hpu
   have hvl:=Paired.length hvs
   refine ⟨u,_,rfl,SqT.of (s2.at hpu),rfl,_,_,rfl,_,_,rfl,rfl,(Wr.set rfl).trans (Wr.set rfl),_,rfl,k,rfl,fun le H3 s3 n3 e3=>.inl ⟨le,_,rfl,.inl (SqL.of e3),_,_,rfl,rfl,_,rfl,Yk (fun z=>?_) (fun _=>⟨⟨vs,qs,rfl,Paired.mapP hvs fun _ _ r=>r.mono s3,hqs,by omega⟩,s3.at hD2,s2.trans s3⟩)⟩⟩
   have z:(1:Int)<((((Yc k).map V.str).length:Nat):Int):=of_decide_eq_true z
   rw [List.length_map] at z
   refine ⟨_,rfl,_,rfl,k,rfl,fun le2 H4 s4 n4 e4=>⟨sz (by simp),fun t1 H5 s5 n5 e5=>⟨(s3.trans (s4.trans s5)).at hD2,by rw [List.length_map];exact Z4 (by omega),⟨vs++[t1],qs++[(k,nm)],by rw [List.map_append];rfl,?_,?_,?_⟩,Zj,fun b o y=>?_⟩⟩⟩
   ·have hD5:=(s3.trans (s4.trans s5)).at hD2
    have hle:le2≠D:=(Zh ((s3.at hD2)) n4).symm
    have off:∀{c:Addr} {xs:List V} {o:HO},H5 c=some (.tup xs)→upd H5 D o c=some (.tup xs):=fun {c xs o} z=>(Zi fun y=>by rw [y,hD5] at z;cases z).trans z
    refine Paired.snoc (Paired.mapP hvs fun a p ⟨le',r1,r2⟩=>?_) ⟨le2,off e5,(Zi hle).trans (s5.at e4)⟩
    refine ⟨le',off ((s3.trans (s4.trans s5)).at r1),(Zi fun y=>?_).trans ((s3.trans (s4.trans s5)).at r2)⟩
    have:=(s3.trans (s4.trans s5)).at r2
    rw [y,hD5] at this
    obtain ⟨x,rr,hx⟩:=Zfr p.1
    rw [hx] at this
    cases vs <;>cases this
   ·intro e he
    rcases List.mem_append.mp he with y|y
    ·exact hqs e y
    ·rw [List.mem_singleton.mp y]
     exact ⟨List.mem_of_getElem? hp,by show 1<(Yc k).length;omega⟩
   ·rw [List.length_append];show qs.length+1≤i+1;omega
   ·rw [Zi (Zh y hD)];exact (s3.trans (s4.trans s5)).at (s2.at y)
  rintro ys H2 ⟨⟨vs,qs,rfl,hvs,hqs,hel⟩,hD2,s2⟩
  have hvl:=Paired.length hvs
  have hjl2:=s2.at hjl
  have hus2:Paired (Y2 H2) us js:=Paired.mapP hus fun _ _ r=>r.mono s2
  obtain ⟨j0,jr,hj0⟩:∃j0 jr,js=j0 ::jr:=by
   cases js with
   | nil=>exact absurd rfl jne
   | cons a l=>exact ⟨a,l,rfl⟩
  have m0:j0∈js:=by rw [hj0];exact List.mem_cons_self
  refine WSs.cut (fun σ' H'=>σ'=[some (.ref pl),some (.ref jl),some (.int c),none,some (.ref D),none,none,none,none,none,none]∧Same H2 H'∧qs≠[]) ?_ ?_
  ·refine WS.of (Yg (Zo (r:=X9 K) (Wo hr) (pv 4) (Zl Za) (Zx _)) Zy Z2) ⟨_,rfl,sz (by simp),fun el H3 s3 n3 e3=>.inr (.inl ⟨3,.lst (qs.map trW),.lst [],by decide,.inr ⟨_,_,rfl,rfl⟩,Im.lst (SqL.of (s3.at hD2)) (Zso (Paired.mapP hvs fun _ _ r=>r.mono s3)),Im.lst (n:=2) (SqL.of e3) .nil,_,rfl,Yk (fun z=>?_) (fun z=>⟨rfl,s3,fun y=>z (by rw [y,if_neg Bool.false_ne_true];exact decide_eq_true rfl)⟩)⟩)⟩
   obtain ⟨u0,hu0,hj⟩:∃u0,us[0]? =some u0∧Y2 H2 u0 j0:=by
    cases us with
    | nil=>rw [hj0] at hul;cases hul
    | cons u r =>
     refine ⟨u,rfl,?_⟩
     rw [hj0] at hus2
     cases hus2 with
     | cons r _=>exact r
   refine WSs.last (Z8 (Zk Y3 (pv 1) (Zl (Zb (Zt (r:=rIx K) Zm (pv 1) Zd (fun _ _=>rfl)) Za)))) ⟨_,rfl,_,rfl,.inl ⟨jl,_,0,.ref u0,rfl,rfl,SqL.of (s3.at hjl2),Zr (j:=0) (by rw [List.getElem?_map,hu0];rfl),sz (by simp),fun nl H4 s4 n4 e4=>.inr (.inr ⟨jl,nl,_,_,rfl,rfl,s4.at (s3.at hjl2),e4,sz (by rw [List.length_map];show us.length+1≤1000;omega),fun l H5 s5 n5 e5=>?_⟩)⟩⟩
   have s25:=s3.trans (s4.trans s5)
   refine q l H5 (js++[j0]) (s2.trans s25) (Z1.app (us:=[u0]) (Paired.mapP hus2 fun _ _ r=>r.mono s25) (.cons (hj.mono s25) .nil) e5) (Zu1 (e:=j0.1) ?_) (by rw [List.length_append];show js.length+1≤200;omega)
   rw [Wf]
   exact Zkh (Zbz m0).1 (Zbz (js:=[j0]) List.mem_cons_self).1
  rintro σ H3 ⟨rfl,s3,qne⟩
  have vne:vs≠[]:=fun y=>by rw [y] at hvl;exact qne (List.length_eq_zero_iff.mp hvl.symm)
  obtain ⟨j,x,hj,hpos,hat⟩:=Zo0 vne c
  obtain ⟨p,hp,le,hx,hle⟩:=Paired.get hvs hj
  obtain ⟨hpm,h1p⟩:=hqs p (List.mem_of_getElem? hp)
  obtain ⟨x1,x2,xr,hends⟩:=Zqs h1p
  have hD3:=s3.at hD2
  refine WSs.step (Zej (Zt (r:=rIx K) Zm (pv 4) (Zk Z6 (pv 2) (Zp (r:=Xb K) Xf (by rfl) T.n_len PySem.boot_len (Zb (pv 4) Za))) (fun _ _=>rfl)) (Zax rfl (Zw (Zq (i:=3) Yw.nd rfl (by first | exact Or.inl rfl | exact Or.inr rfl)) (Zw (Zq (i:=5) Yw.nd rfl (by first | exact Or.inl rfl | exact Or.inr rfl)) Y8)))) ⟨_,rfl,_,rfl,_,rfl,.inl ⟨D,_,rfl,.inl (SqL.of hD3),_,_,rfl,rfl,hpos,.inl ⟨D,_,_,_,rfl,rfl,SqL.of hD3,hat,x,_,rfl,SqT.of (s3.at hx),rfl,_,_,rfl,_,_,rfl,rfl,?_⟩⟩⟩
  have hle3:=s3.at hle
  rw [hends] at hle3
  refine WSs.step (Zn (i:=6) Yw.nd rfl (by first | exact Or.inl rfl | exact Or.inr rfl) (Zf (Zb (pv 3) (Zb (Zt (r:=rIx K) Zm (pv 5) Zd (fun _ _=>rfl)) Za)))) ⟨_,rfl,_,rfl,.inl ⟨le,_,0,_,rfl,rfl,SqL.of hle3,Zr (j:=0) rfl,sz (by simp),fun o1 H4 s4 n4 e4=>?_⟩⟩
  refine WSs.step (Zn (i:=7) Yw.nd rfl (by first | exact Or.inl rfl | exact Or.inr rfl) (Zf (Zb (pv 3) (Zb (Zt (r:=rIx K) Zm (pv 5) Zd (fun _ _=>rfl)) Za)))) ⟨_,rfl,_,rfl,.inl ⟨le,_,1,_,rfl,rfl,SqL.of (s4.at hle3),Zr (j:=1) rfl,sz (by simp),fun o2 H5 s5 n5 e5=>?_⟩⟩
  refine WSs.step (Zn (i:=8) Yw.nd rfl (by first | exact Or.inl rfl | exact Or.inr rfl) Zf4) fun b H6 s6 n6 e6=>?_
  have s26:=s3.trans (s4.trans (s5.trans s6))
  have s06:=s2.trans s26
  have O1:Zu H6 o1 (p.2,x1):=s6.at (s5.at e4)
  have O2:Zu H6 o2 (p.2,x2):=s6.at e5
  have hjl6:=s06.at hjl
  have hus6:Paired (Y2 H6) us js:=Paired.mapP hus fun _ _ r=>r.mono s06
  have fnd:(Yr js).Nodup:=net.flat.nodup_iff.mpr (Za1 net.nd)
  have n5b:H5 b=none:=n6
  refine WSs.step (Zae PassesOwn.never rfl (Yx (pv 1)) (Zq (i:=9) Yw.nd rfl (by first | exact Or.inl rfl | exact Or.inr rfl)) Zy) ⟨_,rfl,jl,rfl,⟨_,SqL.of hjl6⟩,Zba (K:=K) (xs:=us.map V.ref) (fun i σ H'=>(∃o9,σ=[some (.ref pl),some (.ref jl),some (.int c),some (.str p.2),some (.ref D),some (.ref le),some (.ref o1),some (.ref o2),some (.ref b),o9,none])∧Same H5 H'∧∃kj,H' b=some (.dT kj)∧DP Yp (RJ H5) kj (qJ (js.take i))) ⟨⟨none,rfl⟩,s6,[],e6,.nil⟩ ?_ ?_ ?_⟩
  ·rintro i σ H' _ ⟨_,s7,_⟩
   exact SqL.of ((s2.trans (s3.trans (s4.trans (s5.trans s7)))).at hjl)
  ·rintro i v σ H7 hi ⟨⟨o9,rfl⟩,s7,kj,hb,hDj⟩
   rw [List.getElem?_map] at hi
   obtain ⟨u,hui,rfl⟩:=Option.map_eq_some_iff.mp hi
   obtain ⟨jn,hjn,a1,a2,hu,ha1,ha2⟩:=Paired.get hus hui
   have s05:=s2.trans (s3.trans (s4.trans s5))
   have hil:=(List.getElem?_eq_some_iff.mp hjn).1
   have hlen:kj.length≤600:=by
    have h1:=hDj.len
    rw [Zhu,List.length_take] at h1
    omega
   have hnd:(Yr (js.take i)++[jn.1]++[jn.2]).Nodup:=by
    have h1:=fnd.sublist (Zjg (i+1))
    rw [Zep hjn] at h1
    exact h1
   obtain ⟨hnd1,nd2⟩:=Yz.mp hnd
   obtain ⟨_,nd1⟩:=Yz.mp hnd1
   have v1:Y1 kj (Yp jn.1)=none:=hDj.none Zab (by rw [Zav];exact nd1)
   have hD1:DP Yp (RJ H5) (Zb6 kj (Yp jn.1) (.ref a2)) (qJ (js.take i)++[(jn.1,jn.2)]):=hDj.put v1 ⟨a2,rfl,ha2.mono s05⟩
   have hl1:=Zb8 kj (Yp jn.1) (.ref a2)
   have v3:Y1 (Zb6 kj (Yp jn.1) (.ref a2)) (Yp jn.2)=none:=hD1.none Zab (by rw [List.map_append,Zav];exact nd2)
   have s07:=s05.trans s7
   refine WSs.step (Zcy (Zdb hr) (pv 8) (Zt (r:=rIx K) Zm (pv 9) Zd (fun _ _=>rfl)) (Zt (r:=rIx K) Zm (pv 9) Zd (fun _ _=>rfl)) rfl) ⟨_,rfl,.inr (.inl ⟨u,_,1,_,rfl,rfl,SqT.of (s07.at hu),Zr (j:=1) rfl,_,rfl,_,rfl,.inr (.inl ⟨u,_,0,_,rfl,rfl,SqT.of (s07.at hu),Zr (j:=0) rfl,b,_,rfl,Zfv.t (k:=Yp jn.1) hb (Zg2 (ha1.mono s07)) (Z4 (by omega)),?_⟩)⟩)⟩
   have s8:Same H5 (upd H7 b (.dT (Zb6 kj (Yp jn.1) (.ref a2)))):=s7.upd0 n5b
   have s08:=s05.trans s8
   refine WSs.last (Zcy (Zdb hr) (pv 8) (Zt (r:=rIx K) Zm (pv 9) Zd (fun _ _=>rfl)) (Zt (r:=rIx K) Zm (pv 9) Zd (fun _ _=>rfl)) rfl) ⟨_,rfl,.inr (.inl ⟨u,_,0,_,rfl,rfl,SqT.of (s08.at hu),Zr (j:=0) rfl,_,rfl,_,rfl,.inr (.inl ⟨u,_,1,_,rfl,rfl,SqT.of (s08.at hu),Zr (j:=1) rfl,b,_,rfl,Zfv.t (k:=Yp jn.2) Zj (Zg2 (ha2.mono s08)) (Z4 (by omega)),⟨_,rfl⟩,s8.upd0 n5b,_,Zj,?_⟩)⟩)⟩
   rw [Zj9 hjn]
   exact hD1.put v3 ⟨a1,rfl,ha1.mono s05⟩
  rintro σ H7 ⟨⟨o9,rfl⟩,s7,kj,hb,hDj⟩
  rw [List.length_map,hul,List.take_length] at hDj
  have s05:=s2.trans (s3.trans (s4.trans s5))
  have s07:=s05.trans s7
  have hjl7:=s07.at hjl
  have hus7:Paired (Y2 H7) us js:=Paired.mapP hus fun _ _ r=>r.mono s07
  have O17:Zu H7 o1 (p.2,x1):=s7.at (s5.at e4)
  have O27:Zu H7 o2 (p.2,x2):=s7.at e5
  have imP:∀{G:Hp} {a:Addr} {e:Zc},Zu G a e→Im K G 1 (trP e) (.ref a):=fun {G a e} h=>Im.tup (n:=0) (SqT.of h) (.cons (.str _) (.cons (.str _) .nil))
  refine WSs.step (Xq (i:=10) (N':=["_law_join", "_law_one", "_law_other"]) Yw.nd rfl (Or.inl rfl) rfl (Z9.std 1 [6,7] rfl (by decide +kernel) (by decide +kernel) rfl ⟨rfl,rfl,trivial⟩ rfl rfl ⟨⟨_,rfl,rfl,rfl⟩,⟨_,rfl,rfl,rfl⟩,trivial⟩) (Yx (pv 1)) (fun _ _ _ _=>(Zq (i:=0) (by show (["_law_join", "_law_one", "_law_other"]:List Str).Nodup;decide +kernel) rfl (Or.inl (lookup_relabel_local rfl)) (Or.inr (lookup_relabel_local rfl)))) (fun _ _ _ _=>(Zdx (PW.pt (Zbi (Zo (r:=Zkq K) (Zjs hr.units) (pv 1) (pv 0) (by with_unfolding_all rfl)) (Zaq (Zo (r:=Zkq K) (Zjs hr.units) (pv 2) (pv 0) (by with_unfolding_all rfl))))))) (fun _ _ _ _=>(pv 0))) ⟨_,rfl,jl,rfl,⟨_,SqL.of hjl7⟩,fun D2 hD2'=>Xv (K:=K) (xs:=us.map V.ref) (fun i ys H'=>(∃(vs:List Addr) (ks:List (Zc×Zc)),ys=vs.map V.ref∧Paired (Y2 H7) vs ks∧ks.length≤i)∧H' D2=some (.lst ys)∧Same H7 H') ⟨⟨[],[],rfl,.nil,Nat.le_refl _⟩,Zj,Same.new hD2'⟩ ?_ ?_ ?_⟩
  ·rintro i ys H' _ ⟨_,_,sm⟩
   exact SqL.of (sm.at hjl7)
  ·rintro i v ys H8 hi ⟨⟨ws,ks,rfl,hws,hkl⟩,hD8,s8⟩
   have hil:=(List.getElem?_eq_some_iff.mp hi).1
   rw [List.length_map] at hil
   rw [List.getElem?_map] at hi
   obtain ⟨u,hui,rfl⟩:=Option.map_eq_some_iff.mp hi
   obtain ⟨jn,hjn,a1,a2,hu,ha1,ha2⟩:=Paired.get hus7 hui
   have hwl:=Paired.length hws
   have two:Paired (Im K H8 1) [trP jn.1,trP jn.2] ([a1,a2].map V.ref):=.cons (imP (s8.at ha1)) (.cons (imP (s8.at ha2)) .nil)
   refine ⟨Wr.set rfl,_,rfl,_,rfl,u,1,trP (p.2,x1),_,[a1,a2],rfl,SqT.of (s8.at hu),by decide,imP (s8.at O17),two,fun b1=>⟨_,rfl,Yk (fun _=>⟨_,rfl,_,rfl,u,1,trP (p.2,x2),_,[a1,a2],rfl,SqT.of (s8.at hu),by decide,imP (s8.at O27),two,fun b2=>⟨_,rfl,?_⟩⟩) (fun _=>⟨⟨ws,ks,rfl,hws,by omega⟩,hD8,s8⟩)⟩⟩
   refine Yk (fun _=>⟨_,rfl,hD8,by rw [List.length_map];exact Z4 (by omega),⟨ws++[u],ks++[jn],by rw [List.map_append];rfl,Paired.snoc hws ⟨a1,a2,hu,ha1,ha2⟩,by rw [List.length_append];show ks.length+1≤i+1;omega⟩,Zj,fun b o y=>by rw [Zi (Zh y hD2')];exact s8.at y⟩) (fun _=>⟨⟨ws,ks,rfl,hws,by omega⟩,hD8,s8⟩)
  rintro ys H8 ⟨⟨ws,ks,rfl,hws,hkl⟩,hD8,s8⟩
  rw [List.length_map,hul] at hkl
  have hwl:=Paired.length hws
  have hmem:∀{y:Str},y∈Yc p.1→∃e' a',((p.2,y),e')∈qJ js∧Y1 kj (Yp (p.2,y))=some (.ref a')∧Zu H5 a' e':=fun {y} hy=>by
   have h1:((p.2,y):Zc)∈Yr js:=net.flat.mem_iff.mpr (List.mem_flatMap.mpr ⟨p,hpm,List.mem_map.mpr ⟨y,hy,rfl⟩⟩)
   rw [←Zav] at h1
   obtain ⟨⟨e0,e'⟩,hq,he0⟩:=List.mem_map.mp h1
   have he0:e0=(p.2,y):=he0
   obtain ⟨v,hv,a',rfl,ha'⟩:=hDj.get Zab (by rw [Zav];exact fnd) hq
   rw [he0] at hq hv
   exact ⟨e',a',hq,hv,ha'⟩
  obtain ⟨e1',a1',_,hv1,ha1'⟩:=hmem (y:=x1) (by rw [hends];exact List.mem_cons_self)
  obtain ⟨e2',a2',_,hv2,ha2'⟩:=hmem (y:=x2) (by rw [hends];exact List.mem_cons_of_mem _ List.mem_cons_self)
  have O18:=O17.mono s8
  have O28:=O27.mono s8
  have hb8:=s8.at hb
  refine WSs.last (Z8 (Zk Y3 (pv 10) (Zl (Zb (Zf (Zb (pv 6) (Zb (pv 7) Za))) (Zb (Zf (Zb (Zke (Zdb hr) (pv 8) (pv 6) (fun _ _=>rfl)) (Zb (Zke (Zdb hr) (pv 8) (pv 7) (fun _ _=>rfl)) Za))) Za))))) ⟨_,rfl,_,rfl,_,rfl,sz (by simp),fun k1 H9 s9 n9 e9=>⟨_,rfl,_,rfl,b,_,rfl,by rw [←hv1];exact Zc4.t (k:=Yp (p.2,x1)) (s9.at hb8) (O18.mono s9),_,rfl,_,rfl,b,_,rfl,by rw [←hv2];exact Zc4.t (k:=Yp (p.2,x2)) (s9.at hb8) (O28.mono s9),sz (by simp),fun k2 H10 s10 n10 e10=>⟨sz (by simp),fun kl H11 s11 n11 e11=>.inr (.inr ⟨D2,kl,_,_,rfl,rfl,(s9.trans (s10.trans s11)).at hD8,e11,sz (by rw [List.length_map];show ws.length+2≤1000;omega),fun l H12 s12 n12 e12=>?_⟩)⟩⟩⟩
  have s812:=s9.trans (s10.trans (s11.trans s12))
  have s1012:=s11.trans s12
  refine q l H12 (ks++[((p.2,x1),(p.2,x2)),(e1',e2')]) (s07.trans (s8.trans s812)) (Z1.app (us:=[k1,k2]) (Paired.mapP hws fun _ _ r=>r.mono (s8.trans s812)) (.cons ⟨o1,o2,(s10.trans s1012).at e9,s812.at O18,s812.at O28⟩ (.cons ⟨a1',a2',s1012.at e10,(s7.trans (s8.trans s812)).at ha1',(s7.trans (s8.trans s812)).at ha2'⟩ .nil)) e12) (apJ (j:=((p.2,x1),(p.2,x2))) (List.mem_append_right _ List.mem_cons_self) rfl) (by rw [List.length_append];show ks.length+2≤200;omega)
theorem Ziw(T:Tx K mg){k:Nat}(h:2≤k:=by decide):Yf P w K mg base CX0 k T.d__law_within.f T.d__law_within.fd ["_law_parts", "_law_joins", "_law_cell"] Zl8:=(Zh7 T).mono h
def trJ(j:Zc×Zc):Tr:=.tup [trP j.1,trP j.2]
theorem Ztr{a b:Zc×Zc}(h:trJ a=trJ b):a=b:=by
 obtain ⟨a1,a2⟩:=a
 obtain ⟨b1,b2⟩:=b
 unfold trJ at h
 simp only [Tr.tup.injEq,List.cons.injEq,and_true] at h
 rw [Zk0 h.1,Zk0 h.2]
theorem Zoc{G:Hp}{a:Addr}{e:Zc}(h:Zu G a e):Im K G 1 (trP e) (.ref a):=Im.tup (n:=0) (SqT.of h) (.cons (.str _) (.cons (.str _) .nil))
theorem Zn0{G:Hp}{a:Addr}{j:Zc×Zc}(h:Y2 G a j):Im K G 2 (trJ j) (.ref a):=let ⟨_,_,h1,h2,h3⟩:=h;Im.tup (n:=1) (SqT.of h1) (.cons (Zoc h2) (.cons (Zoc h3) .nil))
theorem Zu6{es:List Zc}{js:List (Zc×Zc)}{e:Zc}(h:e∈Yr js)(h':e∉es):¬Zbm es js:=fun g=>h' (g.1 e h)
theorem Zqg(js:List (Zc×Zc)):(Yr js).length=2 * js.length:=by rw [←Zav,List.length_map,Zhu]
theorem Zqh{ps:List Zc}{js js':List (Zc×Zc)}(net:Net ps js [])(h:js'.length<js.length):¬Zbm (Ye ps) js':=fun g=>by
 have h1:=g.2.2.2
 have h2:=net.flat.length_eq
 rw [Zqg] at h1 h2
 omega
theorem Zmd{ps:List Zc}{js:List (Zc×Zc)}(b:Zbo ps js){x:Str}:(("none",x):Zc)∉Ye ps:=fun m=>by
 obtain ⟨p,hp,hy⟩:=List.mem_flatMap.mp m
 obtain ⟨e,he,h⟩:=List.mem_map.mp hy
 exact (b.far p hp).1 (Prod.mk.inj h).1
theorem Zw7{ps:List Zc}(hk:∀p∈ps,p.1∈Y6){nm:Str}:((nm, "e"):Zc)∉Ye ps:=fun m=>by
 obtain ⟨p,hp,hy⟩:=List.mem_flatMap.mp m
 obtain ⟨e,he,h⟩:=List.mem_map.mp hy
 have no:∀k∈Y6,("e" :Str)∉Yc k:=by decide +kernel
 rw [(Prod.mk.inj h).2] at he
 exact no _ (hk p hp) he
def Zwo:Sp:=fun vs H Q _=>∃(t:Addr) (c:Int) (ps:List Zc) (js:List (Zc×Zc)) (sg:List G3),vs=[.ref t,.int c]∧Zar H t ps js sg∧Zbo ps js∧js≠[] ∧
 ∀(r y l:Addr) (H':Hp) (ps':List Zc) (js':List (Zc×Zc)),Same H H'→H' r=some (.tup [.ref y,.ref l])→Zar H' y ps' js' sg→H' l=some (.lst [.int 2])→¬Zbm (Ye ps') js'→Zdr ps'→ps'.length≤40→ps.length≤ps'.length→(∀p∈ps',p.1∈Y6∧Za2 p.2)→js'.length≤300→Q (.ref r) H'
theorem Zeh(T:Tx K mg):Yf P w K mg base CX0 3 T.d__law_wrong_join.f T.d__law_wrong_join.fd ["_law_yard", "_law_cell"] Zwo:=by
 refine T.d__law_wrong_join.F.okW Z7 (fun vs H Q E h=>?_) (fun cdv A outer s H vs Q E hr h=>?_)
 ·obtain ⟨t,c,ps,js,sg,rfl,_⟩:=h
  rfl
 ·obtain ⟨t,c,ps,js,sg,rfl,⟨pl,jl,sl,ht,⟨ts,hpl,hts⟩,⟨us,hjl,hus⟩,hG⟩,bp,jne,q⟩:=h
  have plen:=bp.len
  have net:=bp.net
  have j80:=net.j80 plen
  have htl:=Paired.length hts
  have hul:=Paired.length hus
  have une:us≠[]:=fun y=>by rw [y] at hul;exact jne (List.length_eq_zero_iff.mp hul.symm)
  obtain ⟨i1,u1,hu1,hpos,hat⟩:=Zo0 une (c / 6)
  obtain ⟨j,hj,a1,a2,hju,ha1,ha2⟩:=Paired.get hus hu1
  have jm:j∈js:=List.mem_of_getElem? hj
  obtain ⟨m1,m2⟩:=Zbz jm
  refine WSs.step (Zej (pv 0) (Zax rfl (Zw (Zq (i:=2) Z7.nd rfl (by first | exact Or.inl rfl | exact Or.inr rfl)) (Zw (Zq (i:=3) Z7.nd rfl (by first | exact Or.inl rfl | exact Or.inr rfl)) (Zw (Zq (i:=4) Z7.nd rfl (by first | exact Or.inl rfl | exact Or.inr rfl)) Y8))))) ⟨_,rfl,t,_,rfl,SqT.of ht,rfl,_,_,rfl,_,_,rfl,_,_,rfl,rfl,?_⟩
  refine WSs.step (Zn (i:=5) Z7.nd rfl (by first | exact Or.inl rfl | exact Or.inr rfl) (Zt (r:=rIx K) Zm (pv 3) (Zk Z6 (Zk Yh (pv 1) Zd) (Zp (r:=Xb K) Xf (by rfl) T.n_len PySem.boot_len (Zb (pv 3) Za))) (fun _ _=>rfl))) ⟨_,rfl,_,rfl,_,_,rfl,rfl,⟨by decide,by decide⟩,_,rfl,.inl ⟨jl,_,rfl,.inl (SqL.of hjl),_,_,rfl,rfl,hpos,.inl ⟨jl,_,_,_,rfl,rfl,SqL.of hjl,hat,?_⟩⟩⟩
  have pk:∀p∈ps,p.1∈Y6∧Za2 p.2:=fun p hp=>⟨net.kind p hp,(bp.name p hp).asc⟩
  refine WSs.cut (fun σ' H'=>∃(p2 j2:Addr) (o6:Option V) (ps':List Zc) (js':List (Zc×Zc)),σ'=[some (.ref t),some (.int c),some (.ref p2),some (.ref j2),some (.ref sl),some (.ref u1),o6]∧Same H H'∧Zs H' p2 ps'∧Z1 H' j2 js'∧¬Zbm (Ye ps') js'∧Zdr ps'∧ps'.length≤40∧ps.length≤ps'.length∧(∀p∈ps',p.1∈Y6∧Za2 p.2)∧js'.length≤300) ?_ ?_
  ·have fin:∀{H':Hp} {j2:Addr} {o6:Option V} {js':List (Zc×Zc)},Same H H'→Z1 H' j2 js'→¬Zbm (Ye ps) js'→js'.length≤300→∃(p2' j2':Addr) (o6':Option V) (ps':List Zc) (js':List (Zc×Zc)),[some (V.ref t),some (.int c),some (.ref pl),some (.ref j2),some (.ref sl),some (.ref u1),o6]=[some (V.ref t),some (.int c),some (.ref p2'),some (.ref j2'),some (.ref sl),some (.ref u1),o6']∧Same H H'∧Zs H' p2' ps'∧Z1 H' j2' js'∧¬Zbm (Ye ps') js'∧Zdr ps'∧ps'.length≤40∧ps.length≤ps'.length∧(∀p∈ps',p.1∈Y6∧Za2 p.2)∧js'.length≤300:=fun {H' j2 o6 js'} s' hJ bad hl =>
    ⟨pl,j2,o6,ps,js',rfl,s',⟨ts,s'.at hpl,Paired.mapP hts fun _ _ r=>r.mono s'⟩,hJ,bad,bp.goodN,plen,Nat.le_refl _,pk,hl⟩
   refine WS.of (Yg (Zo (r:=X9 K) (Wo hr) (Zk Z6 (pv 1) Zd) Zd (Zx _)) Zy Zy) ⟨_,rfl,_,_,rfl,rfl,(by show (0:Int)<6;decide),.inl ⟨rfl,_,rfl,Yk (fun z=>?_) (fun _=>?_)⟩⟩
   ·refine WSs.step (Zn (i:=6) Z7.nd rfl (by first | exact Or.inl rfl | exact Or.inr rfl) (Zl (Zb (Zf (Zb (Zt (r:=rIx K) Zm (pv 5) Zd (fun _ _=>rfl)) (Zb (Zf (Zb Ze (Zb Ze Za))) Za))) (Zb (Zf (Zb (Zf (Zb Ze (Zb Ze Za))) (Zb (Zf (Zb Ze (Zb Ze Za))) Za))) (Zb (Zf (Zb (Zf (Zb (Zt (r:=rIx K) Zm (Zt (r:=rIx K) Zm (pv 5) Zd (fun _ _=>rfl)) Zd (fun _ _=>rfl)) (Zb Ze Za))) (Zb (Zf (Zb (Zt (r:=rIx K) Zm (Zt (r:=rIx K) Zm (pv 5) Zd (fun _ _=>rfl)) Zd (fun _ _=>rfl)) (Zb Ze Za))) Za))) Za))))) ⟨_,rfl,.inr (.inl ⟨u1,_,0,_,rfl,rfl,SqT.of hju,Zr (j:=0) rfl,sz (by simp),fun b1 H1 s1 n1 e1=>⟨sz (by simp),fun c1 H2 s2 n2 e2=>⟨sz (by simp),fun b2 H3 s3 n3 e3=>⟨sz (by simp),fun b3 H4 s4 n4 e4=>⟨sz (by simp),fun c2 H5 s5 n5 e5=>?_⟩⟩⟩⟩⟩)⟩
    have s05:=s1.trans (s2.trans (s3.trans (s4.trans s5)))
    refine ⟨_,rfl,.inr (.inl ⟨u1,_,0,_,rfl,rfl,SqT.of (s05.at hju),Zr (j:=0) rfl,.inr (.inl ⟨a1,_,0,_,rfl,rfl,SqT.of (s05.at ha1),Zr (j:=0) rfl,sz (by simp),fun b4 H6 s6 n6 e6=>⟨_,rfl,.inr (.inl ⟨u1,_,1,_,rfl,rfl,SqT.of (s6.at (s05.at hju)),Zr (j:=1) rfl,.inr (.inl ⟨a2,_,0,_,rfl,rfl,SqT.of (s6.at (s05.at ha2)),Zr (j:=0) rfl,sz (by simp),fun b5 H7 s7 n7 e7=>⟨sz (by simp),fun c3 H8 s8 n8 e8=>⟨sz (by simp),fun ol H9 s9 n9 e9=>?_⟩⟩⟩)⟩)⟩⟩)⟩)⟩
    have s89:=s8.trans s9
    have s59:=s6.trans (s7.trans s89)
    have s09:=s05.trans s59
    have s29:=s3.trans (s4.trans (s5.trans s59))
    have three:Paired (Y2 H9) [c1,c2,c3] [(j.1,("none", "a")),(("none", "a"),("more", "a")),((j.1.1, "e"),(j.2.1, "e"))]:=.cons ⟨a1,b1,s29.at e2,ha1.mono s09,(s2.trans s29).at e1⟩ (.cons ⟨b2,b3,s59.at e5,(s4.trans (s5.trans s59)).at e3,(s5.trans s59).at e4⟩ (.cons ⟨b4,b5,s9.at e8,(s7.trans s89).at e6,s89.at e7⟩ .nil))
    obtain ⟨jx,hjx,hjx3⟩:=Zbq (a:=c / 6) (n:=3) (by decide)
    obtain ⟨cx,hcx⟩:∃cx,[c1,c2,c3][jx]? =some cx:=⟨_,List.getElem?_eq_getElem (by show jx<3;exact hjx3)⟩
    obtain ⟨jb,hjb,hcj⟩:=Paired.get three hcx
    have hat3:atI ([c1,c2,c3].map V.ref) (c / 6%3)=some (.ref cx):=by
     rw [show c / 6%3=(jx:Int) from hjx]
     exact Zr (by rw [List.getElem?_map,hcx];rfl)
    refine WSs.last (Zn (i:=3) Z7.nd rfl (by first | exact Or.inl rfl | exact Or.inr rfl) (Zk Y3 (pv 3) (Zl (Zb (Zt (r:=rIx K) Zm (pv 6) (Zk Z6 (Zk Yh (pv 1) Zd) Zd) (fun _ _=>rfl)) Za)))) ⟨_,rfl,_,rfl,_,rfl,_,_,rfl,rfl,⟨by decide,by decide⟩,_,_,rfl,rfl,(by show (0:Int)<3;decide),.inl ⟨ol,_,_,_,rfl,rfl,SqL.of e9,hat3,sz (by simp),fun nl H10 s10 n10 e10=>.inr (.inr ⟨jl,nl,_,_,rfl,rfl,(s09.trans s10).at hjl,e10,sz (by rw [List.length_map];show us.length+1≤1000;omega),fun j2 H11 s11 n11 e11=>?_⟩)⟩⟩
    have s011:=s09.trans (s10.trans s11)
    refine fin s011 (Z1.app (us:=[cx]) (Paired.mapP hus fun _ _ r=>r.mono s011) (.cons (hcj.mono (s10.trans s11)) .nil) e11) ?_ (by rw [List.length_append];show js.length+1≤300;omega)
    have hb:jb∈[(j.1,(("none", "a"):Zc)),(("none", "a"),("more", "a")),((j.1.1, "e"),(j.2.1, "e"))]:=List.mem_of_getElem? hjb
    have inx:∀{e:Zc},e=jb.1∨e=jb.2→e∈Yr (js++[jb]):=fun {e} h=>by
     rw [Wf]
     refine List.mem_append_right _ ?_
     have:=Zbz (js:=[jb]) (j:=jb) List.mem_cons_self
     rcases h with rfl|rfl
     ·exact this.1
     ·exact this.2
    simp only [List.mem_cons,List.mem_nil_iff,or_false] at hb
    rcases hb with rfl|rfl|rfl
    ·exact Zu6 (inx (.inr rfl)) (Zmd bp)
    ·exact Zu6 (inx (.inl rfl)) (Zmd bp)
    ·exact Zu6 (inx (.inl rfl)) (Zw7 net.kind)
   refine WSs.last (Yg (Zo (r:=X9 K) (Wo hr) (Zk Z6 (pv 1) Zd) Zd (Zx _)) Zy Zy) ⟨_,rfl,_,_,rfl,rfl,(by show (0:Int)<6;decide),.inl ⟨rfl,_,rfl,Yk (fun z=>?_) (fun _=>?_)⟩⟩
   ·refine WSs.last (Zn (i:=3) Z7.nd rfl (by first | exact Or.inl rfl | exact Or.inr rfl) (Zk Y3 (Zl (Zb (Zf (Zb (Zt (r:=rIx K) Zm (pv 5) Zd (fun _ _=>rfl)) (Zb (Zt (r:=rIx K) Zm (pv 5) Zd (fun _ _=>rfl)) Za))) Za)) (pv 3))) ⟨_,rfl,.inr (.inl ⟨u1,_,0,_,rfl,rfl,SqT.of hju,Zr (j:=0) rfl,_,rfl,.inr (.inl ⟨u1,_,0,_,rfl,rfl,SqT.of hju,Zr (j:=0) rfl,sz (by simp),fun c1 H1 s1 n1 e1=>⟨sz (by simp),fun nl H2 s2 n2 e2=>⟨_,rfl,.inr (.inr ⟨nl,jl,_,_,rfl,rfl,e2,(s1.trans s2).at hjl,sz (by rw [List.length_map];show 1+us.length≤1000;omega),fun j2 H3 s3 n3 e3=>?_⟩)⟩⟩⟩)⟩)⟩
    have s03:=s1.trans (s2.trans s3)
    exact fin s03 (Z1.app (ts:=[c1]) (ps:=[(j.1,j.1)]) (.cons ⟨a1,a1,(s2.trans s3).at e1,ha1.mono s03,ha1.mono s03⟩ .nil) (Paired.mapP hus fun _ _ r=>r.mono s03) e3) (apJ (j:=(j.1,j.1)) (List.mem_append_left _ List.mem_cons_self) rfl) (by rw [List.length_append];show 1+js.length≤300;omega)
   refine WSs.last (Yg (Zo (r:=X9 K) (Wo hr) (Zk Z6 (pv 1) Zd) Zd (Zx _)) Zy Zy) ⟨_,rfl,_,_,rfl,rfl,(by show (0:Int)<6;decide),.inl ⟨rfl,_,rfl,Yk (fun z=>?_) (fun _=>?_)⟩⟩
   ·refine WSs.last (Zn (i:=3) Z7.nd rfl (by first | exact Or.inl rfl | exact Or.inr rfl) (Zk Y3 (pv 3) (Zl (Zb (Zf (Zb (Zt (r:=rIx K) Zm (pv 5) Zd (fun _ _=>rfl)) (Zb (Zt (r:=rIx K) Zm (pv 5) Zd (fun _ _=>rfl)) Za))) Za)))) ⟨_,rfl,_,rfl,.inr (.inl ⟨u1,_,1,_,rfl,rfl,SqT.of hju,Zr (j:=1) rfl,_,rfl,.inr (.inl ⟨u1,_,0,_,rfl,rfl,SqT.of hju,Zr (j:=0) rfl,sz (by simp),fun c1 H1 s1 n1 e1=>⟨sz (by simp),fun nl H2 s2 n2 e2=>.inr (.inr ⟨jl,nl,_,_,rfl,rfl,(s1.trans s2).at hjl,e2,sz (by rw [List.length_map];show us.length+1≤1000;omega),fun j2 H3 s3 n3 e3=>?_⟩)⟩⟩)⟩)⟩
    have s03:=s1.trans (s2.trans s3)
    refine fin s03 (Z1.app (us:=[c1]) (qs:=[(j.2,j.1)]) (Paired.mapP hus fun _ _ r=>r.mono s03) (.cons ⟨a2,a1,(s2.trans s3).at e1,ha2.mono s03,ha1.mono s03⟩ .nil) e3) (Zu1 (e:=j.1) ?_) (by rw [List.length_append];show js.length+1≤300;omega)
    rw [Wf]
    exact Zkh m1 (Zbz (js:=[(j.2,j.1)]) List.mem_cons_self).2
   refine WSs.last (Yg (Zo (r:=X9 K) (Wo hr) (Zk Z6 (pv 1) Zd) Zd (Zx _)) Zy Zy) ⟨_,rfl,_,_,rfl,rfl,(by show (0:Int)<6;decide),.inl ⟨rfl,_,rfl,Yk (fun z=>?_) (fun _=>?_)⟩⟩
   ·refine WSs.last (Xq (i:=3) (N':=["_law_join", "_law_one"]) Z7.nd rfl (Or.inl rfl) rfl (Z9.std 1 [5] rfl (by decide +kernel) (by decide +kernel) rfl ⟨rfl,trivial⟩ rfl rfl ⟨⟨_,rfl,rfl,rfl⟩,trivial⟩) (Yx (pv 3)) (fun _ _ _ _=>(Zq (i:=0) (by show (["_law_join", "_law_one"]:List Str).Nodup;decide +kernel) rfl (Or.inl (lookup_relabel_local rfl)) (Or.inr (lookup_relabel_local rfl)))) (fun _ _ _ _=>(Zdx (Zo (r:=Zfm K) (Zgv hr) (pv 0) (pv 1) (Zx _)))) (fun _ _ _ _=>(pv 0))) ⟨_,rfl,jl,rfl,⟨_,SqL.of hjl⟩,fun D hD=>Xv (K:=K) (xs:=us.map V.ref) (fun i ys H'=>(∃vs:List Addr,ys=vs.map V.ref∧Paired (Y2 H) vs ((js.take i).filter fun x=>decide (x≠j)))∧H' D=some (.lst ys)∧Same H H') ⟨⟨[],rfl,.nil⟩,Zj,Same.new hD⟩ ?_ ?_ ?_⟩
    ·rintro i ys H' _ ⟨_,_,sm⟩
     exact SqL.of (sm.at hjl)
    ·rintro i v ys H1 hi ⟨⟨vs,rfl,hvs⟩,hD1,s1⟩
     rw [List.getElem?_map] at hi
     obtain ⟨u,hu,rfl⟩:=Option.map_eq_some_iff.mp hi
     obtain ⟨jn,hjn,hjt⟩:=Paired.get hus hu
     have hil:=(List.getElem?_eq_some_iff.mp hjn).1
     have hvl:vs.length≤100:=by
      have h1:=Paired.length hvs
      have h2:=List.length_filter_le (fun x=>decide (x≠j)) (js.take i)
      rw [List.length_take] at h2
      omega
     refine ⟨Wr.set rfl,_,rfl,_,rfl,.inr (.inl ⟨2,trJ jn,trJ j,by decide,.inl ⟨_,_,rfl,rfl⟩,Zn0 (hjt.mono s1),Zn0 (Y2.mono s1 ⟨a1,a2,hju,ha1,ha2⟩),_,rfl,Yk (fun z=>?_) (fun z=>?_)⟩)⟩
     ·have z:jn≠j:=fun y=>by
       rw [y,if_pos rfl,decide_eq_true rfl] at z
       exact absurd z (by decide)
      refine ⟨_,rfl,hD1,by rw [List.length_map];exact Z4 (by omega),⟨vs++[u],by rw [List.map_append];rfl,?_⟩,Zj,fun b o y=>by rw [Zi (Zh y hD)];exact s1.at y⟩
      rw [List.take_add_one,hjn]
      show Paired _ _ ((js.take i++[jn]).filter _)
      rw [List.filter_append,List.filter_cons_of_pos (p:=fun x=>decide (x≠j)) (decide_eq_true z)]
      exact Paired.snoc hvs hjt
     ·have z:jn=j:=Decidable.byContradiction fun y=>z (by
       rw [if_pos rfl,decide_eq_false fun e=>y (Ztr e)]
       rfl)
      refine ⟨⟨vs,rfl,?_⟩,hD1,s1⟩
      rw [List.take_add_one,hjn]
      show Paired _ _ ((js.take i++[jn]).filter _)
      rw [List.filter_append,List.filter_cons_of_neg (p:=fun x=>decide (x≠j)) (by simpa using z),List.filter_nil,List.append_nil]
      exact hvs
    ·rintro ys H1 ⟨⟨vs,rfl,hvs⟩,hD1,s1⟩
     rw [List.length_map,hul,List.take_length] at hvs
     have hlt:(js.filter fun x=>decide (x≠j)).length<js.length:=List.length_filter_lt_length_iff_exists.mpr ⟨j,jm,by simp⟩
     exact fin s1 ⟨vs,hD1,Paired.mapP hvs fun _ _ r=>r.mono s1⟩ (Zqh net hlt) (by omega)
   refine WSs.last (Yg (Zo (r:=X9 K) (Wo hr) (Zk Z6 (pv 1) Zd) Zd (Zx _)) Zy Zy) ⟨_,rfl,_,_,rfl,rfl,(by show (0:Int)<6;decide),.inl ⟨rfl,_,rfl,Yk (fun z=>?_) (fun _=>?_)⟩⟩
   ·exact WSs.last (Zn (i:=3) Z7.nd rfl (by first | exact Or.inl rfl | exact Or.inr rfl) (Z5 (Ziw T) hr rfl T.m__law_within T.d__law_within.F.kp T.d__law_within.b .nil Yn (Zb (pv 2) (Zb (pv 3) (Zb (Zk Yh (pv 1) Zd) Za))))) ⟨_,rfl,_,rfl,_,rfl,_,_,rfl,rfl,⟨by decide,by decide⟩,pl,jl,_,ps,js,rfl,⟨ts,hpl,hts⟩,⟨us,hjl,hus⟩,net,plen,jne,fun l H1 js' s1 hJ bad hl=>fin s1 hJ bad (by omega)⟩
   refine WSs.last (Yg (Zo Zed (Zp (r:=Xb K) Xf (by rfl) T.n_len PySem.boot_len (Zb (pv 2) Za)) Zd (Zx _)) Zy Zy) ⟨_,rfl,.inl ⟨pl,_,rfl,.inl (SqL.of hpl),_,_,rfl,rfl,_,rfl,Yk (fun z=>?_) (fun _=>?_)⟩⟩
   ·have z:(((ts.map V.ref).length:Nat):Int)<40:=of_decide_eq_true z
    rw [List.length_map,htl] at z
    refine WSs.step (Zn (i:=2) Z7.nd rfl (by first | exact Or.inl rfl | exact Or.inr rfl) (Zk Y3 (pv 2) (Zl (Zb (Zf (Zb Ze (Zb Ze Za))) Za)))) ⟨_,rfl,sz (by simp),fun c1 H1 s1 n1 e1=>⟨sz (by simp),fun nl H2 s2 n2 e2=>.inr (.inr ⟨pl,nl,_,_,rfl,rfl,(s1.trans s2).at hpl,e2,sz (by rw [List.length_map];show ts.length+1≤1000;omega),fun p2 H3 s3 n3 e3=>?_⟩)⟩⟩
    have s03:=s1.trans (s2.trans s3)
    refine WSs.last (Zn (i:=3) Z7.nd rfl (by first | exact Or.inl rfl | exact Or.inr rfl) (Zk Y3 (pv 3) (Zl (Zb (Zf (Zb (Zf (Zb Ze (Zb Ze Za))) (Zb (Zt (r:=rIx K) Zm (pv 5) Zd (fun _ _=>rfl)) Za))) Za)))) ⟨_,rfl,sz (by simp),fun b1 H4 s4 n4 e4=>⟨_,rfl,.inr (.inl ⟨u1,_,1,_,rfl,rfl,SqT.of ((s03.trans s4).at hju),Zr (j:=1) rfl,sz (by simp),fun c2 H5 s5 n5 e5=>⟨sz (by simp),fun nl2 H6 s6 n6 e6=>.inr (.inr ⟨jl,nl2,_,_,rfl,rfl,(s03.trans (s4.trans (s5.trans s6))).at hjl,e6,sz (by rw [List.length_map];show us.length+1≤1000;omega),fun j2 H7 s7 n7 e7=>?_⟩)⟩⟩)⟩⟩
    have s37:=s4.trans (s5.trans (s6.trans s7))
    have s07:=s03.trans s37
    have P3:Zs H3 p2 (ps++[(("stop", "more"):Zc)]):=Zs.app (us:=[c1]) (Paired.mapP hts fun _ _ r=>r.mono s03) (.cons ((s2.trans s3).at e1) .nil) e3
    have ok:Xe "more" =true∧Za2 "more" :=⟨by decide +kernel,by decide +kernel,by decide +kernel⟩
    refine ⟨p2,j2,none,ps++[(("stop", "more"):Zc)],js++[((("more", "a"):Zc),j.2)],rfl,s07,P3.mono s37,Z1.app (us:=[c2]) (Paired.mapP hus fun _ _ r=>r.mono s07) (.cons ⟨b1,a2,(s6.trans s7).at e5,(s5.trans (s6.trans s7)).at e4,ha2.mono s07⟩ .nil) e7,Zu1 (e:=j.2) ?_,⟨fun p hp=>?_,?_⟩,?_,?_,fun p hp=>?_,?_⟩
    ·rw [Wf]
     exact Zkh m2 (Zbz (js:=[((("more", "a"):Zc),j.2)]) List.mem_cons_self).2
    ·rcases List.mem_append.mp hp with y|y
     ·exact bp.goodN.1 p y
     ·rw [List.mem_singleton.mp y];exact ok.1
    ·rw [List.map_append]
     refine Yz.mpr ⟨net.nd,fun y=>?_⟩
     obtain ⟨p,hp,e⟩:=List.mem_map.mp y
     exact (bp.far p hp).2 e
    ·rw [List.length_append];show ps.length+1≤40;omega
    ·rw [List.length_append];omega
    ·rcases List.mem_append.mp hp with y|y
     ·exact pk p y
     ·rw [List.mem_singleton.mp y];exact ⟨by decide,ok.2⟩
    ·rw [List.length_append];show js.length+1≤300;omega
   ·refine WSs.last (Zn (i:=3) Z7.nd rfl (by first | exact Or.inl rfl | exact Or.inr rfl) (Xy (r:=Ze8 K) Zf6 (pv 3) (Wq Zd) W4)) ⟨_,rfl,_,rfl,.inr (.inl ⟨jl,_,rfl,SqL.of hjl,fun j2 H1 s1 n1 e1=>?_⟩)⟩
    have c1:=Zcw (us.map V.ref) 1
    rw [show ((1:Nat):Int)=1 from rfl] at c1
    rw [c1,←List.map_drop] at e1
    have hlt:(js.drop 1).length<js.length:=by rw [List.length_drop];have:=List.length_pos_iff.mpr jne;omega
    exact fin s1 ⟨us.drop 1,e1,Paired.mapP (Zdo hus 1) fun _ _ r=>r.mono s1⟩ (Zqh net hlt) (by omega)
  rintro σ H1 ⟨p2,j2,o6,ps',js',rfl,s1,hP,hJ,bad,gN,l1,l2,pk',l3⟩
  refine WSs.last (Z8 (Zf (Zb (Zf (Zb (pv 2) (Zb (pv 3) (Zb (pv 4) Za)))) (Zb (Zl (Zb Zd Za)) Za)))) ⟨_,rfl,_,rfl,_,rfl,sz (by simp),fun y H2 s2 n2 e2=>⟨sz (by simp),fun l H3 s3 n3 e3=>⟨sz (by simp),fun r H4 s4 n4 e4=>?_⟩⟩⟩
  have s14:=s2.trans (s3.trans s4)
  exact q r y l H4 ps' js' (s1.trans s14) e4 ⟨p2,j2,sl,(s3.trans s4).at e2,hP.mono s14,hJ.mono s14,hG.mono (s1.trans s14)⟩ (s4.at e3) bad gN l1 l2 pk' l3
theorem Zew(T:Tx K mg){k:Nat}(h:3≤k:=by decide):Yf P w K mg base CX0 k T.d__law_wrong_join.f T.d__law_wrong_join.fd ["_law_yard", "_law_cell"] Zwo:=(Zeh T).mono h
structure Mid(ps:List Zc)(js:List (Zc×Zc))(sg:List G3):Prop where
 part:∀p∈ps,p.1∈Y6∧Za2 p.2
 sig:∀g∈sg,Za2 g.1
 two:2≤ps.length
 pl:ps.length≤40
 jl:js.length≤300
 sl:sg.length≤40
structure Bnd(ps:List Zc)(js:List (Zc×Zc))(sg:List G3):Prop where
 part:∀p∈ps,p.1∈Y6∧Za2 p.2
 sig:∀g∈sg,Za2 g.1
 pl:ps.length≤100
 jl:js.length≤300
 sl:sg.length≤100
theorem Mid.b{ps:List Zc}{js:List (Zc×Zc)}{sg:List G3}(h:Mid ps js sg):Bnd ps js sg:=⟨h.part,h.sig,by have:=h.pl;omega,h.jl,by have:=h.sl;omega⟩
theorem Mid.few{ps:List Zc}{js:List (Zc×Zc)}{sg:List G3}(h:Mid ps js sg):¬Zlg ps sg:=by
 have h1:=h.pl
 have h2:=h.sl
 rintro (z|z) <;>omega
def nN(k:Nat):Str := "n" ++ Zb0 k
theorem Zua:∀k<100,(∀c∈(nN k).cps.toList,c<128)∧(nN k).length≤100:=by decide +kernel
def Zsh:List Str:=["A", "", "1a", "sevenss", "a-b"]
theorem Zoj:∀x∈Zsh,((∀c∈x.cps.toList,c<128)∧x.length≤100)∧Xe x=false:=by decide +kernel
def Zwu:Sp:=fun vs H Q _=>∃(t:Addr) (w:Nat) (c:Int) (ps:List Zc) (js:List (Zc×Zc)) (sg:List G3),vs=[.ref t,.int (w:Nat),.int c]∧w<4∧Zar H t ps js sg∧Mid ps js sg∧(w=0→Zbo ps js∧Zme ps sg)∧(w=1→Zbo ps js∧js≠[]) ∧
 ∀(r y l:Addr) (H':Hp) (ps':List Zc) (js':List (Zc×Zc)) (sg':List G3) (k:Nat),Same H H'→H' r=some (.tup [.ref y,.ref l])→Zar H' y ps' js' sg'→H' l=some (.lst [.int (k:Nat)])→Rf ps' js' sg' k→Bnd ps' js' sg'→(w≤2→Mid ps' js' sg')→(w=0→ps'=ps∧js'=js)→Q (.ref r) H'
theorem Zim(T:Tx K mg):Yf P w K mg base CX0 4 T.d__law_wrong.f T.d__law_wrong.fd ["_law_yard", "_law_way", "_law_cell"] Zwu:=by
 refine T.d__law_wrong.F.okW Xr (fun vs H Q E h=>?_) (fun cdv A outer s H vs Q E hr h=>?_)
 ·obtain ⟨t,w,c,ps,js,sg,rfl,_⟩:=h
  rfl
 ·obtain ⟨t,w,c,ps,js,sg,rfl,hw,hY,mid,h0,h1,q⟩:=h
  refine WSs.cut (fun σ' H'=>σ'=[some (.ref t),some (.int (w:Nat)),some (.int c),none,none,none,none]∧H'=H∧w≠0) ?_ ?_
  ·refine WS.of (Yg (Zo (r:=X9 K) (Wo hr) (pv 1) Zd (Zx _)) Zy Z2) ⟨_,rfl,.inl ⟨rfl,_,rfl,Yk (fun z=>?_) (fun z=>⟨rfl,rfl,fun y=>z (by rw [y];exact decide_eq_true rfl)⟩)⟩⟩
   have z:((w:Nat):Int)=0:=V.int.inj (of_decide_eq_true z)
   have w0:w=0:=by omega
   obtain ⟨bp,bs⟩:=h0 w0
   have two:=mid.two
   refine WSs.last (Z8 (Z5 (Zd7 T) hr rfl T.m__law_wrong_signal T.d__law_wrong_signal.F.kp T.d__law_wrong_signal.b .nil Yn (Zb (pv 0) (Zb (pv 2) Za)))) ⟨_,rfl,_,rfl,t,c,ps,js,sg,rfl,hY,bp,bs,fun y=>by rw [y] at two;exact absurd two (by decide),fun r y l H' sg' k s' e1 hY' e2 rf asc sl=>?_⟩
   have m':Mid ps js sg':=⟨mid.part,asc,mid.two,mid.pl,mid.jl,sl⟩
   exact q r y l H' ps js sg' k s' e1 hY' e2 rf m'.b (fun _=>m') (fun _=>⟨rfl,rfl⟩)
  rintro σ H1 ⟨rfl,hH1,w0⟩
  rw [hH1]
  refine WSs.cut (fun σ' H'=>σ'=[some (.ref t),some (.int (w:Nat)),some (.int c),none,none,none,none]∧H'=H∧w≠1) ?_ ?_
  ·refine WS.of (Yg (Zo (r:=X9 K) (Wo hr) (pv 1) Zd (Zx _)) Zy Z2) ⟨_,rfl,.inl ⟨rfl,_,rfl,Yk (fun z=>?_) (fun z=>⟨rfl,rfl,fun y=>z (by rw [y];exact decide_eq_true rfl)⟩)⟩⟩
   have z:((w:Nat):Int)=1:=V.int.inj (of_decide_eq_true z)
   have w1:w=1:=by omega
   obtain ⟨bp,jne⟩:=h1 w1
   refine WSs.last (Z8 (Z5 (Zew T) hr rfl T.m__law_wrong_join T.d__law_wrong_join.F.kp T.d__law_wrong_join.b .nil Yn (Zb (pv 0) (Zb (pv 2) Za)))) ⟨_,rfl,_,rfl,t,c,ps,js,sg,rfl,hY,bp,jne,fun r y l H' ps' js' s' e1 hY' e2 bad gN l1 l2 pk l3=>?_⟩
   have m':Mid ps' js' sg:=⟨pk,mid.sig,by have:=mid.two;omega,l1,l3,mid.sl⟩
   exact q r y l H' ps' js' sg 2 s' e1 hY' e2 ⟨m'.few,gN,.inl bad⟩ m'.b (fun _=>m') (fun y=>absurd y w0)
  rintro σ H2 ⟨rfl,hH2,w1⟩
  rw [hH2]
  clear hH1 hH2 H1 H2
  obtain ⟨pl,jl,sl,ht,⟨ts,hpl,hts⟩,hJ,⟨gs,hsl,hgs⟩⟩:=hY
  have htl:=Paired.length hts
  have hgl:=Paired.length hgs
  have two:=mid.two
  have pln:=mid.pl
  have sln:=mid.sl
  obtain ⟨p0,pr,hps⟩:∃p0 pr,ps=p0 ::pr:=by
   cases ps with
   | nil=>exact absurd two (by decide)
   | cons a l=>exact ⟨a,l,rfl⟩
  refine WSs.step (Zej (pv 0) (Zax rfl (Zw (Zq (i:=3) Xr.nd rfl (by first | exact Or.inl rfl | exact Or.inr rfl)) (Zw (Zq (i:=4) Xr.nd rfl (by first | exact Or.inl rfl | exact Or.inr rfl)) (Zw (Zq (i:=5) Xr.nd rfl (by first | exact Or.inl rfl | exact Or.inr rfl)) Y8))))) ⟨_,rfl,t,_,rfl,SqT.of ht,rfl,_,_,rfl,_,_,rfl,_,_,rfl,rfl,?_⟩
  refine WSs.cut (fun σ' H'=>σ'=[some (.ref t),some (.int (w:Nat)),some (.int c),some (.ref pl),some (.ref jl),some (.ref sl),none]∧H'=H∧w=3) ?_ ?_
  ·refine WS.of (Yg (Zo (r:=X9 K) (Wo hr) (pv 1) Zd (Zx _)) Zy Z2) ⟨_,rfl,.inl ⟨rfl,_,rfl,Yk (fun z=>?_) (fun z=>⟨rfl,rfl,?_⟩)⟩⟩
   rotate_left
   ·have:w≠2:=fun y=>z (by rw [y];exact decide_eq_true rfl)
    omega
   have z:((w:Nat):Int)=2:=V.int.inj (of_decide_eq_true z)
   have w2:w=2:=by omega
   obtain ⟨xl,hxl⟩:∃xl,ts[ps.length-1]? =some xl:=⟨_,List.getElem?_eq_getElem (by omega)⟩
   obtain ⟨⟨k,nm⟩,hp,hx⟩:=Paired.get hts hxl
   have hx:H xl=some (.tup [.str k,.str nm]):=hx
   have hatl:atI (ts.map V.ref) ((((ts.map V.ref).length:Nat):Int)-1)=some (.ref xl):=by
    rw [List.length_map,htl,show ((ps.length:Nat):Int)-1=((ps.length-1:Nat):Int) by omega]
    exact Zr (by rw [List.getElem?_map,hxl];rfl)
   obtain ⟨j,hj,hj6⟩:=Zbq (a:=c) (n:=6) (by decide)
   obtain ⟨on,hon⟩:∃on,(Zsh++[nm])[j]? =some on:=⟨_,List.getElem?_eq_getElem (by show j<6;exact hj6)⟩
   have onm:on∈Zsh∨on=nm:=by
    rcases List.mem_append.mp (List.mem_of_getElem? hon) with y|y
    ·exact .inl y
    ·exact .inr (List.mem_singleton.mp y)
   have hpm:((k,nm):Zc)∈ps:=List.mem_of_getElem? hp
   have asc:Za2 on:=by
    rcases onm with y|rfl
    ·exact (Zoj on y).1
    ·exact (mid.part _ hpm).2
   refine WSs.step (Zn (i:=6) Xr.nd rfl (by first | exact Or.inl rfl | exact Or.inr rfl) (Zt (r:=rIx K) Zm (Zl (Zb Ze (Zb Ze (Zb Ze (Zb Ze (Zb Ze (Zb (Zt (r:=rIx K) Zm (Zt (r:=rIx K) Zm (pv 3) (Zk Zdj (Zp (r:=Xb K) Xf (by rfl) T.n_len PySem.boot_len (Zb (pv 3) Za)) Zd) (fun _ _=>rfl)) Zd (fun _ _=>rfl)) Za))))))) (Zk Z6 (pv 2) Zd) (fun _ _=>rfl))) ⟨_,rfl,_,rfl,.inl ⟨pl,_,rfl,.inl (SqL.of hpl),_,_,rfl,rfl,.inl ⟨pl,_,_,_,rfl,rfl,SqL.of hpl,hatl,.inr (.inl ⟨xl,_,1,_,rfl,rfl,SqT.of hx,Zr (j:=1) rfl,sz (by simp),fun ol H1 s1 n1 e1=>⟨_,rfl,_,_,rfl,rfl,(by show (0:Int)<6;decide),.inl ⟨ol,_,_,.str on,rfl,rfl,SqL.of e1,?_,?_⟩⟩⟩)⟩⟩⟩
   ·rw [show c%6=(j:Int) from hj]
    exact Zr (xs:=(Zsh++[nm]).map V.str) (by rw [List.getElem?_map,hon];rfl)
   refine WSs.last (Z8 (Zf (Zb (Zf (Zb (Zk Y3 (Zl (Zb (Zf (Zb Ze (Zb (pv 6) Za))) Za)) (Xy (r:=Ze8 K) Zf6 (pv 3) (Wq Zd) W4)) (Zb (pv 4) (Zb (pv 5) Za)))) (Zb (Zl (Zb Zd Za)) Za)))) ⟨_,rfl,sz (by simp),fun a1 H2 s2 n2 e2=>⟨sz (by simp),fun al H3 s3 n3 e3=>⟨_,rfl,_,rfl,.inr (.inl ⟨pl,_,rfl,SqL.of ((s1.trans (s2.trans s3)).at hpl),fun cl H4 s4 n4 e4=>.inr (.inr ⟨al,cl,_,_,rfl,rfl,s4.at e3,e4,?_,fun np H5 s5 n5 e5=>⟨_,rfl,_,rfl,sz (by simp),fun y H6 s6 n6 e6=>⟨sz (by simp),fun l H7 s7 n7 e7=>⟨sz (by simp),fun r H8 s8 n8 e8=>?_⟩⟩⟩⟩)⟩)⟩⟩⟩
   ·have:=Zcc (ts.map V.ref) (some 1) none
    rw [List.length_map] at this
    refine sz ?_
    show 1+_≤1000
    omega
   have c1:=Zcw (ts.map V.ref) 1
   rw [show ((1:Nat):Int)=1 from rfl] at c1
   rw [c1,←List.map_drop] at e5
   have s05:=s1.trans (s2.trans (s3.trans (s4.trans s5)))
   have s58:=s6.trans (s7.trans s8)
   have s08:=s05.trans s58
   have P5:Zs H5 np ([(("plain",on):Zc)]++ps.drop 1):=Zs.app (ts:=[a1]) (us:=ts.drop 1) (.cons ((s3.trans (s4.trans s5)).at e2) .nil) (Paired.mapP (Zdo hts 1) fun _ _ r=>r.mono s05) e5
   have dl:(ps.drop 1).length=ps.length-1:=List.length_drop
   have m':Mid ([(("plain",on):Zc)]++ps.drop 1) js sg:=by
    refine ⟨fun p hp'=>?_,mid.sig,?_,?_,mid.jl,mid.sl⟩
    ·rcases List.mem_append.mp hp' with y|y
     ·rw [List.mem_singleton.mp y];exact ⟨by show ("plain" :Str)∈Y6;decide,asc⟩
     ·exact mid.part p (List.mem_of_mem_drop y)
    ·rw [List.length_append,dl];show 2≤1+(ps.length-1);omega
    ·rw [List.length_append,dl];show 1+(ps.length-1)≤40;omega
   refine q r y l H8 _ js sg 1 s08 e8 ⟨np,jl,sl,(s7.trans s8).at e6,P5.mono s58,hJ.mono s08,⟨gs,s08.at hsl,Paired.mapP hgs fun _ _ r=>s08.at r⟩⟩ (s8.at e7) ⟨m'.few,.inl fun g=>?_⟩ m'.b (fun _=>m') (fun y=>absurd y w0)
   rcases onm with y|rfl
   ·have:=g.1 ("plain",on) (List.mem_append_left _ List.mem_cons_self)
    rw [(Zoj on y).2] at this
    cases this
   ·have nd:=g.2
    rw [List.map_append] at nd
    refine (List.nodup_append.mp nd).2.2 on List.mem_cons_self on (List.mem_map.mpr ⟨(k,on),?_,rfl⟩) rfl
    refine List.mem_of_getElem? (i:=ps.length-2) ?_
    rw [List.getElem?_drop,show 1+(ps.length-2)=ps.length-1 by omega]
    exact hp
  rintro σ H1 ⟨rfl,hH1,w3⟩
  rw [hH1]
  clear hH1 H1
  have nfl:∀k,k<100→("n" :Str).length+(Zb0 k).length≤1000:=fun k hk=>by
   have:=Zbu k hk
   rw [show ("n" :Str).length=1 by decide +kernel];omega
  refine WSs.cut (fun σ' H'=>∃(p2 s2:Addr) (ps':List Zc) (sg':List G3),σ'=[some (.ref t),some (.int (w:Nat)),some (.int c),some (.ref p2),some (.ref jl),some (.ref s2),none]∧Same H H'∧Zs H' p2 ps'∧Wn H' s2 sg'∧Zlg ps' sg'∧Bnd ps' js sg') ?_ ?_
  ·refine WS.of (Yg (Zo (r:=X9 K) (Wo hr) (Zk Z6 (pv 2) Zd) Zd (Zx _)) Zy Zy) ⟨_,rfl,_,_,rfl,rfl,(by show (0:Int)<2;decide),.inl ⟨rfl,_,rfl,Yk (fun z=>?_) (fun z=>?_)⟩⟩
   ·have hL:(ts.map V.ref).length=ps.length:=by rw [List.length_map,htl]
    refine WSs.last (Zn (i:=3) Xr.nd rfl (by first | exact Or.inl rfl | exact Or.inr rfl) (Zk Y3 (pv 3) (W2 (N':=["_law_k"]) rfl (Z9.std 1 [] rfl (by decide +kernel) (by decide +kernel) rfl trivial rfl rfl trivial) (Zd4 rfl T.n_range (Zb (Zk Zdj Zd (Zp (r:=Xb K) Xf (by rfl) T.n_len PySem.boot_len (Zb (pv 3) Za))) Za)) (fun _ _ _ _=>(Zq (i:=0) (by show (["_law_k"]:List Str).Nodup;decide +kernel) rfl (Or.inl (lookup_relabel_local rfl)) (Or.inr (lookup_relabel_local rfl)))) (fun _ _ _ _=>W9) (fun _ _ _ _=>(Zf (Zb Ze (Zb (Zk Y3 Ze (Y4 Y7 (by rfl) T.n_str PyProof.Rows.boot_str (Zb (pv 0) Za))) Za))))))) ⟨_,rfl,_,rfl,.inl ⟨pl,_,rfl,.inl (SqL.of hpl),41,_,rfl,rfl,_,rfl,by rw [hL];omega,by rw [hL];omega,fun D hD=>Zb1 (lo:=0) (fun i ys H'=>(∃vs:List Addr,ys=vs.map V.ref∧Paired (Zu H') vs ((List.range i).map fun k=>(("stop",nN k):Zc)))∧H' D=some (.lst ys)∧Same H H') ⟨⟨[],rfl,.nil⟩,Zj,Same.new hD⟩ ?_ ?_⟩⟩
    ·rintro i ys H1 hi ⟨⟨vs,rfl,hvs⟩,hD1,s1⟩
     rw [hL] at hi
     have hvl:=Paired.length hvs
     rw [List.length_map,List.length_range] at hvl
     have hi:i<41:=by omega
     refine ⟨Wr.set rfl,_,rfl,_,rfl,?_,.inr (.inl ⟨_,_,rfl,rfl,?_,sz (by simp),fun t1 H2 s2 n2 e2=>⟨s2.at hD1,by rw [List.length_map];exact Z4 (by omega),⟨vs++[t1],by rw [List.map_append];rfl,?_⟩,Zj,fun b o y=>?_⟩⟩)⟩
     ·rw [Int.zero_add];exact Zce (by omega)
     ·rw [Int.zero_add];exact sz (nfl i (by omega))
     ·rw [Int.zero_add] at e2
      have hD2:=s2.at hD1
      have off:∀{c:Addr} {xs:List V} {o:HO},H2 c=some (.tup xs)→upd H2 D o c=some (.tup xs):=fun {c xs o} z=>(Zi fun y=>by rw [y,hD2] at z;cases z).trans z
      rw [List.range_succ,List.map_append]
      exact Paired.snoc (Paired.mapP hvs fun _ _ r=>off (s2.at r)) (off e2)
     ·rw [Zi (Zh y hD)];exact s2.at (s1.at y)
    ·rintro ys H1 ⟨⟨vs,rfl,hvs⟩,hD1,s1⟩
     rw [hL,show ((41:Int)-((ps.length:Nat):Int)).toNat=41-ps.length by omega] at hvs
     have hvl:=Paired.length hvs
     rw [List.length_map,List.length_range] at hvl
     refine .inr (.inr ⟨pl,D,_,_,rfl,rfl,s1.at hpl,hD1,sz (by rw [List.length_map,List.length_map];omega),fun p2 H2 s2 n2 e2=>?_⟩)
     have s02:=s1.trans s2
     refine ⟨p2,sl,_,sg,rfl,s02,Zs.app (us:=vs) (Paired.mapP hts fun _ _ r=>r.mono s02) (Paired.mapP hvs fun _ _ r=>r.mono s2) e2,⟨gs,s02.at hsl,Paired.mapP hgs fun _ _ r=>s02.at r⟩,.inl ?_,⟨fun p hp=>?_,mid.sig,?_,mid.jl,by omega⟩⟩
     ·rw [List.length_append,List.length_map,List.length_range];omega
     ·rcases List.mem_append.mp hp with y|y
      ·exact mid.part p y
      ·obtain ⟨k,hk,rfl⟩:=List.mem_map.mp y
       have:=List.mem_range.mp hk
       exact ⟨by show ("stop" :Str)∈Y6;decide,Zua k (by omega)⟩
     ·rw [List.length_append,List.length_map,List.length_range];omega
   ·have hL:(gs.map V.ref).length=sg.length:=by rw [List.length_map,hgl]
    obtain ⟨x0,hx0,hx0p⟩:∃x0,ts[0]? =some x0∧Zu H x0 p0:=by
     rw [hps] at hts
     cases hts with
     | cons r _=>exact ⟨_,rfl,r⟩
    have hx0p:H x0=some (.tup [.str p0.1,.str p0.2]):=hx0p
    refine WSs.last (Zn (i:=5) Xr.nd rfl (by first | exact Or.inl rfl | exact Or.inr rfl) (Zk Y3 (pv 5) (W2 (N':=["_law_k", "_law_parts"]) rfl (Z9.std 1 [3] rfl (by decide +kernel) (by decide +kernel) rfl ⟨rfl,trivial⟩ rfl rfl ⟨⟨_,rfl,rfl,rfl⟩,trivial⟩) (Zd4 rfl T.n_range (Zb (Zk Zdj Zd (Zp (r:=Xb K) Xf (by rfl) T.n_len PySem.boot_len (Zb (pv 5) Za))) Za)) (fun _ _ _ _=>(Zq (i:=0) (by show (["_law_k", "_law_parts"]:List Str).Nodup;decide +kernel) rfl (Or.inl (lookup_relabel_local rfl)) (Or.inr (lookup_relabel_local rfl)))) (fun _ _ _ _=>W9) (fun _ _ _ _=>(Zf (Zb (Zk Y3 Ze (Y4 Y7 (by rfl) T.n_str PyProof.Rows.boot_str (Zb (pv 0) Za))) (Zb (Zt (r:=rIx K) Zm (Zt (r:=rIx K) Zm (pv 1) Zd (fun _ _=>rfl)) Zd (fun _ _=>rfl)) (Zb Ze Za)))))))) ⟨_,rfl,_,rfl,.inl ⟨sl,_,rfl,.inl (SqL.of hsl),41,_,rfl,rfl,_,rfl,by rw [hL];omega,by rw [hL];omega,fun D hD=>Zb1 (lo:=0) (fun i ys H'=>(∃vs:List Addr,ys=vs.map V.ref∧Paired (X5 H') vs ((List.range i).map fun k=>((nN k,p0.2, "a"):G3)))∧H' D=some (.lst ys)∧Same H H') ⟨⟨[],rfl,.nil⟩,Zj,Same.new hD⟩ ?_ ?_⟩⟩
    ·rintro i ys H1 hi ⟨⟨vs,rfl,hvs⟩,hD1,s1⟩
     rw [hL] at hi
     have hvl:=Paired.length hvs
     rw [List.length_map,List.length_range] at hvl
     have hi:i<42:=by omega
     refine ⟨Wr.set rfl,_,rfl,_,rfl,?_,.inr (.inl ⟨_,_,rfl,rfl,?_,_,rfl,.inl ⟨pl,_,0,.ref x0,rfl,rfl,SqL.of (s1.at hpl),Zr (j:=0) (by rw [List.getElem?_map,hx0];rfl),.inr (.inl ⟨x0,_,1,_,rfl,rfl,SqT.of (s1.at hx0p),Zr (j:=1) rfl,sz (by simp),fun t1 H2 s2 n2 e2=>⟨s2.at hD1,by rw [List.length_map];exact Z4 (by omega),⟨vs++[t1],by rw [List.map_append];rfl,?_⟩,Zj,fun b o y=>?_⟩⟩)⟩⟩)⟩
     ·rw [Int.zero_add];exact Zce (by omega)
     ·rw [Int.zero_add];exact sz (nfl i (by omega))
     ·rw [Int.zero_add] at e2
      have hD2:=s2.at hD1
      have off:∀{c:Addr} {xs:List V} {o:HO},H2 c=some (.tup xs)→upd H2 D o c=some (.tup xs):=fun {c xs o} z=>(Zi fun y=>by rw [y,hD2] at z;cases z).trans z
      rw [List.range_succ,List.map_append]
      exact Paired.snoc (Paired.mapP hvs fun _ _ r=>off (s2.at r)) (off e2)
     ·rw [Zi (Zh y hD)];exact s2.at (s1.at y)
    ·rintro ys H1 ⟨⟨vs,rfl,hvs⟩,hD1,s1⟩
     rw [hL,show ((41:Int)-((sg.length:Nat):Int)).toNat=41-sg.length by omega] at hvs
     have hvl:=Paired.length hvs
     rw [List.length_map,List.length_range] at hvl
     refine .inr (.inr ⟨sl,D,_,_,rfl,rfl,s1.at hsl,hD1,sz (by rw [List.length_map,List.length_map];omega),fun s2' H2 s2 n2 e2=>?_⟩)
     have s02:=s1.trans s2
     rw [←List.map_append] at e2
     refine ⟨pl,s2',ps,_,rfl,s02,⟨ts,s02.at hpl,Paired.mapP hts fun _ _ r=>r.mono s02⟩,⟨gs++vs,e2,Paired.append (Paired.mapP hgs fun _ _ r=>s02.at r) (Paired.mapP hvs fun _ _ r=>s2.at r)⟩,.inr ?_,⟨mid.part,fun g hg=>?_,by omega,mid.jl,?_⟩⟩
     ·rw [List.length_append,List.length_map,List.length_range];omega
     ·rcases List.mem_append.mp hg with y|y
      ·exact mid.sig g y
      ·obtain ⟨k,hk,rfl⟩:=List.mem_map.mp y
       have:=List.mem_range.mp hk
       exact Zua k (by omega)
     ·rw [List.length_append,List.length_map,List.length_range];omega
  rintro σ H1 ⟨p2,s2',ps',sg',rfl,s1,hP,hS,many,bnd⟩
  refine WSs.last (Z8 (Zf (Zb (Zf (Zb (pv 3) (Zb (pv 4) (Zb (pv 5) Za)))) (Zb (Zl (Zb Zd Za)) Za)))) ⟨_,rfl,_,rfl,_,rfl,sz (by simp),fun y H2 s2 n2 e2=>⟨sz (by simp),fun l H3 s3 n3 e3=>⟨sz (by simp),fun r H4 s4 n4 e4=>?_⟩⟩⟩
  have s14:=s2.trans (s3.trans s4)
  exact q r y l H4 ps' js sg' 0 (s1.trans s14) e4 ⟨p2,jl,s2',(s3.trans s4).at e2,hP.mono s14,hJ.mono (s1.trans s14),hS.mono s14⟩ (s4.at e3) many bnd (fun y=>absurd y (by omega)) (fun y=>absurd y w0)
theorem Zk5(T:Tx K mg){k:Nat}(h:4≤k:=by decide):Yf P w K mg base CX0 k T.d__law_wrong.f T.d__law_wrong.fd ["_law_yard", "_law_way", "_law_cell"] Zwu:=(Zim T).mono h
theorem noT{u:Tr}(z:(if true=true then !decide (u=u) else decide (u=u))=true):False:=by rw [if_pos rfl,decide_eq_true rfl] at z;exact absurd z (by decide)
theorem Zsm{ps:List Zc}{js:List (Zc×Zc)}(net:Net ps js [])(h:ps≠[]):2≤ps.length∧js≠[]:=by
 obtain ⟨p,pr,rfl⟩:∃p pr,ps=p ::pr:=by
  cases ps with
  | nil=>exact absurd rfl h
  | cons a l=>exact ⟨a,l,rfl⟩
 obtain ⟨x,r,hx⟩:=Zfr p.1
 have m:((p.2,x):Zc)∈Yr js:=net.flat.mem_iff.mpr (List.mem_flatMap.mpr ⟨p,List.mem_cons_self,List.mem_map.mpr ⟨x,by rw [hx];exact List.mem_cons_self,rfl⟩⟩)
 obtain ⟨j,hj,_⟩:=List.mem_flatMap.mp m
 refine ⟨?_,fun z=>by rw [z] at hj;cases hj⟩
 cases pr with
 | cons a l=>show 2≤l.length+2;omega
 | nil =>
  exfalso
  have one:∀e∈Yr js,e.1=p.2:=fun e he=>by
   obtain ⟨p',hp',hm⟩:=List.mem_flatMap.mp (net.flat.mem_iff.mp he)
   obtain ⟨y,_,rfl⟩:=List.mem_map.mp hm
   rw [List.mem_singleton.mp hp']
  have:=Zbz hj
  exact net.apart j hj ((one _ this.1).trans (one _ this.2).symm)
theorem Zbe.nil{ps:List Zc}:Zbe ps []:=⟨fun _ z=>(nomatch z),.nil,.nil,fun _ z=>(nomatch z),Nat.zero_le _⟩
theorem Wn.im{H:Hp}{l:Addr}{sg:List G3}(h:Wn H l sg):Im K H 2 (.lst (sg.map trG)) (.ref l):=let ⟨_,h1,h2⟩:=h;Im.lst (SqL.of h1) (Zkb h2)
theorem Zsi:Rf [(("plain", "a"):Zc)] [] [] 2:=by
 refine ⟨by rintro (z|z) <;>exact absurd z (by decide),⟨by decide +kernel,by decide +kernel⟩,.inl fun g=>?_⟩
 exact absurd g.2.2.2 (by decide +kernel)
def Zny(K:Frag):Sp:=fun vs H Q _=>∃(a:Addr) (ns:List Int),vs=[.ref a]∧SqL K H a (ns.map V.int)∧ns.length≤63∧∀H',Q (.bl true) H'
theorem Zvu{f:Addr}{fd:FuncData} (F:Fun K "law" "law" Ze1 f fd) (T:Tx K mg):Yf P w K mg base CX0 9 f fd ["_law_script"] (Zny K):=by
 refine F.okW Zch (fun vs H Q E h=>?_) (fun cdv A outer s H vs Q E hr h=>?_)
 ·obtain ⟨a,ns,rfl,_⟩:=h
  rfl
 ·obtain ⟨a,ns,rfl,hS,hns,q⟩:=h
  refine WSs.step (Zn (i:=1) Zch.nd rfl (by first | exact Or.inl rfl | exact Or.inr rfl) (Z5 (Zh2 T) hr rfl T.m__law_yard_by T.d__law_yard_by.F.kp T.d__law_yard_by.b .nil Yn (Zb (Z5 (Zkm T) hr rfl T.m__law_cells T.d__law_cells.F.kp T.d__law_cells.b .nil Yn (Zb (pv 0) (Zb Zd (Zb Zd Za)))) (Zb (Z5 (Zb2 T) hr rfl T.m__law_cell_at T.d__law_cell_at.F.kp T.d__law_cell_at.b .nil Yn (Zb (pv 0) (Zb Zd Za))) Za)))) ⟨_,rfl,a,ns,3,17,rfl,hS,hns,by decide,by decide,fun cl H1 cs s1 n1 e1 hc hcl=>⟨_,rfl,a,ns,0,rfl,s1.seq hS,cl,_,cs,rfl,SqL.of e1,fun c h=>(hc c h).1,hcl,fun t0 pl0 jl0 sl0 H2 ps0 js0 sg0 s2 ht0 hP0 hJ0 hG0 yo=>?_⟩⟩
  have hS2:=(s1.trans s2).seq hS
  refine WSs.step (Zn (i:=2) Zch.nd rfl (by first | exact Or.inl rfl | exact Or.inr rfl) (Z5 (Zb2 T) hr rfl T.m__law_cell_at T.d__law_cell_at.F.kp T.d__law_cell_at.b .nil Yn (Zb (pv 0) (Zb Zd Za)))) ⟨_,rfl,a,ns,1,rfl,hS2,?_⟩
  clear hc hcl e1 n1 s1 s2 hS
  refine WSs.cut (fun σ' H'=>∃(t:Addr) (ps:List Zc) (js:List (Zc×Zc)) (sg:List G3),σ'=[some (.ref a),some (.ref t),some (.int (Zas ns 1)),none,none,none,none]∧Same H2 H'∧Zar H' t ps js sg∧Zbo ps js∧Zme ps sg) ?_ ?_
  ·refine WS.of (Yg (Zo (r:=X9 K) (Wo hr) (Zk Z6 (pv 2) Zd) Zd (Zx _)) Zy Z2) ⟨_,rfl,_,_,rfl,rfl,(by show (0:Int)<2;decide),.inl ⟨rfl,_,rfl,Yk (fun _=>?_) (fun _=>⟨t0,ps0,js0,sg0,rfl,Same.refl _,⟨pl0,jl0,sl0,ht0,hP0,hJ0,hG0⟩,yo.baseP,yo.fillS.bas⟩)⟩⟩
   exact WSs.last (Zn (i:=1) Zch.nd rfl (by first | exact Or.inl rfl | exact Or.inr rfl) (Z5 (Zi0 T) hr rfl T.m__law_filled T.d__law_filled.F.kp T.d__law_filled.b .nil Yn (Zb (pv 1) Za))) ⟨_,rfl,t0,ps0,js0,sg0,rfl,⟨pl0,jl0,sl0,ht0,hP0,hJ0,hG0⟩,yo,fun t' H' ps' js' sg' s' hY bp fs _=>⟨t',ps',js',sg',rfl,s',hY,bp,fs.bas⟩⟩
  rintro σ H3 ⟨t,ps,js,sg,rfl,s3,hY,bp,bs⟩
  have hS3:=s3.seq hS2
  clear hG0 hJ0 hP0 ht0 yo hS2
  have yv:Zjp ps js sg:=⟨bp.net,bp.len,bp.name,bs.sigs⟩
  have yv0:Zjp ps js []:=⟨bp.net,bp.len,bp.name,Zbe.nil⟩
  have plen:=bp.len
  have slen:=bs.sigs.len
  have j80:=bp.net.j80 plen
  have pasc:∀p∈ps,p.1∈Y6∧Za2 p.2:=fun p hp=>⟨bp.net.kind p hp,(bp.name p hp).asc⟩
  obtain ⟨pl,jl,sl,ht,⟨ts,hpl,hts⟩,hJ,⟨gs,hsl,hgs⟩⟩:=id hY
  refine WSs.step (Zn (i:=3) Zch.nd rfl (by first | exact Or.inl rfl | exact Or.inr rfl) (Zap (Zh3 T _) T.mkTracks (Zay T) hr rfl T.mTracks T.d_Tracks___init__.b1 (.cons T.d_Tracks___init__.r .nil) Zjf (Znr T _) (Zb (W2 (N':=["_law_kind", "_law_name"]) rfl (Z9.std 2 [] rfl (by decide +kernel) (by decide +kernel) rfl trivial rfl rfl trivial) (Yx (Zt (r:=rIx K) Zm (pv 1) Zd (fun _ _=>rfl))) (fun _ _ _ _=>(Zcx (K:=K) (n:=2) rfl rfl (Zw (Zq (i:=0) (by show (["_law_kind", "_law_name"]:List Str).Nodup;decide +kernel) rfl (Or.inl (lookup_relabel_local rfl)) (Or.inr (lookup_relabel_local rfl))) (Zw (Zq (i:=1) (by show (["_law_kind", "_law_name"]:List Str).Nodup;decide +kernel) rfl (Or.inl (lookup_relabel_local rfl)) (Or.inr (lookup_relabel_local rfl))) Y8)))) (fun _ _ _ _=>W9) (fun _ _ _ _=>(Z5 (Zdk T) hr rfl T.m__law_part T.d__law_part.F.kp T.d__law_part.b .nil Yn (Zb (pv 0) (Zb (pv 1) Za))))) (Zb (Zt (r:=rIx K) Zm (pv 1) Zd (fun _ _=>rfl)) Za)))) ⟨_,rfl,.inr (.inl ⟨t,_,0,_,rfl,rfl,SqT.of ht,Zr (j:=0) rfl,pl,rfl,⟨_,SqL.of hpl⟩,fun D hD=>Zem (K:=K) (T:=T) hpl hts (by omega) hD (fun xs H4 s4 hD4 hxs=>?m1) ?m2 ?m3 ?m4⟩)⟩
  case m2=>rfl
  case m3=>exact fun u p H' N h n=>⟨u,_,rfl,SqT.of h,rfl,_,_,rfl,_,_,rfl,rfl,n⟩
  case m4=>exact fun p H' N hm k=>⟨_,rfl,_,rfl,p.1,p.2,rfl,(pasc p hm).1,(pasc p hm).2.2,k⟩
  refine ⟨_,rfl,.inr (.inl ⟨t,_,1,_,rfl,rfl,SqT.of (s4.at ht),Zr (j:=1) rfl,D,jl,xs,ps,js,[],rfl,hD4,hxs,hJ.mono s4,.inl ⟨rfl,rfl⟩,fun p hp=>(pasc p hp).2,fun _ z=>(nomatch z),by omega,by omega,by decide,fun _ x H5 s5 n5 tr=>?_,fun c r=>absurd r (yv0.good.no c)⟩)⟩
  have s35:=s4.trans s5
  refine WSs.step (Yg (PW.pt (Zro (Zo (r:=Zfm K) (Zgv hr) (Ze0 (Z5 (Zik T) hr rfl T.m__law_tracks T.d__law_tracks.F.kp T.d__law_tracks.b .nil Yn (Zb (pv 1) Za)) T.clTracks T.mtTracks_signals (Zcn T) hr T.d_Tracks_signals.b .nil Yn) (Zp (r:=Zlc K) Zib (by rfl) T.n_sorted PyProof.Rows.boot_sorted (Zb (Zt (r:=rIx K) Zm (pv 1) Zd (fun _ _=>rfl)) Za)) (Zx _)) (Znb (Zo (r:=Zfm K) (Zgv hr) (Ze0 (pv 3) T.clTracks T.mtTracks_signals (Zcn T) hr T.d_Tracks_signals.b .nil Yn) (Zl Za) (Zx _))))) Zy Z2) ⟨_,rfl,t,ps,js,sg,rfl,hY.mono s35,yv,fun x2 H6 s6 n6 tr2=>?_⟩
  obtain ⟨dx2,_,_,_,_,_,_,_,_,h12,_⟩:=id tr2.ex
  have s36:=s35.trans s6
  refine ⟨x2,dx2,_,rfl,h12,rfl,x2,ps,js,sg,rfl,tr2,yv,fun sg1 ml H7 pG bG s7 n7 e7=>?_⟩
  have s37:=s36.trans s7
  refine ⟨_,rfl,.inr (.inl ⟨t,_,2,_,rfl,rfl,SqT.of (s37.at ht),Zr (j:=2) rfl,Zjx (s37.at hsl) (Paired.mapP hgs fun _ _ r=>s37.at r) bs.sigs.nd slen fun ts' sg2 pG2 bG2 hts' el H8 s8 n8 e8=>?_⟩)⟩
  obtain rfl:=Zpf bG bG2 pG pG2 bs.sigs.nd
  have s38:=s37.trans s8
  refine .inr (.inl ⟨2,_,_,by decide,.inr ⟨_,_,rfl,rfl⟩,(e7.mono s8).im,Wn.im ⟨ts',e8,Paired.mapP hts' fun _ _ r=>s8.at r⟩,_,rfl,Yk (fun z=>(noT z).elim) (fun _=>?_)⟩)
  have tr8:=tr.mono (s6.trans (s7.trans s8))
  obtain ⟨dx,_,_,_,_,_,_,_,_,h1,_⟩:=id tr8.ex
  refine ⟨_,rfl,x,dx,_,rfl,h1,rfl,x,ps,js,[],rfl,tr8,yv0,fun sg3 ml3 H9 pG3 bG3 s9 n9 e9=>⟨sz (by simp),fun el2 H10 s10 n10 e10=>?_⟩⟩
  obtain rfl:sg3=[]:=List.perm_nil.mp pG3
  refine .inr (.inl ⟨2,.lst [],.lst [],by decide,.inr ⟨_,_,rfl,rfl⟩,(e9.mono s10).im,Im.lst (n:=1) (SqL.of e10) .nil,_,rfl,Yk (fun z=>(noT z).elim) (fun _=>?_)⟩)
  have s310:=s38.trans (s9.trans s10)
  have hS10:=s310.seq hS3
  have hY10:=hY.mono s310
  clear hS3 e10 n10 e9 n9 e8 n8 hts' e7 n7 n6 n5 hxs hD4 hgs hsl hJ
  clear hD h1 tr8 h12 tr2 tr
  have ht10:=s310.at ht
  have hpl10:=s310.at hpl
  have hts10:Paired (Zu H10) ts ps:=Paired.mapP hts fun _ _ r=>r.mono s310
  clear ht hpl hts hY s10 s9 s38 s8 s37 s7 s36 s6 s35 s5 s4 s310
  refine WSs.cut (fun σ' H'=>σ'=[some (.ref a),some (.ref t),some (.int (Zas ns 1)),some (.ref x),none,none,none]∧Same H10 H'∧ps≠[]) ?_ ?_
  ·refine WS.of (Yg (Zo (r:=X9 K) (Wo hr) (Zt (r:=rIx K) Zm (pv 1) Zd (fun _ _=>rfl)) (Zl Za) (Zx _)) Zy Z2) ⟨_,rfl,.inr (.inl ⟨t,_,0,_,rfl,rfl,SqT.of ht10,Zr (j:=0) rfl,sz (by simp),fun el H11 s11 n11 e11=>.inr (.inl ⟨2,.lst (ps.map trP),.lst [],by decide,.inr ⟨_,_,rfl,rfl⟩,Im.lst (SqL.of (s11.at hpl10)) (Zdu (Paired.mapP hts10 fun _ _ r=>s11.at r)),Im.lst (n:=1) (SqL.of e11) .nil,_,rfl,Yk (fun z=>?_) (fun z=>⟨rfl,s11,fun y=>z (by rw [y,if_neg Bool.false_ne_true];exact decide_eq_true rfl)⟩)⟩)⟩)⟩
   refine WSs.last (Z8 (Zb9 (r:=X9 K) (Wo hr) (Z5 (Zdy T) hr rfl T.m__law_refusal T.d__law_refusal.F.kp T.d__law_refusal.b .nil Yn (Zb (Zl (Zb (Zf (Zb Ze (Zb Ze Za))) Za)) (Zb (Zl Za) (Zb (Zl Za) Za)))) (Zl (Zb Zd Za)) (Zx _))) ⟨sz (by simp),fun a1 H12 s12 n12 e12=>⟨sz (by simp),fun al H13 s13 n13 e13=>⟨sz (by simp),fun bl H14 s14 n14 e14=>⟨sz (by simp),fun cl H15 s15 n15 e15=>⟨al,bl,cl,[(("plain", "a"):Zc)],[],[],2,rfl,⟨[a1],(s14.trans s15).at e13,.cons ((s13.trans (s14.trans s15)).at e12) .nil⟩,⟨[],s15.at e14,.nil⟩,⟨[],e15,.nil⟩,fun p hp=>?_,fun _ z=>(nomatch z),by decide,by decide,by decide,Zsi,fun l H16 s16 e16=>⟨sz (by simp),fun l2 H17 s17 n17 e17=>?_⟩⟩⟩⟩⟩⟩
   ·rw [List.mem_singleton.mp hp]
    exact ⟨by show ("plain" :Str)∈Y6;decide,by decide +kernel,by decide +kernel⟩
   refine .inr (.inl ⟨1,.lst [.int 2],.lst [.int 2],by decide,.inr ⟨_,_,rfl,rfl⟩,Im.lst (n:=0) (SqL.of (s17.at e16)) (.cons (.int _) .nil),Im.lst (n:=0) (SqL.of e17) (.cons (.int _) .nil),?_⟩)
   rw [if_neg (by decide),decide_eq_true rfl]
   exact q _
  rintro σ H11 ⟨rfl,s11,pne⟩
  obtain ⟨two,jne⟩:=Zsm bp.net pne
  have mid:Mid ps js sg:=⟨pasc,fun g hg=>(bs.sigs.name g hg).asc,two,plen,by omega,slen⟩
  have hS11:=s11.seq hS10
  have hY11:=hY10.mono s11
  obtain ⟨w0,hw0,hw4⟩:=Zbq (a:=Zas ns 1 / 2) (n:=4) (by decide)
  obtain ⟨w1,hw1,hw14⟩:=Zbq (a:=Zas ns 1 / 24) (n:=4) (by decide)
  refine WSs.step (Zn (i:=4) Zch.nd rfl (by first | exact Or.inl rfl | exact Or.inr rfl) (Zl (Zb (Zk Z6 (Zk Yh (pv 2) Zd) Zd) Za))) ⟨_,rfl,_,_,rfl,rfl,⟨by decide,by decide⟩,_,_,rfl,rfl,(by show (0:Int)<4;decide),sz (by simp),fun wl H12 s12 n12 e12=>?_⟩
  have e12:H12 wl=some (.lst [.int ((w0:Nat):Int)]):=by rw [←show Zas ns 1 / 2%4=((w0:Nat):Int) from hw0];exact e12
  refine WSs.cut (fun σ' H'=>∃ws:List Nat,σ'=[some (.ref a),some (.ref t),some (.int (Zas ns 1)),some (.ref x),some (.ref wl),none,none]∧Same H11 H'∧H' wl=some (.lst (ws.map fun w=>V.int ((w:Nat):Int)))∧(ws=[w0]∨(ws=[w0,w1]∧w0<w1))) ?_ ?_
  ·refine WS.of (Yg (PW.pt (Zbi (Zo (r:=X9 K) (Wo hr) (Zk Z6 (Zk Yh (pv 2) Zd) Zd) Zd (Zx _)) (Zaq (Zo Zgf (Zk Z6 (Zk Yh (pv 2) Zd) Zd) (Zt (r:=rIx K) Zm (pv 4) Zd (fun _ _=>rfl)) (Zx _))))) Zy Z2) ⟨_,rfl,_,_,rfl,rfl,⟨by decide,by decide⟩,_,_,rfl,rfl,(by show (0:Int)<3;decide),.inl ⟨rfl,_,rfl,Yk (fun z=>⟨_,rfl,_,_,rfl,rfl,⟨by decide,by decide⟩,_,_,rfl,rfl,(by show (0:Int)<4;decide),_,rfl,.inl ⟨wl,_,0,_,rfl,rfl,SqL.of e12,Zr (j:=0) rfl,_,_,rfl,rfl,_,rfl,Yk (fun z2=>?_) (fun _=>⟨[w0],rfl,s12,e12,.inl rfl⟩)⟩⟩) (fun _=>⟨[w0],rfl,s12,e12,.inl rfl⟩)⟩⟩
   have z2:((w0:Nat):Int)<Zas ns 1 / 24%4:=of_decide_eq_true z2
   rw [show Zas ns 1 / 24%4=((w1:Nat):Int) from hw1] at z2
   refine WSs.last (Xt (Zda PySem.F.plainAttrs_list PySem.F.slot_list_append PySem.F.type_list_append Xp (pv 4) (Zb (Zk Z6 (Zk Yh (pv 2) Zd) Zd) Za))) ⟨_,rfl,.inl ⟨rfl,_,SqL.of e12⟩,_,rfl,_,_,rfl,rfl,⟨by decide,by decide⟩,_,_,rfl,rfl,(by show (0:Int)<4;decide),wl,_,_,rfl,rfl,e12,Z4 (by show 1≤1000;decide),?_⟩
   refine ⟨[w0,w1],rfl,s12.upd0 n12,?_,.inr ⟨rfl,by omega⟩⟩
   rw [Zj]
   show some (HO.lst [V.int ((w0:Nat):Int),V.int (Zas ns 1 / 24%4)])=_
   rw [show Zas ns 1 / 24%4=((w1:Nat):Int) from hw1]
   rfl
  rintro σ H13 ⟨ws,rfl,s13,e13,hws⟩
  refine WSs.step (Zn (i:=5) Zch.nd rfl (by first | exact Or.inl rfl | exact Or.inr rfl) (Zl Za)) ⟨sz (by simp),fun dl0 H14 s14 n14 e14=>?_⟩
  have s1114:=s13.trans s14
  have e14w:=s14.at e13
  refine WSs.step (Zae PassesOwn.never rfl (Yx (pv 4)) (Zq (i:=6) Zch.nd rfl (by first | exact Or.inl rfl | exact Or.inr rfl)) Zy) ⟨_,rfl,wl,rfl,⟨_,SqL.of e14w⟩,Zba (K:=K) (xs:=ws.map fun w=>V.int ((w:Nat):Int)) (fun i σ H'=>∃(t' dl:Addr) (ps':List Zc) (js':List (Zc×Zc)) (sg':List G3) (o6:Option V),σ=[some (.ref a),some (.ref t'),some (.int (Zas ns 1)),some (.ref x),some (.ref wl),some (.ref dl),o6]∧Same H14 H'∧Zar H' t' ps' js' sg'∧(i=0→ps'=ps∧js'=js∧sg'=sg)∧(∀w,0<i→ws[i-1]? =some w→∃k:Nat,Rf ps' js' sg' k∧Bnd ps' js' sg'∧H' dl=some (.lst [.int (k:Nat)])∧(w≤2→Mid ps' js' sg')∧(w=0→ps'=ps∧js'=js))) ⟨t,dl0,ps,js,sg,none,rfl,Same.refl _,hY11.mono s1114,fun _=>⟨rfl,rfl,rfl⟩,fun w h=>absurd h (by decide)⟩ ?_ ?_ ?_⟩
  ·rintro i σ H' _ ⟨_,_,_,_,_,_,_,s15,_⟩
   exact SqL.of (s15.at e14w)
  ·rintro i v σ H15 hi ⟨t',dl,ps',js',sg',o6,rfl,s15,hY15,hi0,hi1⟩
   rw [List.getElem?_map] at hi
   obtain ⟨w,hw,rfl⟩:=Option.map_eq_some_iff.mp hi
   obtain ⟨wlt,mid',pre0,pre1⟩:w<4∧Mid ps' js' sg'∧(w=0→Zbo ps' js'∧Zme ps' sg')∧(w=1→Zbo ps' js'∧js'≠[]):=by
    match i,hw with
    | 0,hw =>
     obtain ⟨rfl,rfl,rfl⟩:=hi0 rfl
     have:w=w0:=by
      rcases hws with y|⟨y,_⟩ <;>(rw [y] at hw;exact (Option.some.inj hw).symm)
     exact ⟨by omega,mid,fun _=>⟨bp,bs⟩,fun _=>⟨bp,jne⟩⟩
    | 1,hw =>
     rcases hws with y|⟨y,lt⟩
     ·rw [y] at hw;cases hw
     ·have hw:w=w1:=by rw [y] at hw;exact (Option.some.inj hw).symm
      obtain ⟨k,_,_,_,m',e'⟩:=hi1 w0 (by decide) (by rw [y];rfl)
      refine ⟨by omega,m' (by omega),fun z=>absurd z (by omega),fun z=>?_⟩
      obtain ⟨rfl,rfl⟩:=e' (by omega)
      exact ⟨bp,jne⟩
    | i+2,hw=>rcases hws with y|⟨y,_⟩ <;>(rw [y] at hw;cases hw)
   refine WSs.last (Zej (Z5 (Zk5 T) hr rfl T.m__law_wrong T.d__law_wrong.F.kp T.d__law_wrong.b .nil Yn (Zb (pv 1) (Zb (pv 6) (Zb (Z5 (Zaw T) hr rfl T.m__law_mixed T.d__law_mixed.F.kp T.d__law_mixed.b .nil Yn (Zb (Z5 (Zb2 T) hr rfl T.m__law_cell_at T.d__law_cell_at.F.kp T.d__law_cell_at.b .nil Yn (Zb (pv 0) (Zb Zd Za))) (Zb (pv 6) Za))) Za)))) (Zax rfl (Zw (Zq (i:=1) Zch.nd rfl (by first | exact Or.inl rfl | exact Or.inr rfl)) (Zw (Zq (i:=5) Zch.nd rfl (by first | exact Or.inl rfl | exact Or.inr rfl)) Y8)))) ⟨_,rfl,_,rfl,_,rfl,a,ns,2,rfl,(s1114.trans s15).seq hS11,_,rfl,_,_,rfl,t',w,_,ps',js',sg',rfl,wlt,hY15,mid',pre0,pre1,fun r y l H16 ps2 js2 sg2 k s16 e16 hY16 e16l rf bnd m2 e2=>?_⟩
   refine ⟨r,_,rfl,SqT.of e16,rfl,_,_,rfl,_,_,rfl,rfl,y,l,ps2,js2,sg2,_,rfl,s15.trans s16,hY16,fun z=>absurd z (by omega),fun w' _ hw'=>?_⟩
   rw [show i+1-1=i by omega,hw] at hw'
   cases hw'
   refine ⟨k,rf,bnd,e16l,m2,fun z=>?_⟩
   obtain ⟨rfl,rfl⟩:=e2 z
   match i,hw with
   | 0,_=>obtain ⟨rfl,rfl,_⟩:=hi0 rfl;exact ⟨rfl,rfl⟩
   | 1,hw' =>
    rcases hws with y|⟨y,lt⟩
    ·rw [y] at hw';cases hw'
    ·have:w=w1:=by rw [y] at hw';exact (Option.some.inj hw').symm
     omega
   | i+2,hw'=>rcases hws with y|⟨y,_⟩ <;>(rw [y] at hw';cases hw')
  ·rintro σ H15 ⟨t',dl,ps',js',sg',o6,rfl,s15,⟨pl',jl',sl',ht',hP',hJ',hG'⟩,_,hi1⟩
   obtain ⟨w,hw⟩:∃w,ws[(ws.map fun w=>V.int ((w:Nat):Int)).length-1]? =some w:=by
    rw [List.length_map]
    rcases hws with y|⟨y,_⟩ <;>(rw [y];exact ⟨_,rfl⟩)
   obtain ⟨k,rf,bnd,edl,_,_⟩:=hi1 w (by rw [List.length_map];rcases hws with y|⟨y,_⟩ <;>(rw [y];exact Nat.succ_pos _)) hw
   refine WSs.last (Z8 (Zb9 (r:=X9 K) (Wo hr) (Z5 (Zdy T) hr rfl T.m__law_refusal T.d__law_refusal.F.kp T.d__law_refusal.b .nil Yn (Zb (Zt (r:=rIx K) Zm (pv 1) Zd (fun _ _=>rfl)) (Zb (Zt (r:=rIx K) Zm (pv 1) Zd (fun _ _=>rfl)) (Zb (Zt (r:=rIx K) Zm (pv 1) Zd (fun _ _=>rfl)) Za)))) (pv 5) (Zx _))) ⟨_,rfl,.inr (.inl ⟨t',_,0,_,rfl,rfl,SqT.of ht',Zr (j:=0) rfl,_,rfl,.inr (.inl ⟨t',_,1,_,rfl,rfl,SqT.of ht',Zr (j:=1) rfl,_,rfl,.inr (.inl ⟨t',_,2,_,rfl,rfl,SqT.of ht',Zr (j:=2) rfl,pl',jl',sl',ps',js',sg',k,rfl,hP',hJ',hG',bnd.part,bnd.sig,bnd.pl,bnd.jl,bnd.sl,rf,fun l H16 s16 e16=>⟨_,rfl,?_⟩⟩)⟩)⟩)⟩
   refine .inr (.inl ⟨1,.lst [.int (k:Nat)],.lst [.int (k:Nat)],by decide,.inr ⟨_,_,rfl,rfl⟩,Im.lst (n:=0) (SqL.of e16) (.cons (.int _) .nil),Im.lst (n:=0) (SqL.of (s16.at edl)) (.cons (.int _) .nil),?_⟩)
   rw [if_neg (by decide),decide_eq_true rfl]
   exact q _
end
end K14
end
namespace K14
open PySem L2 NM YM
section
end
theorem Zat{α:Type}:∀{us:List α},us.length=1→∃a,us=[a]
 | [a],_=>⟨a,rfl⟩
theorem Zbc{α:Type}:∀{us:List α},us.length=2→∃a b,us=[a,b]
 | [a,b],_=>⟨a,b,rfl⟩
theorem Zh8{α:Type}:∀{us:List α},us.length=3→∃a b c,us=[a,b,c]
 | [a,b,c],_=>⟨a,b,c,rfl⟩
theorem Zxf{α:Type}:∀{us:List α},us.length=4→∃a b c d,us=[a,b,c,d]
 | [a,b,c,d],_=>⟨a,b,c,d,rfl⟩
theorem all_mk{l:PySem.W.OpenLaw}{w:World}{K:Frag}{h:Heap}{mg:Str→Option Value}{fa f0 f1 f2 f3 f4 f5 f6 f7 f8 f9 f10 f11 f12 f13 f14 f15 f16 f17 f18 f19 f20 f21 f22 f23 f24 f25 f26 f27 f28 f29 f30 f31 f32 f33 f34 f35 f36 f37 f38 f39 f40 f41 f42 f43 f44 f45 cPart cPlain cStop cGate cPoints cCross cTracks cYardError cBadName cBadEnd cTooMany cBadWay cHeld cSeen cStiff cNoTrain cNoTurn cOneFault cBadText:Addr}(X:K.In h)(G:h.Ns mainGlobals mg) (hfa:mg "law" =some (.ref fa))
  {tk_LETTERS:Tok} {tk_FIGURES:Tok}
  {td22:Addr} {dod22:Option Addr} {dsl22:Array (Option Value)} {doc22:Value} {dn22:Nat} {tk_LONGEST_NAME:Tok} {tk_MOST_PARTS:Tok} {tk_MOST_SIGNALS:Tok}
  {od0 an0 od1 an1 od2 an2 od3 an3 od4 an4 od5 an5 od6 an6 od7 an7 od8 an8 od9 an9 od10 an10 od11 an11 od12 an12 od13 an13 od14 an14 od15 an15 od16 an16 od17 an17 od18 an18 od19 an19 od20 an20 od21 an21 od22 an22 od23 an23 od24 an24 od25 an25 od26 an26 od27 an27 od28 an28 od29 an29 od30 an30 od31 an31 od32 an32 od33 an33 od34 an34 od35 an35 od36 an36 od37 an37 od38 an38 od39 an39 od40 an40 od41 an41 od42 an42 od43 an43 od44 an44 od45 an45:Option Addr} {sl0 sl1 sl2 sl3 sl4 sl5 sl6 sl7 sl8 sl9 sl10 sl11 sl12 sl13 sl14 sl15 sl16 sl17 sl18 sl19 sl20 sl21 sl22 sl23 sl24 sl25 sl26 sl27 sl28 sl29 sl30 sl31 sl32 sl33 sl34 sl35 sl36 sl37 sl38 sl39 sl40 sl41 sl42 sl43 sl44 sl45:Array (Option Value)} {oc0 kV0 dc0 pm0 cd0 ct0 oc1 kV1 dc1 pm1 cd1 ct1 oc2 kV2 dc2 pm2 cd2 ct2 oc3 kV3 dc3 pm3 cd3 ct3 oc4 kV4 dc4 pm4 cd4 ct4 oc5 kV5 dc5 pm5 cd5 ct5 oc6 kV6 dc6 pm6 cd6 ct6 oc7 kV7 dc7 pm7 cd7 ct7 oc8 kV8 dc8 pm8 cd8 ct8 oc9 kV9 dc9 pm9 cd9 ct9 oc10 kV10 dc10 pm10 cd10 ct10 oc11 kV11 dc11 pm11 cd11 ct11 oc12 kV12 dc12 pm12 cd12 ct12 oc13 kV13 dc13 pm13 cd13 ct13 oc14 kV14 dc14 pm14 cd14 ct14 oc15 kV15 dc15 pm15 cd15 ct15 oc16 kV16 dc16 pm16 cd16 ct16 oc17 kV17 dc17 pm17 cd17 ct17 oc18 kV18 dc18 pm18 cd18 ct18 oc19 kV19 dc19 pm19 cd19 ct19 oc20 kV20 dc20 pm20 cd20 ct20 oc21 kV21 dc21 pm21 cd21 ct21 oc22 kV22 dc22 pm22 cd22 ct22 oc23 kV23 dc23 pm23 cd23 ct23 oc24 kV24 dc24 pm24 cd24 ct24 oc25 kV25 dc25 pm25 cd25 ct25 oc26 kV26 dc26 pm26 cd26 ct26 oc27 kV27 dc27 pm27 cd27 ct27 oc28 kV28 dc28 pm28 cd28 ct28 oc29 kV29 dc29 pm29 cd29 ct29 oc30 kV30 dc30 pm30 cd30 ct30 oc31 kV31 dc31 pm31 cd31 ct31 oc32 kV32 dc32 pm32 cd32 ct32 oc33 kV33 dc33 pm33 cd33 ct33 oc34 kV34 dc34 pm34 cd34 ct34 oc35 kV35 dc35 pm35 cd35 ct35 oc36 kV36 dc36 pm36 cd36 ct36 oc37 kV37 dc37 pm37 cd37 ct37 oc38 kV38 dc38 pm38 cd38 ct38 oc39 kV39 dc39 pm39 cd39 ct39 oc40 kV40 dc40 pm40 cd40 ct40 oc41 kV41 dc41 pm41 cd41 ct41 oc42 kV42 dc42 pm42 cd42 ct42 oc43 kV43 dc43 pm43 cd43 ct43 oc44 kV44 dc44 pm44 cd44 ct44 oc45 kV45 dc45 pm45 cd45 ct45:Value}
  (z_aa:nsIn K mainGlobals "Part" =some (some (.ref cPart)))
  (z_ab:nsIn K mainGlobals "Plain" =some (some (.ref cPlain)))
  (z_ac:nsIn K mainGlobals "Stop" =some (some (.ref cStop)))
  (z_ad:nsIn K mainGlobals "Gate" =some (some (.ref cGate)))
  (z_ae:nsIn K mainGlobals "Points" =some (some (.ref cPoints)))
  (z_af:nsIn K mainGlobals "Cross" =some (some (.ref cCross)))
  (z_ag:nsIn K mainGlobals "Tracks" =some (some (.ref cTracks)))
  (z_ah:nsIn K mainGlobals "YardError" =some (some (.ref cYardError)))
  (z_ai:nsIn K mainGlobals "BadName" =some (some (.ref cBadName)))
  (z_aj:nsIn K mainGlobals "BadEnd" =some (some (.ref cBadEnd)))
  (z_ak:nsIn K mainGlobals "TooMany" =some (some (.ref cTooMany)))
  (z_al:nsIn K mainGlobals "BadWay" =some (some (.ref cBadWay)))
  (z_am:nsIn K mainGlobals "Held" =some (some (.ref cHeld)))
  (z_an:nsIn K mainGlobals "Seen" =some (some (.ref cSeen)))
  (z_ao:nsIn K mainGlobals "Stiff" =some (some (.ref cStiff)))
  (z_ap:nsIn K mainGlobals "NoTrain" =some (some (.ref cNoTrain)))
  (z_aq:nsIn K mainGlobals "NoTurn" =some (some (.ref cNoTurn)))
  (z_ar:nsIn K mainGlobals "OneFault" =some (some (.ref cOneFault)))
  (z_as:nsIn K mainGlobals "BadText" =some (some (.ref cBadText)))
  (a0:findIn K (.ref cHeld) "__init__" =some (some (.ref f0)))
  (l0:K.lookup f0=some ⟨oc0,od0,.func (fnOf "__init__" "Held.__init__" (Zz X8) (Zv X8) (Zg X8) .none kV0 dc0 pm0 an0 cd0 ct0),sl0⟩)
  (e0:codeIn K cd0 "Held.__init__" =true)
  (k0:keepIn K (.ref f0)=true)
  (a1:findIn K (.ref cSeen) "__init__" =some (some (.ref f1)))
  (l1:K.lookup f1=some ⟨oc1,od1,.func (fnOf "__init__" "Seen.__init__" (Zz Wa) (Zv Wa) (Zg Wa) .none kV1 dc1 pm1 an1 cd1 ct1),sl1⟩)
  (e1:codeIn K cd1 "Seen.__init__" =true)
  (k1:keepIn K (.ref f1)=true)
  (a2:findIn K (.ref cStiff) "__init__" =some (some (.ref f2)))
  (l2:K.lookup f2=some ⟨oc2,od2,.func (fnOf "__init__" "Stiff.__init__" (Zz Xx) (Zv Xx) (Zg Xx) .none kV2 dc2 pm2 an2 cd2 ct2),sl2⟩)
  (e2:codeIn K cd2 "Stiff.__init__" =true)
  (k2:keepIn K (.ref f2)=true)
  (a3:findIn K (.ref cBadText) "__init__" =some (some (.ref f3)))
  (l3:K.lookup f3=some ⟨oc3,od3,.func (fnOf "__init__" "BadText.__init__" (Zz Xj) (Zv Xj) (Zg Xj) .none kV3 dc3 pm3 an3 cd3 ct3),sl3⟩)
  (e3:codeIn K cd3 "BadText.__init__" =true)
  (k3:keepIn K (.ref f3)=true)
  (a4:nsIn K mainGlobals "is_name" =some (some (.ref f4)))
  (l4:K.lookup f4=some ⟨oc4,od4,.func (fnOf "is_name" "is_name" (Zz Zbt) (Zv Zbt) (Zg Zbt) .none kV4 dc4 pm4 an4 cd4 ct4),sl4⟩)
  (e4:codeIn K cd4 "is_name" =true)
  (k4:keepIn K (.ref f4)=true)
  (a5:findIn K (.ref cPart) "__init__" =some (some (.ref f5)))
  (l5:K.lookup f5=some ⟨oc5,od5,.func (fnOf "__init__" "Part.__init__" (Zz Xo) (Zv Xo) (Zg Xo) .none kV5 dc5 pm5 an5 cd5 ct5),sl5⟩)
  (e5:codeIn K cd5 "Part.__init__" =true)
  (k5:keepIn K (.ref f5)=true)
  (a6:findIn K (.ref cPart) "ends" =some (some (.ref f6)))
  (l6:K.lookup f6=some ⟨oc6,od6,.func (fnOf "ends" "Part.ends" (Zz Zah) (Zv Zah) (Zg Zah) .none kV6 dc6 pm6 an6 cd6 ct6),sl6⟩)
  (e6:codeIn K cd6 "Part.ends" =true)
  (k6:keepIn K (.ref f6)=true)
  (a7:findIn K (.ref cPart) "bears" =some (some (.ref f7)))
  (l7:K.lookup f7=some ⟨oc7,od7,.func (fnOf "bears" "Part.bears" (Zz W6) (Zv W6) (Zg W6) .none kV7 dc7 pm7 an7 cd7 ct7),sl7⟩)
  (e7:codeIn K cd7 "Part.bears" =true)
  (k7:keepIn K (.ref f7)=true)
  (a8:findIn K (.ref cStop) "ends" =some (some (.ref f8)))
  (l8:K.lookup f8=some ⟨oc8,od8,.func (fnOf "ends" "Stop.ends" (Zz Zak) (Zv Zak) (Zg Zak) .none kV8 dc8 pm8 an8 cd8 ct8),sl8⟩)
  (e8:codeIn K cd8 "Stop.ends" =true)
  (k8:keepIn K (.ref f8)=true)
  (a9:findIn K (.ref cPoints) "ends" =some (some (.ref f9)))
  (l9:K.lookup f9=some ⟨oc9,od9,.func (fnOf "ends" "Points.ends" (Zz Wm) (Zv Wm) (Zg Wm) .none kV9 dc9 pm9 an9 cd9 ct9),sl9⟩)
  (e9:codeIn K cd9 "Points.ends" =true)
  (k9:keepIn K (.ref f9)=true)
  (a10:findIn K (.ref cPoints) "bears" =some (some (.ref f10)))
  (l10:K.lookup f10=some ⟨oc10,od10,.func (fnOf "bears" "Points.bears" (Zz Xz) (Zv Xz) (Zg Xz) .none kV10 dc10 pm10 an10 cd10 ct10),sl10⟩)
  (e10:codeIn K cd10 "Points.bears" =true)
  (k10:keepIn K (.ref f10)=true)
  (a11:findIn K (.ref cCross) "ends" =some (some (.ref f11)))
  (l11:K.lookup f11=some ⟨oc11,od11,.func (fnOf "ends" "Cross.ends" (Zz W5) (Zv W5) (Zg W5) .none kV11 dc11 pm11 an11 cd11 ct11),sl11⟩)
  (e11:codeIn K cd11 "Cross.ends" =true)
  (k11:keepIn K (.ref f11)=true)
  (a12:findIn K (.ref cCross) "bears" =some (some (.ref f12)))
  (l12:K.lookup f12=some ⟨oc12,od12,.func (fnOf "bears" "Cross.bears" (Zz Wg) (Zv Wg) (Zg Wg) .none kV12 dc12 pm12 an12 cd12 ct12),sl12⟩)
  (e12:codeIn K cd12 "Cross.bears" =true)
  (k12:keepIn K (.ref f12)=true)
  (a13:nsIn K mainGlobals "is_pair" =some (some (.ref f13)))
  (l13:K.lookup f13=some ⟨oc13,od13,.func (fnOf "is_pair" "is_pair" (Zz Zbs) (Zv Zbs) (Zg Zbs) .none kV13 dc13 pm13 an13 cd13 ct13),sl13⟩)
  (e13:codeIn K cd13 "is_pair" =true)
  (k13:keepIn K (.ref f13)=true)
  (a14:nsIn K mainGlobals "is_known" =some (some (.ref f14)))
  (l14:K.lookup f14=some ⟨oc14,od14,.func (fnOf "is_known" "is_known" (Zz Za4) (Zv Za4) (Zg Za4) .none kV14 dc14 pm14 an14 cd14 ct14),sl14⟩)
  (e14:codeIn K cd14 "is_known" =true)
  (k14:keepIn K (.ref f14)=true)
  (a15:nsIn K mainGlobals "refuse_name" =some (some (.ref f15)))
  (l15:K.lookup f15=some ⟨oc15,od15,.func (fnOf "refuse_name" "refuse_name" (Zz Wc) (Zv Wc) (Zg Wc) .none kV15 dc15 pm15 an15 cd15 ct15),sl15⟩)
  (e15:codeIn K cd15 "refuse_name" =true)
  (k15:keepIn K (.ref f15)=true)
  (a16:nsIn K mainGlobals "parts_by_name" =some (some (.ref f16)))
  (l16:K.lookup f16=some ⟨oc16,od16,.func (fnOf "parts_by_name" "parts_by_name" (Zz Xl) (Zv Xl) (Zg Xl) .none kV16 dc16 pm16 an16 cd16 ct16),sl16⟩)
  (e16:codeIn K cd16 "parts_by_name" =true)
  (k16:keepIn K (.ref f16)=true)
  (a17:nsIn K mainGlobals "ends_to_parts" =some (some (.ref f17)))
  (l17:K.lookup f17=some ⟨oc17,od17,.func (fnOf "ends_to_parts" "ends_to_parts" (Zz Xn) (Zv Xn) (Zg Xn) .none kV17 dc17 pm17 an17 cd17 ct17),sl17⟩)
  (e17:codeIn K cd17 "ends_to_parts" =true)
  (k17:keepIn K (.ref f17)=true)
  (a18:nsIn K mainGlobals "refuse_join" =some (some (.ref f18)))
  (l18:K.lookup f18=some ⟨oc18,od18,.func (fnOf "refuse_join" "refuse_join" (Zz Wh) (Zv Wh) (Zg Wh) .none kV18 dc18 pm18 an18 cd18 ct18),sl18⟩)
  (e18:codeIn K cd18 "refuse_join" =true)
  (k18:keepIn K (.ref f18)=true)
  (a19:nsIn K mainGlobals "joined_ends" =some (some (.ref f19)))
  (l19:K.lookup f19=some ⟨oc19,od19,.func (fnOf "joined_ends" "joined_ends" (Zz Wj) (Zv Wj) (Zg Wj) .none kV19 dc19 pm19 an19 cd19 ct19),sl19⟩)
  (e19:codeIn K cd19 "joined_ends" =true)
  (k19:keepIn K (.ref f19)=true)
  (a20:nsIn K mainGlobals "refuse_post" =some (some (.ref f20)))
  (l20:K.lookup f20=some ⟨oc20,od20,.func (fnOf "refuse_post" "refuse_post" (Zz Wk) (Zv Wk) (Zg Wk) .none kV20 dc20 pm20 an20 cd20 ct20),sl20⟩)
  (e20:codeIn K cd20 "refuse_post" =true)
  (k20:keepIn K (.ref f20)=true)
  (a21:nsIn K mainGlobals "posts_of" =some (some (.ref f21)))
  (l21:K.lookup f21=some ⟨oc21,od21,.func (fnOf "posts_of" "posts_of" (Zz Za0) (Zv Za0) (Zg Za0) .none kV21 dc21 pm21 an21 cd21 ct21),sl21⟩)
  (e21:codeIn K cd21 "posts_of" =true)
  (k21:keepIn K (.ref f21)=true)
  (a22:findIn K (.ref cTracks) "__init__" =some (some (.ref f22)))
  (l22:K.lookup f22=some ⟨oc22,od22,.func (fnOf "__init__" "Tracks.__init__" (Zz Xa) (Zv Xa) (Zg Xa) (.ref td22) kV22 dc22 pm22 an22 cd22 ct22),sl22⟩)
  (ld22:K.lookup td22=some ⟨doc22,dod22,.seq #[.none] dn22,dsl22⟩)
  (e22:codeIn K cd22 "Tracks.__init__" =true)
  (k22:keepIn K (.ref f22)=true)
  (a23:findIn K (.ref cTracks) "signals" =some (some (.ref f23)))
  (l23:K.lookup f23=some ⟨oc23,od23,.func (fnOf "signals" "Tracks.signals" (Zz Xh) (Zv Xh) (Zg Xh) .none kV23 dc23 pm23 an23 cd23 ct23),sl23⟩)
  (e23:codeIn K cd23 "Tracks.signals" =true)
  (k23:keepIn K (.ref f23)=true)
  (a24:nsIn K mainGlobals "_law_mixed" =some (some (.ref f24)))
  (l24:K.lookup f24=some ⟨oc24,od24,.func (fnOf "_law_mixed" "_law_mixed" (Zz W3) (Zv W3) (Zg W3) .none kV24 dc24 pm24 an24 cd24 ct24),sl24⟩)
  (e24:codeIn K cd24 "_law_mixed" =true)
  (k24:keepIn K (.ref f24)=true)
  (a25:nsIn K mainGlobals "_law_cell_at" =some (some (.ref f25)))
  (l25:K.lookup f25=some ⟨oc25,od25,.func (fnOf "_law_cell_at" "_law_cell_at" (Zz X2) (Zv X2) (Zg X2) .none kV25 dc25 pm25 an25 cd25 ct25),sl25⟩)
  (e25:codeIn K cd25 "_law_cell_at" =true)
  (k25:keepIn K (.ref f25)=true)
  (a26:nsIn K mainGlobals "_law_cells" =some (some (.ref f26)))
  (l26:K.lookup f26=some ⟨oc26,od26,.func (fnOf "_law_cells" "_law_cells" (Zz Wy) (Zv Wy) (Zg Wy) .none kV26 dc26 pm26 an26 cd26 ct26),sl26⟩)
  (e26:codeIn K cd26 "_law_cells" =true)
  (k26:keepIn K (.ref f26)=true)
  (a27:nsIn K mainGlobals "_law_ends" =some (some (.ref f27)))
  (l27:K.lookup f27=some ⟨oc27,od27,.func (fnOf "_law_ends" "_law_ends" (Zz Zaj) (Zv Zaj) (Zg Zaj) .none kV27 dc27 pm27 an27 cd27 ct27),sl27⟩)
  (e27:codeIn K cd27 "_law_ends" =true)
  (k27:keepIn K (.ref f27)=true)
  (a28:nsIn K mainGlobals "_law_name_by" =some (some (.ref f28)))
  (l28:K.lookup f28=some ⟨oc28,od28,.func (fnOf "_law_name_by" "_law_name_by" (Zz X3) (Zv X3) (Zg X3) .none kV28 dc28 pm28 an28 cd28 ct28),sl28⟩)
  (e28:codeIn K cd28 "_law_name_by" =true)
  (k28:keepIn K (.ref f28)=true)
  (a29:nsIn K mainGlobals "_law_block" =some (some (.ref f29)))
  (l29:K.lookup f29=some ⟨oc29,od29,.func (fnOf "_law_block" "_law_block" (Zz W1) (Zv W1) (Zg W1) .none kV29 dc29 pm29 an29 cd29 ct29),sl29⟩)
  (e29:codeIn K cd29 "_law_block" =true)
  (k29:keepIn K (.ref f29)=true)
  (a30:nsIn K mainGlobals "_law_line" =some (some (.ref f30)))
  (l30:K.lookup f30=some ⟨oc30,od30,.func (fnOf "_law_line" "_law_line" (Zz Zai) (Zv Zai) (Zg Zai) .none kV30 dc30 pm30 an30 cd30 ct30),sl30⟩)
  (e30:codeIn K cd30 "_law_line" =true)
  (k30:keepIn K (.ref f30)=true)
  (a31:nsIn K mainGlobals "_law_closed" =some (some (.ref f31)))
  (l31:K.lookup f31=some ⟨oc31,od31,.func (fnOf "_law_closed" "_law_closed" (Zz Wb) (Zv Wb) (Zg Wb) .none kV31 dc31 pm31 an31 cd31 ct31),sl31⟩)
  (e31:codeIn K cd31 "_law_closed" =true)
  (k31:keepIn K (.ref f31)=true)
  (a32:nsIn K mainGlobals "_law_drawn" =some (some (.ref f32)))
  (l32:K.lookup f32=some ⟨oc32,od32,.func (fnOf "_law_drawn" "_law_drawn" (Zz Wx) (Zv Wx) (Zg Wx) .none kV32 dc32 pm32 an32 cd32 ct32),sl32⟩)
  (e32:codeIn K cd32 "_law_drawn" =true)
  (k32:keepIn K (.ref f32)=true)
  (a33:nsIn K mainGlobals "_law_signals_by" =some (some (.ref f33)))
  (l33:K.lookup f33=some ⟨oc33,od33,.func (fnOf "_law_signals_by" "_law_signals_by" (Zz Y9) (Zv Y9) (Zg Y9) .none kV33 dc33 pm33 an33 cd33 ct33),sl33⟩)
  (e33:codeIn K cd33 "_law_signals_by" =true)
  (k33:keepIn K (.ref f33)=true)
  (a34:nsIn K mainGlobals "_law_long" =some (some (.ref f34)))
  (l34:K.lookup f34=some ⟨oc34,od34,.func (fnOf "_law_long" "_law_long" (Zz Zal) (Zv Zal) (Zg Zal) .none kV34 dc34 pm34 an34 cd34 ct34),sl34⟩)
  (e34:codeIn K cd34 "_law_long" =true)
  (k34:keepIn K (.ref f34)=true)
  (a35:nsIn K mainGlobals "_law_yard_by" =some (some (.ref f35)))
  (l35:K.lookup f35=some ⟨oc35,od35,.func (fnOf "_law_yard_by" "_law_yard_by" (Zz X4) (Zv X4) (Zg X4) .none kV35 dc35 pm35 an35 cd35 ct35),sl35⟩)
  (e35:codeIn K cd35 "_law_yard_by" =true)
  (k35:keepIn K (.ref f35)=true)
  (a36:nsIn K mainGlobals "_law_part" =some (some (.ref f36)))
  (l36:K.lookup f36=some ⟨oc36,od36,.func (fnOf "_law_part" "_law_part" (Zz Zan) (Zv Zan) (Zg Zan) .none kV36 dc36 pm36 an36 cd36 ct36),sl36⟩)
  (e36:codeIn K cd36 "_law_part" =true)
  (k36:keepIn K (.ref f36)=true)
  (a37:nsIn K mainGlobals "_law_tracks" =some (some (.ref f37)))
  (l37:K.lookup f37=some ⟨oc37,od37,.func (fnOf "_law_tracks" "_law_tracks" (Zz We) (Zv We) (Zg We) .none kV37 dc37 pm37 an37 cd37 ct37),sl37⟩)
  (e37:codeIn K cd37 "_law_tracks" =true)
  (k37:keepIn K (.ref f37)=true)
  (a38:nsIn K mainGlobals "_law_alone" =some (some (.ref f38)))
  (l38:K.lookup f38=some ⟨oc38,od38,.func (fnOf "_law_alone" "_law_alone" (Zz Wv) (Zv Wv) (Zg Wv) .none kV38 dc38 pm38 an38 cd38 ct38),sl38⟩)
  (e38:codeIn K cd38 "_law_alone" =true)
  (k38:keepIn K (.ref f38)=true)
  (a39:nsIn K mainGlobals "_law_filled" =some (some (.ref f39)))
  (l39:K.lookup f39=some ⟨oc39,od39,.func (fnOf "_law_filled" "_law_filled" (Zz Wi) (Zv Wi) (Zg Wi) .none kV39 dc39 pm39 an39 cd39 ct39),sl39⟩)
  (e39:codeIn K cd39 "_law_filled" =true)
  (k39:keepIn K (.ref f39)=true)
  (a40:nsIn K mainGlobals "_law_refusal" =some (some (.ref f40)))
  (l40:K.lookup f40=some ⟨oc40,od40,.func (fnOf "_law_refusal" "_law_refusal" (Zz Xw) (Zv Xw) (Zg Xw) .none kV40 dc40 pm40 an40 cd40 ct40),sl40⟩)
  (e40:codeIn K cd40 "_law_refusal" =true)
  (k40:keepIn K (.ref f40)=true)
  (a41:nsIn K mainGlobals "_law_wrong_signal" =some (some (.ref f41)))
  (l41:K.lookup f41=some ⟨oc41,od41,.func (fnOf "_law_wrong_signal" "_law_wrong_signal" (Zz Y0) (Zv Y0) (Zg Y0) .none kV41 dc41 pm41 an41 cd41 ct41),sl41⟩)
  (e41:codeIn K cd41 "_law_wrong_signal" =true)
  (k41:keepIn K (.ref f41)=true)
  (a42:nsIn K mainGlobals "_law_within" =some (some (.ref f42)))
  (l42:K.lookup f42=some ⟨oc42,od42,.func (fnOf "_law_within" "_law_within" (Zz Wl) (Zv Wl) (Zg Wl) .none kV42 dc42 pm42 an42 cd42 ct42),sl42⟩)
  (e42:codeIn K cd42 "_law_within" =true)
  (k42:keepIn K (.ref f42)=true)
  (a43:nsIn K mainGlobals "_law_wrong_join" =some (some (.ref f43)))
  (l43:K.lookup f43=some ⟨oc43,od43,.func (fnOf "_law_wrong_join" "_law_wrong_join" (Zz Xc) (Zv Xc) (Zg Xc) .none kV43 dc43 pm43 an43 cd43 ct43),sl43⟩)
  (e43:codeIn K cd43 "_law_wrong_join" =true)
  (k43:keepIn K (.ref f43)=true)
  (a44:nsIn K mainGlobals "_law_wrong" =some (some (.ref f44)))
  (l44:K.lookup f44=some ⟨oc44,od44,.func (fnOf "_law_wrong" "_law_wrong" (Zz Ww) (Zv Ww) (Zg Ww) .none kV44 dc44 pm44 an44 cd44 ct44),sl44⟩)
  (e44:codeIn K cd44 "_law_wrong" =true)
  (k44:keepIn K (.ref f44)=true)
  (a45:nsIn K mainGlobals "law" =some (some (.ref f45)))
  (l45:K.lookup f45=some ⟨oc45,od45,.func (fnOf "law" "law" (Zz Ze1) (Zv Ze1) (Zg Ze1) .none kV45 dc45 pm45 an45 cd45 ct45),sl45⟩)
  (e45:codeIn K cd45 "law" =true)
  (k45:keepIn K (.ref f45)=true)
  (z_at:PySem.W.plainGet K cPart Str.empty=true)
  (z_au:PySem.W.hasDictIn K cPart=true)
  (z_av:PySem.W.plainOver K cPart=true)
  (z_aw:findIn K (.ref cPart) "__setattr__" =some (some (.builtin "object.__setattr__")))
  (z_ax:findIn K (.ref cPart) "name" =some none)
  (z_ay:PySem.W.makesIn K cPart=true)
  (z_az:findIn K (.ref cPart) "__init__" =some (some (.ref f5)))
  (z_a0:PySem.W.isFn K (.ref f5)=true)
  (z_a1:keepIn K (.ref cPart)=true)
  (z_a2:findIn K (.ref cPart) "ends" =some (some (.ref f6)))
  (z_a3:PySem.W.isFn K (.ref f6)=true)
  (z_a4:keepIn K (.ref f6)=true)
  (z_a5:findIn K (.ref cPart) "bears" =some (some (.ref f7)))
  (z_a6:PySem.W.isFn K (.ref f7)=true)
  (z_a7:keepIn K (.ref f7)=true)
  (z_a8:PySem.W.plainGet K cPlain Str.empty=true)
  (z_a9:PySem.W.hasDictIn K cPlain=true)
  (z_ba:PySem.W.plainOver K cPlain=true)
  (z_bb:findIn K (.ref cPlain) "__setattr__" =some (some (.builtin "object.__setattr__")))
  (z_bc:findIn K (.ref cPlain) "name" =some none)
  (z_bd:PySem.W.makesIn K cPlain=true)
  (z_be:findIn K (.ref cPlain) "__init__" =some (some (.ref f5)))
  (z_bf:PySem.W.isFn K (.ref f5)=true)
  (z_bg:keepIn K (.ref cPlain)=true)
  (z_bh:findIn K (.ref cPlain) "ends" =some (some (.ref f6)))
  (z_bi:PySem.W.isFn K (.ref f6)=true)
  (z_bj:keepIn K (.ref f6)=true)
  (z_bk:findIn K (.ref cPlain) "bears" =some (some (.ref f7)))
  (z_bl:PySem.W.isFn K (.ref f7)=true)
  (z_bm:keepIn K (.ref f7)=true)
  (z_bn:PySem.W.plainGet K cStop Str.empty=true)
  (z_bo:PySem.W.hasDictIn K cStop=true)
  (z_bp:PySem.W.plainOver K cStop=true)
  (z_bq:findIn K (.ref cStop) "__setattr__" =some (some (.builtin "object.__setattr__")))
  (z_br:findIn K (.ref cStop) "name" =some none)
  (z_bs:PySem.W.makesIn K cStop=true)
  (z_bt:findIn K (.ref cStop) "__init__" =some (some (.ref f5)))
  (z_bu:PySem.W.isFn K (.ref f5)=true)
  (z_bv:keepIn K (.ref cStop)=true)
  (z_bw:findIn K (.ref cStop) "ends" =some (some (.ref f8)))
  (z_bx:PySem.W.isFn K (.ref f8)=true)
  (z_by:keepIn K (.ref f8)=true)
  (z_bz:findIn K (.ref cStop) "bears" =some (some (.ref f7)))
  (z_b0:PySem.W.isFn K (.ref f7)=true)
  (z_b1:keepIn K (.ref f7)=true)
  (z_b2:PySem.W.plainGet K cGate Str.empty=true)
  (z_b3:PySem.W.hasDictIn K cGate=true)
  (z_b4:PySem.W.plainOver K cGate=true)
  (z_b5:findIn K (.ref cGate) "__setattr__" =some (some (.builtin "object.__setattr__")))
  (z_b6:findIn K (.ref cGate) "name" =some none)
  (z_b7:PySem.W.makesIn K cGate=true)
  (z_b8:findIn K (.ref cGate) "__init__" =some (some (.ref f5)))
  (z_b9:PySem.W.isFn K (.ref f5)=true)
  (z_ca:keepIn K (.ref cGate)=true)
  (z_cb:findIn K (.ref cGate) "ends" =some (some (.ref f8)))
  (z_cc:PySem.W.isFn K (.ref f8)=true)
  (z_cd:keepIn K (.ref f8)=true)
  (z_ce:findIn K (.ref cGate) "bears" =some (some (.ref f7)))
  (z_cf:PySem.W.isFn K (.ref f7)=true)
  (z_cg:keepIn K (.ref f7)=true)
  (z_ch:PySem.W.plainGet K cPoints Str.empty=true)
  (z_ci:PySem.W.hasDictIn K cPoints=true)
  (z_cj:PySem.W.plainOver K cPoints=true)
  (z_ck:findIn K (.ref cPoints) "__setattr__" =some (some (.builtin "object.__setattr__")))
  (z_cl:findIn K (.ref cPoints) "name" =some none)
  (z_cm:PySem.W.makesIn K cPoints=true)
  (z_cn:findIn K (.ref cPoints) "__init__" =some (some (.ref f5)))
  (z_co:PySem.W.isFn K (.ref f5)=true)
  (z_cp:keepIn K (.ref cPoints)=true)
  (z_cq:findIn K (.ref cPoints) "ends" =some (some (.ref f9)))
  (z_cr:PySem.W.isFn K (.ref f9)=true)
  (z_cs:keepIn K (.ref f9)=true)
  (z_ct:findIn K (.ref cPoints) "bears" =some (some (.ref f10)))
  (z_cu:PySem.W.isFn K (.ref f10)=true)
  (z_cv:keepIn K (.ref f10)=true)
  (z_cw:PySem.W.plainGet K cCross Str.empty=true)
  (z_cx:PySem.W.hasDictIn K cCross=true)
  (z_cy:PySem.W.plainOver K cCross=true)
  (z_cz:findIn K (.ref cCross) "__setattr__" =some (some (.builtin "object.__setattr__")))
  (z_c0:findIn K (.ref cCross) "name" =some none)
  (z_c1:PySem.W.makesIn K cCross=true)
  (z_c2:findIn K (.ref cCross) "__init__" =some (some (.ref f5)))
  (z_c3:PySem.W.isFn K (.ref f5)=true)
  (z_c4:keepIn K (.ref cCross)=true)
  (z_c5:findIn K (.ref cCross) "ends" =some (some (.ref f11)))
  (z_c6:PySem.W.isFn K (.ref f11)=true)
  (z_c7:keepIn K (.ref f11)=true)
  (z_c8:findIn K (.ref cCross) "bears" =some (some (.ref f12)))
  (z_c9:PySem.W.isFn K (.ref f12)=true)
  (z_da:keepIn K (.ref f12)=true)
  (z_db:PySem.W.plainGet K cTracks Str.empty=true)
  (z_dc:PySem.W.hasDictIn K cTracks=true)
  (z_dd:PySem.W.plainOver K cTracks=true)
  (z_de:findIn K (.ref cTracks) "__setattr__" =some (some (.builtin "object.__setattr__")))
  (z_df:findIn K (.ref cTracks) "part_of" =some none)
  (z_dg:findIn K (.ref cTracks) "joined" =some none)
  (z_dh:findIn K (.ref cTracks) "post_of" =some none)
  (z_di:findIn K (.ref cTracks) "signal_on" =some none)
  (z_dj:PySem.W.makesIn K cTracks=true)
  (z_dk:findIn K (.ref cTracks) "__init__" =some (some (.ref f22)))
  (z_dl:PySem.W.isFn K (.ref f22)=true)
  (z_dm:keepIn K (.ref cTracks)=true)
  (z_dn:findIn K (.ref cTracks) "signals" =some (some (.ref f23)))
  (z_do:PySem.W.isFn K (.ref f23)=true)
  (z_dp:keepIn K (.ref f23)=true)
  (z_dq:nsIn K mainGlobals "len" =some none)
  (z_dr:nsIn K mainGlobals "range" =some none)
  (z_ds:nsIn K mainGlobals "isinstance" =some none)
  (z_dt:nsIn K mainGlobals "list" =some none)
  (z_du:nsIn K mainGlobals "dict" =some none)
  (z_dv:nsIn K mainGlobals "tuple" =some none)
  (z_dw:nsIn K mainGlobals "str" =some none)
  (z_dx:nsIn K mainGlobals "enumerate" =some none)
  (z_dy:nsIn K mainGlobals "max" =some none)
  (z_dz:nsIn K mainGlobals "min" =some none)
  (z_d0:nsIn K mainGlobals "sum" =some none)
  (z_d1:nsIn K mainGlobals "sorted" =some none)
  (z_d2:nsIn K mainGlobals "all" =some none)
  (z_d3:nsIn K mainGlobals "ValueError" =some none)
  (z_d4:nsIn K mainGlobals "int" =some none)
  (z_d5:kitOne K (.type "tuple") (.type "tuple")=some true)
  (z_d6:kitOne K (.type "str") (.type "str")=some true)
  (z_d7:kitOne K (.ref cBadName) (.ref cBadName)=some true)
  (z_d8:kitOne K (.ref cBadName) (.ref cBadEnd)=some false)
  (z_d9:kitOne K (.ref cBadName) (.ref cTooMany)=some false)
  (z_ea:kitOne K (.ref cBadName) (.ref cBadWay)=some false)
  (z_eb:kitOne K (.ref cBadName) (.ref cHeld)=some false)
  (z_ec:kitOne K (.ref cBadName) (.ref cSeen)=some false)
  (z_ed:kitOne K (.ref cBadName) (.ref cStiff)=some false)
  (z_ee:kitOne K (.ref cBadName) (.ref cNoTrain)=some false)
  (z_ef:kitOne K (.ref cBadName) (.ref cNoTurn)=some false)
  (z_eg:kitOne K (.ref cBadName) (.ref cOneFault)=some false)
  (z_eh:kitOne K (.ref cBadName) (.ref cBadText)=some false)
  (z_ei:kitOne K (.ref cBadEnd) (.ref cBadName)=some false)
  (z_ej:kitOne K (.ref cBadEnd) (.ref cBadEnd)=some true)
  (z_ek:kitOne K (.ref cBadEnd) (.ref cTooMany)=some false)
  (z_el:kitOne K (.ref cBadEnd) (.ref cBadWay)=some false)
  (z_em:kitOne K (.ref cBadEnd) (.ref cHeld)=some false)
  (z_en:kitOne K (.ref cBadEnd) (.ref cSeen)=some false)
  (z_eo:kitOne K (.ref cBadEnd) (.ref cStiff)=some false)
  (z_ep:kitOne K (.ref cBadEnd) (.ref cNoTrain)=some false)
  (z_eq:kitOne K (.ref cBadEnd) (.ref cNoTurn)=some false)
  (z_er:kitOne K (.ref cBadEnd) (.ref cOneFault)=some false)
  (z_es:kitOne K (.ref cBadEnd) (.ref cBadText)=some false)
  (z_et:kitOne K (.ref cTooMany) (.ref cBadName)=some false)
  (z_eu:kitOne K (.ref cTooMany) (.ref cBadEnd)=some false)
  (z_ev:kitOne K (.ref cTooMany) (.ref cTooMany)=some true)
  (z_ew:kitOne K (.ref cTooMany) (.ref cBadWay)=some false)
  (z_ex:kitOne K (.ref cTooMany) (.ref cHeld)=some false)
  (z_ey:kitOne K (.ref cTooMany) (.ref cSeen)=some false)
  (z_ez:kitOne K (.ref cTooMany) (.ref cStiff)=some false)
  (z_e0:kitOne K (.ref cTooMany) (.ref cNoTrain)=some false)
  (z_e1:kitOne K (.ref cTooMany) (.ref cNoTurn)=some false)
  (z_e2:kitOne K (.ref cTooMany) (.ref cOneFault)=some false)
  (z_e3:kitOne K (.ref cTooMany) (.ref cBadText)=some false)
  (z_e4:PySem.W.kitCls K (.ref cBadName) (.ref cYardError)=some true)
  (z_e5:PySem.W.kitCls K (.ref cBadEnd) (.ref cYardError)=some true)
  (z_e6:PySem.W.kitCls K (.ref cTooMany) (.ref cYardError)=some true)
  (z_e7:kitOne K (.ref cBadName) (.type "ValueError")=some true)
  (z_e8:kitOne K (.ref cBadEnd) (.type "ValueError")=some true)
  (z_e9:kitOne K (.ref cTooMany) (.type "ValueError")=some true)
  (z_fa:kitOne K (.ref cYardError) (.type "BaseException")=some true)
  (z_fb:PySem.W.excIn K cYardError [.type "ValueError",.type "Exception",.type "BaseException",.type "object"] "ValueError.__new__" =true)
  (z_fc:PySem.W.excIn K cBadName [.type "ValueError",.type "Exception",.type "BaseException",.type "object"] "ValueError.__new__" =true)
  (z_fd:PySem.W.excIn K cBadEnd [.type "ValueError",.type "Exception",.type "BaseException",.type "object"] "ValueError.__new__" =true)
  (z_fe:PySem.W.excIn K cTooMany [.type "ValueError",.type "Exception",.type "BaseException",.type "object"] "ValueError.__new__" =true)
  (z_ff:nsIn K mainGlobals "LETTERS" =some (some (.str "abcdefghijklmnopqrstuvwxyz" tk_LETTERS)))
  (z_fg:nsIn K mainGlobals "FIGURES" =some (some (.str "0123456789" tk_FIGURES)))
  (z_fh:nsIn K mainGlobals "LONGEST_NAME" =some (some (.int 6 tk_LONGEST_NAME)))
  (z_fi:nsIn K mainGlobals "MOST_PARTS" =some (some (.int 40 tk_MOST_PARTS)))
  (z_fj:nsIn K mainGlobals "MOST_SIGNALS" =some (some (.int 40 tk_MOST_SIGNALS)))
  (z_fk:findIn K (.ref cBadName) "__getattribute__" =some (some (.builtin "BaseException.__getattribute__")))
  (z_fl:findIn K (.ref cBadName) "__getattr__" =some none)
  (z_fm:PySem.W.mroIn K cBadName (.type "BaseException")=some true)
  (z_fn:PySem.W.isClsIn K cBadName=true)
  (z_fo:findIn K (.ref cBadName) "__class__" =some (some (.builtin "object.__class__")))
  (z_fp:PySem.W.specialIn K (.builtin "object.__class__") "__get__" =some (some (.builtin "getset_descriptor.__get__")))
  (z_fq:PySem.W.takesIn K (.builtin "object.__class__")=some true)
  (z_fr:PySem.W.mroIn K cBadName (.type "object")=some true)
  (z_fs:findIn K (.ref cBadEnd) "__getattribute__" =some (some (.builtin "BaseException.__getattribute__")))
  (z_ft:findIn K (.ref cBadEnd) "__getattr__" =some none)
  (z_fu:PySem.W.mroIn K cBadEnd (.type "BaseException")=some true)
  (z_fv:PySem.W.isClsIn K cBadEnd=true)
  (z_fw:findIn K (.ref cBadEnd) "__class__" =some (some (.builtin "object.__class__")))
  (z_fx:PySem.W.specialIn K (.builtin "object.__class__") "__get__" =some (some (.builtin "getset_descriptor.__get__")))
  (z_fy:PySem.W.takesIn K (.builtin "object.__class__")=some true)
  (z_fz:PySem.W.mroIn K cBadEnd (.type "object")=some true)
  (z_f0:findIn K (.ref cTooMany) "__getattribute__" =some (some (.builtin "BaseException.__getattribute__")))
  (z_f1:findIn K (.ref cTooMany) "__getattr__" =some none)
  (z_f2:PySem.W.mroIn K cTooMany (.type "BaseException")=some true)
  (z_f3:PySem.W.isClsIn K cTooMany=true)
  (z_f4:findIn K (.ref cTooMany) "__class__" =some (some (.builtin "object.__class__")))
  (z_f5:PySem.W.specialIn K (.builtin "object.__class__") "__get__" =some (some (.builtin "getset_descriptor.__get__")))
  (z_f6:PySem.W.takesIn K (.builtin "object.__class__")=some true)
  (z_f7:PySem.W.mroIn K cTooMany (.type "object")=some true)
  :∃fd:FuncData,(∀(s:Shared) (v:Value),BindsTo s fd ⟨[v],[]⟩ [("_law_script",v)])∧∀base:Heap,K.In base→base.Ns mainGlobals mg→Yf l.prog w K mg base CX0 9 fa fd ["_law_script"] (Zny K):=by
 have e:=hfa.symm.trans (mg_of X G a45)
 cases e
 have F0:=Yi (st:=X8) l0 e0 k0
 have b0:=F0.binds (ps:=["self", "part"]) fun _ _ _ _ _ _ us hl=>by obtain ⟨_,_,rfl⟩:=Zbc hl;rfl
 have F1:=Yi (st:=Wa) l1 e1 k1
 have b1:=F1.binds (ps:=["self", "part"]) fun _ _ _ _ _ _ us hl=>by obtain ⟨_,_,rfl⟩:=Zbc hl;rfl
 have F2:=Yi (st:=Xx) l2 e2 k2
 have b2:=F2.binds (ps:=["self", "part"]) fun _ _ _ _ _ _ us hl=>by obtain ⟨_,_,rfl⟩:=Zbc hl;rfl
 have F3:=Yi (st:=Xj) l3 e3 k3
 have b3:=F3.binds (ps:=["self", "row"]) fun _ _ _ _ _ _ us hl=>by obtain ⟨_,_,rfl⟩:=Zbc hl;rfl
 have F4:=Yi (st:=Zbt) l4 e4 k4
 have b4:=F4.binds (ps:=["thing"]) fun _ _ _ _ _ _ us hl=>by obtain ⟨_,rfl⟩:=Zat hl;rfl
 have F5:=Yi (st:=Xo) l5 e5 k5
 have b5:=F5.binds (ps:=["self", "name"]) fun _ _ _ _ _ _ us hl=>by obtain ⟨_,_,rfl⟩:=Zbc hl;rfl
 have F6:=Yi (st:=Zah) l6 e6 k6
 have b6:=F6.binds (ps:=["self"]) fun _ _ _ _ _ _ us hl=>by obtain ⟨_,rfl⟩:=Zat hl;rfl
 have F7:=Yi (st:=W6) l7 e7 k7
 have b7:=F7.binds (ps:=["self"]) fun _ _ _ _ _ _ us hl=>by obtain ⟨_,rfl⟩:=Zat hl;rfl
 have F8:=Yi (st:=Zak) l8 e8 k8
 have b8:=F8.binds (ps:=["self"]) fun _ _ _ _ _ _ us hl=>by obtain ⟨_,rfl⟩:=Zat hl;rfl
 have F9:=Yi (st:=Wm) l9 e9 k9
 have b9:=F9.binds (ps:=["self"]) fun _ _ _ _ _ _ us hl=>by obtain ⟨_,rfl⟩:=Zat hl;rfl
 have F10:=Yi (st:=Xz) l10 e10 k10
 have b10:=F10.binds (ps:=["self"]) fun _ _ _ _ _ _ us hl=>by obtain ⟨_,rfl⟩:=Zat hl;rfl
 have F11:=Yi (st:=W5) l11 e11 k11
 have b11:=F11.binds (ps:=["self"]) fun _ _ _ _ _ _ us hl=>by obtain ⟨_,rfl⟩:=Zat hl;rfl
 have F12:=Yi (st:=Wg) l12 e12 k12
 have b12:=F12.binds (ps:=["self"]) fun _ _ _ _ _ _ us hl=>by obtain ⟨_,rfl⟩:=Zat hl;rfl
 have F13:=Yi (st:=Zbs) l13 e13 k13
 have b13:=F13.binds (ps:=["thing"]) fun _ _ _ _ _ _ us hl=>by obtain ⟨_,rfl⟩:=Zat hl;rfl
 have F14:=Yi (st:=Za4) l14 e14 k14
 have b14:=F14.binds (ps:=["end", "ends"]) fun _ _ _ _ _ _ us hl=>by obtain ⟨_,_,rfl⟩:=Zbc hl;rfl
 have F15:=Yi (st:=Wc) l15 e15 k15
 have b15:=F15.binds (ps:=["name", "known"]) fun _ _ _ _ _ _ us hl=>by obtain ⟨_,_,rfl⟩:=Zbc hl;rfl
 have F16:=Yi (st:=Xl) l16 e16 k16
 have b16:=F16.binds (ps:=["parts"]) fun _ _ _ _ _ _ us hl=>by obtain ⟨_,rfl⟩:=Zat hl;rfl
 have F17:=Yi (st:=Xn) l17 e17 k17
 have b17:=F17.binds (ps:=["part_of"]) fun _ _ _ _ _ _ us hl=>by obtain ⟨_,rfl⟩:=Zat hl;rfl
 have F18:=Yi (st:=Wh) l18 e18 k18
 have b18:=F18.binds (ps:=["join", "part_at", "joined"]) fun _ _ _ _ _ _ us hl=>by obtain ⟨_,_,_,rfl⟩:=Zh8 hl;rfl
 have F19:=Yi (st:=Wj) l19 e19 k19
 have b19:=F19.binds (ps:=["joins", "part_at"]) fun _ _ _ _ _ _ us hl=>by obtain ⟨_,_,rfl⟩:=Zbc hl;rfl
 have F20:=Yi (st:=Wk) l20 e20 k20
 have b20:=F20.binds (ps:=["end", "part_at", "ends_with_signals"]) fun _ _ _ _ _ _ us hl=>by obtain ⟨_,_,_,rfl⟩:=Zh8 hl;rfl
 have F21:=Yi (st:=Za0) l21 e21 k21
 have b21:=F21.binds (ps:=["signals", "part_at"]) fun _ _ _ _ _ _ us hl=>by obtain ⟨_,_,rfl⟩:=Zbc hl;rfl
 have F22:=Zsq (st:=Xa) l22 e22 k22
 have F23:=Yi (st:=Xh) l23 e23 k23
 have b23:=F23.binds (ps:=["self"]) fun _ _ _ _ _ _ us hl=>by obtain ⟨_,rfl⟩:=Zat hl;rfl
 have F24:=Yi (st:=W3) l24 e24 k24
 have b24:=F24.binds (ps:=["_law_cell", "_law_k"]) fun _ _ _ _ _ _ us hl=>by obtain ⟨_,_,rfl⟩:=Zbc hl;rfl
 have F25:=Yi (st:=X2) l25 e25 k25
 have b25:=F25.binds (ps:=["_law_script", "_law_k"]) fun _ _ _ _ _ _ us hl=>by obtain ⟨_,_,rfl⟩:=Zbc hl;rfl
 have F26:=Yi (st:=Wy) l26 e26 k26
 have b26:=F26.binds (ps:=["_law_script", "_law_at", "_law_end"]) fun _ _ _ _ _ _ us hl=>by obtain ⟨_,_,_,rfl⟩:=Zh8 hl;rfl
 have F27:=Yi (st:=Zaj) l27 e27 k27
 have b27:=F27.binds (ps:=["_law_kind"]) fun _ _ _ _ _ _ us hl=>by obtain ⟨_,rfl⟩:=Zat hl;rfl
 have F28:=Yi (st:=X3) l28 e28 k28
 have b28:=F28.binds (ps:=["_law_kind", "_law_cell", "_law_k"]) fun _ _ _ _ _ _ us hl=>by obtain ⟨_,_,_,rfl⟩:=Zh8 hl;rfl
 have F29:=Yi (st:=W1) l29 e29 k29
 have b29:=F29.binds (ps:=["_law_cell", "_law_names"]) fun _ _ _ _ _ _ us hl=>by obtain ⟨_,_,rfl⟩:=Zbc hl;rfl
 have F30:=Yi (st:=Zai) l30 e30 k30
 have b30:=F30.binds (ps:=["_law_cells_here"]) fun _ _ _ _ _ _ us hl=>by obtain ⟨_,rfl⟩:=Zat hl;rfl
 have F31:=Yi (st:=Wb) l31 e31 k31
 have b31:=F31.binds (ps:=["_law_parts", "_law_joins", "_law_rest", "_law_cell"]) fun _ _ _ _ _ _ us hl=>by obtain ⟨_,_,_,_,rfl⟩:=Zxf hl;rfl
 have F32:=Yi (st:=Wx) l32 e32 k32
 have b32:=F32.binds (ps:=["_law_cells_here"]) fun _ _ _ _ _ _ us hl=>by obtain ⟨_,rfl⟩:=Zat hl;rfl
 have F33:=Yi (st:=Y9) l33 e33 k33
 have b33:=F33.binds (ps:=["_law_parts", "_law_cell"]) fun _ _ _ _ _ _ us hl=>by obtain ⟨_,_,rfl⟩:=Zbc hl;rfl
 have F34:=Yi (st:=Zal) l34 e34 k34
 have b34:=F34.binds (ps:=["_law_cell"]) fun _ _ _ _ _ _ us hl=>by obtain ⟨_,rfl⟩:=Zat hl;rfl
 have F35:=Yi (st:=X4) l35 e35 k35
 have b35:=F35.binds (ps:=["_law_cells_here", "_law_cell"]) fun _ _ _ _ _ _ us hl=>by obtain ⟨_,_,rfl⟩:=Zbc hl;rfl
 have F36:=Yi (st:=Zan) l36 e36 k36
 have b36:=F36.binds (ps:=["_law_kind", "_law_name"]) fun _ _ _ _ _ _ us hl=>by obtain ⟨_,_,rfl⟩:=Zbc hl;rfl
 have F37:=Yi (st:=We) l37 e37 k37
 have b37:=F37.binds (ps:=["_law_yard"]) fun _ _ _ _ _ _ us hl=>by obtain ⟨_,rfl⟩:=Zat hl;rfl
 have F38:=Yi (st:=Wv) l38 e38 k38
 have b38:=F38.binds (ps:=["_law_e"]) fun _ _ _ _ _ _ us hl=>by obtain ⟨_,rfl⟩:=Zat hl;rfl
 have F39:=Yi (st:=Wi) l39 e39 k39
 have b39:=F39.binds (ps:=["_law_yard"]) fun _ _ _ _ _ _ us hl=>by obtain ⟨_,rfl⟩:=Zat hl;rfl
 have F40:=Yi (st:=Xw) l40 e40 k40
 have b40:=F40.binds (ps:=["_law_parts", "_law_joins", "_law_signals"]) fun _ _ _ _ _ _ us hl=>by obtain ⟨_,_,_,rfl⟩:=Zh8 hl;rfl
 have F41:=Yi (st:=Y0) l41 e41 k41
 have b41:=F41.binds (ps:=["_law_yard", "_law_cell"]) fun _ _ _ _ _ _ us hl=>by obtain ⟨_,_,rfl⟩:=Zbc hl;rfl
 have F42:=Yi (st:=Wl) l42 e42 k42
 have b42:=F42.binds (ps:=["_law_parts", "_law_joins", "_law_cell"]) fun _ _ _ _ _ _ us hl=>by obtain ⟨_,_,_,rfl⟩:=Zh8 hl;rfl
 have F43:=Yi (st:=Xc) l43 e43 k43
 have b43:=F43.binds (ps:=["_law_yard", "_law_cell"]) fun _ _ _ _ _ _ us hl=>by obtain ⟨_,_,rfl⟩:=Zbc hl;rfl
 have F44:=Yi (st:=Ww) l44 e44 k44
 have b44:=F44.binds (ps:=["_law_yard", "_law_way", "_law_cell"]) fun _ _ _ _ _ _ us hl=>by obtain ⟨_,_,_,rfl⟩:=Zh8 hl;rfl
 have F45:=Yi (st:=Ze1) l45 e45 k45
 have T:Tx K mg:={
  d_Held___init__:=⟨f0,_,F0,b0⟩
  d_Seen___init__:=⟨f1,_,F1,b1⟩
  d_Stiff___init__:=⟨f2,_,F2,b2⟩
  d_BadText___init__:=⟨f3,_,F3,b3⟩
  d_is_name:=⟨f4,_,F4,b4⟩
  m_is_name:=mg_of X G a4
  d_Part___init__:=⟨f5,_,F5,b5⟩
  d_Part_ends:=⟨f6,_,F6,b6⟩
  d_Part_bears:=⟨f7,_,F7,b7⟩
  d_Stop_ends:=⟨f8,_,F8,b8⟩
  d_Points_ends:=⟨f9,_,F9,b9⟩
  d_Points_bears:=⟨f10,_,F10,b10⟩
  d_Cross_ends:=⟨f11,_,F11,b11⟩
  d_Cross_bears:=⟨f12,_,F12,b12⟩
  d_is_pair:=⟨f13,_,F13,b13⟩
  m_is_pair:=mg_of X G a13
  d_is_known:=⟨f14,_,F14,b14⟩
  m_is_known:=mg_of X G a14
  d_refuse_name:=⟨f15,_,F15,b15⟩
  m_refuse_name:=mg_of X G a15
  d_parts_by_name:=⟨f16,_,F16,b16⟩
  m_parts_by_name:=mg_of X G a16
  d_ends_to_parts:=⟨f17,_,F17,b17⟩
  m_ends_to_parts:=mg_of X G a17
  d_refuse_join:=⟨f18,_,F18,b18⟩
  m_refuse_join:=mg_of X G a18
  d_joined_ends:=⟨f19,_,F19,b19⟩
  m_joined_ends:=mg_of X G a19
  d_refuse_post:=⟨f20,_,F20,b20⟩
  m_refuse_post:=mg_of X G a20
  d_posts_of:=⟨f21,_,F21,b21⟩
  m_posts_of:=mg_of X G a21
  d_Tracks___init__:=⟨f22,_,_,F22,fun s us KX hl=>by
   rw [List.append_nil] at hl ⊢
   match us,hl with
   | [_,_,_,_],_=>exact BindsTo.of_defaults rfl (KX _ _ ld22) rfl rfl rfl,.none,rfl,fun s us KX hl=>by
   have h2:us.length=3:=by simpa using hl
   match us,h2 with
   | [_,_,_],_=>exact BindsTo.of_defaults rfl (KX _ _ ld22) rfl rfl rfl⟩
  d_Tracks_signals:=⟨f23,_,F23,b23⟩
  d__law_mixed:=⟨f24,_,F24,b24⟩
  m__law_mixed:=mg_of X G a24
  d__law_cell_at:=⟨f25,_,F25,b25⟩
  m__law_cell_at:=mg_of X G a25
  d__law_cells:=⟨f26,_,F26,b26⟩
  m__law_cells:=mg_of X G a26
  d__law_ends:=⟨f27,_,F27,b27⟩
  m__law_ends:=mg_of X G a27
  d__law_name_by:=⟨f28,_,F28,b28⟩
  m__law_name_by:=mg_of X G a28
  d__law_block:=⟨f29,_,F29,b29⟩
  m__law_block:=mg_of X G a29
  d__law_line:=⟨f30,_,F30,b30⟩
  m__law_line:=mg_of X G a30
  d__law_closed:=⟨f31,_,F31,b31⟩
  m__law_closed:=mg_of X G a31
  d__law_drawn:=⟨f32,_,F32,b32⟩
  m__law_drawn:=mg_of X G a32
  d__law_signals_by:=⟨f33,_,F33,b33⟩
  m__law_signals_by:=mg_of X G a33
  d__law_long:=⟨f34,_,F34,b34⟩
  m__law_long:=mg_of X G a34
  d__law_yard_by:=⟨f35,_,F35,b35⟩
  m__law_yard_by:=mg_of X G a35
  d__law_part:=⟨f36,_,F36,b36⟩
  m__law_part:=mg_of X G a36
  d__law_tracks:=⟨f37,_,F37,b37⟩
  m__law_tracks:=mg_of X G a37
  d__law_alone:=⟨f38,_,F38,b38⟩
  m__law_alone:=mg_of X G a38
  d__law_filled:=⟨f39,_,F39,b39⟩
  m__law_filled:=mg_of X G a39
  d__law_refusal:=⟨f40,_,F40,b40⟩
  m__law_refusal:=mg_of X G a40
  d__law_wrong_signal:=⟨f41,_,F41,b41⟩
  m__law_wrong_signal:=mg_of X G a41
  d__law_within:=⟨f42,_,F42,b42⟩
  m__law_within:=mg_of X G a42
  d__law_wrong_join:=⟨f43,_,F43,b43⟩
  m__law_wrong_join:=mg_of X G a43
  d__law_wrong:=⟨f44,_,F44,b44⟩
  m__law_wrong:=mg_of X G a44
  CPart:=cPart
  mPart:=mg_of X G z_aa
  clPart:=⟨z_at,z_au,z_av,z_aw⟩
  nPart_name:=z_ax
  mkPart:=⟨z_ay,z_az,z_a0,z_a1⟩
  mtPart_ends:=⟨z_a2,z_a3,z_a4⟩
  mtPart_bears:=⟨z_a5,z_a6,z_a7⟩
  CPlain:=cPlain
  mPlain:=mg_of X G z_ab
  clPlain:=⟨z_a8,z_a9,z_ba,z_bb⟩
  nPlain_name:=z_bc
  mkPlain:=⟨z_bd,z_be,z_bf,z_bg⟩
  mtPlain_ends:=⟨z_bh,z_bi,z_bj⟩
  mtPlain_bears:=⟨z_bk,z_bl,z_bm⟩
  CStop:=cStop
  mStop:=mg_of X G z_ac
  clStop:=⟨z_bn,z_bo,z_bp,z_bq⟩
  nStop_name:=z_br
  mkStop:=⟨z_bs,z_bt,z_bu,z_bv⟩
  mtStop_ends:=⟨z_bw,z_bx,z_by⟩
  mtStop_bears:=⟨z_bz,z_b0,z_b1⟩
  CGate:=cGate
  mGate:=mg_of X G z_ad
  clGate:=⟨z_b2,z_b3,z_b4,z_b5⟩
  nGate_name:=z_b6
  mkGate:=⟨z_b7,z_b8,z_b9,z_ca⟩
  mtGate_ends:=⟨z_cb,z_cc,z_cd⟩
  mtGate_bears:=⟨z_ce,z_cf,z_cg⟩
  CPoints:=cPoints
  mPoints:=mg_of X G z_ae
  clPoints:=⟨z_ch,z_ci,z_cj,z_ck⟩
  nPoints_name:=z_cl
  mkPoints:=⟨z_cm,z_cn,z_co,z_cp⟩
  mtPoints_ends:=⟨z_cq,z_cr,z_cs⟩
  mtPoints_bears:=⟨z_ct,z_cu,z_cv⟩
  CCross:=cCross
  mCross:=mg_of X G z_af
  clCross:=⟨z_cw,z_cx,z_cy,z_cz⟩
  nCross_name:=z_c0
  mkCross:=⟨z_c1,z_c2,z_c3,z_c4⟩
  mtCross_ends:=⟨z_c5,z_c6,z_c7⟩
  mtCross_bears:=⟨z_c8,z_c9,z_da⟩
  CTracks:=cTracks
  mTracks:=mg_of X G z_ag
  clTracks:=⟨z_db,z_dc,z_dd,z_de⟩
  nTracks_part_of:=z_df
  nTracks_joined:=z_dg
  nTracks_post_of:=z_dh
  nTracks_signal_on:=z_di
  mkTracks:=⟨z_dj,z_dk,z_dl,z_dm⟩
  mtTracks_signals:=⟨z_dn,z_do,z_dp⟩
  CYardError:=cYardError
  mYardError:=mg_of X G z_ah
  CBadName:=cBadName
  mBadName:=mg_of X G z_ai
  CBadEnd:=cBadEnd
  mBadEnd:=mg_of X G z_aj
  CTooMany:=cTooMany
  mTooMany:=mg_of X G z_ak
  CBadWay:=cBadWay
  mBadWay:=mg_of X G z_al
  CHeld:=cHeld
  mHeld:=mg_of X G z_am
  CSeen:=cSeen
  mSeen:=mg_of X G z_an
  CStiff:=cStiff
  mStiff:=mg_of X G z_ao
  CNoTrain:=cNoTrain
  mNoTrain:=mg_of X G z_ap
  CNoTurn:=cNoTurn
  mNoTurn:=mg_of X G z_aq
  COneFault:=cOneFault
  mOneFault:=mg_of X G z_ar
  CBadText:=cBadText
  mBadText:=mg_of X G z_as
  n_len:=PySem.W.mg_none_of X G z_dq
  n_range:=PySem.W.mg_none_of X G z_dr
  n_isinstance:=PySem.W.mg_none_of X G z_ds
  n_list:=PySem.W.mg_none_of X G z_dt
  n_dict:=PySem.W.mg_none_of X G z_du
  n_tuple:=PySem.W.mg_none_of X G z_dv
  n_str:=PySem.W.mg_none_of X G z_dw
  n_enumerate:=PySem.W.mg_none_of X G z_dx
  n_max:=PySem.W.mg_none_of X G z_dy
  n_min:=PySem.W.mg_none_of X G z_dz
  n_sum:=PySem.W.mg_none_of X G z_d0
  n_sorted:=PySem.W.mg_none_of X G z_d1
  n_all:=PySem.W.mg_none_of X G z_d2
  n_ValueError:=PySem.W.mg_none_of X G z_d3
  n_int:=PySem.W.mg_none_of X G z_d4
  kTT:=z_d5
  kSS:=z_d6
  keB0:=z_d7
  keB1:=z_d8
  keB2:=z_d9
  keB3:=z_ea
  keB4:=z_eb
  keB5:=z_ec
  keB6:=z_ed
  keB7:=z_ee
  keB8:=z_ef
  keB9:=z_eg
  keB10:=z_eh
  kdB0:=z_ei
  kdB1:=z_ej
  kdB2:=z_ek
  kdB3:=z_el
  kdB4:=z_em
  kdB5:=z_en
  kdB6:=z_eo
  kdB7:=z_ep
  kdB8:=z_eq
  kdB9:=z_er
  kdB10:=z_es
  kyT0:=z_et
  kyT1:=z_eu
  kyT2:=z_ev
  kyT3:=z_ew
  kyT4:=z_ex
  kyT5:=z_ey
  kyT6:=z_ez
  kyT7:=z_e0
  kyT8:=z_e1
  kyT9:=z_e2
  kyT10:=z_e3
  ceB:=z_e4
  cdB:=z_e5
  cyT:=z_e6
  veB:=z_e7
  vdB:=z_e8
  vyT:=z_e9
  kYB:=z_fa
  x_YardError:=Zex (mg_of X G z_ah) z_fb
  x_BadName:=Zex (mg_of X G z_ai) z_fc
  x_BadEnd:=Zex (mg_of X G z_aj) z_fd
  x_TooMany:=Zex (mg_of X G z_ak) z_fe
  c_LETTERS:=⟨_,mg_of X G z_ff⟩
  c_FIGURES:=⟨_,mg_of X G z_fg⟩
  c_LONGEST_NAME:=⟨_,mg_of X G z_fh⟩
  c_MOST_PARTS:=⟨_,mg_of X G z_fi⟩
  c_MOST_SIGNALS:=⟨_,mg_of X G z_fj⟩
  g_BadName:=⟨⟨z_fk,z_fl,z_fm⟩,z_fn,z_fo,z_fp,z_fq,z_fr⟩
  g_BadEnd:=⟨⟨z_fs,z_ft,z_fu⟩,z_fv,z_fw,z_fx,z_fy,z_fz⟩
  g_TooMany:=⟨⟨z_f0,z_f1,z_f2⟩,z_f3,z_f4,z_f5,z_f6,z_f7⟩
 }
 exact ⟨fnOf "law" "law" (Zz Ze1) (Zv Ze1) (Zg Ze1) .none kV45 dc45 pm45 an45 cd45 ct45,fun s v=>.of_eq rfl,fun base _ _=>Zvu F45 T⟩
theorem walk{l:PySem.W.OpenLaw}{q:Program}{loose:List Str}{XP:(Str→Option Value)→Heap→Prop}{YP:World→Heap→Prop}{d:DefRec}{K:Params→Frag}(hn:l.most=some 63)(hdf:d.params.defaults=[])
  (hY:∀(w:World) (h:Heap),YP w h→(K w.params).In h)
  (F:∀(w:World) (mg:Str→Option Value) (fa:Addr) (h:Heap),(K w.params).In h→h.Ns mainGlobals mg→mg d.name=some (.ref fa) →
   ∃fd:FuncData,(∀(s:Shared) (u:Value),BindsTo s fd ⟨[u],[]⟩ [("_law_script",u)])∧∀base:Heap,(K w.params).In base→base.Ns mainGlobals mg→Yf l.prog w (K w.params) mg base CX0 9 fa fd ["_law_script"] (Zny (K w.params))) :
  PySem.W.WalkO q loose XP YP l.row.toRowW d [] (fun f vs=>PySem.call f vs) :=
 L2.walk_of (n:=63) (k:=9) (x := "_law_script") (CX:=fun _=>CX0) (sp:=fun w=>Zny (K w.params)) hn (by decide) hdf ⟨rfl,by decide,by decide⟩ hY F (fun _ _ a ns hl _ hS=>⟨a,ns,rfl,hS,hl,fun _=>rfl⟩) fun _ _ _ _ _ z=>z
end K14
namespace PySem.W.Fast
def tw2213236259257602681:=()
def tw5465159052715391045:=()
def tw12007976169638898905:=()
def tw8381154138929468492:=()
def tw6022300656379120948:=()
def tw1466305307280842708:=()
def tw1861161074711013036:=()
def tw2729927981349383771:=()
def tw6315510406928375299:=()
def tw7020426617537127958:=()
def tw12070846212374167025:=()
def tw4100606218629995407:=()
def tw5857645562191138941:=()
def tw16788562153027959388:=()
def tw17275792086539287645:=()
def tw9792963315133800604:=()
def tw11602011526874254825:=()
def tw8378648539910608835:=()
def tw9211126066953305179:=()
def tw2302870470132892395:=()
def tw12201959413585540356:=()
def tw901496430538331610:=()
def tw6070501111695223581:=()
def tw7465654747143727436:=()
def tw15469721736256942929:=()
def tw579535576720026006:=()
def tw10680903299148318436:=()
def tw2772216674449556365:=()
def tw6503286590365637145:=()
def tw5880045629105361398:=()
def tw8388128352716264716:=()
def tw13976525365098806008:=()
def tw14730496900084720196:=()
def tw14264665005550064488:=()
def tw10368488118663272937:=()
def tw6750739589217066560:=()
def tw17819169179634593645:=()
def tw16457220061531279382:=()
def tw1060185620612215492:=()
def tw13398048977266348210:=()
def tw11572472779322080950:=()
def tw931334435035939103:=()
def tw11160989730974599749:=()
def tw910254130836704622:=()
def tw4448635284588009856:=()
def tw4876941168330392181:=()
def tw8574379031612957101:=()
def tw18055306550108353032:=()
def tw7868902501250768256:=()
def tw15978141280592394594:=()
def tw12375476401806331479:=()
def tw3280178283295123033:=()
def tw4642091808757521828:=()
def tw17768368360709938798:=()
def tw4698585108835379905:=()
def tw13996015757409240194:=()
def tw3009818796349674315:=()
def tw10608157112692496107:=()
def tw1554756805461815965:=()
def tw17300848609958295936:=()
def tw11632714278825122350:=()
def tw12518052330662137318:=()
def tw9778759314202588993:=()
def tw4358021717039248498:=()
def tw9125718656188286239:=()
def tw7612006669911676981:=()
def tw13229891816451083540:=()
def tw6640454630255168303:=()
def tw5990850580192738294:=()
def tw4620673068335966919:=()
def tw997332886272146207:=()
def tw8393090104264642484:=()
def tw13979338473122021398:=()
def tw15358976861867804442:=()
def tw7610649231054133902:=()
def tw1702949800937942912:=()
def tw3884924193848939174:=()
def tw11094296761855747876:=()
def tw7489346613515593055:=()
def tw2342461077602709314:=()
def tw4555678517448536744:=()
def tw3946099011449060869:=()
def tw10971761231308266520:=()
def tw2345274421501061649:=()
def tw3480307581423680058:=()
def tw15935501339992132416:=()
def tw6321059190062751286:=()
def tw8744775717336333543:=()
def tw507086127712419485:=()
def tw4376965434626382359:=()
def tw7919022178788018761:=()
def tw5209420438190022484:=()
def tw6009153802781038188:=()
def tw1084092222428803607:=()
def tw13273843213656746192:=()
def tw4191562298684084922:=()
def tw18151189568156961099:=()
def tw563604004121746871:=()
def tw13564682860306246403:=()
def tw7020544909562174790:=()
def tw682504037195310205:=()
def tw559114636277536900:=()
def tw10352767951670356733:=()
def tw5188053690071971589:=()
def tw16383681055800459329:=()
def tw8859154951834353550:=()
def tw11099796710361425823:=()
def tw12321052128022907802:=()
def tw10676522346007742178:=()
def tw10800212816836064457:=()
def tw3975257990096412589:=()
def tw10502255757790776266:=()
def tw12988340439639667184:=()
def tw11872466692434178316:=()
def tw7577342651721008235:=()
def tw5668219309135378070:=()
def tw17839039360726139132:=()
def tw16438588520612920110:=()
def tw17331887335135550750:=()
def tw1491007728021002428:=()
def tw5303284813388995134:=()
def tw16817578584151010242:=()
def tw12234239172791983066:=()
def tw14942778851069511137:=()
def tw8826330615559795639:=()
def tw6156752423383537897:=()
def tw17671834719427207036:=()
def tw9148596512098615590:=()
def tw14230203252713376565:=()
def tw8697213595343881920:=()
def tw3294177907171240916:=()
def tw15652079882828231492:=()
def tw17950797327069055174:=()
def tw4319022072771061183:=()
def tw3639445955739426556:=()
def tw16399113139832936793:=()
def tw2854255161023660431:=()
def tw17030479211598609508:=()
def tw5740690696069620989:=()
def tw18041335498352273290:=()
def tw17644468198878671808:=()
def tw3336740732540613554:=()
def tw8345473286926878108:=()
def tw1954388248236394367:=()
def tw6355278011690246756:=()
def tw15703877377876488885:=()
def tw16765054936270457863:=()
def tw10539124244076040087:=()
def tw3067791093351372521:=()
def tw16682712927017370249:=()
def tw12126389146960058025:=()
def tw14975621134930841776:=()
def tw17451565626305410810:=()
def tw2714166479471311558:=()
def tw16350963913366534368:=()
def tw4969108920964761472:=()
def tw15215968604263019558:=()
def tw541457751905801216:=()
def tw4589313349205586542:=()
def tw2635127905578439808:=()
def tw13087336911083758842:=()
def tw13245426297065603988:=()
def tw248445025133610369:=()
def tw10560967650994231529:=()
def tw5327251159795207602:=()
def tw2639180300476804215:=()
def tw3793619292182267208:=()
def tw13364750309002152209:=()
def tw5358331692772071937:=()
def tw9408376322431020092:=()
def tw2961435909890593976:=()
def tw6275084764191354581:=()
def tw4687525922550749666:=()
def tw6665354182324056664:=()
def tw16517493534008278225:=()
def tw630658152966056982:=()
def tw11243625068945734336:=()
def tw16263660825687260902:=()
def tw7288182455234462524:=()
def tw3912984989626373558:=()
def tw5820597974368607720:=()
def tw3070001415436730867:=()
def tw3582742692868142857:=()
def tw14273651817244086441:=()
def tw5257289072913270842:=()
def tw14598097515543370178:=()
def tw12016948383921335049:=()
def tw6200716976964324847:=()
def tw10286702730597412275:=()
def tw8082809655067881784:=()
def tw8009750181933711981:=()
def tw10421768086096577274:=()
def tw8476946286609868706:=()
def tw18198576707280475894:=()
def tw8880960049610615383:=()
def tw2166081322950343314:=()
def tw5361909206867021652:=()
def tw3578734245433869544:=()
def tw12019830595245474055:=()
def tw15902671358450188292:=()
def tw5084214256440376001:=()
def tw7331465942157402192:=()
def tw2719322065509466230:=()
def tw11512778863090675738:=()
def tw9285776915212268335:=()
def tw11842978368476902306:=()
def tw327793175423477315:=()
def tw14666808193853317179:=()
def tw736523046779135881:=()
def tw18154548433258794029:=()
def tw17800450997546100744:=()
def tw15532993789390917713:=()
def tw14501783413895941694:=()
def tw6591132431719639853:=()
def tw7251305764287711022:=()
def tw9692487325103642730:=()
def tw6542268977443260505:=()
def tw7834121615062280886:=()
def tw8792503119316620361:=()
def tw6818779517022341658:=()
def tw4314017571577880589:=()
def tw7674253945530866669:=()
def tw5156066970282396820:=()
def tw7082914466889696260:=()
def tw10609665609428119908:=()
def tw10592473070708254862:=()
def tw9117384715500612027:=()
def tw5659543270157016301:=()
def tw17002849904237053652:=()
def tw17089717509583480057:=()
def tw4899803026150799371:=()
def tw13736176747035401248:=()
def tw6292242231119326841:=()
def tw2319814293064763339:=()
def tw15720443782213253358:=()
def tw3918582089431860171:=()
def tw9296122662800279338:=()
def tw11658966459434131554:=()
def tw13295505476232869603:=()
def tw10453292474638059947:=()
def tw17149115303706940847:=()
def tw9285889918128305823:=()
def tw8326723336797140209:=()
def tw1978843758070588651:=()
def tw6336058916154603189:=()
def tw11913461768685662304:=()
def tw9572489264566106790:=()
def tw600195108462483209:=()
def tw16913700481055340765:=()
def tw13229879040644441932:=()
def tw2194883172180101569:=()
def tw7034339519450338656:=()
def tw13143204559915439385:=()
def tw18377709735861390218:=()
def tw1410840834526270758:=()
def tw3442385702421209032:=()
def tw7675551370149222203:=()
def tw1729833116938643749:=()
def tw17965046254585362765:=()
def tw17739211580205353305:=()
def tw11634653426687536175:=()
def tw11038910263573462459:=()
def tw18327344597553724513:=()
def tw12137662914071139464:=()
def tw18189700738982128444:=()
def tw18265286182599270379:=()
def tw16935679685732879428:=()
def tw7461035331549554704:=()
def tw15065582412839885139:=()
def tw837306149811578780:=()
def tw17518729229151870676:=()
def tw18402284515338587081:=()
def tw16557238384746946540:=()
def tw15850255470766000337:=()
def tw2811106190370591968:=()
def tw3305671149571731733:=()
def tw17710761461691803386:=()
def tw10438584838407093615:=()
def tw6356854562958388287:=()
def tw1986879933396624050:=()
def tw10215127760391366286:=()
def tw9445586164843503858:=()
def tw1976311899357472047:=()
def tw16002879778125207562:=()
def tw10434276683344335032:=()
def tw11332735039749305361:=()
def tw17977739252388705804:=()
def tw12817269618584775919:=()
def tw10092956468872891544:=()
def tw4693502554368793032:=()
def tw5595676665772067061:=()
def tw15318737042037140991:=()
def tw12654939519615426253:=()
def tw2376343910781598025:=()
def tw16906124433127153123:=()
def tw14530058166539194002:=()
def tw3468759278561413390:=()
def tw8251908558443241651:=()
def tw9030967335431925033:=()
def tw1647735783221023797:=()
def tw13734253168520288551:=()
def tw12139493469543938766:=()
def tw10946932040772107570:=()
def tw2516272063408963283:=()
def tw5608751462726831548:=()
def tw2067339716092875528:=()
def tw541005737059794818:=()
def tw18082007632268741948:=()
def tw5610758095318496045:=()
def tw7141552752999846539:=()
def tw5603538108714167007:=()
def tw8197810906006480739:=()
def tw3814705339891653719:=()
def tw4102812091879296806:=()
def tw6050389259518457656:=()
def tw17660296559960014644:=()
def tw7344428809251731198:=()
def tw4276716304934598271:=()
def tw4764557147453193523:=()
def tw4033162398822954196:=()
def tw1443766590110745304:=()
def tw16078363357817614197:=()
def tw605641006570501745:=()
def tw4826602654793842833:=()
def tw3642427374040456341:=()
def tw7685593720958689610:=()
def tw7198308952204494262:=()
def tw17311280295670652775:=()
end PySem.W.Fast
open PySem PySem.W PyProof.Rows
set_option maxRecDepth 100000 in
set_option maxHeartbeats 0 in
theorem PySem.Challenge.cw_yardkeep_k14_tracks_refused_holds : PySem.Challenge.rw_yardkeep_k14_tracks_refused.Holds := by
  w_on; o_law; k_head; (case hw=>w_witness2)
  k_fill
  refine K14.walk (l:=PySem.Challenge.rw_yardkeep_k14_tracks_refused) rfl rfl (fun w h Y=>PySem.W.kIn_of Y) ?F
  case F =>
    intro w mg fa h KX G hmg
    refine' K14.all_mk KX G hmg ?q0a ?q0b ?q0c ?q0d ?q0e ?q0f ?q0g ?q0h ?q0i ?q0j ?q0k ?q0l ?q0m ?q0n ?q0o ?q0p ?q0q ?q0r ?q0s ?q0t ?q0u ?q0v ?q0w ?q0x ?q0y ?q0z ?q00 ?q01 ?q02 ?q03 ?q04 ?q05 ?q06 ?q07 ?q08 ?q09 ?q1a ?q1b ?q1c ?q1d ?q1e ?q1f ?q1g ?q1h ?q1i ?q1j ?q1k ?q1l ?q1m ?q1n ?q1o ?q1p ?q1q ?q1r ?q1s ?q1t ?q1u ?q1v ?q1w ?q1x ?q1y ?q1z ?q10 ?q11 ?q12 ?q13 ?q14 ?q15 ?q16 ?q17 ?q18 ?q19 ?q2a ?q2b ?q2c ?q2d ?q2e ?q2f ?q2g ?q2h ?q2i ?q2j ?q2k ?q2l ?q2m ?q2n ?q2o ?q2p ?q2q ?q2r ?q2s ?q2t ?q2u ?q2v ?q2w ?q2x ?q2y ?q2z ?q20 ?q21 ?q22 ?q23 ?q24 ?q25 ?q26 ?q27 ?q28 ?q29 ?q3a ?q3b ?q3c ?q3d ?q3e ?q3f ?q3g ?q3h ?q3i ?q3j ?q3k ?q3l ?q3m ?q3n ?q3o ?q3p ?q3q ?q3r ?q3s ?q3t ?q3u ?q3v ?q3w ?q3x ?q3y ?q3z ?q30 ?q31 ?q32 ?q33 ?q34 ?q35 ?q36 ?q37 ?q38 ?q39 ?q4a ?q4b ?q4c ?q4d ?q4e ?q4f ?q4g ?q4h ?q4i ?q4j ?q4k ?q4l ?q4m ?q4n ?q4o ?q4p ?q4q ?q4r ?q4s ?q4t ?q4u ?q4v ?q4w ?q4x ?q4y ?q4z ?q40 ?q41 ?q42 ?q43 ?q44 ?q45 ?q46 ?q47 ?q48 ?q49 ?q5a ?q5b ?q5c ?q5d ?q5e ?q5f ?q5g ?q5h ?q5i ?q5j ?q5k ?q5l ?q5m ?q5n ?q5o ?q5p ?q5q ?q5r ?q5s ?q5t ?q5u ?q5v ?q5w ?q5x ?q5y ?q5z ?q50 ?q51 ?q52 ?q53 ?q54 ?q55 ?q56 ?q57 ?q58 ?q59 ?q6a ?q6b ?q6c ?q6d ?q6e ?q6f ?q6g ?q6h ?q6i ?q6j ?q6k ?q6l ?q6m ?q6n ?q6o ?q6p ?q6q ?q6r ?q6s ?q6t ?q6u ?q6v ?q6w ?q6x ?q6y ?q6z ?q60 ?q61 ?q62 ?q63 ?q64 ?q65 ?q66 ?q67 ?q68 ?q69 ?q7a ?q7b ?q7c ?q7d ?q7e ?q7f ?q7g ?q7h ?q7i ?q7j ?q7k ?q7l ?q7m ?q7n ?q7o ?q7p ?q7q ?q7r ?q7s ?q7t ?q7u ?q7v ?q7w ?q7x ?q7y ?q7z ?q70 ?q71 ?q72 ?q73 ?q74 ?q75 ?q76 ?q77 ?q78 ?q79 ?q8a ?q8b ?q8c ?q8d ?q8e ?q8f ?q8g ?q8h ?q8i ?q8j ?q8k ?q8l ?q8m ?q8n ?q8o ?q8p ?q8q ?q8r ?q8s ?q8t ?q8u ?q8v ?q8w ?q8x ?q8y ?q8z ?q80 ?q81 ?q82 ?q83 ?q84 ?q85 ?q86 ?q87 ?q88 ?q89 ?q9a ?q9b ?q9c ?q9d ?q9e ?q9f ?q9g ?q9h ?q9i ?q9j ?q9k ?q9l ?q9m ?q9n ?q9o ?q9p ?q9q ?q9r ?q9s ?q9t ?q9u ?q9v ?q9w ?q9x ?q9y ?q9z ?q90 ?q91 ?q92 ?q93 ?q94 ?q95 ?q96 ?q97 ?q98 ?q99 ?qja ?qjb ?qjc ?qjd ?qje ?qjf ?qjg ?qjh ?qji ?qjj ?qjk ?qjl ?qjm ?qjn ?qjo ?qjp ?qjq ?qjr ?qjs ?qjt ?qju ?qjv ?qjw ?qjx ?qjy ?qjz ?qj0 ?qj1 ?qj2 ?qj3 ?qj4 ?qj5 ?qj6 ?qj7 ?qj8 ?qj9 ?qka ?qkb ?qkc
    case q0a|q0b|q0c|q0d|q0e|q0f|q0g|q0h|q0i|q0j|q0k|q0l|q0m|q0n|q0o|q0p|q0q|q0r|q0s|q0t|q0u|q0v|q0w|q0x|q0y|q0z|q00|q01|q02|q03|q04|q05|q06|q07|q08|q09|q1a|q1b|q1c|q1d|q1e|q1f|q1g|q1h|q1i|q1j|q1k|q1l|q1m|q1n|q1o|q1p|q1q|q1r|q1s|q1t|q1u|q1v|q1w|q1x|q1y|q1z|q10|q11|q12|q13|q14|q15|q16|q17|q18|q19|q2a|q2b|q2c|q2d|q2e|q2f|q2g|q2h|q2i|q2j|q2k|q2l|q2m|q2n|q2o|q2p|q2q|q2r|q2s|q2t|q2u|q2v|q2w|q2x|q2y|q2z|q20|q21|q22|q23|q24|q25|q26|q27|q28|q29|q3a|q3b|q3c|q3d|q3e|q3f|q3g|q3h|q3i|q3j|q3k|q3l|q3m|q3n|q3o|q3p|q3q|q3r|q3s|q3t|q3u|q3v|q3w|q3x|q3y|q3z|q30|q31|q32|q33|q34|q35|q36|q37|q38|q39|q4a|q4b|q4c|q4d|q4e|q4f|q4g|q4h|q4i|q4j|q4k|q4l|q4m|q4n|q4o|q4p|q4q|q4r|q4s|q4t|q4u|q4v|q4w|q4x|q4y|q4z|q40|q41|q42|q43|q44|q45|q46|q47|q48|q49|q5a|q5b|q5c|q5d|q5e|q5f|q5g|q5h|q5i|q5j|q5k|q5l|q5m|q5n|q5o|q5p|q5q|q5r|q5s|q5t|q5u|q5v|q5w|q5x|q5y|q5z|q50|q51|q52|q53|q54|q55|q56|q57|q58|q59|q6a|q6b|q6c|q6d|q6e|q6f|q6g|q6h|q6i|q6j|q6k|q6l|q6m|q6n|q6o|q6p|q6q|q6r|q6s|q6t|q6u|q6v|q6w|q6x|q6y|q6z|q60|q61|q62|q63|q64|q65|q66|q67|q68|q69|q7a|q7b|q7c|q7d|q7e|q7f|q7g|q7h|q7i|q7j|q7k|q7l|q7m|q7n|q7o|q7p|q7q|q7r|q7s|q7t|q7u|q7v|q7w|q7x|q7y|q7z|q70|q71|q72|q73|q74|q75|q76|q77|q78|q79|q8a|q8b|q8c|q8d|q8e|q8f|q8g|q8h|q8i|q8j|q8k|q8l|q8m|q8n|q8o|q8p|q8q|q8r|q8s|q8t|q8u|q8v|q8w|q8x|q8y|q8z|q80|q81|q82|q83|q84|q85|q86|q87|q88|q89=>k_is
    case q9a|q9b|q9c|q9d|q9e|q9f|q9g|q9h|q9i|q9j|q9k|q9l|q9m|q9n|q9o|q9p|q9q|q9r|q9s|q9t|q9u|q9v|q9w|q9x|q9y|q9z|q90|q91|q92|q93|q94|q95|q96|q97|q98=>kit_is
    case q99|qja|qjb=>kernel_rfl
    case qjc|qjd|qje|qjf=>kit_is
    case qjg|qjh|qji|qjj=>k_exc
    case qjk|qjl|qjm|qjn|qjo|qjp|qjq|qjr|qjs|qjt|qju|qjv|qjw|qjx|qjy|qjz|qj0|qj1|qj2|qj3|qj4|qj5|qj6|qj7|qj8|qj9|qka|qkb|qkc=>k_is
